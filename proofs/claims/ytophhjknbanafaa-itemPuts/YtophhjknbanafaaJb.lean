/- item: bytesOf, Put. -/
import Derived.Test.YtophhjknbanafaaJa
namespace Go.Proofs.Ytophhjknbanafaa
open Go.RowKit

/-- An item's bytes. -/
def headF (i : Itm) : List UInt8 := digitsF i.key.toNat ++ ((digitsF i.ver.id.size ++ i.ver.id.data.toList) ++ (digitsF i.ver.seq.toNat ++ digitsF i.ver.stamp.toNat))
def tailF (i : Itm) : List UInt8 := if i.dead then digitsF 0 else if i.held then digitsF 2 ++ (digitsF (i.x + 1000).toNat ++ (digitsF (i.y + 1000).toNat ++ (digitsF i.text.size ++ i.text.data.toList))) else digitsF 1 ++ (digitsF (i.x + 1000).toNat ++ digitsF (i.y + 1000).toNat)
def bytesF (i : Itm) : List UInt8 := headF i ++ tailF i

/-- A row of the call's own, kept as bytes somewhere. -/
structure Has (w0 w : World) (A : Option Addr) (g : Nat) (bs : List UInt8) (c : Nat) : Prop where
  z : BytesAt w g A bs.length bs
  b : Below w0.heap.size w0 w

set_option maxRecDepth 100000 in
set_option maxHeartbeats 4000000 in
theorem bytesOf_any (i : Itm) (hk : i.key ≤ 1000) (hv : i.ver.id.size ≤ 1000) (hsq : i.ver.seq ≤ 9223372036854775807) (hst : i.ver.stamp ≤ 9223372036854775807) (hx : i.x.natAbs < 2 ^ 53) (hy : i.y.natAbs < 2 ^ 53) (ht : i.text.size ≤ 1000) (w : World) :
    Calls Try.prog 39 #[itmV i] w (OwnBytes (bytesF i) w) := by
  have HK := Lib.hid (kindOf_any i)
  obtain ⟨key, ⟨d, a, s⟩, dead, x, y, text, held⟩ := i
  have HF := Lib.hid (show bytesF ⟨key, ⟨d, a, s⟩, dead, x, y, text, held⟩ = headF ⟨key, ⟨d, a, s⟩, dead, x, y, text, held⟩ ++ tailF ⟨key, ⟨d, a, s⟩, dead, x, y, text, held⟩ from rfl)
  have S1 := Lib.hid (shifted_any x hx)
  have S2 := Lib.hid (shifted_any y hy)
  have hxb : x ≤ 9007199254740992 ∧ y ≤ 9007199254740992 := by
    have : (2 : Nat) ^ 53 = 9007199254740992 := by decide
    simp only at hx hy
    omega
  unfold itmV at *
  unfold headF tailF at HF
  simp only at HK HF hk hv hsq hst hx hy ht ⊢
  generalize bytesF ⟨key, ⟨d, a, s⟩, dead, x, y, text, held⟩ = F at HF ⊢
  generalize fl x = fx at *
  generalize fl y = fy at *
  clear hx hy
  have d1 := digits_le key (by omega)
  have d2 := digits_le d.size (by omega)
  have d3 := digits_le a hsq
  have d4 := digits_le s hst
  rw [Int.toNat_natCast] at d2
  go_enter Try.func39, Try.ntmps39
  go_wp2_with fail
  refine (HK.out _).mono ?_
  rintro e w1 ⟨rfl, hb⟩
  have q0 : w1.cell? ⟨w.heap.size, 0, none⟩ = some (.int .i64 key) := (hb.cell (by simp)).trans (by simp [go_sem])
  have q1 : w1.cell? ⟨w.heap.size, 1, none⟩ = some (.string d) := (hb.cell (by simp)).trans (by simp [go_sem])
  have q2 : w1.cell? ⟨w.heap.size, 2, none⟩ = some (.int .i64 a) := (hb.cell (by simp)).trans (by simp [go_sem])
  have q3 : w1.cell? ⟨w.heap.size, 3, none⟩ = some (.int .i64 s) := (hb.cell (by simp)).trans (by simp [go_sem])
  have q5 : w1.cell? ⟨w.heap.size, 5, none⟩ = some (.complex .f64 fx fy) := (hb.cell (by simp)).trans (by simp [go_sem])
  have q6 : w1.cell? ⟨w.heap.size, 6, none⟩ = some (.string text) := (hb.cell (by simp)).trans (by simp [go_sem])
  have HB : Hid (Below w.heap.size w w1) := ((Below.refl _ _).alloc (Nat.le_refl _) _).trans (hb.mono (by simp))
  have hsz : w.heap.size < w1.heap.size := by have := hb.size; simp at this; omega
  clear hb HK
  go_wp2_with fail
  refine (put_any none 0 0 [] key _ (BytesAt.nil _ _ _) (by simp) (by omega)).mono ?_
  rw [List.nil_append]
  generalize hL1 : digitsF key.toNat = L1 at *
  have HL1 := Lib.hid hL1
  have hl1 : L1.length ≤ 9 := by
    have e1 : d.data.size = d.size := rfl
    have e2 : text.data.size = text.size := rfl
    first | omega | (rw [← hL1]; simp only [List.length_append, Array.length_toList]; omega)
  clear hL1
  rintro e v1 ⟨A1, c1, rfl, hown, hb⟩
  have HO1 := Lib.hid hown
  obtain ⟨g1, hz, _, _, _⟩ := own_bytes hown
  have HZ1 := Lib.hid hz
  replace q0 := (hb.cell (p := ⟨w.heap.size, 0, none⟩) hsz).trans q0
  replace q1 := (hb.cell (p := ⟨w.heap.size, 1, none⟩) hsz).trans q1
  replace q2 := (hb.cell (p := ⟨w.heap.size, 2, none⟩) hsz).trans q2
  replace q3 := (hb.cell (p := ⟨w.heap.size, 3, none⟩) hsz).trans q3
  replace q5 := (hb.cell (p := ⟨w.heap.size, 5, none⟩) hsz).trans q5
  replace q6 := (hb.cell (p := ⟨w.heap.size, 6, none⟩) hsz).trans q6
  replace hsz := Nat.lt_of_lt_of_le hsz hb.size
  have HOb1 : Hid (Below w.heap.size w v1) := HB.out.trans (hb.mono HB.out.size)
  have hbs1 := HB.out.size
  replace HB := HOb1
  clear hown hz hb
  go_wp2_with fail
  refine (putText_any A1 c1 g1 L1 d _ HZ1.out (by omega) (by omega)).mono ?_
  generalize hL2 : L1 ++ (digitsF d.size ++ d.data.toList) = L2 at *
  have HL2 := Lib.hid hL2
  have hl2 : L2.length ≤ 1100 := by
    have e1 : d.data.size = d.size := rfl
    have e2 : text.data.size = text.size := rfl
    first | omega | (rw [← hL2]; simp only [List.length_append, Array.length_toList]; omega)
  clear hL2
  rintro e v2 ⟨A2, c2, rfl, hown, hb⟩
  have HO2 := Lib.hid hown
  obtain ⟨g2, hz, _, _, _⟩ := own_bytes hown
  have HZ2 := Lib.hid hz
  replace q1 := (hb.cell (p := ⟨w.heap.size, 1, none⟩) hsz).trans q1
  replace q2 := (hb.cell (p := ⟨w.heap.size, 2, none⟩) hsz).trans q2
  replace q3 := (hb.cell (p := ⟨w.heap.size, 3, none⟩) hsz).trans q3
  replace q5 := (hb.cell (p := ⟨w.heap.size, 5, none⟩) hsz).trans q5
  replace q6 := (hb.cell (p := ⟨w.heap.size, 6, none⟩) hsz).trans q6
  replace hsz := Nat.lt_of_lt_of_le hsz hb.size
  have HOb2 : Hid (Below w.heap.size w v2) := HB.out.trans (hb.mono HB.out.size)
  have hbs2 := HB.out.size
  replace HB := HOb2
  clear hown hz hb
  go_wp2_with fail
  refine (put_any A2 c2 g2 L2 a _ HZ2.out (by omega) hsq).mono ?_
  generalize hL3 : L2 ++ digitsF a.toNat = L3 at *
  have HL3 := Lib.hid hL3
  have hl3 : L3.length ≤ 1200 := by
    have e1 : d.data.size = d.size := rfl
    have e2 : text.data.size = text.size := rfl
    first | omega | (rw [← hL3]; simp only [List.length_append]; omega)
  clear hL3
  rintro e v3 ⟨A3, c3, rfl, hown, hb⟩
  have HO3 := Lib.hid hown
  obtain ⟨g3, hz, _, _, _⟩ := own_bytes hown
  have HZ3 := Lib.hid hz
  replace q2 := (hb.cell (p := ⟨w.heap.size, 2, none⟩) hsz).trans q2
  replace q3 := (hb.cell (p := ⟨w.heap.size, 3, none⟩) hsz).trans q3
  replace q5 := (hb.cell (p := ⟨w.heap.size, 5, none⟩) hsz).trans q5
  replace q6 := (hb.cell (p := ⟨w.heap.size, 6, none⟩) hsz).trans q6
  replace hsz := Nat.lt_of_lt_of_le hsz hb.size
  have HOb3 : Hid (Below w.heap.size w v3) := HB.out.trans (hb.mono HB.out.size)
  have hbs3 := HB.out.size
  replace HB := HOb3
  clear hown hz hb
  go_wp2_with fail
  refine (put_any A3 c3 g3 L3 s _ HZ3.out (by omega) hst).mono ?_
  generalize hL4 : L3 ++ digitsF s.toNat = L4 at *
  have HL4 := Lib.hid hL4
  have hl4 : L4.length ≤ 1300 := by
    have e1 : d.data.size = d.size := rfl
    have e2 : text.data.size = text.size := rfl
    first | omega | (rw [← hL4]; simp only [List.length_append]; omega)
  clear hL4
  rintro e v4 ⟨A4, c4, rfl, hown, hb⟩
  have HO4 := Lib.hid hown
  obtain ⟨g4, hz, _, _, _⟩ := own_bytes hown
  have HZ4 := Lib.hid hz
  replace q3 := (hb.cell (p := ⟨w.heap.size, 3, none⟩) hsz).trans q3
  replace q5 := (hb.cell (p := ⟨w.heap.size, 5, none⟩) hsz).trans q5
  replace q6 := (hb.cell (p := ⟨w.heap.size, 6, none⟩) hsz).trans q6
  replace hsz := Nat.lt_of_lt_of_le hsz hb.size
  have HOb4 : Hid (Below w.heap.size w v4) := HB.out.trans (hb.mono HB.out.size)
  have hbs4 := HB.out.size
  replace HB := HOb4
  clear hown hz hb
  have dk := digitsF_len 0
  cases dead
  · cases held
    · have hk0 : kindF ⟨key, ⟨d, a, s⟩, false, x, y, text, false⟩ = 1 := rfl
      rw [hk0]
      have dk1 : (digitsF (Int.toNat 1)).length = 1 := by rw [show Int.toNat 1 = 1 from rfl, digitsF_small (by decide)]; rfl
      go_wp2_with fail
      refine (put_any A4 c4 g4 L4 1 _ HZ4.out (by omega) (by omega)).mono ?_
      generalize hL5 : L4 ++ digitsF (Int.toNat 1) = L5 at *
      have HL5 := Lib.hid hL5
      have hl5 : L5.length ≤ 1400 := by
        have e1 : d.data.size = d.size := rfl
        have e2 : text.data.size = text.size := rfl
        first | omega | (rw [← hL5]; simp only [List.length_append]; omega)
      clear hL5
      rintro e v5 ⟨A5, c5, rfl, hown, hb⟩
      have HO5 := Lib.hid hown
      obtain ⟨g5, hz, _, _, _⟩ := own_bytes hown
      have HZ5 := Lib.hid hz
      replace q5 := (hb.cell (p := ⟨w.heap.size, 5, none⟩) hsz).trans q5
      replace q6 := (hb.cell (p := ⟨w.heap.size, 6, none⟩) hsz).trans q6
      replace hsz := Nat.lt_of_lt_of_le hsz hb.size
      have HOb5 : Hid (Below w.heap.size w v5) := HB.out.trans (hb.mono HB.out.size)
      have hbs5 := HB.out.size
      replace HB := HOb5
      clear hown hz hb
      have d5 := digits_le (x + 1000) (by omega)
      have d6 := digits_le (y + 1000) (by omega)
      go_wp2_with fail
      refine (S1.out _).mono ?_
      rintro e u ⟨rfl, rfl⟩
      go_wp2_with fail
      refine (put_any A5 c5 g5 L5 (x + 1000) _ HZ5.out (by omega) (by omega)).mono ?_
      generalize hL6 : L5 ++ digitsF (x + 1000).toNat = L6 at *
      have HL6 := Lib.hid hL6
      have hl6 : L6.length ≤ 1500 := by
        have e1 : d.data.size = d.size := rfl
        have e2 : text.data.size = text.size := rfl
        first | omega | (rw [← hL6]; simp only [List.length_append]; omega)
      clear hL6
      rintro e v6 ⟨A6, c6, rfl, hown, hb⟩
      have HO6 := Lib.hid hown
      obtain ⟨g6, hz, _, _, _⟩ := own_bytes hown
      have HZ6 := Lib.hid hz
      replace q5 := (hb.cell (p := ⟨w.heap.size, 5, none⟩) hsz).trans q5
      replace q6 := (hb.cell (p := ⟨w.heap.size, 6, none⟩) hsz).trans q6
      replace hsz := Nat.lt_of_lt_of_le hsz hb.size
      have HOb6 : Hid (Below w.heap.size w v6) := HB.out.trans (hb.mono HB.out.size)
      have hbs6 := HB.out.size
      replace HB := HOb6
      clear hown hz hb
      go_wp2_with fail
      refine (S2.out _).mono ?_
      rintro e u ⟨rfl, rfl⟩
      go_wp2_with fail
      refine (put_any A6 c6 g6 L6 (y + 1000) _ HZ6.out (by omega) (by omega)).mono ?_
      generalize hL7 : L6 ++ digitsF (y + 1000).toNat = L7 at *
      have HL7 := Lib.hid hL7
      have hl7 : L7.length ≤ 1600 := by
        have e1 : d.data.size = d.size := rfl
        have e2 : text.data.size = text.size := rfl
        first | omega | (rw [← hL7]; simp only [List.length_append]; omega)
      clear hL7
      rintro e v7 ⟨A7, c7, rfl, hown, hb⟩
      have HO7 := Lib.hid hown
      obtain ⟨g7, hz, _, _, _⟩ := own_bytes hown
      have HZ7 := Lib.hid hz
      replace q6 := (hb.cell (p := ⟨w.heap.size, 6, none⟩) hsz).trans q6
      replace hsz := Nat.lt_of_lt_of_le hsz hb.size
      have HOb7 : Hid (Below w.heap.size w v7) := HB.out.trans (hb.mono HB.out.size)
      have hbs7 := HB.out.size
      replace HB := HOb7
      clear hown hz hb
      go_wp2
      go_ret
      have e : F = L7 := by rw [HF.out, ← HL7.out, ← HL6.out, ← HL5.out, ← HL4.out, ← HL3.out, ← HL2.out, ← HL1.out]; simp
      rw [e]
      exact ⟨A7, c7, rfl, own_base HO7.out hbs7, HB.out⟩
    · have hk0 : kindF ⟨key, ⟨d, a, s⟩, false, x, y, text, true⟩ = 2 := rfl
      rw [hk0]
      have dk2 : (digitsF (Int.toNat 2)).length = 1 := by rw [show Int.toNat 2 = 2 from rfl, digitsF_small (by decide)]; rfl
      go_wp2_with fail
      refine (put_any A4 c4 g4 L4 2 _ HZ4.out (by omega) (by omega)).mono ?_
      generalize hL5 : L4 ++ digitsF (Int.toNat 2) = L5 at *
      have HL5 := Lib.hid hL5
      have hl5 : L5.length ≤ 1400 := by
        have e1 : d.data.size = d.size := rfl
        have e2 : text.data.size = text.size := rfl
        first | omega | (rw [← hL5]; simp only [List.length_append]; omega)
      clear hL5
      rintro e v5 ⟨A5, c5, rfl, hown, hb⟩
      have HO5 := Lib.hid hown
      obtain ⟨g5, hz, _, _, _⟩ := own_bytes hown
      have HZ5 := Lib.hid hz
      replace q5 := (hb.cell (p := ⟨w.heap.size, 5, none⟩) hsz).trans q5
      replace q6 := (hb.cell (p := ⟨w.heap.size, 6, none⟩) hsz).trans q6
      replace hsz := Nat.lt_of_lt_of_le hsz hb.size
      have HOb5 : Hid (Below w.heap.size w v5) := HB.out.trans (hb.mono HB.out.size)
      have hbs5 := HB.out.size
      replace HB := HOb5
      clear hown hz hb
      have d5 := digits_le (x + 1000) (by omega)
      have d6 := digits_le (y + 1000) (by omega)
      go_wp2_with fail
      refine (S1.out _).mono ?_
      rintro e u ⟨rfl, rfl⟩
      go_wp2_with fail
      refine (put_any A5 c5 g5 L5 (x + 1000) _ HZ5.out (by omega) (by omega)).mono ?_
      generalize hL6 : L5 ++ digitsF (x + 1000).toNat = L6 at *
      have HL6 := Lib.hid hL6
      have hl6 : L6.length ≤ 1500 := by
        have e1 : d.data.size = d.size := rfl
        have e2 : text.data.size = text.size := rfl
        first | omega | (rw [← hL6]; simp only [List.length_append]; omega)
      clear hL6
      rintro e v6 ⟨A6, c6, rfl, hown, hb⟩
      have HO6 := Lib.hid hown
      obtain ⟨g6, hz, _, _, _⟩ := own_bytes hown
      have HZ6 := Lib.hid hz
      replace q5 := (hb.cell (p := ⟨w.heap.size, 5, none⟩) hsz).trans q5
      replace q6 := (hb.cell (p := ⟨w.heap.size, 6, none⟩) hsz).trans q6
      replace hsz := Nat.lt_of_lt_of_le hsz hb.size
      have HOb6 : Hid (Below w.heap.size w v6) := HB.out.trans (hb.mono HB.out.size)
      have hbs6 := HB.out.size
      replace HB := HOb6
      clear hown hz hb
      go_wp2_with fail
      refine (S2.out _).mono ?_
      rintro e u ⟨rfl, rfl⟩
      go_wp2_with fail
      refine (put_any A6 c6 g6 L6 (y + 1000) _ HZ6.out (by omega) (by omega)).mono ?_
      generalize hL7 : L6 ++ digitsF (y + 1000).toNat = L7 at *
      have HL7 := Lib.hid hL7
      have hl7 : L7.length ≤ 1600 := by
        have e1 : d.data.size = d.size := rfl
        have e2 : text.data.size = text.size := rfl
        first | omega | (rw [← hL7]; simp only [List.length_append]; omega)
      clear hL7
      rintro e v7 ⟨A7, c7, rfl, hown, hb⟩
      have HO7 := Lib.hid hown
      obtain ⟨g7, hz, _, _, _⟩ := own_bytes hown
      have HZ7 := Lib.hid hz
      replace q6 := (hb.cell (p := ⟨w.heap.size, 6, none⟩) hsz).trans q6
      replace hsz := Nat.lt_of_lt_of_le hsz hb.size
      have HOb7 : Hid (Below w.heap.size w v7) := HB.out.trans (hb.mono HB.out.size)
      have hbs7 := HB.out.size
      replace HB := HOb7
      clear hown hz hb
      have d7 := digits_le text.size (by omega)
      rw [Int.toNat_natCast] at d7
      go_wp2_with fail
      refine (putText_any A7 c7 g7 L7 text _ HZ7.out (by omega) (by omega)).mono ?_
      generalize hL8 : L7 ++ (digitsF text.size ++ text.data.toList) = L8 at *
      have HL8 := Lib.hid hL8
      have hl8 : L8.length ≤ 2700 := by
        have e1 : d.data.size = d.size := rfl
        have e2 : text.data.size = text.size := rfl
        first | omega | (rw [← hL8]; simp only [List.length_append, Array.length_toList]; omega)
      clear hL8
      rintro e v8 ⟨A8, c8, rfl, hown, hb⟩
      have HO8 := Lib.hid hown
      obtain ⟨g8, hz, _, _, _⟩ := own_bytes hown
      have HZ8 := Lib.hid hz
      replace hsz := Nat.lt_of_lt_of_le hsz hb.size
      have HOb8 : Hid (Below w.heap.size w v8) := HB.out.trans (hb.mono HB.out.size)
      have hbs8 := HB.out.size
      replace HB := HOb8
      clear hown hz hb
      go_wp2
      go_ret
      have e : F = L8 := by rw [HF.out, ← HL8.out, ← HL7.out, ← HL6.out, ← HL5.out, ← HL4.out, ← HL3.out, ← HL2.out, ← HL1.out]; simp
      rw [e]
      exact ⟨A8, c8, rfl, own_base HO8.out hbs8, HB.out⟩
  · have hk0 : kindF ⟨key, ⟨d, a, s⟩, true, x, y, text, held⟩ = 0 := rfl
    rw [hk0]
    have dk0 : (digitsF (Int.toNat 0)).length = 1 := by rw [show Int.toNat 0 = 0 from rfl, digitsF_small (by decide)]; rfl
    go_wp2_with fail
    refine (put_any A4 c4 g4 L4 0 _ HZ4.out (by omega) (by omega)).mono ?_
    generalize hL5 : L4 ++ digitsF (Int.toNat 0) = L5 at *
    have HL5 := Lib.hid hL5
    have hl5 : L5.length ≤ 1400 := by
      have e1 : d.data.size = d.size := rfl
      have e2 : text.data.size = text.size := rfl
      first | omega | (rw [← hL5]; simp only [List.length_append]; omega)
    clear hL5
    rintro e v5 ⟨A5, c5, rfl, hown, hb⟩
    have HO5 := Lib.hid hown
    obtain ⟨g5, hz, _, _, _⟩ := own_bytes hown
    have HZ5 := Lib.hid hz
    replace hsz := Nat.lt_of_lt_of_le hsz hb.size
    have HOb5 : Hid (Below w.heap.size w v5) := HB.out.trans (hb.mono HB.out.size)
    have hbs5 := HB.out.size
    replace HB := HOb5
    clear hown hz hb
    go_wp2
    go_ret
    have e : F = L5 := by rw [HF.out, ← HL5.out, ← HL4.out, ← HL3.out, ← HL2.out, ← HL1.out]; simp
    rw [e]
    exact ⟨A5, c5, rfl, own_base HO5.out hbs5, HB.out⟩

/-- item.Put's answer. -/
def putItm (bs : List UInt8) (i : Itm) : List UInt8 := if rightI i then bs ++ bytesF i else bs

theorem right_bounds {i : Itm} (h : rightI i = true) : 0 ≤ i.key ∧ i.key < 32 ∧ rightV i.ver = true ∧ wholeF i.x i.y = true ∧ i.text.size ≤ 16 ∧ (i.dead = true → i.x = 0 ∧ i.y = 0 ∧ i.held = false) ∧ (i.held = false → i.text.size = 0) := by
  unfold rightI at h
  simp only [Bool.and_eq_true, decide_eq_true_eq, Bool.not_eq_true', Bool.or_eq_true] at h
  obtain ⟨h1, h2, h3, h4, h5, h6, h7⟩ := h
  refine ⟨h1, h2, h3, h4, h5, fun hd => ?_, fun hh => ?_⟩
  · rw [hd] at h6
    simp at h6
    exact ⟨h6.1.1, h6.1.2, h6.2⟩
  · rw [hh] at h7
    simpa using h7
theorem rightV_bounds {v : Vrs} (h : rightV v = true) : rightL v.id.data.toList = true ∧ v.id.size ≤ 6 ∧ 1 ≤ v.seq ∧ v.seq ≤ 1048576 ∧ 1 ≤ v.stamp ∧ v.stamp ≤ 1048576 := by
  unfold rightV countsF at h
  simp only [Bool.and_eq_true, decide_eq_true_eq] at h
  have h1 := (rightL_iff _).mp h.1
  have hl : v.id.data.toList.length = v.id.size := by simp
  exact ⟨h.1, by omega, h.2.1.1, h.2.1.2, h.2.2.1, h.2.2.2⟩
theorem whole_bounds {x y : Int} (h : wholeF x y = true) : -1000 ≤ x ∧ x ≤ 1000 ∧ -1000 ≤ y ∧ y ≤ 1000 := by
  unfold wholeF withinF at h
  simp only [Bool.and_eq_true, decide_eq_true_eq] at h
  omega
theorem bytesF_len {i : Itm} (h : rightI i = true) : (bytesF i).length ≤ 1000 := by
  obtain ⟨h1, h2, h3, h4, h5, _, _⟩ := right_bounds h
  obtain ⟨_, h6, h7, h8, h9, h10⟩ := rightV_bounds h3
  obtain ⟨h11, h12, h13, h14⟩ := whole_bounds h4
  have d1 := digits_le i.key (by omega)
  have d2 := digits_le i.ver.id.size (by omega)
  have d3 := digits_le i.ver.seq (by omega)
  have d4 := digits_le i.ver.stamp (by omega)
  have d5 := digits_le (i.x + 1000) (by omega)
  have d6 := digits_le (i.y + 1000) (by omega)
  have d7 := digits_le i.text.size (by omega)
  have d8 := digits_le 0 (by omega)
  have d9 := digits_le 1 (by omega)
  have d10 := digits_le 2 (by omega)
  rw [Int.toNat_natCast] at d2 d7
  have e1 : i.ver.id.data.size = i.ver.id.size := rfl
  have e2 : i.text.data.size = i.text.size := rfl
  rw [show (0 : Int).toNat = 0 from rfl] at d8
  rw [show (1 : Int).toNat = 1 from rfl] at d9
  rw [show (2 : Int).toNat = 2 from rfl] at d10
  unfold bytesF headF tailF
  split
  · simp only [List.length_append, Array.length_toList]; omega
  · split <;> (simp only [List.length_append, Array.length_toList]; omega)

set_option maxRecDepth 100000 in
set_option maxHeartbeats 4000000 in
theorem itemPut_any (A : Option Addr) (c g : Nat) (bs : List UInt8) (i : Itm) (w : World) (hz : BytesAt w g A bs.length bs) (hl : bs.length ≤ 100000000) (hx : i.x.natAbs < 2 ^ 53) (hy : i.y.natAbs < 2 ^ 53) :
    Calls Try.prog 21 #[.slice A bs.length c, itmV i] w (OwnBytes (putItm bs i) w) := by
  have HZ := Lib.hid hz
  clear hz
  have HR := Lib.hid (itemRight_any i hx hy)
  have HP := Lib.hid (show putItm bs i = if rightI i then bs ++ bytesF i else bs from rfl)
  have HY : Hid (rightI i = true → ∀ w, Calls Try.prog 39 #[itmV i] w (OwnBytes (bytesF i) w)) := fun h w => by
    obtain ⟨h1, h2, h3, h4, h5, _, _⟩ := right_bounds h
    obtain ⟨_, h6, h7, h8, h9, h10⟩ := rightV_bounds h3
    exact bytesOf_any i (by omega) (by omega) (by omega) (by omega) hx hy (by omega) w
  have HL := Lib.hid (@bytesF_len i)
  clear hx hy
  generalize putItm bs i = F at *
  generalize bytesF i = Y at *
  generalize rightI i = r at *
  obtain ⟨key, ⟨d, a, s⟩, dead, x, y, text, held⟩ := i
  unfold itmV at *
  simp only at HR HY ⊢
  generalize fl x = fx at *
  generalize fl y = fy at *
  go_enter Try.func21, Try.ntmps21
  go_wp2_with fail
  refine (HR.out _).mono ?_
  rintro e w1 ⟨rfl, hb⟩
  have q0 : w1.cell? ⟨w.heap.size, 0, none⟩ = some (.int .i64 key) := (hb.cell (by simp)).trans (by simp [go_sem])
  have q1 : w1.cell? ⟨w.heap.size, 1, none⟩ = some (.string d) := (hb.cell (by simp)).trans (by simp [go_sem])
  have q2 : w1.cell? ⟨w.heap.size, 2, none⟩ = some (.int .i64 a) := (hb.cell (by simp)).trans (by simp [go_sem])
  have q3 : w1.cell? ⟨w.heap.size, 3, none⟩ = some (.int .i64 s) := (hb.cell (by simp)).trans (by simp [go_sem])
  have q4 : w1.cell? ⟨w.heap.size, 4, none⟩ = some (.bool dead) := (hb.cell (by simp)).trans (by simp [go_sem])
  have q5 : w1.cell? ⟨w.heap.size, 5, none⟩ = some (.complex .f64 fx fy) := (hb.cell (by simp)).trans (by simp [go_sem])
  have q6 : w1.cell? ⟨w.heap.size, 6, none⟩ = some (.string text) := (hb.cell (by simp)).trans (by simp [go_sem])
  have q7 : w1.cell? ⟨w.heap.size, 7, none⟩ = some (.bool held) := (hb.cell (by simp)).trans (by simp [go_sem])
  have HB : Hid (Below w.heap.size w w1) := ((Below.refl _ _).alloc (Nat.le_refl _) _).trans (hb.mono (by simp))
  have hsz : w.heap.size < w1.heap.size := by have := hb.size; simp at this; omega
  have HZ1 := Lib.hid (HZ.out.keep HB.out)
  clear hb HR
  cases r
  · rw [if_neg (by simp)] at HP
    go_wp2_with fail
    refine (clone_any A c g bs _ HZ1.out (by omega)).mono ?_
    rintro e w2 ⟨A2, c2, rfl, hown, hb⟩
    have HO := Lib.hid hown
    have HB2 : Hid (Below w.heap.size w w2) := HB.out.trans (hb.mono HB.out.size)
    have hs1 := HB.out.size
    clear hown hb
    go_wp2
    go_ret
    rw [HP.out]
    exact ⟨A2, c2, rfl, own_base HO.out hs1, HB2.out⟩
  · rw [if_pos rfl] at HP
    go_wp2_with fail
    refine (HY.out (by simp) _).mono ?_
    rintro e w2 ⟨A2, c2, rfl, hown, hb⟩
    obtain ⟨g2, hz2, _, _, _⟩ := own_bytes hown
    have HZ2 := Lib.hid hz2
    have HZ3 := Lib.hid (HZ1.out.keep hb)
    have HB2 : Hid (Below w.heap.size w w2) := HB.out.trans (hb.mono HB.out.size)
    have hl2 := HL.out (by simp)
    clear hown hz2 hb
    go_wp2_with fail
    refine (concat_two w2.heap.size g g2 c c2 A A2 bs Y 47 (0, 0) _ (heap_alloc_new w2 _) (by simp) (HZ3.out.keep ((Below.refl _ _).alloc (Nat.le_refl _) _)) (HZ2.out.keep ((Below.refl _ _).alloc (Nat.le_refl _) _)) (by omega)).mono ?_
    rintro e w3 ⟨A3, c3, rfl, hown, hb⟩
    have HB3 : Hid (Below w.heap.size w w3) := (HB2.out.alloc HB2.out.size _).trans (hb.mono (by have := HB2.out.size; simp; omega))
    have HO : Hid (w3.ownsRow w.heap.size 5 1 (.slice A3 (bs ++ Y).length c3) (bs ++ Y).length (bytesV (bs ++ Y))) := own_base hown (by have := HB2.out.size; simp; omega)
    clear hown hb
    rw [← HP.out] at HO ⊢
    go_wp2
    go_ret
    exact ⟨A3, c3, rfl, HO.out, HB3.out⟩
end Go.Proofs.Ytophhjknbanafaa
