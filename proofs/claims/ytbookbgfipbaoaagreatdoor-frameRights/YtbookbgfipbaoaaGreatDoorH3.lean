/- item: bytesOf, Put. -/
import Derived.Test.YtbookbgfipbaoaaGreatDoorH2
import Derived.Test.YtbookbgfipbaoaaGreatDoorProg
import Derived.ProofKit
import Derived.WalkKit
import Derived.Lib.Hide
import Derived.OwnWalk
import Derived.Maps.AppendAt
import Derived.Deep.AppendLies
import Derived.Deep.RegionLaw
import Derived.Deep.RegionHeld3
import Derived.Laws.OwnMore
import GoSem.Claim
namespace Go.Proofs.YtbookbgfipbaoaaGreatDoor.By
open Go.RowKit

/-- An item's bytes. -/
def headF (i : Itm) : List UInt8 := digitsF i.key.toNat ++ ((digitsF i.ver.id.size ++ i.ver.id.data.toList) ++ (digitsF i.ver.seq.toNat ++ digitsF i.ver.stamp.toNat))
def tailF (i : Itm) : List UInt8 := if i.dead then digitsF 0 else if i.held then digitsF 2 ++ (digitsF (i.x + 1000).toNat ++ (digitsF (i.y + 1000).toNat ++ (digitsF i.text.size ++ i.text.data.toList))) else digitsF 1 ++ (digitsF (i.x + 1000).toNat ++ digitsF (i.y + 1000).toNat)
def bytesF (i : Itm) : List UInt8 := headF i ++ tailF i

set_option maxRecDepth 100000 in
set_option maxHeartbeats 4000000 in
theorem bytesOf_any (i : Itm) (hk : i.key ≤ 1000) (hv : i.ver.id.size ≤ 1000) (hsq : i.ver.seq ≤ 9223372036854775807) (hst : i.ver.stamp ≤ 9223372036854775807) (hx : i.x.natAbs < 2 ^ 53) (hy : i.y.natAbs < 2 ^ 53) (ht : i.text.size ≤ 1000) (w : World) :
    Calls Tryz.prog 165 #[itmV i] w (OwnBytes (bytesF i) w) := by
  have HK := Lib.hid (kindOf_any i)
  obtain ⟨key, ⟨d, a, s⟩, dead, x, y, text, held⟩ := i
  have HF := Lib.hid (show bytesF ⟨key, ⟨d, a, s⟩, dead, x, y, text, held⟩ = headF ⟨key, ⟨d, a, s⟩, dead, x, y, text, held⟩ ++ tailF ⟨key, ⟨d, a, s⟩, dead, x, y, text, held⟩ from rfl)
  have S1 := Lib.hid (shifted_any x hx)
  have S2 := Lib.hid (shifted_any y hy)
  have hxb : x ≤ 9007199254740992 ∧ y ≤ 9007199254740992 := by
    have : (2 : Nat) ^ 53 = 9007199254740992 := by decide
    simp only at hx hy
    omega
  unfold itmV at *
  unfold headF tailF at HF
  simp only at HK HF hk hv hsq hst hx hy ht ⊢
  generalize bytesF ⟨key, ⟨d, a, s⟩, dead, x, y, text, held⟩ = F at HF ⊢
  generalize fl x = fx at *
  generalize fl y = fy at *
  clear hx hy
  have d1 := digits_le key (by omega)
  have d2 := digits_le d.size (by omega)
  have d3 := digits_le a hsq
  have d4 := digits_le s hst
  rw [Int.toNat_natCast] at d2
  go_enter Tryz.func165, Tryz.ntmps165
  go_wp2_with fail
  refine (HK.out _).mono ?_
  rintro e w1 ⟨rfl, hb⟩
  have q0 : w1.cell? ⟨w.heap.size, 0, none⟩ = some (.int .i64 key) := (hb.cell (by simp)).trans (by simp [go_sem])
  have q1 : w1.cell? ⟨w.heap.size, 1, none⟩ = some (.string d) := (hb.cell (by simp)).trans (by simp [go_sem])
  have q2 : w1.cell? ⟨w.heap.size, 2, none⟩ = some (.int .i64 a) := (hb.cell (by simp)).trans (by simp [go_sem])
  have q3 : w1.cell? ⟨w.heap.size, 3, none⟩ = some (.int .i64 s) := (hb.cell (by simp)).trans (by simp [go_sem])
  have q5 : w1.cell? ⟨w.heap.size, 5, none⟩ = some (.complex .f64 fx fy) := (hb.cell (by simp)).trans (by simp [go_sem])
  have q6 : w1.cell? ⟨w.heap.size, 6, none⟩ = some (.string text) := (hb.cell (by simp)).trans (by simp [go_sem])
  have HB : Hid (Below w.heap.size w w1) := ((Below.refl _ _).alloc (Nat.le_refl _) _).trans (hb.mono (by simp))
  have hsz : w.heap.size < w1.heap.size := by have := hb.size; simp at this; omega
  clear hb HK
  go_wp2_with fail
  refine (put_any none 0 0 [] key _ (BytesAt.nil _ _ _) (by simp) (by omega)).mono ?_
  rw [List.nil_append]
  generalize hL1 : digitsF key.toNat = L1 at *
  have HL1 := Lib.hid hL1
  have hl1 : L1.length ≤ 9 := by
    have e1 : d.data.size = d.size := rfl
    have e2 : text.data.size = text.size := rfl
    first | omega | (rw [← hL1]; simp only [List.length_append, Array.length_toList]; omega)
  clear hL1
  rintro e v1 ⟨A1, c1, rfl, hown, hb⟩
  have HO1 := Lib.hid hown
  obtain ⟨g1, hz, _, _, _⟩ := own_bytes hown
  have HZ1 := Lib.hid hz
  replace q0 := (hb.cell (p := ⟨w.heap.size, 0, none⟩) hsz).trans q0
  replace q1 := (hb.cell (p := ⟨w.heap.size, 1, none⟩) hsz).trans q1
  replace q2 := (hb.cell (p := ⟨w.heap.size, 2, none⟩) hsz).trans q2
  replace q3 := (hb.cell (p := ⟨w.heap.size, 3, none⟩) hsz).trans q3
  replace q5 := (hb.cell (p := ⟨w.heap.size, 5, none⟩) hsz).trans q5
  replace q6 := (hb.cell (p := ⟨w.heap.size, 6, none⟩) hsz).trans q6
  replace hsz := Nat.lt_of_lt_of_le hsz hb.size
  have HOb1 : Hid (Below w.heap.size w v1) := HB.out.trans (hb.mono HB.out.size)
  have hbs1 := HB.out.size
  replace HB := HOb1
  clear hown hz hb
  go_wp2_with fail
  refine (putText_any A1 c1 g1 L1 d _ HZ1.out (by omega) (by omega)).mono ?_
  generalize hL2 : L1 ++ (digitsF d.size ++ d.data.toList) = L2 at *
  have HL2 := Lib.hid hL2
  have hl2 : L2.length ≤ 1100 := by
    have e1 : d.data.size = d.size := rfl
    have e2 : text.data.size = text.size := rfl
    first | omega | (rw [← hL2]; simp only [List.length_append, Array.length_toList]; omega)
  clear hL2
  rintro e v2 ⟨A2, c2, rfl, hown, hb⟩
  have HO2 := Lib.hid hown
  obtain ⟨g2, hz, _, _, _⟩ := own_bytes hown
  have HZ2 := Lib.hid hz
  replace q1 := (hb.cell (p := ⟨w.heap.size, 1, none⟩) hsz).trans q1
  replace q2 := (hb.cell (p := ⟨w.heap.size, 2, none⟩) hsz).trans q2
  replace q3 := (hb.cell (p := ⟨w.heap.size, 3, none⟩) hsz).trans q3
  replace q5 := (hb.cell (p := ⟨w.heap.size, 5, none⟩) hsz).trans q5
  replace q6 := (hb.cell (p := ⟨w.heap.size, 6, none⟩) hsz).trans q6
  replace hsz := Nat.lt_of_lt_of_le hsz hb.size
  have HOb2 : Hid (Below w.heap.size w v2) := HB.out.trans (hb.mono HB.out.size)
  have hbs2 := HB.out.size
  replace HB := HOb2
  clear hown hz hb
  go_wp2_with fail
  refine (put_any A2 c2 g2 L2 a _ HZ2.out (by omega) hsq).mono ?_
  generalize hL3 : L2 ++ digitsF a.toNat = L3 at *
  have HL3 := Lib.hid hL3
  have hl3 : L3.length ≤ 1200 := by
    have e1 : d.data.size = d.size := rfl
    have e2 : text.data.size = text.size := rfl
    first | omega | (rw [← hL3]; simp only [List.length_append]; omega)
  clear hL3
  rintro e v3 ⟨A3, c3, rfl, hown, hb⟩
  have HO3 := Lib.hid hown
  obtain ⟨g3, hz, _, _, _⟩ := own_bytes hown
  have HZ3 := Lib.hid hz
  replace q2 := (hb.cell (p := ⟨w.heap.size, 2, none⟩) hsz).trans q2
  replace q3 := (hb.cell (p := ⟨w.heap.size, 3, none⟩) hsz).trans q3
  replace q5 := (hb.cell (p := ⟨w.heap.size, 5, none⟩) hsz).trans q5
  replace q6 := (hb.cell (p := ⟨w.heap.size, 6, none⟩) hsz).trans q6
  replace hsz := Nat.lt_of_lt_of_le hsz hb.size
  have HOb3 : Hid (Below w.heap.size w v3) := HB.out.trans (hb.mono HB.out.size)
  have hbs3 := HB.out.size
  replace HB := HOb3
  clear hown hz hb
  go_wp2_with fail
  refine (put_any A3 c3 g3 L3 s _ HZ3.out (by omega) hst).mono ?_
  generalize hL4 : L3 ++ digitsF s.toNat = L4 at *
  have HL4 := Lib.hid hL4
  have hl4 : L4.length ≤ 1300 := by
    have e1 : d.data.size = d.size := rfl
    have e2 : text.data.size = text.size := rfl
    first | omega | (rw [← hL4]; simp only [List.length_append]; omega)
  clear hL4
  rintro e v4 ⟨A4, c4, rfl, hown, hb⟩
  have HO4 := Lib.hid hown
  obtain ⟨g4, hz, _, _, _⟩ := own_bytes hown
  have HZ4 := Lib.hid hz
  replace q3 := (hb.cell (p := ⟨w.heap.size, 3, none⟩) hsz).trans q3
  replace q5 := (hb.cell (p := ⟨w.heap.size, 5, none⟩) hsz).trans q5
  replace q6 := (hb.cell (p := ⟨w.heap.size, 6, none⟩) hsz).trans q6
  replace hsz := Nat.lt_of_lt_of_le hsz hb.size
  have HOb4 : Hid (Below w.heap.size w v4) := HB.out.trans (hb.mono HB.out.size)
  have hbs4 := HB.out.size
  replace HB := HOb4
  clear hown hz hb
  have dk := digitsF_len 0
  cases dead
  · cases held
    · have hk0 : kindF ⟨key, ⟨d, a, s⟩, false, x, y, text, false⟩ = 1 := rfl
      rw [hk0]
      have dk1 : (digitsF (Int.toNat 1)).length = 1 := by rw [show Int.toNat 1 = 1 from rfl, digitsF_small (by decide)]; rfl
      go_wp2_with fail
      refine (put_any A4 c4 g4 L4 1 _ HZ4.out (by omega) (by omega)).mono ?_
      generalize hL5 : L4 ++ digitsF (Int.toNat 1) = L5 at *
      have HL5 := Lib.hid hL5
      have hl5 : L5.length ≤ 1400 := by
        have e1 : d.data.size = d.size := rfl
        have e2 : text.data.size = text.size := rfl
        first | omega | (rw [← hL5]; simp only [List.length_append]; omega)
      clear hL5
      rintro e v5 ⟨A5, c5, rfl, hown, hb⟩
      have HO5 := Lib.hid hown
      obtain ⟨g5, hz, _, _, _⟩ := own_bytes hown
      have HZ5 := Lib.hid hz
      replace q5 := (hb.cell (p := ⟨w.heap.size, 5, none⟩) hsz).trans q5
      replace q6 := (hb.cell (p := ⟨w.heap.size, 6, none⟩) hsz).trans q6
      replace hsz := Nat.lt_of_lt_of_le hsz hb.size
      have HOb5 : Hid (Below w.heap.size w v5) := HB.out.trans (hb.mono HB.out.size)
      have hbs5 := HB.out.size
      replace HB := HOb5
      clear hown hz hb
      have d5 := digits_le (x + 1000) (by omega)
      have d6 := digits_le (y + 1000) (by omega)
      go_wp2_with fail
      refine (S1.out _).mono ?_
      rintro e u ⟨rfl, rfl⟩
      go_wp2_with fail
      refine (put_any A5 c5 g5 L5 (x + 1000) _ HZ5.out (by omega) (by omega)).mono ?_
      generalize hL6 : L5 ++ digitsF (x + 1000).toNat = L6 at *
      have HL6 := Lib.hid hL6
      have hl6 : L6.length ≤ 1500 := by
        have e1 : d.data.size = d.size := rfl
        have e2 : text.data.size = text.size := rfl
        first | omega | (rw [← hL6]; simp only [List.length_append]; omega)
      clear hL6
      rintro e v6 ⟨A6, c6, rfl, hown, hb⟩
      have HO6 := Lib.hid hown
      obtain ⟨g6, hz, _, _, _⟩ := own_bytes hown
      have HZ6 := Lib.hid hz
      replace q5 := (hb.cell (p := ⟨w.heap.size, 5, none⟩) hsz).trans q5
      replace q6 := (hb.cell (p := ⟨w.heap.size, 6, none⟩) hsz).trans q6
      replace hsz := Nat.lt_of_lt_of_le hsz hb.size
      have HOb6 : Hid (Below w.heap.size w v6) := HB.out.trans (hb.mono HB.out.size)
      have hbs6 := HB.out.size
      replace HB := HOb6
      clear hown hz hb
      go_wp2_with fail
      refine (S2.out _).mono ?_
      rintro e u ⟨rfl, rfl⟩
      go_wp2_with fail
      refine (put_any A6 c6 g6 L6 (y + 1000) _ HZ6.out (by omega) (by omega)).mono ?_
      generalize hL7 : L6 ++ digitsF (y + 1000).toNat = L7 at *
      have HL7 := Lib.hid hL7
      have hl7 : L7.length ≤ 1600 := by
        have e1 : d.data.size = d.size := rfl
        have e2 : text.data.size = text.size := rfl
        first | omega | (rw [← hL7]; simp only [List.length_append]; omega)
      clear hL7
      rintro e v7 ⟨A7, c7, rfl, hown, hb⟩
      have HO7 := Lib.hid hown
      obtain ⟨g7, hz, _, _, _⟩ := own_bytes hown
      have HZ7 := Lib.hid hz
      replace q6 := (hb.cell (p := ⟨w.heap.size, 6, none⟩) hsz).trans q6
      replace hsz := Nat.lt_of_lt_of_le hsz hb.size
      have HOb7 : Hid (Below w.heap.size w v7) := HB.out.trans (hb.mono HB.out.size)
      have hbs7 := HB.out.size
      replace HB := HOb7
      clear hown hz hb
      go_wp2
      go_ret
      have e : F = L7 := by rw [HF.out, ← HL7.out, ← HL6.out, ← HL5.out, ← HL4.out, ← HL3.out, ← HL2.out, ← HL1.out]; simp
      rw [e]
      exact ⟨A7, c7, rfl, own_base HO7.out hbs7, HB.out⟩
    · have hk0 : kindF ⟨key, ⟨d, a, s⟩, false, x, y, text, true⟩ = 2 := rfl
      rw [hk0]
      have dk2 : (digitsF (Int.toNat 2)).length = 1 := by rw [show Int.toNat 2 = 2 from rfl, digitsF_small (by decide)]; rfl
      go_wp2_with fail
      refine (put_any A4 c4 g4 L4 2 _ HZ4.out (by omega) (by omega)).mono ?_
      generalize hL5 : L4 ++ digitsF (Int.toNat 2) = L5 at *
      have HL5 := Lib.hid hL5
      have hl5 : L5.length ≤ 1400 := by
        have e1 : d.data.size = d.size := rfl
        have e2 : text.data.size = text.size := rfl
        first | omega | (rw [← hL5]; simp only [List.length_append]; omega)
      clear hL5
      rintro e v5 ⟨A5, c5, rfl, hown, hb⟩
      have HO5 := Lib.hid hown
      obtain ⟨g5, hz, _, _, _⟩ := own_bytes hown
      have HZ5 := Lib.hid hz
      replace q5 := (hb.cell (p := ⟨w.heap.size, 5, none⟩) hsz).trans q5
      replace q6 := (hb.cell (p := ⟨w.heap.size, 6, none⟩) hsz).trans q6
      replace hsz := Nat.lt_of_lt_of_le hsz hb.size
      have HOb5 : Hid (Below w.heap.size w v5) := HB.out.trans (hb.mono HB.out.size)
      have hbs5 := HB.out.size
      replace HB := HOb5
      clear hown hz hb
      have d5 := digits_le (x + 1000) (by omega)
      have d6 := digits_le (y + 1000) (by omega)
      go_wp2_with fail
      refine (S1.out _).mono ?_
      rintro e u ⟨rfl, rfl⟩
      go_wp2_with fail
      refine (put_any A5 c5 g5 L5 (x + 1000) _ HZ5.out (by omega) (by omega)).mono ?_
      generalize hL6 : L5 ++ digitsF (x + 1000).toNat = L6 at *
      have HL6 := Lib.hid hL6
      have hl6 : L6.length ≤ 1500 := by
        have e1 : d.data.size = d.size := rfl
        have e2 : text.data.size = text.size := rfl
        first | omega | (rw [← hL6]; simp only [List.length_append]; omega)
      clear hL6
      rintro e v6 ⟨A6, c6, rfl, hown, hb⟩
      have HO6 := Lib.hid hown
      obtain ⟨g6, hz, _, _, _⟩ := own_bytes hown
      have HZ6 := Lib.hid hz
      replace q5 := (hb.cell (p := ⟨w.heap.size, 5, none⟩) hsz).trans q5
      replace q6 := (hb.cell (p := ⟨w.heap.size, 6, none⟩) hsz).trans q6
      replace hsz := Nat.lt_of_lt_of_le hsz hb.size
      have HOb6 : Hid (Below w.heap.size w v6) := HB.out.trans (hb.mono HB.out.size)
      have hbs6 := HB.out.size
      replace HB := HOb6
      clear hown hz hb
      go_wp2_with fail
      refine (S2.out _).mono ?_
      rintro e u ⟨rfl, rfl⟩
      go_wp2_with fail
      refine (put_any A6 c6 g6 L6 (y + 1000) _ HZ6.out (by omega) (by omega)).mono ?_
      generalize hL7 : L6 ++ digitsF (y + 1000).toNat = L7 at *
      have HL7 := Lib.hid hL7
      have hl7 : L7.length ≤ 1600 := by
        have e1 : d.data.size = d.size := rfl
        have e2 : text.data.size = text.size := rfl
        first | omega | (rw [← hL7]; simp only [List.length_append]; omega)
      clear hL7
      rintro e v7 ⟨A7, c7, rfl, hown, hb⟩
      have HO7 := Lib.hid hown
      obtain ⟨g7, hz, _, _, _⟩ := own_bytes hown
      have HZ7 := Lib.hid hz
      replace q6 := (hb.cell (p := ⟨w.heap.size, 6, none⟩) hsz).trans q6
      replace hsz := Nat.lt_of_lt_of_le hsz hb.size
      have HOb7 : Hid (Below w.heap.size w v7) := HB.out.trans (hb.mono HB.out.size)
      have hbs7 := HB.out.size
      replace HB := HOb7
      clear hown hz hb
      have d7 := digits_le text.size (by omega)
      rw [Int.toNat_natCast] at d7
      go_wp2_with fail
      refine (putText_any A7 c7 g7 L7 text _ HZ7.out (by omega) (by omega)).mono ?_
      generalize hL8 : L7 ++ (digitsF text.size ++ text.data.toList) = L8 at *
      have HL8 := Lib.hid hL8
      have hl8 : L8.length ≤ 2700 := by
        have e1 : d.data.size = d.size := rfl
        have e2 : text.data.size = text.size := rfl
        first | omega | (rw [← hL8]; simp only [List.length_append, Array.length_toList]; omega)
      clear hL8
      rintro e v8 ⟨A8, c8, rfl, hown, hb⟩
      have HO8 := Lib.hid hown
      obtain ⟨g8, hz, _, _, _⟩ := own_bytes hown
      have HZ8 := Lib.hid hz
      replace hsz := Nat.lt_of_lt_of_le hsz hb.size
      have HOb8 : Hid (Below w.heap.size w v8) := HB.out.trans (hb.mono HB.out.size)
      have hbs8 := HB.out.size
      replace HB := HOb8
      clear hown hz hb
      go_wp2
      go_ret
      have e : F = L8 := by rw [HF.out, ← HL8.out, ← HL7.out, ← HL6.out, ← HL5.out, ← HL4.out, ← HL3.out, ← HL2.out, ← HL1.out]; simp
      rw [e]
      exact ⟨A8, c8, rfl, own_base HO8.out hbs8, HB.out⟩
  · have hk0 : kindF ⟨key, ⟨d, a, s⟩, true, x, y, text, held⟩ = 0 := rfl
    rw [hk0]
    have dk0 : (digitsF (Int.toNat 0)).length = 1 := by rw [show Int.toNat 0 = 0 from rfl, digitsF_small (by decide)]; rfl
    go_wp2_with fail
    refine (put_any A4 c4 g4 L4 0 _ HZ4.out (by omega) (by omega)).mono ?_
    generalize hL5 : L4 ++ digitsF (Int.toNat 0) = L5 at *
    have HL5 := Lib.hid hL5
    have hl5 : L5.length ≤ 1400 := by
      have e1 : d.data.size = d.size := rfl
      have e2 : text.data.size = text.size := rfl
      first | omega | (rw [← hL5]; simp only [List.length_append]; omega)
    clear hL5
    rintro e v5 ⟨A5, c5, rfl, hown, hb⟩
    have HO5 := Lib.hid hown
    obtain ⟨g5, hz, _, _, _⟩ := own_bytes hown
    have HZ5 := Lib.hid hz
    replace hsz := Nat.lt_of_lt_of_le hsz hb.size
    have HOb5 : Hid (Below w.heap.size w v5) := HB.out.trans (hb.mono HB.out.size)
    have hbs5 := HB.out.size
    replace HB := HOb5
    clear hown hz hb
    go_wp2
    go_ret
    have e : F = L5 := by rw [HF.out, ← HL5.out, ← HL4.out, ← HL3.out, ← HL2.out, ← HL1.out]; simp
    rw [e]
    exact ⟨A5, c5, rfl, own_base HO5.out hbs5, HB.out⟩

/-- item.Put's answer. -/
def putItm (bs : List UInt8) (i : Itm) : List UInt8 := if rightI i then bs ++ bytesF i else bs

theorem right_bounds {i : Itm} (h : rightI i = true) : 0 ≤ i.key ∧ i.key < 32 ∧ rightV i.ver = true ∧ wholeF i.x i.y = true ∧ i.text.size ≤ 16 ∧ (i.dead = true → i.x = 0 ∧ i.y = 0 ∧ i.held = false) ∧ (i.held = false → i.text.size = 0) := by
  unfold rightI at h
  simp only [Bool.and_eq_true, decide_eq_true_eq, Bool.not_eq_true', Bool.or_eq_true] at h
  obtain ⟨h1, h2, h3, h4, h5, h6, h7⟩ := h
  refine ⟨h1, h2, h3, h4, h5, fun hd => ?_, fun hh => ?_⟩
  · rw [hd] at h6
    simp at h6
    exact ⟨h6.1.1, h6.1.2, h6.2⟩
  · rw [hh] at h7
    simpa using h7
theorem rightV_bounds {v : Vrs} (h : rightV v = true) : rightL v.id.data.toList = true ∧ v.id.size ≤ 6 ∧ 1 ≤ v.seq ∧ v.seq ≤ 1048576 ∧ 1 ≤ v.stamp ∧ v.stamp ≤ 1048576 := by
  unfold rightV countsF at h
  simp only [Bool.and_eq_true, decide_eq_true_eq] at h
  have h1 := (rightL_iff _).mp h.1
  have hl : v.id.data.toList.length = v.id.size := by simp
  exact ⟨h.1, by omega, h.2.1.1, h.2.1.2, h.2.2.1, h.2.2.2⟩
theorem whole_bounds {x y : Int} (h : wholeF x y = true) : -1000 ≤ x ∧ x ≤ 1000 ∧ -1000 ≤ y ∧ y ≤ 1000 := by
  unfold wholeF withinF at h
  simp only [Bool.and_eq_true, decide_eq_true_eq] at h
  omega
theorem bytesF_len {i : Itm} (h : rightI i = true) : (bytesF i).length ≤ 1000 := by
  obtain ⟨h1, h2, h3, h4, h5, _, _⟩ := right_bounds h
  obtain ⟨_, h6, h7, h8, h9, h10⟩ := rightV_bounds h3
  obtain ⟨h11, h12, h13, h14⟩ := whole_bounds h4
  have d1 := digits_le i.key (by omega)
  have d2 := digits_le i.ver.id.size (by omega)
  have d3 := digits_le i.ver.seq (by omega)
  have d4 := digits_le i.ver.stamp (by omega)
  have d5 := digits_le (i.x + 1000) (by omega)
  have d6 := digits_le (i.y + 1000) (by omega)
  have d7 := digits_le i.text.size (by omega)
  have d8 := digits_le 0 (by omega)
  have d9 := digits_le 1 (by omega)
  have d10 := digits_le 2 (by omega)
  rw [Int.toNat_natCast] at d2 d7
  have e1 : i.ver.id.data.size = i.ver.id.size := rfl
  have e2 : i.text.data.size = i.text.size := rfl
  rw [show (0 : Int).toNat = 0 from rfl] at d8
  rw [show (1 : Int).toNat = 1 from rfl] at d9
  rw [show (2 : Int).toNat = 2 from rfl] at d10
  unfold bytesF headF tailF
  split
  · simp only [List.length_append, Array.length_toList]; omega
  · split <;> (simp only [List.length_append, Array.length_toList]; omega)

set_option maxRecDepth 100000 in
set_option maxHeartbeats 4000000 in
theorem itemPut_any (A : Option Addr) (c g : Nat) (bs : List UInt8) (i : Itm) (w : World) (hz : BytesAt w g A bs.length bs) (hl : bs.length ≤ 100000000) (hx : i.x.natAbs < 2 ^ 53) (hy : i.y.natAbs < 2 ^ 53) :
    Calls Tryz.prog 114 #[.slice A bs.length c, itmV i] w (OwnBytes (putItm bs i) w) := by
  have HZ := Lib.hid hz
  clear hz
  have HR := Lib.hid (itemRight_any i hx hy)
  have HP := Lib.hid (show putItm bs i = if rightI i then bs ++ bytesF i else bs from rfl)
  have HY : Hid (rightI i = true → ∀ w, Calls Tryz.prog 165 #[itmV i] w (OwnBytes (bytesF i) w)) := fun h w => by
    obtain ⟨h1, h2, h3, h4, h5, _, _⟩ := right_bounds h
    obtain ⟨_, h6, h7, h8, h9, h10⟩ := rightV_bounds h3
    exact bytesOf_any i (by omega) (by omega) (by omega) (by omega) hx hy (by omega) w
  have HL := Lib.hid (@bytesF_len i)
  clear hx hy
  generalize putItm bs i = F at *
  generalize bytesF i = Y at *
  generalize rightI i = r at *
  obtain ⟨key, ⟨d, a, s⟩, dead, x, y, text, held⟩ := i
  unfold itmV at *
  simp only at HR HY ⊢
  generalize fl x = fx at *
  generalize fl y = fy at *
  go_enter Tryz.func114, Tryz.ntmps114
  go_wp2_with fail
  refine (HR.out _).mono ?_
  rintro e w1 ⟨rfl, hb⟩
  have q0 : w1.cell? ⟨w.heap.size, 0, none⟩ = some (.int .i64 key) := (hb.cell (by simp)).trans (by simp [go_sem])
  have q1 : w1.cell? ⟨w.heap.size, 1, none⟩ = some (.string d) := (hb.cell (by simp)).trans (by simp [go_sem])
  have q2 : w1.cell? ⟨w.heap.size, 2, none⟩ = some (.int .i64 a) := (hb.cell (by simp)).trans (by simp [go_sem])
  have q3 : w1.cell? ⟨w.heap.size, 3, none⟩ = some (.int .i64 s) := (hb.cell (by simp)).trans (by simp [go_sem])
  have q4 : w1.cell? ⟨w.heap.size, 4, none⟩ = some (.bool dead) := (hb.cell (by simp)).trans (by simp [go_sem])
  have q5 : w1.cell? ⟨w.heap.size, 5, none⟩ = some (.complex .f64 fx fy) := (hb.cell (by simp)).trans (by simp [go_sem])
  have q6 : w1.cell? ⟨w.heap.size, 6, none⟩ = some (.string text) := (hb.cell (by simp)).trans (by simp [go_sem])
  have q7 : w1.cell? ⟨w.heap.size, 7, none⟩ = some (.bool held) := (hb.cell (by simp)).trans (by simp [go_sem])
  have HB : Hid (Below w.heap.size w w1) := ((Below.refl _ _).alloc (Nat.le_refl _) _).trans (hb.mono (by simp))
  have hsz : w.heap.size < w1.heap.size := by have := hb.size; simp at this; omega
  have HZ1 := Lib.hid (HZ.out.keep HB.out)
  clear hb HR
  cases r
  · rw [if_neg (by simp)] at HP
    go_wp2_with fail
    refine (clone_any A c g bs _ HZ1.out (by omega)).mono ?_
    rintro e w2 ⟨A2, c2, rfl, hown, hb⟩
    have HO := Lib.hid hown
    have HB2 : Hid (Below w.heap.size w w2) := HB.out.trans (hb.mono HB.out.size)
    have hs1 := HB.out.size
    clear hown hb
    go_wp2
    go_ret
    rw [HP.out]
    exact ⟨A2, c2, rfl, own_base HO.out hs1, HB2.out⟩
  · rw [if_pos rfl] at HP
    go_wp2_with fail
    refine (HY.out (by simp) _).mono ?_
    rintro e w2 ⟨A2, c2, rfl, hown, hb⟩
    obtain ⟨g2, hz2, _, _, _⟩ := own_bytes hown
    have HZ2 := Lib.hid hz2
    have HZ3 := Lib.hid (HZ1.out.keep hb)
    have HB2 : Hid (Below w.heap.size w w2) := HB.out.trans (hb.mono HB.out.size)
    have hl2 := HL.out (by simp)
    clear hown hz2 hb
    go_wp2_with fail
    refine (concat_two w2.heap.size g g2 c c2 A A2 bs Y 48 (0, 0) _ (heap_alloc_new w2 _) (by simp) (HZ3.out.keep ((Below.refl _ _).alloc (Nat.le_refl _) _)) (HZ2.out.keep ((Below.refl _ _).alloc (Nat.le_refl _) _)) (by omega)).mono ?_
    rintro e w3 ⟨A3, c3, rfl, hown, hb⟩
    have HB3 : Hid (Below w.heap.size w w3) := (HB2.out.alloc HB2.out.size _).trans (hb.mono (by have := HB2.out.size; simp; omega))
    have HO : Hid (w3.ownsRow w.heap.size 5 1 (.slice A3 (bs ++ Y).length c3) (bs ++ Y).length (bytesV (bs ++ Y))) := own_base hown (by have := HB2.out.size; simp; omega)
    clear hown hb
    rw [← HP.out] at HO ⊢
    go_wp2
    go_ret
    exact ⟨A3, c3, rfl, HO.out, HB3.out⟩
end Go.Proofs.YtbookbgfipbaoaaGreatDoor.By

/- Rows of structs: how they lie in memory. -/
namespace Go.Proofs.YtbookbgfipbaoaaGreatDoor
open Go.RowKit

/-- In w the slice (A, n) holds zs, each in d cells, in a block below B. -/
def RowAt {α : Type} (cf : α → List Value) (d : Nat) (w : World) (B : Nat) (A : Option Addr) (n : Nat) (zs : List α) : Prop :=
  zs.length = n ∧ (0 < n → ∃ b off, A = some ⟨b, off, none⟩ ∧ b < B ∧ ∀ k (_ : k < zs.length) j u, (cf zs[k])[j]? = some u → w.cell? ⟨b, off + k * d + j, none⟩ = some u)

section
variable {α : Type} {cf : α → List Value} {d : Nat} {w w' : World} {B : Nat} {A : Option Addr} {n : Nat} {zs : List α}
theorem RowAt.nil : RowAt cf d w B A 0 [] := ⟨rfl, fun h => absurd h (by omega)⟩
theorem RowAt.hold (h : RowAt cf d w B A n zs) (hk : ∀ b o, b < B → w'.cell? ⟨b, o, none⟩ = w.cell? ⟨b, o, none⟩) : RowAt cf d w' B A n zs :=
  ⟨h.1, fun hn => by
    obtain ⟨b, off, e, hlt, hc⟩ := h.2 hn
    exact ⟨b, off, e, hlt, fun k hk' j u hu => (hk b _ hlt).trans (hc k hk' j u hu)⟩⟩
theorem RowAt.keep (h : RowAt cf d w B A n zs) (hb : Below B w w') : RowAt cf d w' B A n zs := h.hold fun b o hlt => hb.cell (p := ⟨b, o, none⟩) hlt
theorem RowAt.more {B' : Nat} (h : RowAt cf d w B A n zs) (hB : B ≤ B') : RowAt cf d w B' A n zs :=
  ⟨h.1, fun hn => by
    obtain ⟨b, off, e, hlt, hc⟩ := h.2 hn
    exact ⟨b, off, e, by omega, hc⟩⟩
/-- One of them. -/
theorem RowAt.get (h : RowAt cf d w B A n zs) {k : Nat} (hk : k < n) : ∃ b off, A = some ⟨b, off, none⟩ ∧ b < B ∧ ∃ z, zs[k]? = some z ∧ ∀ j u, (cf z)[j]? = some u → w.cell? ⟨b, off + k * d + j, none⟩ = some u := by
  obtain ⟨b, off, e, hlt, hc⟩ := h.2 (by omega)
  have hk' : k < zs.length := by rw [h.1]; exact hk
  exact ⟨b, off, e, hlt, zs[k], List.getElem?_eq_getElem hk', hc k hk'⟩
end
end Go.Proofs.YtbookbgfipbaoaaGreatDoor

/- Rows of structs of the call's own: append onto them. -/
namespace Go.Proofs.YtbookbgfipbaoaaGreatDoor
open Go.RowKit

def rowCells {α : Type} (cf : α → List Value) (zs : List α) : List Value := zs.flatMap cf
/-- A slice type and its element's, whose values are laid by cf in d cells. -/
structure RowTy {α : Type} (cf : α → List Value) (d by' : Nat) (z : Value) (sl e : TypeId) : Prop where
  u : Tryz.prog.underlying sl = some (.slice e)
  i : (Tryz.prog.info? e).map (fun i => (i.zero, i.size, i.bytes)) = some (some z, d, by')
  zs : z.cells.size = d
  pos : 0 < d
  small : by' ≤ 128
  len : ∀ x, (cf x).length = d
  one : ∀ x, ∀ u ∈ cf x, u.oneCell' = true
theorem rowCells_append {α : Type} (cf : α → List Value) (xs ys : List α) : rowCells cf (xs ++ ys) = rowCells cf xs ++ rowCells cf ys := by simp [rowCells]
theorem rowCells_length {α : Type} {cf : α → List Value} {d : Nat} (hl : ∀ x, (cf x).length = d) (zs : List α) : (rowCells cf zs).length = zs.length * d := by
  induction zs with
  | nil => simp [rowCells]
  | cons x r ih =>
    have := hl x
    simp only [rowCells, List.flatMap_cons, List.length_append, List.length_cons] at ih ⊢
    rw [ih, this, Nat.add_mul, Nat.one_mul, Nat.add_comm]
theorem rowCells_get {α : Type} {cf : α → List Value} {d : Nat} (hl : ∀ x, (cf x).length = d) : ∀ (zs : List α) (k : Nat) (hk : k < zs.length) (j : Nat), j < d → (rowCells cf zs)[k * d + j]? = (cf zs[k])[j]? := by
  intro zs
  induction zs with
  | nil => intro k hk; simp at hk
  | cons x r ih =>
    intro k hk j hj
    have hx := hl x
    cases k with
    | zero =>
      simp only [rowCells, List.flatMap_cons, Nat.zero_mul, Nat.zero_add, List.getElem_cons_zero]
      rw [List.getElem?_append_left (by omega)]
    | succ k =>
      have := ih k (by simpa using hk) j hj
      simp only [rowCells, List.flatMap_cons, List.getElem_cons_succ] at this ⊢
      rw [List.getElem?_append_right (by rw [Nat.add_mul]; omega), hx, show (k + 1) * d + j - d = k * d + j by rw [Nat.add_mul]; omega]
      exact this
theorem rowCells_some {α : Type} {cf : α → List Value} {d : Nat} (hl : ∀ x, (cf x).length = d) (hd : 0 < d) {zs : List α} {j : Nat} {u : Value} (h : (rowCells cf zs)[j]? = some u) : ∃ k, ∃ hk : k < zs.length, j = k * d + j % d ∧ (cf zs[k])[j % d]? = some u := by
  have hj : j < zs.length * d := by
    have := (List.getElem?_eq_some_iff.mp h).1
    rwa [rowCells_length hl] at this
  have hk : j / d < zs.length := Nat.div_lt_of_lt_mul (by rw [Nat.mul_comm]; exact hj)
  have e : j = j / d * d + j % d := by have := Nat.div_add_mod j d; rw [Nat.mul_comm] at this; omega
  refine ⟨j / d, hk, e, ?_⟩
  rw [← rowCells_get hl zs (j / d) hk (j % d) (Nat.mod_lt _ hd), ← e]
  exact h
theorem radd (b o j : Nat) : (⟨b, o, none⟩ : Addr).add j = ⟨b, o + j, none⟩ := by unfold Addr.add; split <;> simp_all

section
variable {α : Type} {cf : α → List Value} {d by' : Nat} {z : Value} {sl e : TypeId}
theorem RowTy.mem (T : RowTy cf d by' z sl e) {zs : List α} : ∀ u ∈ rowCells cf zs, u.oneCell' = true := by
  intro u hu
  simp only [rowCells, List.mem_flatMap] at hu
  obtain ⟨x, _, hx⟩ := hu
  exact T.one x u hx
theorem row_cells (T : RowTy cf d by' z sl e) {w : World} {B : Nat} {ad : Addr} {m : Nat} {ys : List α} (h : RowAt cf d w B (some ad) m ys) : ∀ j u, (rowCells cf ys)[j]? = some u → w.cell? (ad.add j) = some u := by
  intro j u hu
  obtain ⟨k, hk, hj, hu'⟩ := rowCells_some T.len T.pos hu
  obtain ⟨b, off, e, _, hc⟩ := h.2 (by have := h.1; omega)
  injection e with e
  subst e
  rw [radd, hj, ← Nat.add_assoc]
  exact hc k hk _ u hu'
theorem rown_form {w : World} {B : Nat} {v : Value} {n : Nat} {xs : List Value} (h : w.ownsRow B e d v n xs) : ∃ A c, v = .slice A n c := by
  rcases h.2 with ⟨rfl, rfl⟩ | ⟨g, cap, _, rfl, _⟩
  · exact ⟨none, 0, rfl⟩
  · exact ⟨_, cap, rfl⟩
theorem own_row (T : RowTy cf d by' z sl e) {w : World} {B : Nat} {A : Option Addr} {n c : Nat} {zs : List α} (h : w.ownsRow B e d (.slice A n c) n (rowCells cf zs)) : RowAt cf d w w.heap.size A n zs := by
  have hl : zs.length = n := by
    have := h.1
    rw [rowCells_length T.len] at this
    exact Nat.eq_of_mul_eq_mul_right T.pos this
  refine ⟨hl, fun hn => ?_⟩
  have hh := h
  obtain ⟨g, cap, hv, _, hlt⟩ := h.form hn
  injection hv with hA
  subst hA
  refine ⟨g, 0, rfl, hlt, fun k hk j u hu => ?_⟩
  have hj : j < d := by
    have := (List.getElem?_eq_some_iff.mp hu).1
    rwa [T.len] at this
  have h1 := rowCells_get T.len zs k hk j hj
  have h2 := hh.cells (g := g) rfl (k * d + j) u (h1.trans hu)
  rw [radd] at h2
  rw [show 0 + k * d + j = 0 + (k * d + j) by omega]
  exact h2
theorem rown_cap {w : World} {B : Nat} {A : Option Addr} {n c : Nat} {xs : List Value} (h : w.ownsRow B e d (.slice A n c) n xs) : n ≤ c := by
  rcases h.2 with ⟨h1, rfl⟩ | ⟨g, cap, _, h1, _, _, hc, _⟩
  · omega
  · injection h1 with _ _ h3; omega
theorem run_append_row (T : RowTy cf d by' z sl e) {ty : TypeId} {w : World} {B B' : Nat} {v : Value} {n : Nat} {zs : List α} (hown : w.ownsRow B e d v n (rowCells cf zs)) {A : Option Addr} {m : Nat} {ys : List α} (c : Nat)
    (hr : RowAt cf d w B' A m ys) (hb : n + m ≤ 1099511627776) (hB : B ≤ w.heap.size) :
    ∃ v' w', (Builtin.append_ #[sl, sl] ty #[v, .slice A m c]).run Tryz.prog w = .ok v' w' ∧ w'.ownsRow B e d v' (n + m) (rowCells cf (zs ++ ys)) ∧ w.grownBy w' v.ownBlock ∧ (v'.ownBlock = v.ownBlock ∨ v'.ownBlock = some w.heap.size) := by
  obtain ⟨i, hi, hz0, hz1, hz2⟩ := info_parts T.i
  rcases A with _ | ad
  · have hm : m = 0 := by
      rcases Nat.eq_zero_or_pos m with h0 | h0
      · exact h0
      · obtain ⟨_, _, h, _⟩ := hr.2 h0
        cases h
    subst hm
    have hy : ys = [] := List.eq_nil_of_length_eq_zero hr.1
    subst hy
    refine ⟨v, w, ?_, by simpa using hown, World.grownBy.refl w _, .inl rfl⟩
    rcases hown.2 with ⟨rfl, rfl⟩ | ⟨g, cap, cur, rfl, _, _, hnc, _⟩
    · simp [Builtin.append_, run_underlying T.u, sizeOf, typeInfo, hi, Builtin.lenOf, Builtin.firstCells]
    · simp [Builtin.append_, run_underlying T.u, sizeOf, typeInfo, hi, Builtin.lenOf, Builtin.firstCells, hnc, storeCells]
  · have hs : (n + m) * by' ≤ 140737488355328 := by
      have := Nat.mul_le_mul hb T.small
      omega
    obtain ⟨v', w', hrun, h2, h3, _, h5⟩ := run_append_own_at (P := Tryz.prog) w B sl ty e i z d by' T.u hi hz0 hz1 hz2 T.zs T.pos v n _ hown ad m c (rowCells cf ys) (by rw [rowCells_length T.len, hr.1]) (row_cells T hr)
      T.mem (by unfold maxLen; omega) hs hB
    exact ⟨v', w', hrun, by rw [rowCells_append]; exact h2, h3, h5⟩
theorem wp_append_row (T : RowTy cf d by' z sl e) {o : Oper} {a : Act} {K : Act → World → Prop} {Q : Exit → Act → World → Prop} (s x : Operand) (ho : o.op = .call { callee := .builtin .append, args := #[s, x], argTypes := #[sl, sl] })
    {w : World} {B B' : Nat} {v : Value} {n : Nat} {zs : List α} (hs : a.eval s = v) (hown : w.ownsRow B e d v n (rowCells cf zs)) {A : Option Addr} {m : Nat} {ys : List α} {c : Nat} (hx : a.eval x = .slice A m c)
    (hr : RowAt cf d w B' A m ys) (hb : n + m ≤ 1099511627776) (hB : B ≤ w.heap.size)
    (h : ∀ A' c' w', w'.ownsRow B e d (.slice A' (n + m) c') (n + m) (rowCells cf (zs ++ ys)) → w.grownBy w' v.ownBlock → (Value.ownBlock (.slice A' (n + m) c') = v.ownBlock ∨ Value.ownBlock (.slice A' (n + m) c') = some w.heap.size) → K (a.put o.dst (.slice A' (n + m) c')) w') : o.wp Tryz.prog a w K Q := by
  obtain ⟨v', w', hrun, h2, h3, h4⟩ := run_append_row T (ty := o.type) hown c hr hb hB
  obtain ⟨A', c', rfl⟩ := rown_form h2
  unfold Oper.wp execOp
  simp only [ho, resolve, invoke, builtin, Sem.run_bind, Sem.run_pure, Result.andThen_ok, List.map_toArray, List.map_cons, List.map_nil, hs, hx, hrun]
  exact h A' c' w' h2 h3 h4
theorem wpList_append_row (T : RowTy cf d by' z sl e) {ops : Array Oper} {rest : List Oper} {o : Oper} {a : Act} {Q : Exit → Act → World → Prop} (hgd : o.guard = none) (s x : Operand) (ho : o.op = .call { callee := .builtin .append, args := #[s, x], argTypes := #[sl, sl] })
    {w : World} {B B' : Nat} {v : Value} {n : Nat} {zs : List α} (hs : a.eval s = v) (hown : w.ownsRow B e d v n (rowCells cf zs)) {A : Option Addr} {m : Nat} {ys : List α} {c : Nat} (hx : a.eval x = .slice A m c)
    (hr : RowAt cf d w B' A m ys) (hb : n + m ≤ 1099511627776) (hB : B ≤ w.heap.size)
    (h : ∀ A' c' w', w'.ownsRow B e d (.slice A' (n + m) c') (n + m) (rowCells cf (zs ++ ys)) → w.grownBy w' v.ownBlock → (Value.ownBlock (.slice A' (n + m) c') = v.ownBlock ∨ Value.ownBlock (.slice A' (n + m) c') = some w.heap.size) → wpList Tryz.prog ops Q rest (a.put o.dst (.slice A' (n + m) c')) w') :
    wpList Tryz.prog ops Q (o :: rest) a w :=
  wpList_plain hgd fun _ hK => wp_append_row T s x ho hs hown hx hr hb hB fun A' c' w' h2 h3 h4 => hK _ _ (h A' c' w' h2 h3 h4)
theorem one_row (T : RowTy cf d by' z sl e) {w : World} {g : Nat} {e' : TypeId} {x : α} {fr : Nat × Nat} (h : w.heap[g]? = some (.cells (cf x).toArray e' fr)) : RowAt cf d w (g + 1) (some ⟨g, 0, none⟩) 1 [x] :=
  ⟨rfl, fun _ => ⟨_, _, rfl, by omega, fun k hk j u hu => by
    obtain rfl : k = 0 := by simpa using hk
    have hj : j < d := by
      have := (List.getElem?_eq_some_iff.mp hu).1
      simpa [T.len] using this
    have := cell_of_row w g j _ _ _ h
    simp only [List.getElem_cons_zero] at hu
    simpa [hu] using this⟩⟩
theorem rown_nil (w : World) (B : Nat) : w.ownsRow B e d (.slice none 0 0) 0 (rowCells cf ([] : List α)) := ⟨by simp [rowCells], .inl ⟨rfl, rfl⟩⟩
theorem rown_grown {w w' : World} {B : Nat} {v : Value} {n : Nat} {xs : List Value} (h : w.ownsRow B e d v n xs) {row : Option Nat} (hg : w.grownBy w' row) (hne : row = none ∨ v.ownBlock ≠ row) : w'.ownsRow B e d v n xs :=
  h.kept (row := row) hg (by
    rcases hne with rfl | hne
    · cases hv : v.ownBlock <;> simp
    · exact .inr hne)
theorem rgrown_of_below {w w' : World} (h : Below w.heap.size w w') (row : Option Nat) : w.grownBy w' row := ⟨h.os, h.tape, h.output, h.size, fun k hk _ => h.block k hk⟩
theorem rown_below {w w' : World} {B : Nat} {v : Value} {n : Nat} {xs : List Value} (h : w.ownsRow B e d v n xs) (hb : Below w.heap.size w w') : w'.ownsRow B e d v n xs :=
  rown_grown h (rgrown_of_below hb none) (.inl rfl)
theorem rown_base {w : World} {B B' : Nat} {v : Value} {n : Nat} {xs : List Value} (h : w.ownsRow B e d v n xs) (hB : B' ≤ B) : w.ownsRow B' e d v n xs := by
  refine ⟨h.1, ?_⟩
  rcases h.2 with h0 | ⟨g, cap, cur, h1, h2, h3⟩
  · exact .inl h0
  · exact .inr ⟨g, cap, cur, h1, Nat.le_trans hB h2, h3⟩
/-- A row of the call's own is answered. -/
def OwnRow (cf : α → List Value) (d : Nat) (e : TypeId) (zs : List α) (w : World) (en : Ending) (w' : World) : Prop :=
  ∃ A c, en = .returned (.slice A zs.length c) ∧ w'.ownsRow w.heap.size e d (.slice A zs.length c) zs.length (rowCells cf zs) ∧ Below w.heap.size w w'
end
end Go.Proofs.YtbookbgfipbaoaaGreatDoor

/- Rows of structs of the call's own: a store of one element; append inside a drawn region. -/
namespace Go.Proofs.YtbookbgfipbaoaaGreatDoor
open Go.RowKit

section
variable {α : Type} {cf : α → List Value} {d by' : Nat} {z : Value} {sl e : TypeId}
theorem step_append_row (T : RowTy cf d by' z sl e) {ops : Array Oper} {o : Oper} {a : Act} {K : Act → World → Prop} {Q : Exit → Act → World → Prop} {E : Prop} (hgd : o.guard = none) (s x : Operand) (ho : o.op = .call { callee := .builtin .append, args := #[s, x], argTypes := #[sl, sl] })
    {w : World} {B B' : Nat} {v : Value} {n : Nat} {zs : List α} (hs : a.eval s = v) (hown : w.ownsRow B e d v n (rowCells cf zs)) {A : Option Addr} {m : Nat} {ys : List α} {c : Nat} (hx : a.eval x = .slice A m c)
    (hr : RowAt cf d w B' A m ys) (hb : n + m ≤ 1099511627776) (hB : B ≤ w.heap.size)
    (h : ∀ A' c' w', w'.ownsRow B e d (.slice A' (n + m) c') (n + m) (rowCells cf (zs ++ ys)) → w.grownBy w' v.ownBlock → (Value.ownBlock (.slice A' (n + m) c') = v.ownBlock ∨ Value.ownBlock (.slice A' (n + m) c') = some w.heap.size) → K (a.put o.dst (.slice A' (n + m) c')) w') :
    if Region.wanted o (yielded ops a.tmps) = true then Oper.wp Tryz.prog o a w K Q else E := by
  have hw : Region.wanted o (yielded ops a.tmps) = true := by simp [Region.wanted, hgd]
  rw [if_pos hw]
  exact wp_append_row T s x ho hs hown hx hr hb hB h
end
end Go.Proofs.YtbookbgfipbaoaaGreatDoor

/- Plain mathematics of rows of ids and numbers: the order of ids, rising rows, how far one is. -/
namespace Go.Proofs.YtbookbgfipbaoaaGreatDoor

/-- The order of two ids. -/
def cmpId (a b : ByteArray) : Int := Lib.compareBytes a.data.toList b.data.toList
theorem cmpId_three (a b : ByteArray) : cmpId a b = -1 ∨ cmpId a b = 0 ∨ cmpId a b = 1 := cmp_three _ _
theorem cmpId_zero (a b : ByteArray) : cmpId a b = 0 ↔ a = b := by
  unfold cmpId
  rw [cmp_zero]
  constructor
  · intro h; exact ByteArray.ext (Array.ext' h)
  · rintro rfl; rfl
theorem cmpId_neg (a b : ByteArray) : cmpId b a = - cmpId a b := cmp_neg _ _
theorem cmpId_le (a b c : ByteArray) (h1 : cmpId a b ≤ 0) (h2 : cmpId b c ≤ 0) : cmpId a c ≤ 0 := cmp_trans _ _ _ h1 h2
theorem cmpId_lt (a b c : ByteArray) (h1 : cmpId a b < 0) (h2 : cmpId b c ≤ 0) : cmpId a c < 0 := by
  have h := cmpId_le a b c (by omega) h2
  rcases cmpId_three a c with e | e | e
  · omega
  · have := (cmpId_zero a c).mp e
    subst this
    have := cmpId_neg a b
    omega
  · omega
abbrev At := ByteArray × Int
def atNil : At := (ByteArray.mk #[], 0)
/-- The ids rise, each stands once. -/
def Rising (zs : List At) : Prop := zs.Pairwise fun x y => cmpId x.1 y.1 < 0
theorem rising_lt {zs : List At} (hs : Rising zs) (i j : Nat) (hij : i < j) (hj : j < zs.length) : cmpId (zs.getD i atNil).1 (zs.getD j atNil).1 < 0 := by
  have := List.pairwise_iff_getElem.1 hs i j (by omega) hj hij
  simpa [List.getD_eq_getElem?_getD, List.getElem?_eq_getElem hj, List.getElem?_eq_getElem (show i < zs.length by omega)] using this
theorem getD_mem {zs : List At} {k : Nat} (hk : k < zs.length) : zs.getD k atNil ∈ zs := by
  rw [List.getD_eq_getElem?_getD, List.getElem?_eq_getElem hk]; exact List.getElem_mem hk
theorem mem_getD {zs : List At} {x : At} (h : x ∈ zs) : ∃ k, k < zs.length ∧ zs.getD k atNil = x := by
  obtain ⟨k, hk, e⟩ := List.mem_iff_getElem.mp h
  exact ⟨k, hk, by rw [List.getD_eq_getElem?_getD, List.getElem?_eq_getElem hk]; exact e⟩

end Go.Proofs.YtbookbgfipbaoaaGreatDoor

/- Rows of ids and numbers (Vec): how they lie in memory; append onto a row of the call's own. -/
namespace Go.Proofs.YtbookbgfipbaoaaGreatDoor
open Go.RowKit

def atCells (zs : List At) : List Value := zs.flatMap fun x => [.string x.1, .int .i64 x.2]

/-- In w the slice (A, n) holds the ids and numbers zs, in a block below B. -/
def VecAt (w : World) (B : Nat) (A : Option Addr) (n : Nat) (zs : List At) : Prop :=
  zs.length = n ∧ (0 < n → ∃ b off, A = some ⟨b, off, none⟩ ∧ b < B ∧ ∀ k, k < n → w.cell? ⟨b, off + k * 2, none⟩ = some (.string (zs.getD k atNil).1) ∧ w.cell? ⟨b, off + k * 2 + 1, none⟩ = some (.int .i64 (zs.getD k atNil).2))

theorem VecAt.nil (w : World) (B : Nat) (A : Option Addr) : VecAt w B A 0 [] := ⟨rfl, fun h => absurd h (by omega)⟩
theorem VecAt.hold {w w' : World} {B : Nat} {A : Option Addr} {n : Nat} {zs : List At} (h : VecAt w B A n zs) (hk : ∀ b o, b < B → w'.cell? ⟨b, o, none⟩ = w.cell? ⟨b, o, none⟩) : VecAt w' B A n zs :=
  ⟨h.1, fun hn => by
    obtain ⟨b, off, e, hlt, hc⟩ := h.2 hn
    exact ⟨b, off, e, hlt, fun k hk' => ⟨(hk b _ hlt).trans (hc k hk').1, (hk b _ hlt).trans (hc k hk').2⟩⟩⟩
theorem VecAt.keep {w w' : World} {B : Nat} {A : Option Addr} {n : Nat} {zs : List At} (h : VecAt w B A n zs) (hb : Below B w w') : VecAt w' B A n zs :=
  h.hold fun b o hlt => hb.cell (p := ⟨b, o, none⟩) hlt
theorem VecAt.more {w : World} {B B' : Nat} {A : Option Addr} {n : Nat} {zs : List At} (h : VecAt w B A n zs) (hB : B ≤ B') : VecAt w B' A n zs :=
  ⟨h.1, fun hn => by
    obtain ⟨b, off, e, hlt, hc⟩ := h.2 hn
    exact ⟨b, off, e, by omega, hc⟩⟩
theorem VecAt.alloc {w : World} {B : Nat} {A : Option Addr} {n : Nat} {zs : List At} (h : VecAt w B A n zs) (hB : B ≤ w.heap.size) (o : Obj) : VecAt (w.alloc o) B A n zs :=
  h.hold fun b k hlt => World.cell?_alloc_lt w o ⟨b, k, none⟩ (by show b < w.heap.size; omega)
theorem VecAt.grown {w w' : World} {B : Nat} {A : Option Addr} {n : Nat} {zs : List At} {row : Option Nat} (h : VecAt w B A n zs) (hg : w.grownBy w' row) (hB : B ≤ w.heap.size) (hr : ∀ g, row = some g → B ≤ g) : VecAt w' B A n zs :=
  h.hold fun b k hlt => World.cell?_of_block (a := ⟨b, k, none⟩) (hg.block b (by omega) (fun e => by have := hr _ e.symm; omega))
theorem atCells_length (zs : List At) : (atCells zs).length = zs.length * 2 := by
  induction zs with
  | nil => rfl
  | cons x r ih => simp only [atCells, List.flatMap_cons, List.length_append, List.length_cons, List.length_nil] at ih ⊢; omega
theorem atCells_append (xs ys : List At) : atCells (xs ++ ys) = atCells xs ++ atCells ys := by simp [atCells]
theorem atCells_get (zs : List At) : ∀ k, k < zs.length → (atCells zs)[k * 2]? = some (.string (zs.getD k atNil).1) ∧ (atCells zs)[k * 2 + 1]? = some (.int .i64 (zs.getD k atNil).2) := by
  induction zs with
  | nil => intro k hk; simp at hk
  | cons x r ih =>
    intro k hk
    cases k with
    | zero => exact ⟨rfl, rfl⟩
    | succ k =>
      have := ih k (by simpa using hk)
      rw [show (k + 1) * 2 = k * 2 + 2 by omega]
      simpa [atCells] using this
theorem atCells_some {zs : List At} {j : Nat} {u : Value} (h : (atCells zs)[j]? = some u) : ∃ k, k < zs.length ∧ ((j = k * 2 ∧ u = .string (zs.getD k atNil).1) ∨ (j = k * 2 + 1 ∧ u = .int .i64 (zs.getD k atNil).2)) := by
  have hj : j < zs.length * 2 := by
    have := (List.getElem?_eq_some_iff.mp h).1
    rwa [atCells_length] at this
  rcases Nat.mod_two_eq_zero_or_one j with hm | hm
  · refine ⟨j / 2, by omega, Or.inl ⟨by omega, ?_⟩⟩
    have := (atCells_get zs (j / 2) (by omega)).1
    rw [show j / 2 * 2 = j by omega, h] at this
    injection this
  · refine ⟨j / 2, by omega, Or.inr ⟨by omega, ?_⟩⟩
    have := (atCells_get zs (j / 2) (by omega)).2
    rw [show j / 2 * 2 + 1 = j by omega, h] at this
    injection this
theorem atCells_one {zs : List At} : ∀ u ∈ atCells zs, u.oneCell' = true := by
  intro u hu
  simp only [atCells, List.mem_flatMap] at hu
  obtain ⟨x, _, hx⟩ := hu
  simp at hx
  rcases hx with rfl | rfl <;> rfl

theorem addr_add (b o j : Nat) : (⟨b, o, none⟩ : Addr).add j = ⟨b, o + j, none⟩ := by unfold Addr.add; split <;> simp_all
theorem vec_cells {w : World} {B : Nat} {ad : Addr} {m : Nat} {ys : List At} (h : VecAt w B (some ad) m ys) : ∀ j u, (atCells ys)[j]? = some u → w.cell? (ad.add j) = some u := by
  intro j u hu
  obtain ⟨k, hk, hj⟩ := atCells_some hu
  obtain ⟨b, off, e, _, hc⟩ := h.2 (by have := h.1; omega)
  injection e with e
  subst e
  have h1 := hc k (by have := h.1; omega)
  rw [addr_add]
  rcases hj with ⟨rfl, rfl⟩ | ⟨rfl, rfl⟩
  · exact h1.1
  · exact h1.2

/-- The two kinds of rows: the program's and the document's. -/
structure AtTy (sl e : TypeId) : Prop where
  u : Tryz.prog.underlying sl = some (.slice e)
  i : (Tryz.prog.info? e).map (fun i => (i.zero, i.size, i.bytes)) = some (some (.agg #[.string ⟨#[]⟩, .int .i64 0]), 2, 24)
theorem vecTy : AtTy 38 95 := ⟨Tryz.underlying38, by kernel_rfl⟩
theorem own_form {w : World} {B : Nat} {e : TypeId} {v : Value} {n : Nat} {xs : List Value} (h : w.ownsRow B e 2 v n xs) : ∃ A c, v = .slice A n c := by
  rcases h.2 with ⟨rfl, rfl⟩ | ⟨g, cap, _, rfl, _⟩
  · exact ⟨none, 0, rfl⟩
  · exact ⟨_, cap, rfl⟩
theorem own_vec {w : World} {B : Nat} {e : TypeId} {A : Option Addr} {n c : Nat} {zs : List At} (h : w.ownsRow B e 2 (.slice A n c) n (atCells zs)) : VecAt w w.heap.size A n zs := by
  have hl : zs.length = n := by have := h.1; rw [atCells_length] at this; omega
  refine ⟨hl, fun hn => ?_⟩
  have hh := h
  obtain ⟨g, cap, hv, _, hlt⟩ := h.form hn
  injection hv with hA
  subst hA
  refine ⟨g, 0, rfl, hlt, fun k hk => ?_⟩
  have h1 := atCells_get zs k (by omega)
  have h2 := hh.cells (g := g) rfl (k * 2) _ h1.1
  have h3 := hh.cells (g := g) rfl (k * 2 + 1) _ h1.2
  rw [addr_add] at h2 h3
  exact ⟨h2, h3⟩
theorem own_lt {w : World} {B : Nat} {e : TypeId} {v : Value} {n : Nat} {xs : List Value} (h : w.ownsRow B e 2 v n xs) {g : Nat} (hg : v.ownBlock = some g) : B ≤ g ∧ g < w.heap.size := h.lt g hg

theorem run_append_at {sl e ty : TypeId} (T : AtTy sl e) {w : World} {B B' : Nat} {v : Value} {n : Nat} {zs : List At} (hown : w.ownsRow B e 2 v n (atCells zs)) {A : Option Addr} {m : Nat} {ys : List At} (c : Nat)
    (hr : VecAt w B' A m ys) (hb : n + m ≤ 1099511627776) (hB : B ≤ w.heap.size) :
    ∃ v' w', (Builtin.append_ #[sl, sl] ty #[v, .slice A m c]).run Tryz.prog w = .ok v' w' ∧ w'.ownsRow B e 2 v' (n + m) (atCells (zs ++ ys)) ∧ w.grownBy w' v.ownBlock ∧ (v'.ownBlock = v.ownBlock ∨ v'.ownBlock = some w.heap.size) := by
  obtain ⟨i, hi, hz0, hz1, hz2⟩ := info_parts T.i
  rcases A with _ | ad
  · have hm : m = 0 := by
      rcases Nat.eq_zero_or_pos m with h0 | h0
      · exact h0
      · obtain ⟨_, _, h, _⟩ := hr.2 h0
        cases h
    subst hm
    have hy : ys = [] := List.eq_nil_of_length_eq_zero hr.1
    subst hy
    refine ⟨v, w, ?_, by simpa using hown, World.grownBy.refl w _, .inl rfl⟩
    rcases hown.2 with ⟨rfl, rfl⟩ | ⟨g, cap, cur, rfl, _, _, hnc, _⟩
    · simp [Builtin.append_, run_underlying T.u, sizeOf, typeInfo, hi, Builtin.lenOf, Builtin.firstCells]
    · simp [Builtin.append_, run_underlying T.u, sizeOf, typeInfo, hi, Builtin.lenOf, Builtin.firstCells, hnc, storeCells]
  · obtain ⟨v', w', hrun, h2, h3, _, h5⟩ := run_append_own_at (P := Tryz.prog) w B sl ty e i (.agg #[.string ⟨#[]⟩, .int .i64 0]) 2 24 T.u hi hz0 hz1 hz2 rfl (by decide) v n _ hown ad m c (atCells ys) (by rw [atCells_length, hr.1]) (vec_cells hr)
      atCells_one (by unfold maxLen; omega) (by omega) hB
    exact ⟨v', w', hrun, by rw [atCells_append]; exact h2, h3, h5⟩

theorem wp_append_at {o : Oper} {a : Act} {K : Act → World → Prop} {Q : Exit → Act → World → Prop} {sl e : TypeId} (T : AtTy sl e) (s x : Operand) (ho : o.op = .call { callee := .builtin .append, args := #[s, x], argTypes := #[sl, sl] })
    {w : World} {B B' : Nat} {v : Value} {n : Nat} {zs : List At} (hs : a.eval s = v) (hown : w.ownsRow B e 2 v n (atCells zs)) {A : Option Addr} {m : Nat} {ys : List At} {c : Nat} (hx : a.eval x = .slice A m c)
    (hr : VecAt w B' A m ys) (hb : n + m ≤ 1099511627776) (hB : B ≤ w.heap.size)
    (h : ∀ A' c' w', w'.ownsRow B e 2 (.slice A' (n + m) c') (n + m) (atCells (zs ++ ys)) → w.grownBy w' v.ownBlock → (Value.ownBlock (.slice A' (n + m) c') = v.ownBlock ∨ Value.ownBlock (.slice A' (n + m) c') = some w.heap.size) → K (a.put o.dst (.slice A' (n + m) c')) w') : o.wp Tryz.prog a w K Q := by
  obtain ⟨v', w', hrun, h2, h3, h4⟩ := run_append_at (ty := o.type) T hown c hr hb hB
  obtain ⟨A', c', rfl⟩ := own_form h2
  unfold Oper.wp execOp
  simp only [ho, resolve, invoke, builtin, Sem.run_bind, Sem.run_pure, Result.andThen_ok, List.map_toArray, List.map_cons, List.map_nil, hs, hx, hrun]
  exact h A' c' w' h2 h3 h4
theorem step_append_at {ops : Array Oper} {o : Oper} {a : Act} {K : Act → World → Prop} {Q : Exit → Act → World → Prop} {E : Prop} {sl e : TypeId} (T : AtTy sl e) (hgd : o.guard = none) (s x : Operand) (ho : o.op = .call { callee := .builtin .append, args := #[s, x], argTypes := #[sl, sl] })
    {w : World} {B B' : Nat} {v : Value} {n : Nat} {zs : List At} (hs : a.eval s = v) (hown : w.ownsRow B e 2 v n (atCells zs)) {A : Option Addr} {m : Nat} {ys : List At} {c : Nat} (hx : a.eval x = .slice A m c)
    (hr : VecAt w B' A m ys) (hb : n + m ≤ 1099511627776) (hB : B ≤ w.heap.size)
    (h : ∀ A' c' w', w'.ownsRow B e 2 (.slice A' (n + m) c') (n + m) (atCells (zs ++ ys)) → w.grownBy w' v.ownBlock → (Value.ownBlock (.slice A' (n + m) c') = v.ownBlock ∨ Value.ownBlock (.slice A' (n + m) c') = some w.heap.size) → K (a.put o.dst (.slice A' (n + m) c')) w') :
    if Region.wanted o (yielded ops a.tmps) = true then Oper.wp Tryz.prog o a w K Q else E := by
  have hw : Region.wanted o (yielded ops a.tmps) = true := by simp [Region.wanted, hgd]
  rw [if_pos hw]
  exact wp_append_at T s x ho hs hown hx hr hb hB h

/-- The row of one element that append lays first. -/
theorem one_at {w : World} {g : Nat} {e : TypeId} {s : ByteArray} {n : Int} {fr : Nat × Nat} (h : w.heap[g]? = some (.cells #[.string s, .int .i64 n] e fr)) : VecAt w (g + 1) (some ⟨g, 0, none⟩) 1 [(s, n)] :=
  ⟨rfl, fun _ => ⟨_, _, rfl, by omega, fun k hk => by
    obtain rfl : k = 0 := by omega
    exact ⟨by have := cell_of_row w g 0 _ _ _ h; simpa using this, by have := cell_of_row w g 1 _ _ _ h; simpa using this⟩⟩⟩

theorem grown_below {w w' : World} {B : Nat} {row : Option Nat} (hg : w.grownBy w' row) (hB : B ≤ w.heap.size) (hr : ∀ g, row = some g → B ≤ g) : Below B w w' :=
  ⟨hg.os, hg.tape, hg.output, hg.size, fun k hk => hg.block k (by omega) (fun e => by have := hr _ e.symm; omega)⟩
theorem own_nil (w : World) (B : Nat) (e : TypeId) : w.ownsRow B e 2 (.slice none 0 0) 0 (atCells []) := ⟨rfl, .inl ⟨rfl, rfl⟩⟩
end Go.Proofs.YtbookbgfipbaoaaGreatDoor

/- vec.order, the library's binary search by it, and vec.Of. -/
namespace Go.Proofs.YtbookbgfipbaoaaGreatDoor
open Go.RowKit

/-- The cells of one element, in a world that came behind. -/
theorem VecAt.cells {w wr : World} {B : Nat} {A : Option Addr} {n : Nat} {zs : List At} (h : VecAt w B A n zs) (hb : Below B w wr) {k : Nat} (hk : k < n) :
    ∃ b off, A = some ⟨b, off, none⟩ ∧ b < B ∧ wr.cell? ⟨b, off + k * 2, none⟩ = some (.string (zs.getD k atNil).1) ∧ wr.cell? ⟨b, off + k * 2 + 1, none⟩ = some (.int .i64 (zs.getD k atNil).2) := by
  obtain ⟨b, off, e, hlt, hc⟩ := (h.keep hb).2 (by omega)
  exact ⟨b, off, e, hlt, hc k hk⟩

end Go.Proofs.YtbookbgfipbaoaaGreatDoor

/- vec.Within and vec.Right. -/
namespace Go.Proofs.YtbookbgfipbaoaaGreatDoor
open Go.RowKit

end Go.Proofs.YtbookbgfipbaoaaGreatDoor
