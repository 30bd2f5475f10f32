/- The document's Put of an item. -/
import Derived.Test.YtbookbgfipbaoaaGreatDoorH8
import Derived.Test.YtbookbgfipbaoaaGreatDoorH26
namespace Go.Proofs.YtbookbgfipbaoaaGreatDoor.By
open Go.RowKit

set_option maxRecDepth 100000 in
set_option maxHeartbeats 4000000 in
theorem refItemPut_any (A : Option Addr) (c g : Nat) (bs : List UInt8) (i : Itm) (w : World) (hz : BytesAt w g A bs.length bs) (hl : bs.length ≤ 100000000) :
    Calls Tryz.prog 55 #[.slice A bs.length c, refV i] w (OwnBytes (putItm bs i) w) := by
  have HR := Lib.hid (refRight_any i)
  have HPI := Lib.hid (show putItm bs i = if rightI i then bs ++ bytesF i else bs from rfl)
  have hbd : rightI i = true → _ := fun h => (right_bounds h)
  have hbv : rightI i = true → _ := fun h => (rightV_bounds (right_bounds h).2.2.1)
  have hbw : rightI i = true → _ := fun h => (whole_bounds (right_bounds h).2.2.2.1)
  have HF := Lib.hid (show bytesF i = headF i ++ tailF i from rfl)
  obtain ⟨key, ⟨d, a, s⟩, dead, x, y, text, held⟩ := i
  unfold headF tailF at HF
  unfold refV at *
  simp only at HR HPI hbd hbv hbw HF ⊢
  generalize putItm bs ⟨key, ⟨d, a, s⟩, dead, x, y, text, held⟩ = PF at *
  generalize bytesF ⟨key, ⟨d, a, s⟩, dead, x, y, text, held⟩ = F at *
  rcases hri : rightI ⟨key, ⟨d, a, s⟩, dead, x, y, text, held⟩ with _ | _
  · clear hbd hbv hbw HF
    rw [hri] at HR HPI
    go_enter Tryz.func55, Tryz.ntmps55
    go_wp2_with fail
    refine (HR.out _).mono ?_
    rintro e w1 ⟨rfl, hb⟩
    have hb0 : Below w.heap.size w (w.alloc (.cells #[.int .i64 key, .string d, .int .i64 a, .int .i64 s, .bool dead, .int .i64 x, .int .i64 y, .string text, .bool held] 75)) := (Below.refl _ _).alloc (Nat.le_refl _) _
    have HZ := Lib.hid ((hz.keep hb0).keep hb)
    have HB : Hid (Below w.heap.size w w1) := hb0.trans (hb.mono hb0.size)
    clear hb hb0 hz HR
    have HB0 : Hid (Below w.heap.size w (w1.alloc (.cells #[] 5))) := HB.out.alloc HB.out.size _
    have HO0 : Hid ((w1.alloc (.cells #[] 5)).ownsRow w1.heap.size 5 1 (.slice (some ⟨w1.heap.size, 0, none⟩) 0 0) 0 (bytesV [])) := own_empty w1
    have HZ0 : Hid (BytesAt (w1.alloc (.cells #[] 5)) g A bs.length bs) := HZ.out.keep ((Below.refl _ _).alloc (Nat.le_refl _) _)
    have hw1 := HB.out.size
    go_wp2_with (at_builtin; refine wpList_append_bytes (B := w1.heap.size) (g := g) (v := .slice (some ⟨w1.heap.size, 0, none⟩) 0 0) (n := 0) (zs := []) (A := A) (m := bs.length) (c := c) (ys := bs) rfl _ _ rfl rfl HO0.out rfl HZ0.out (by omega) (by simp) ?_; intro A3 c3 w3 hown3 hg3 _; have HO3 := Lib.hid hown3; have HB3 : Hid (Below w.heap.size w w3) := HB0.out.grown hg3 HB0.out.size (fun k e => by simp [Value.ownBlock] at e; omega); clear hown3 hg3)
    go_ret
    have e : PF = bs := HPI.out
    rw [e]
    refine ⟨A3, c3, rfl, ?_, HB3.out⟩
    have h3 := own_base HO3.out hw1
    rwa [Nat.zero_add] at h3
  · have hbd := hbd hri
    have hbv := hbv hri
    have hbw := hbw hri
    rw [hri] at HR HPI
    go_enter Tryz.func55, Tryz.ntmps55
    go_wp2_with fail
    refine (HR.out _).mono ?_
    rintro e w1 ⟨rfl, hb⟩
    have hb0 : Below w.heap.size w (w.alloc (.cells #[.int .i64 key, .string d, .int .i64 a, .int .i64 s, .bool dead, .int .i64 x, .int .i64 y, .string text, .bool held] 75)) := (Below.refl _ _).alloc (Nat.le_refl _) _
    have HZ := Lib.hid ((hz.keep hb0).keep hb)
    have k0 : (w.alloc (.cells #[.int .i64 key, .string d, .int .i64 a, .int .i64 s, .bool dead, .int .i64 x, .int .i64 y, .string text, .bool held] 75)).cell? ⟨w.heap.size, 0, none⟩ = some (.int .i64 key) := by simp [go_sem]
    have kf0 : (w.alloc (.cells #[.int .i64 key, .string d, .int .i64 a, .int .i64 s, .bool dead, .int .i64 x, .int .i64 y, .string text, .bool held] 75)).frozen? ⟨w.heap.size, 0, none⟩ = false := by simp [go_sem]
    have k1 : (w.alloc (.cells #[.int .i64 key, .string d, .int .i64 a, .int .i64 s, .bool dead, .int .i64 x, .int .i64 y, .string text, .bool held] 75)).cell? ⟨w.heap.size, 1, none⟩ = some (.string d) := by simp [go_sem]
    have kf1 : (w.alloc (.cells #[.int .i64 key, .string d, .int .i64 a, .int .i64 s, .bool dead, .int .i64 x, .int .i64 y, .string text, .bool held] 75)).frozen? ⟨w.heap.size, 1, none⟩ = false := by simp [go_sem]
    have k2 : (w.alloc (.cells #[.int .i64 key, .string d, .int .i64 a, .int .i64 s, .bool dead, .int .i64 x, .int .i64 y, .string text, .bool held] 75)).cell? ⟨w.heap.size, 2, none⟩ = some (.int .i64 a) := by simp [go_sem]
    have kf2 : (w.alloc (.cells #[.int .i64 key, .string d, .int .i64 a, .int .i64 s, .bool dead, .int .i64 x, .int .i64 y, .string text, .bool held] 75)).frozen? ⟨w.heap.size, 2, none⟩ = false := by simp [go_sem]
    have k3 : (w.alloc (.cells #[.int .i64 key, .string d, .int .i64 a, .int .i64 s, .bool dead, .int .i64 x, .int .i64 y, .string text, .bool held] 75)).cell? ⟨w.heap.size, 3, none⟩ = some (.int .i64 s) := by simp [go_sem]
    have kf3 : (w.alloc (.cells #[.int .i64 key, .string d, .int .i64 a, .int .i64 s, .bool dead, .int .i64 x, .int .i64 y, .string text, .bool held] 75)).frozen? ⟨w.heap.size, 3, none⟩ = false := by simp [go_sem]
    have k4 : (w.alloc (.cells #[.int .i64 key, .string d, .int .i64 a, .int .i64 s, .bool dead, .int .i64 x, .int .i64 y, .string text, .bool held] 75)).cell? ⟨w.heap.size, 4, none⟩ = some (.bool dead) := by simp [go_sem]
    have kf4 : (w.alloc (.cells #[.int .i64 key, .string d, .int .i64 a, .int .i64 s, .bool dead, .int .i64 x, .int .i64 y, .string text, .bool held] 75)).frozen? ⟨w.heap.size, 4, none⟩ = false := by simp [go_sem]
    have k5 : (w.alloc (.cells #[.int .i64 key, .string d, .int .i64 a, .int .i64 s, .bool dead, .int .i64 x, .int .i64 y, .string text, .bool held] 75)).cell? ⟨w.heap.size, 5, none⟩ = some (.int .i64 x) := by simp [go_sem]
    have kf5 : (w.alloc (.cells #[.int .i64 key, .string d, .int .i64 a, .int .i64 s, .bool dead, .int .i64 x, .int .i64 y, .string text, .bool held] 75)).frozen? ⟨w.heap.size, 5, none⟩ = false := by simp [go_sem]
    have k6 : (w.alloc (.cells #[.int .i64 key, .string d, .int .i64 a, .int .i64 s, .bool dead, .int .i64 x, .int .i64 y, .string text, .bool held] 75)).cell? ⟨w.heap.size, 6, none⟩ = some (.int .i64 y) := by simp [go_sem]
    have kf6 : (w.alloc (.cells #[.int .i64 key, .string d, .int .i64 a, .int .i64 s, .bool dead, .int .i64 x, .int .i64 y, .string text, .bool held] 75)).frozen? ⟨w.heap.size, 6, none⟩ = false := by simp [go_sem]
    have k7 : (w.alloc (.cells #[.int .i64 key, .string d, .int .i64 a, .int .i64 s, .bool dead, .int .i64 x, .int .i64 y, .string text, .bool held] 75)).cell? ⟨w.heap.size, 7, none⟩ = some (.string text) := by simp [go_sem]
    have kf7 : (w.alloc (.cells #[.int .i64 key, .string d, .int .i64 a, .int .i64 s, .bool dead, .int .i64 x, .int .i64 y, .string text, .bool held] 75)).frozen? ⟨w.heap.size, 7, none⟩ = false := by simp [go_sem]
    have k8 : (w.alloc (.cells #[.int .i64 key, .string d, .int .i64 a, .int .i64 s, .bool dead, .int .i64 x, .int .i64 y, .string text, .bool held] 75)).cell? ⟨w.heap.size, 8, none⟩ = some (.bool held) := by simp [go_sem]
    have kf8 : (w.alloc (.cells #[.int .i64 key, .string d, .int .i64 a, .int .i64 s, .bool dead, .int .i64 x, .int .i64 y, .string text, .bool held] 75)).frozen? ⟨w.heap.size, 8, none⟩ = false := by simp [go_sem]
    have kz : w.heap.size < (w.alloc (.cells #[.int .i64 key, .string d, .int .i64 a, .int .i64 s, .bool dead, .int .i64 x, .int .i64 y, .string text, .bool held] 75)).heap.size := by simp <;> omega
    replace k0 := (hb.cell (p := ⟨w.heap.size, 0, none⟩) kz).trans k0
    replace kf0 := (hb.frozen (p := ⟨w.heap.size, 0, none⟩) kz).trans kf0
    replace k1 := (hb.cell (p := ⟨w.heap.size, 1, none⟩) kz).trans k1
    replace kf1 := (hb.frozen (p := ⟨w.heap.size, 1, none⟩) kz).trans kf1
    replace k2 := (hb.cell (p := ⟨w.heap.size, 2, none⟩) kz).trans k2
    replace kf2 := (hb.frozen (p := ⟨w.heap.size, 2, none⟩) kz).trans kf2
    replace k3 := (hb.cell (p := ⟨w.heap.size, 3, none⟩) kz).trans k3
    replace kf3 := (hb.frozen (p := ⟨w.heap.size, 3, none⟩) kz).trans kf3
    replace k4 := (hb.cell (p := ⟨w.heap.size, 4, none⟩) kz).trans k4
    replace kf4 := (hb.frozen (p := ⟨w.heap.size, 4, none⟩) kz).trans kf4
    replace k5 := (hb.cell (p := ⟨w.heap.size, 5, none⟩) kz).trans k5
    replace kf5 := (hb.frozen (p := ⟨w.heap.size, 5, none⟩) kz).trans kf5
    replace k6 := (hb.cell (p := ⟨w.heap.size, 6, none⟩) kz).trans k6
    replace kf6 := (hb.frozen (p := ⟨w.heap.size, 6, none⟩) kz).trans kf6
    replace k7 := (hb.cell (p := ⟨w.heap.size, 7, none⟩) kz).trans k7
    replace kf7 := (hb.frozen (p := ⟨w.heap.size, 7, none⟩) kz).trans kf7
    replace k8 := (hb.cell (p := ⟨w.heap.size, 8, none⟩) kz).trans k8
    replace kf8 := (hb.frozen (p := ⟨w.heap.size, 8, none⟩) kz).trans kf8
    replace kz := Nat.lt_of_lt_of_le kz hb.size
    have HB : Hid (Below w.heap.size w w1) := hb0.trans (hb.mono hb0.size)
    clear hb hb0 hz HR
    obtain ⟨bd1, bd2, _, _, bd5, bd6, bd7⟩ := hbd
    obtain ⟨_, bv2, bv3, bv4, bv5, bv6⟩ := hbv
    obtain ⟨bw1, bw2, bw3, bw4⟩ := hbw
    have e1 : d.data.size = d.size := rfl
    have e2 : text.data.size = text.size := rfl
    have d1 := digits_le key (by omega)
    have d2 := digits_le d.size (by omega)
    have d3 := digits_le a (by omega)
    have d4 := digits_le s (by omega)
    have d5 := digits_le (x + 1000) (by omega)
    have d6 := digits_le (y + 1000) (by omega)
    have d7 := digits_le text.size (by omega)
    rw [Int.toNat_natCast] at d2 d7
    have dk0 : (digitsF (Int.toNat 0)).length = 1 := by rw [show Int.toNat 0 = 0 from rfl, digitsF_small (by decide)]; rfl
    have dk1 : (digitsF (Int.toNat 1)).length = 1 := by rw [show Int.toNat 1 = 1 from rfl, digitsF_small (by decide)]; rfl
    have dk2 : (digitsF (Int.toNat 2)).length = 1 := by rw [show Int.toNat 2 = 2 from rfl, digitsF_small (by decide)]; rfl
    go_wp2_with fail
    refine (refPut_any A c g bs (key) _ (by exact HZ.out) (by omega) (by omega)).mono ?_
    generalize hL1 : bs ++ digitsF key.toNat = L1 at *
    have HL1 := Lib.hid hL1
    have hl1 : L1.length ≤ 100000000 + 40 := by rw [← hL1]; simp only [List.length_append]; omega
    clear hL1
    rintro e v1 ⟨A1, c1, rfl, hown, hb⟩
    have HO1 := Lib.hid hown
    obtain ⟨g1, hz, _, _, _⟩ := own_bytes hown
    have HZ1 := Lib.hid hz
    replace k0 := (hb.cell (p := ⟨w.heap.size, 0, none⟩) kz).trans k0
    replace kf0 := (hb.frozen (p := ⟨w.heap.size, 0, none⟩) kz).trans kf0
    replace k1 := (hb.cell (p := ⟨w.heap.size, 1, none⟩) kz).trans k1
    replace kf1 := (hb.frozen (p := ⟨w.heap.size, 1, none⟩) kz).trans kf1
    replace k2 := (hb.cell (p := ⟨w.heap.size, 2, none⟩) kz).trans k2
    replace kf2 := (hb.frozen (p := ⟨w.heap.size, 2, none⟩) kz).trans kf2
    replace k3 := (hb.cell (p := ⟨w.heap.size, 3, none⟩) kz).trans k3
    replace kf3 := (hb.frozen (p := ⟨w.heap.size, 3, none⟩) kz).trans kf3
    replace k4 := (hb.cell (p := ⟨w.heap.size, 4, none⟩) kz).trans k4
    replace kf4 := (hb.frozen (p := ⟨w.heap.size, 4, none⟩) kz).trans kf4
    replace k5 := (hb.cell (p := ⟨w.heap.size, 5, none⟩) kz).trans k5
    replace kf5 := (hb.frozen (p := ⟨w.heap.size, 5, none⟩) kz).trans kf5
    replace k6 := (hb.cell (p := ⟨w.heap.size, 6, none⟩) kz).trans k6
    replace kf6 := (hb.frozen (p := ⟨w.heap.size, 6, none⟩) kz).trans kf6
    replace k7 := (hb.cell (p := ⟨w.heap.size, 7, none⟩) kz).trans k7
    replace kf7 := (hb.frozen (p := ⟨w.heap.size, 7, none⟩) kz).trans kf7
    replace k8 := (hb.cell (p := ⟨w.heap.size, 8, none⟩) kz).trans k8
    replace kf8 := (hb.frozen (p := ⟨w.heap.size, 8, none⟩) kz).trans kf8
    replace kz := Nat.lt_of_lt_of_le kz hb.size
    have hbs1 := HB.out.size
    replace HB := Lib.hid (below_via HB.out hb HB.out.size ⟨rfl, rfl, rfl, rfl⟩)
    clear hown hz hb
    go_wp2_with fail
    refine (refPutText_any A1 c1 g1 L1 d _ (by exact HZ1.out) (by omega) (by omega)).mono ?_
    generalize hL2 : L1 ++ (digitsF d.size ++ d.data.toList) = L2 at *
    have HL2 := Lib.hid hL2
    have hl2 : L2.length ≤ 100000000 + 80 := by rw [← hL2]; simp only [List.length_append, Array.length_toList]; omega
    clear hL2
    rintro e v2 ⟨A2, c2, rfl, hown, hb⟩
    have HO2 := Lib.hid hown
    obtain ⟨g2, hz, _, _, _⟩ := own_bytes hown
    have HZ2 := Lib.hid hz
    replace k0 := (hb.cell (p := ⟨w.heap.size, 0, none⟩) kz).trans k0
    replace kf0 := (hb.frozen (p := ⟨w.heap.size, 0, none⟩) kz).trans kf0
    replace k1 := (hb.cell (p := ⟨w.heap.size, 1, none⟩) kz).trans k1
    replace kf1 := (hb.frozen (p := ⟨w.heap.size, 1, none⟩) kz).trans kf1
    replace k2 := (hb.cell (p := ⟨w.heap.size, 2, none⟩) kz).trans k2
    replace kf2 := (hb.frozen (p := ⟨w.heap.size, 2, none⟩) kz).trans kf2
    replace k3 := (hb.cell (p := ⟨w.heap.size, 3, none⟩) kz).trans k3
    replace kf3 := (hb.frozen (p := ⟨w.heap.size, 3, none⟩) kz).trans kf3
    replace k4 := (hb.cell (p := ⟨w.heap.size, 4, none⟩) kz).trans k4
    replace kf4 := (hb.frozen (p := ⟨w.heap.size, 4, none⟩) kz).trans kf4
    replace k5 := (hb.cell (p := ⟨w.heap.size, 5, none⟩) kz).trans k5
    replace kf5 := (hb.frozen (p := ⟨w.heap.size, 5, none⟩) kz).trans kf5
    replace k6 := (hb.cell (p := ⟨w.heap.size, 6, none⟩) kz).trans k6
    replace kf6 := (hb.frozen (p := ⟨w.heap.size, 6, none⟩) kz).trans kf6
    replace k7 := (hb.cell (p := ⟨w.heap.size, 7, none⟩) kz).trans k7
    replace kf7 := (hb.frozen (p := ⟨w.heap.size, 7, none⟩) kz).trans kf7
    replace k8 := (hb.cell (p := ⟨w.heap.size, 8, none⟩) kz).trans k8
    replace kf8 := (hb.frozen (p := ⟨w.heap.size, 8, none⟩) kz).trans kf8
    replace kz := Nat.lt_of_lt_of_le kz hb.size
    have hbs2 := HB.out.size
    replace HB := Lib.hid (below_via HB.out hb HB.out.size ⟨rfl, rfl, rfl, rfl⟩)
    clear hown hz hb
    go_upto_region 5 with fail
    refine wp_region_held_drew (S := fun w' => w'.cell? ⟨w.heap.size, 0, none⟩ = some (.int .i64 key) ∧ w'.cell? ⟨w.heap.size, 1, none⟩ = some (.string d) ∧ w'.cell? ⟨w.heap.size, 2, none⟩ = some (.int .i64 a) ∧ w'.cell? ⟨w.heap.size, 3, none⟩ = some (.int .i64 s) ∧ w'.cell? ⟨w.heap.size, 4, none⟩ = some (.bool dead) ∧ w'.cell? ⟨w.heap.size, 5, none⟩ = some (.int .i64 x) ∧ w'.cell? ⟨w.heap.size, 6, none⟩ = some (.int .i64 y) ∧ w'.cell? ⟨w.heap.size, 7, none⟩ = some (.string text) ∧ w'.cell? ⟨w.heap.size, 8, none⟩ = some (.bool held)) (by kernel_rfl) ⟨k0, k1, k2, k3, k4, k5, k6, k7, k8⟩ (fun hHeld => ?_)
    refine tk 0 ?_
    refine tk 1 ?_
    refine tk 2 ?_
    refine tk 3 ?_
    refine tk 5 ?_
    refine tk 6 ?_
    refine tk 7 ?_
    refine wpAnyH_ready (rs := [4]) (by kernel_rfl) (by simp) ?_
    refine ac (fun K hK => ?_) AllReadyH.nil
    go_simp
    go_at_call 52
    refine (refPut_any A2 c2 g2 L2 (a) _ (by exact HZ2.out) (by omega) (by omega)).mono ?_
    generalize hL3 : L2 ++ digitsF a.toNat = L3 at *
    have HL3 := Lib.hid hL3
    have hl3 : L3.length ≤ 100000000 + 120 := by rw [← hL3]; simp only [List.length_append]; omega
    clear hL3
    rintro e v3 ⟨A3, c3, rfl, hown, hb⟩
    have HO3 := Lib.hid hown
    obtain ⟨g3, hz, _, _, _⟩ := own_bytes hown
    have HZ3 := Lib.hid hz
    replace k0 := (hb.cell (p := ⟨w.heap.size, 0, none⟩) kz).trans k0
    replace kf0 := (hb.frozen (p := ⟨w.heap.size, 0, none⟩) kz).trans kf0
    replace k1 := (hb.cell (p := ⟨w.heap.size, 1, none⟩) kz).trans k1
    replace kf1 := (hb.frozen (p := ⟨w.heap.size, 1, none⟩) kz).trans kf1
    replace k2 := (hb.cell (p := ⟨w.heap.size, 2, none⟩) kz).trans k2
    replace kf2 := (hb.frozen (p := ⟨w.heap.size, 2, none⟩) kz).trans kf2
    replace k3 := (hb.cell (p := ⟨w.heap.size, 3, none⟩) kz).trans k3
    replace kf3 := (hb.frozen (p := ⟨w.heap.size, 3, none⟩) kz).trans kf3
    replace k4 := (hb.cell (p := ⟨w.heap.size, 4, none⟩) kz).trans k4
    replace kf4 := (hb.frozen (p := ⟨w.heap.size, 4, none⟩) kz).trans kf4
    replace k5 := (hb.cell (p := ⟨w.heap.size, 5, none⟩) kz).trans k5
    replace kf5 := (hb.frozen (p := ⟨w.heap.size, 5, none⟩) kz).trans kf5
    replace k6 := (hb.cell (p := ⟨w.heap.size, 6, none⟩) kz).trans k6
    replace kf6 := (hb.frozen (p := ⟨w.heap.size, 6, none⟩) kz).trans kf6
    replace k7 := (hb.cell (p := ⟨w.heap.size, 7, none⟩) kz).trans k7
    replace kf7 := (hb.frozen (p := ⟨w.heap.size, 7, none⟩) kz).trans kf7
    replace k8 := (hb.cell (p := ⟨w.heap.size, 8, none⟩) kz).trans k8
    replace kf8 := (hb.frozen (p := ⟨w.heap.size, 8, none⟩) kz).trans kf8
    replace kz := Nat.lt_of_lt_of_le kz hb.size
    have hbs3 := HB.out.size
    replace HB := Lib.hid (below_via HB.out hb HB.out.size ⟨rfl, rfl, rfl, rfl⟩)
    clear hown hz hb
    refine hK.out _ _ ⟨k0, k1, k2, k3, k4, k5, k6, k7, k8⟩ (fun hHeld => ?_)
    clear hK K
    try simp only [Act.put, List.setIfInBounds_toArray, List.set_cons_zero, List.set_cons_succ]
    refine wpAnyH_ready (rs := [8]) (by kernel_rfl) (by simp) ?_
    refine ac (fun K hK => ?_) AllReadyH.nil
    go_simp
    go_at_call 52
    refine (refPut_any A3 c3 g3 L3 (s) _ (by exact HZ3.out) (by omega) (by omega)).mono ?_
    generalize hL4 : L3 ++ digitsF s.toNat = L4 at *
    have HL4 := Lib.hid hL4
    have hl4 : L4.length ≤ 100000000 + 160 := by rw [← hL4]; simp only [List.length_append]; omega
    clear hL4
    rintro e v4 ⟨A4, c4, rfl, hown, hb⟩
    have HO4 := Lib.hid hown
    obtain ⟨g4, hz, _, _, _⟩ := own_bytes hown
    have HZ4 := Lib.hid hz
    replace k0 := (hb.cell (p := ⟨w.heap.size, 0, none⟩) kz).trans k0
    replace kf0 := (hb.frozen (p := ⟨w.heap.size, 0, none⟩) kz).trans kf0
    replace k1 := (hb.cell (p := ⟨w.heap.size, 1, none⟩) kz).trans k1
    replace kf1 := (hb.frozen (p := ⟨w.heap.size, 1, none⟩) kz).trans kf1
    replace k2 := (hb.cell (p := ⟨w.heap.size, 2, none⟩) kz).trans k2
    replace kf2 := (hb.frozen (p := ⟨w.heap.size, 2, none⟩) kz).trans kf2
    replace k3 := (hb.cell (p := ⟨w.heap.size, 3, none⟩) kz).trans k3
    replace kf3 := (hb.frozen (p := ⟨w.heap.size, 3, none⟩) kz).trans kf3
    replace k4 := (hb.cell (p := ⟨w.heap.size, 4, none⟩) kz).trans k4
    replace kf4 := (hb.frozen (p := ⟨w.heap.size, 4, none⟩) kz).trans kf4
    replace k5 := (hb.cell (p := ⟨w.heap.size, 5, none⟩) kz).trans k5
    replace kf5 := (hb.frozen (p := ⟨w.heap.size, 5, none⟩) kz).trans kf5
    replace k6 := (hb.cell (p := ⟨w.heap.size, 6, none⟩) kz).trans k6
    replace kf6 := (hb.frozen (p := ⟨w.heap.size, 6, none⟩) kz).trans kf6
    replace k7 := (hb.cell (p := ⟨w.heap.size, 7, none⟩) kz).trans k7
    replace kf7 := (hb.frozen (p := ⟨w.heap.size, 7, none⟩) kz).trans kf7
    replace k8 := (hb.cell (p := ⟨w.heap.size, 8, none⟩) kz).trans k8
    replace kf8 := (hb.frozen (p := ⟨w.heap.size, 8, none⟩) kz).trans kf8
    replace kz := Nat.lt_of_lt_of_le kz hb.size
    have hbs4 := HB.out.size
    replace HB := Lib.hid (below_via HB.out hb HB.out.size ⟨rfl, rfl, rfl, rfl⟩)
    clear hown hz hb
    refine hK.out _ _ ⟨k0, k1, k2, k3, k4, k5, k6, k7, k8⟩ (fun hHeld => ?_)
    clear hK K
    try simp only [Act.put, List.setIfInBounds_toArray, List.set_cons_zero, List.set_cons_succ]
    refine tk 9 ?_
    refine wpAnyH_done (by kernel_rfl) ?_ _
    have HWX : Hid (IntKind.i64.wrap (x + 1000) = x + 1000) := IntWalk.i64_in _ (by omega)
    have HWY : Hid (IntKind.i64.wrap (y + 1000) = y + 1000) := IntWalk.i64_in _ (by omega)
    cases dead
    · cases held
      · skip
        go_upto_region 11 with fail
        refine wp_region_held_drew (S := fun w' => w'.cell? ⟨w.heap.size, 0, none⟩ = some (.int .i64 key) ∧ w'.cell? ⟨w.heap.size, 1, none⟩ = some (.string d) ∧ w'.cell? ⟨w.heap.size, 2, none⟩ = some (.int .i64 a) ∧ w'.cell? ⟨w.heap.size, 3, none⟩ = some (.int .i64 s) ∧ w'.cell? ⟨w.heap.size, 4, none⟩ = some (.bool false) ∧ w'.cell? ⟨w.heap.size, 5, none⟩ = some (.int .i64 x) ∧ w'.cell? ⟨w.heap.size, 6, none⟩ = some (.int .i64 y) ∧ w'.cell? ⟨w.heap.size, 7, none⟩ = some (.string text) ∧ w'.cell? ⟨w.heap.size, 8, none⟩ = some (.bool false)) (by kernel_rfl) ⟨k0, k1, k2, k3, k4, k5, k6, k7, k8⟩ (fun hHeld => ?_)
        refine tk 0 ?_
        refine tk 1 ?_
        refine tk 3 ?_
        refine tk 4 ?_
        refine tk 5 ?_
        refine tk 6 ?_
        refine tk 8 ?_
        refine tk 9 ?_
        refine tk 10 ?_
        refine tk 11 ?_
        refine wpAnyH_ready (rs := [2]) (by kernel_rfl) (by simp) ?_
        refine ac (fun K hK => ?_) AllReadyH.nil
        go_simp
        go_at_call 52
        refine (refPut_any A4 c4 g4 L4 (1) _ (by exact HZ4.out) (by omega) (by omega)).mono ?_
        generalize hL5 : L4 ++ digitsF (Int.toNat 1) = L5 at *
        have HL5 := Lib.hid hL5
        have hl5 : L5.length ≤ 100000000 + 200 := by rw [← hL5]; simp only [List.length_append]; omega
        clear hL5
        rintro e v5 ⟨A5, c5, rfl, hown, hb⟩
        have HO5 := Lib.hid hown
        obtain ⟨g5, hz, _, _, _⟩ := own_bytes hown
        have HZ5 := Lib.hid hz
        replace k0 := (hb.cell (p := ⟨w.heap.size, 0, none⟩) kz).trans k0
        replace kf0 := (hb.frozen (p := ⟨w.heap.size, 0, none⟩) kz).trans kf0
        replace k1 := (hb.cell (p := ⟨w.heap.size, 1, none⟩) kz).trans k1
        replace kf1 := (hb.frozen (p := ⟨w.heap.size, 1, none⟩) kz).trans kf1
        replace k2 := (hb.cell (p := ⟨w.heap.size, 2, none⟩) kz).trans k2
        replace kf2 := (hb.frozen (p := ⟨w.heap.size, 2, none⟩) kz).trans kf2
        replace k3 := (hb.cell (p := ⟨w.heap.size, 3, none⟩) kz).trans k3
        replace kf3 := (hb.frozen (p := ⟨w.heap.size, 3, none⟩) kz).trans kf3
        replace k4 := (hb.cell (p := ⟨w.heap.size, 4, none⟩) kz).trans k4
        replace kf4 := (hb.frozen (p := ⟨w.heap.size, 4, none⟩) kz).trans kf4
        replace k5 := (hb.cell (p := ⟨w.heap.size, 5, none⟩) kz).trans k5
        replace kf5 := (hb.frozen (p := ⟨w.heap.size, 5, none⟩) kz).trans kf5
        replace k6 := (hb.cell (p := ⟨w.heap.size, 6, none⟩) kz).trans k6
        replace kf6 := (hb.frozen (p := ⟨w.heap.size, 6, none⟩) kz).trans kf6
        replace k7 := (hb.cell (p := ⟨w.heap.size, 7, none⟩) kz).trans k7
        replace kf7 := (hb.frozen (p := ⟨w.heap.size, 7, none⟩) kz).trans kf7
        replace k8 := (hb.cell (p := ⟨w.heap.size, 8, none⟩) kz).trans k8
        replace kf8 := (hb.frozen (p := ⟨w.heap.size, 8, none⟩) kz).trans kf8
        replace kz := Nat.lt_of_lt_of_le kz hb.size
        have hbs5 := HB.out.size
        replace HB := Lib.hid (below_via HB.out hb HB.out.size ⟨rfl, rfl, rfl, rfl⟩)
        clear hown hz hb
        refine hK.out _ _ ⟨k0, k1, k2, k3, k4, k5, k6, k7, k8⟩ (fun hHeld => ?_)
        clear hK K
        try simp only [Act.put, List.setIfInBounds_toArray, List.set_cons_zero, List.set_cons_succ]
        refine wpAnyH_ready (rs := [7]) (by kernel_rfl) (by simp) ?_
        refine ac (fun K hK => ?_) AllReadyH.nil
        go_simp
        go_at_call 52
        rw [HWX.out]
        refine (refPut_any A5 c5 g5 L5 (x + 1000) _ (by exact HZ5.out) (by omega) (by omega)).mono ?_
        generalize hL6 : L5 ++ digitsF (x + 1000).toNat = L6 at *
        have HL6 := Lib.hid hL6
        have hl6 : L6.length ≤ 100000000 + 240 := by rw [← hL6]; simp only [List.length_append]; omega
        clear hL6
        rintro e v6 ⟨A6, c6, rfl, hown, hb⟩
        have HO6 := Lib.hid hown
        obtain ⟨g6, hz, _, _, _⟩ := own_bytes hown
        have HZ6 := Lib.hid hz
        replace k0 := (hb.cell (p := ⟨w.heap.size, 0, none⟩) kz).trans k0
        replace kf0 := (hb.frozen (p := ⟨w.heap.size, 0, none⟩) kz).trans kf0
        replace k1 := (hb.cell (p := ⟨w.heap.size, 1, none⟩) kz).trans k1
        replace kf1 := (hb.frozen (p := ⟨w.heap.size, 1, none⟩) kz).trans kf1
        replace k2 := (hb.cell (p := ⟨w.heap.size, 2, none⟩) kz).trans k2
        replace kf2 := (hb.frozen (p := ⟨w.heap.size, 2, none⟩) kz).trans kf2
        replace k3 := (hb.cell (p := ⟨w.heap.size, 3, none⟩) kz).trans k3
        replace kf3 := (hb.frozen (p := ⟨w.heap.size, 3, none⟩) kz).trans kf3
        replace k4 := (hb.cell (p := ⟨w.heap.size, 4, none⟩) kz).trans k4
        replace kf4 := (hb.frozen (p := ⟨w.heap.size, 4, none⟩) kz).trans kf4
        replace k5 := (hb.cell (p := ⟨w.heap.size, 5, none⟩) kz).trans k5
        replace kf5 := (hb.frozen (p := ⟨w.heap.size, 5, none⟩) kz).trans kf5
        replace k6 := (hb.cell (p := ⟨w.heap.size, 6, none⟩) kz).trans k6
        replace kf6 := (hb.frozen (p := ⟨w.heap.size, 6, none⟩) kz).trans kf6
        replace k7 := (hb.cell (p := ⟨w.heap.size, 7, none⟩) kz).trans k7
        replace kf7 := (hb.frozen (p := ⟨w.heap.size, 7, none⟩) kz).trans kf7
        replace k8 := (hb.cell (p := ⟨w.heap.size, 8, none⟩) kz).trans k8
        replace kf8 := (hb.frozen (p := ⟨w.heap.size, 8, none⟩) kz).trans kf8
        replace kz := Nat.lt_of_lt_of_le kz hb.size
        have hbs6 := HB.out.size
        replace HB := Lib.hid (below_via HB.out hb HB.out.size ⟨rfl, rfl, rfl, rfl⟩)
        clear hown hz hb
        refine hK.out _ _ ⟨k0, k1, k2, k3, k4, k5, k6, k7, k8⟩ (fun hHeld => ?_)
        clear hK K
        try simp only [Act.put, List.setIfInBounds_toArray, List.set_cons_zero, List.set_cons_succ]
        refine wpAnyH_ready (rs := [12]) (by kernel_rfl) (by simp) ?_
        refine ac (fun K hK => ?_) AllReadyH.nil
        go_simp
        go_at_call 52
        rw [HWY.out]
        refine (refPut_any A6 c6 g6 L6 (y + 1000) _ (by exact HZ6.out) (by omega) (by omega)).mono ?_
        generalize hL7 : L6 ++ digitsF (y + 1000).toNat = L7 at *
        have HL7 := Lib.hid hL7
        have hl7 : L7.length ≤ 100000000 + 280 := by rw [← hL7]; simp only [List.length_append]; omega
        clear hL7
        rintro e v7 ⟨A7, c7, rfl, hown, hb⟩
        have HO7 := Lib.hid hown
        obtain ⟨g7, hz, _, _, _⟩ := own_bytes hown
        have HZ7 := Lib.hid hz
        replace k0 := (hb.cell (p := ⟨w.heap.size, 0, none⟩) kz).trans k0
        replace kf0 := (hb.frozen (p := ⟨w.heap.size, 0, none⟩) kz).trans kf0
        replace k1 := (hb.cell (p := ⟨w.heap.size, 1, none⟩) kz).trans k1
        replace kf1 := (hb.frozen (p := ⟨w.heap.size, 1, none⟩) kz).trans kf1
        replace k2 := (hb.cell (p := ⟨w.heap.size, 2, none⟩) kz).trans k2
        replace kf2 := (hb.frozen (p := ⟨w.heap.size, 2, none⟩) kz).trans kf2
        replace k3 := (hb.cell (p := ⟨w.heap.size, 3, none⟩) kz).trans k3
        replace kf3 := (hb.frozen (p := ⟨w.heap.size, 3, none⟩) kz).trans kf3
        replace k4 := (hb.cell (p := ⟨w.heap.size, 4, none⟩) kz).trans k4
        replace kf4 := (hb.frozen (p := ⟨w.heap.size, 4, none⟩) kz).trans kf4
        replace k5 := (hb.cell (p := ⟨w.heap.size, 5, none⟩) kz).trans k5
        replace kf5 := (hb.frozen (p := ⟨w.heap.size, 5, none⟩) kz).trans kf5
        replace k6 := (hb.cell (p := ⟨w.heap.size, 6, none⟩) kz).trans k6
        replace kf6 := (hb.frozen (p := ⟨w.heap.size, 6, none⟩) kz).trans kf6
        replace k7 := (hb.cell (p := ⟨w.heap.size, 7, none⟩) kz).trans k7
        replace kf7 := (hb.frozen (p := ⟨w.heap.size, 7, none⟩) kz).trans kf7
        replace k8 := (hb.cell (p := ⟨w.heap.size, 8, none⟩) kz).trans k8
        replace kf8 := (hb.frozen (p := ⟨w.heap.size, 8, none⟩) kz).trans kf8
        replace kz := Nat.lt_of_lt_of_le kz hb.size
        have hbs7 := HB.out.size
        replace HB := Lib.hid (below_via HB.out hb HB.out.size ⟨rfl, rfl, rfl, rfl⟩)
        clear hown hz hb
        refine hK.out _ _ ⟨k0, k1, k2, k3, k4, k5, k6, k7, k8⟩ (fun hHeld => ?_)
        clear hK K
        try simp only [Act.put, List.setIfInBounds_toArray, List.set_cons_zero, List.set_cons_succ]
        refine tk 13 ?_
        refine wpAnyH_done (by kernel_rfl) ?_ _
        go_wp2
        go_ret
        have e : PF = L7 := by rw [HPI.out, if_pos trivial, HF.out, ← HL7.out, ← HL6.out, ← HL5.out, ← HL4.out, ← HL3.out, ← HL2.out, ← HL1.out]; simp
        rw [e]
        exact ⟨A7, c7, rfl, own_base HO7.out hbs7, HB.out⟩
      · skip
        go_upto_region 11 with fail
        refine wp_region_held_drew (S := fun w' => w'.cell? ⟨w.heap.size, 0, none⟩ = some (.int .i64 key) ∧ w'.cell? ⟨w.heap.size, 1, none⟩ = some (.string d) ∧ w'.cell? ⟨w.heap.size, 2, none⟩ = some (.int .i64 a) ∧ w'.cell? ⟨w.heap.size, 3, none⟩ = some (.int .i64 s) ∧ w'.cell? ⟨w.heap.size, 4, none⟩ = some (.bool false) ∧ w'.cell? ⟨w.heap.size, 5, none⟩ = some (.int .i64 x) ∧ w'.cell? ⟨w.heap.size, 6, none⟩ = some (.int .i64 y) ∧ w'.cell? ⟨w.heap.size, 7, none⟩ = some (.string text) ∧ w'.cell? ⟨w.heap.size, 8, none⟩ = some (.bool true)) (by kernel_rfl) ⟨k0, k1, k2, k3, k4, k5, k6, k7, k8⟩ (fun hHeld => ?_)
        refine tk 0 ?_
        refine tk 1 ?_
        refine tk 3 ?_
        refine tk 4 ?_
        refine tk 5 ?_
        refine tk 6 ?_
        refine tk 8 ?_
        refine tk 9 ?_
        refine tk 10 ?_
        refine tk 11 ?_
        refine wpAnyH_ready (rs := [2]) (by kernel_rfl) (by simp) ?_
        refine ac (fun K hK => ?_) AllReadyH.nil
        go_simp
        go_at_call 52
        refine (refPut_any A4 c4 g4 L4 (2) _ (by exact HZ4.out) (by omega) (by omega)).mono ?_
        generalize hL5 : L4 ++ digitsF (Int.toNat 2) = L5 at *
        have HL5 := Lib.hid hL5
        have hl5 : L5.length ≤ 100000000 + 200 := by rw [← hL5]; simp only [List.length_append]; omega
        clear hL5
        rintro e v5 ⟨A5, c5, rfl, hown, hb⟩
        have HO5 := Lib.hid hown
        obtain ⟨g5, hz, _, _, _⟩ := own_bytes hown
        have HZ5 := Lib.hid hz
        replace k0 := (hb.cell (p := ⟨w.heap.size, 0, none⟩) kz).trans k0
        replace kf0 := (hb.frozen (p := ⟨w.heap.size, 0, none⟩) kz).trans kf0
        replace k1 := (hb.cell (p := ⟨w.heap.size, 1, none⟩) kz).trans k1
        replace kf1 := (hb.frozen (p := ⟨w.heap.size, 1, none⟩) kz).trans kf1
        replace k2 := (hb.cell (p := ⟨w.heap.size, 2, none⟩) kz).trans k2
        replace kf2 := (hb.frozen (p := ⟨w.heap.size, 2, none⟩) kz).trans kf2
        replace k3 := (hb.cell (p := ⟨w.heap.size, 3, none⟩) kz).trans k3
        replace kf3 := (hb.frozen (p := ⟨w.heap.size, 3, none⟩) kz).trans kf3
        replace k4 := (hb.cell (p := ⟨w.heap.size, 4, none⟩) kz).trans k4
        replace kf4 := (hb.frozen (p := ⟨w.heap.size, 4, none⟩) kz).trans kf4
        replace k5 := (hb.cell (p := ⟨w.heap.size, 5, none⟩) kz).trans k5
        replace kf5 := (hb.frozen (p := ⟨w.heap.size, 5, none⟩) kz).trans kf5
        replace k6 := (hb.cell (p := ⟨w.heap.size, 6, none⟩) kz).trans k6
        replace kf6 := (hb.frozen (p := ⟨w.heap.size, 6, none⟩) kz).trans kf6
        replace k7 := (hb.cell (p := ⟨w.heap.size, 7, none⟩) kz).trans k7
        replace kf7 := (hb.frozen (p := ⟨w.heap.size, 7, none⟩) kz).trans kf7
        replace k8 := (hb.cell (p := ⟨w.heap.size, 8, none⟩) kz).trans k8
        replace kf8 := (hb.frozen (p := ⟨w.heap.size, 8, none⟩) kz).trans kf8
        replace kz := Nat.lt_of_lt_of_le kz hb.size
        have hbs5 := HB.out.size
        replace HB := Lib.hid (below_via HB.out hb HB.out.size ⟨rfl, rfl, rfl, rfl⟩)
        clear hown hz hb
        refine hK.out _ _ ⟨k0, k1, k2, k3, k4, k5, k6, k7, k8⟩ (fun hHeld => ?_)
        clear hK K
        try simp only [Act.put, List.setIfInBounds_toArray, List.set_cons_zero, List.set_cons_succ]
        refine wpAnyH_ready (rs := [7]) (by kernel_rfl) (by simp) ?_
        refine ac (fun K hK => ?_) AllReadyH.nil
        go_simp
        go_at_call 52
        rw [HWX.out]
        refine (refPut_any A5 c5 g5 L5 (x + 1000) _ (by exact HZ5.out) (by omega) (by omega)).mono ?_
        generalize hL6 : L5 ++ digitsF (x + 1000).toNat = L6 at *
        have HL6 := Lib.hid hL6
        have hl6 : L6.length ≤ 100000000 + 240 := by rw [← hL6]; simp only [List.length_append]; omega
        clear hL6
        rintro e v6 ⟨A6, c6, rfl, hown, hb⟩
        have HO6 := Lib.hid hown
        obtain ⟨g6, hz, _, _, _⟩ := own_bytes hown
        have HZ6 := Lib.hid hz
        replace k0 := (hb.cell (p := ⟨w.heap.size, 0, none⟩) kz).trans k0
        replace kf0 := (hb.frozen (p := ⟨w.heap.size, 0, none⟩) kz).trans kf0
        replace k1 := (hb.cell (p := ⟨w.heap.size, 1, none⟩) kz).trans k1
        replace kf1 := (hb.frozen (p := ⟨w.heap.size, 1, none⟩) kz).trans kf1
        replace k2 := (hb.cell (p := ⟨w.heap.size, 2, none⟩) kz).trans k2
        replace kf2 := (hb.frozen (p := ⟨w.heap.size, 2, none⟩) kz).trans kf2
        replace k3 := (hb.cell (p := ⟨w.heap.size, 3, none⟩) kz).trans k3
        replace kf3 := (hb.frozen (p := ⟨w.heap.size, 3, none⟩) kz).trans kf3
        replace k4 := (hb.cell (p := ⟨w.heap.size, 4, none⟩) kz).trans k4
        replace kf4 := (hb.frozen (p := ⟨w.heap.size, 4, none⟩) kz).trans kf4
        replace k5 := (hb.cell (p := ⟨w.heap.size, 5, none⟩) kz).trans k5
        replace kf5 := (hb.frozen (p := ⟨w.heap.size, 5, none⟩) kz).trans kf5
        replace k6 := (hb.cell (p := ⟨w.heap.size, 6, none⟩) kz).trans k6
        replace kf6 := (hb.frozen (p := ⟨w.heap.size, 6, none⟩) kz).trans kf6
        replace k7 := (hb.cell (p := ⟨w.heap.size, 7, none⟩) kz).trans k7
        replace kf7 := (hb.frozen (p := ⟨w.heap.size, 7, none⟩) kz).trans kf7
        replace k8 := (hb.cell (p := ⟨w.heap.size, 8, none⟩) kz).trans k8
        replace kf8 := (hb.frozen (p := ⟨w.heap.size, 8, none⟩) kz).trans kf8
        replace kz := Nat.lt_of_lt_of_le kz hb.size
        have hbs6 := HB.out.size
        replace HB := Lib.hid (below_via HB.out hb HB.out.size ⟨rfl, rfl, rfl, rfl⟩)
        clear hown hz hb
        refine hK.out _ _ ⟨k0, k1, k2, k3, k4, k5, k6, k7, k8⟩ (fun hHeld => ?_)
        clear hK K
        try simp only [Act.put, List.setIfInBounds_toArray, List.set_cons_zero, List.set_cons_succ]
        refine wpAnyH_ready (rs := [12]) (by kernel_rfl) (by simp) ?_
        refine ac (fun K hK => ?_) AllReadyH.nil
        go_simp
        go_at_call 52
        rw [HWY.out]
        refine (refPut_any A6 c6 g6 L6 (y + 1000) _ (by exact HZ6.out) (by omega) (by omega)).mono ?_
        generalize hL7 : L6 ++ digitsF (y + 1000).toNat = L7 at *
        have HL7 := Lib.hid hL7
        have hl7 : L7.length ≤ 100000000 + 280 := by rw [← hL7]; simp only [List.length_append]; omega
        clear hL7
        rintro e v7 ⟨A7, c7, rfl, hown, hb⟩
        have HO7 := Lib.hid hown
        obtain ⟨g7, hz, _, _, _⟩ := own_bytes hown
        have HZ7 := Lib.hid hz
        replace k0 := (hb.cell (p := ⟨w.heap.size, 0, none⟩) kz).trans k0
        replace kf0 := (hb.frozen (p := ⟨w.heap.size, 0, none⟩) kz).trans kf0
        replace k1 := (hb.cell (p := ⟨w.heap.size, 1, none⟩) kz).trans k1
        replace kf1 := (hb.frozen (p := ⟨w.heap.size, 1, none⟩) kz).trans kf1
        replace k2 := (hb.cell (p := ⟨w.heap.size, 2, none⟩) kz).trans k2
        replace kf2 := (hb.frozen (p := ⟨w.heap.size, 2, none⟩) kz).trans kf2
        replace k3 := (hb.cell (p := ⟨w.heap.size, 3, none⟩) kz).trans k3
        replace kf3 := (hb.frozen (p := ⟨w.heap.size, 3, none⟩) kz).trans kf3
        replace k4 := (hb.cell (p := ⟨w.heap.size, 4, none⟩) kz).trans k4
        replace kf4 := (hb.frozen (p := ⟨w.heap.size, 4, none⟩) kz).trans kf4
        replace k5 := (hb.cell (p := ⟨w.heap.size, 5, none⟩) kz).trans k5
        replace kf5 := (hb.frozen (p := ⟨w.heap.size, 5, none⟩) kz).trans kf5
        replace k6 := (hb.cell (p := ⟨w.heap.size, 6, none⟩) kz).trans k6
        replace kf6 := (hb.frozen (p := ⟨w.heap.size, 6, none⟩) kz).trans kf6
        replace k7 := (hb.cell (p := ⟨w.heap.size, 7, none⟩) kz).trans k7
        replace kf7 := (hb.frozen (p := ⟨w.heap.size, 7, none⟩) kz).trans kf7
        replace k8 := (hb.cell (p := ⟨w.heap.size, 8, none⟩) kz).trans k8
        replace kf8 := (hb.frozen (p := ⟨w.heap.size, 8, none⟩) kz).trans kf8
        replace kz := Nat.lt_of_lt_of_le kz hb.size
        have hbs7 := HB.out.size
        replace HB := Lib.hid (below_via HB.out hb HB.out.size ⟨rfl, rfl, rfl, rfl⟩)
        clear hown hz hb
        refine hK.out _ _ ⟨k0, k1, k2, k3, k4, k5, k6, k7, k8⟩ (fun hHeld => ?_)
        clear hK K
        try simp only [Act.put, List.setIfInBounds_toArray, List.set_cons_zero, List.set_cons_succ]
        refine tk 13 ?_
        refine wpAnyH_done (by kernel_rfl) ?_ _
        go_wp2_with fail
        refine (refPutText_any A7 c7 g7 L7 text _ (by exact HZ7.out) (by omega) (by omega)).mono ?_
        generalize hL8 : L7 ++ (digitsF text.size ++ text.data.toList) = L8 at *
        have HL8 := Lib.hid hL8
        have hl8 : L8.length ≤ 100000000 + 320 := by rw [← hL8]; simp only [List.length_append, Array.length_toList]; omega
        clear hL8
        rintro e v8 ⟨A8, c8, rfl, hown, hb⟩
        have HO8 := Lib.hid hown
        obtain ⟨g8, hz, _, _, _⟩ := own_bytes hown
        have HZ8 := Lib.hid hz
        replace k0 := (hb.cell (p := ⟨w.heap.size, 0, none⟩) kz).trans k0
        replace kf0 := (hb.frozen (p := ⟨w.heap.size, 0, none⟩) kz).trans kf0
        replace k1 := (hb.cell (p := ⟨w.heap.size, 1, none⟩) kz).trans k1
        replace kf1 := (hb.frozen (p := ⟨w.heap.size, 1, none⟩) kz).trans kf1
        replace k2 := (hb.cell (p := ⟨w.heap.size, 2, none⟩) kz).trans k2
        replace kf2 := (hb.frozen (p := ⟨w.heap.size, 2, none⟩) kz).trans kf2
        replace k3 := (hb.cell (p := ⟨w.heap.size, 3, none⟩) kz).trans k3
        replace kf3 := (hb.frozen (p := ⟨w.heap.size, 3, none⟩) kz).trans kf3
        replace k4 := (hb.cell (p := ⟨w.heap.size, 4, none⟩) kz).trans k4
        replace kf4 := (hb.frozen (p := ⟨w.heap.size, 4, none⟩) kz).trans kf4
        replace k5 := (hb.cell (p := ⟨w.heap.size, 5, none⟩) kz).trans k5
        replace kf5 := (hb.frozen (p := ⟨w.heap.size, 5, none⟩) kz).trans kf5
        replace k6 := (hb.cell (p := ⟨w.heap.size, 6, none⟩) kz).trans k6
        replace kf6 := (hb.frozen (p := ⟨w.heap.size, 6, none⟩) kz).trans kf6
        replace k7 := (hb.cell (p := ⟨w.heap.size, 7, none⟩) kz).trans k7
        replace kf7 := (hb.frozen (p := ⟨w.heap.size, 7, none⟩) kz).trans kf7
        replace k8 := (hb.cell (p := ⟨w.heap.size, 8, none⟩) kz).trans k8
        replace kf8 := (hb.frozen (p := ⟨w.heap.size, 8, none⟩) kz).trans kf8
        replace kz := Nat.lt_of_lt_of_le kz hb.size
        have hbs8 := HB.out.size
        replace HB := Lib.hid (below_via HB.out hb HB.out.size ⟨rfl, rfl, rfl, rfl⟩)
        clear hown hz hb
        go_wp2
        go_ret
        have e : PF = L8 := by rw [HPI.out, if_pos trivial, HF.out, ← HL8.out, ← HL7.out, ← HL6.out, ← HL5.out, ← HL4.out, ← HL3.out, ← HL2.out, ← HL1.out]; simp
        rw [e]
        exact ⟨A8, c8, rfl, own_base HO8.out hbs8, HB.out⟩
    · skip
      go_wp2_with fail
      refine (refPut_any A4 c4 g4 L4 (0) _ (by exact HZ4.out) (by omega) (by omega)).mono ?_
      generalize hL5 : L4 ++ digitsF (Int.toNat 0) = L5 at *
      have HL5 := Lib.hid hL5
      have hl5 : L5.length ≤ 100000000 + 200 := by rw [← hL5]; simp only [List.length_append]; omega
      clear hL5
      rintro e v5 ⟨A5, c5, rfl, hown, hb⟩
      have HO5 := Lib.hid hown
      obtain ⟨g5, hz, _, _, _⟩ := own_bytes hown
      have HZ5 := Lib.hid hz
      replace k0 := (hb.cell (p := ⟨w.heap.size, 0, none⟩) kz).trans k0
      replace kf0 := (hb.frozen (p := ⟨w.heap.size, 0, none⟩) kz).trans kf0
      replace k1 := (hb.cell (p := ⟨w.heap.size, 1, none⟩) kz).trans k1
      replace kf1 := (hb.frozen (p := ⟨w.heap.size, 1, none⟩) kz).trans kf1
      replace k2 := (hb.cell (p := ⟨w.heap.size, 2, none⟩) kz).trans k2
      replace kf2 := (hb.frozen (p := ⟨w.heap.size, 2, none⟩) kz).trans kf2
      replace k3 := (hb.cell (p := ⟨w.heap.size, 3, none⟩) kz).trans k3
      replace kf3 := (hb.frozen (p := ⟨w.heap.size, 3, none⟩) kz).trans kf3
      replace k4 := (hb.cell (p := ⟨w.heap.size, 4, none⟩) kz).trans k4
      replace kf4 := (hb.frozen (p := ⟨w.heap.size, 4, none⟩) kz).trans kf4
      replace k5 := (hb.cell (p := ⟨w.heap.size, 5, none⟩) kz).trans k5
      replace kf5 := (hb.frozen (p := ⟨w.heap.size, 5, none⟩) kz).trans kf5
      replace k6 := (hb.cell (p := ⟨w.heap.size, 6, none⟩) kz).trans k6
      replace kf6 := (hb.frozen (p := ⟨w.heap.size, 6, none⟩) kz).trans kf6
      replace k7 := (hb.cell (p := ⟨w.heap.size, 7, none⟩) kz).trans k7
      replace kf7 := (hb.frozen (p := ⟨w.heap.size, 7, none⟩) kz).trans kf7
      replace k8 := (hb.cell (p := ⟨w.heap.size, 8, none⟩) kz).trans k8
      replace kf8 := (hb.frozen (p := ⟨w.heap.size, 8, none⟩) kz).trans kf8
      replace kz := Nat.lt_of_lt_of_le kz hb.size
      have hbs5 := HB.out.size
      replace HB := Lib.hid (below_via HB.out hb HB.out.size ⟨rfl, rfl, rfl, rfl⟩)
      clear hown hz hb
      go_wp2
      go_ret
      have e : PF = L5 := by rw [HPI.out, if_pos trivial, HF.out, ← HL5.out, ← HL4.out, ← HL3.out, ← HL2.out, ← HL1.out]; simp
      rw [e]
      exact ⟨A5, c5, rfl, own_base HO5.out hbs5, HB.out⟩
end Go.Proofs.YtbookbgfipbaoaaGreatDoor.By

/- The document's Put of a Frame. -/
namespace Go.Proofs.YtbookbgfipbaoaaGreatDoor
open Go.RowKit

/-- A row of bytes of the call's own (in a block from B on) is answered. -/
def RP (B : Nat) (X : List UInt8) (W : World) (e : Ending) (w' : World) : Prop := ∃ A c, e = .returned (.slice A X.length c) ∧ w'.ownsRow B 5 1 (.slice A X.length c) X.length (By.bytesV X) ∧ Below W.heap.size W w'
theorem rp_of {B : Nat} {X : List UInt8} {W : World} {P : Program} {F : FuncId} {args : Array Value} (h : Calls P F args W (By.OwnBytes X W)) (hB : B ≤ W.heap.size) : Calls P F args W (RP B X W) :=
  h.mono fun _ _ k => by obtain ⟨A, c, e, ho, hb⟩ := k; exact ⟨A, c, e, By.own_base ho hB, hb⟩
theorem rp_num (B : Nat) (X : List UInt8) (A : Option Addr) (c : Nat) (n : Int) (W : World) (ho : W.ownsRow B 5 1 (.slice A X.length c) X.length (By.bytesV X)) (hB : B ≤ W.heap.size) (hl : X.length ≤ 1000000000) (hn : n ≤ 9223372036854775807) : Calls Tryz.prog 52 #[.slice A X.length c, .int .i64 n] W (RP B (X ++ numB n) W) := by
  obtain ⟨g, hz, _⟩ := By.own_bytes ho
  exact rp_of (By.refPut_any A c g X n W hz hl hn) hB
theorem rp_text (B : Nat) (X : List UInt8) (A : Option Addr) (c : Nat) (s : ByteArray) (W : World) (ho : W.ownsRow B 5 1 (.slice A X.length c) X.length (By.bytesV X)) (hB : B ≤ W.heap.size) (hl : X.length ≤ 500000000) (hs : s.size ≤ 500000000) : Calls Tryz.prog 51 #[.slice A X.length c, .string s] W (RP B (X ++ txtB s) W) := by
  obtain ⟨g, hz, _⟩ := By.own_bytes ho
  exact rp_of (By.refPutText_any A c g X s W hz hl hs) hB
theorem rp_item (B : Nat) (X : List UInt8) (A : Option Addr) (c : Nat) (i : By.Itm) (W : World) (ho : W.ownsRow B 5 1 (.slice A X.length c) X.length (By.bytesV X)) (hB : B ≤ W.heap.size) (hl : X.length ≤ 100000000) (hr : By.rightI i = true) : Calls Tryz.prog 55 #[.slice A X.length c, By.refV i] W (RP B (X ++ By.bytesF i) W) := by
  obtain ⟨g, hz, _⟩ := By.own_bytes ho
  have := By.refItemPut_any A c g X i W hz hl
  unfold By.putItm at this
  rw [if_pos hr] at this
  exact rp_of this hB
set_option maxRecDepth 100000 in
set_option maxHeartbeats 4000000 in
theorem rputVec_any (B : Nat) (X : List UInt8) (A : Option Addr) (c : Nat) (Av : Option Addr) (n cv : Nat) (zs : List At) (w : World) (hown : w.ownsRow B 5 1 (.slice A X.length c) X.length (By.bytesV X)) (hB : B ≤ w.heap.size) (hz : VecAt w w.heap.size Av n zs) (hn : n ≤ 10000) (hx : ∀ x ∈ zs, OkAt x) (hl : X.length + (allB atB zs).length ≤ 400000000) :
    Calls Tryz.prog 53 #[.slice A X.length c, .slice Av n cv] w (RP B (X ++ allB atB zs) w) := by
  have hzn : zs.length = n := hz.1
  have hhl := half_len atB X zs
  have HA := Lib.hid (half_all atB X zs)
  have H0 := Lib.hid (half_zero atB X zs)
  have HS : Hid (∀ k x, zs[k]? = some x → halfB atB X zs (k + 1) = (halfB atB X zs k ++ txtB x.1) ++ numB x.2) := fun k x h => by rw [half_succ atB X h]; simp [atB]
  rw [hzn] at HA H0
  have HX := Lib.hid hx
  have HZ := Lib.hid hz
  have HC := Lib.hid (rp_num B X A c n w hown hB (by omega) (by omega))
  clear hx hz hown
  generalize halfB atB X zs = hf at *
  generalize X ++ allB atB zs = RS at *
  go_enter Tryz.func53, Tryz.ntmps53
  go_wp2_with fail
  refine HC.out.mono ?_
  rw [← H0.out]
  rintro e w1 ⟨A1, c1, rfl, ho, hb⟩
  have HO := Lib.hid ho
  have HB := Lib.hid hb
  clear ho hb HC H0
  go_wp2
  go_loopw [0, 5] (fun s0 i wr => ∃ (k : Nat) (A' : Option Addr) (c' : Nat), k ≤ n ∧ i = .int .i64 k ∧ s0 = .slice A' (hf k).length c' ∧ Hid (wr.ownsRow B 5 1 (.slice A' (hf k).length c') (hf k).length (By.bytesV (hf k))) ∧ Hid (Below w.heap.size w wr)) (fun _ i _ => n - (intOf i).toNat)
  case atStart => exact ⟨0, A1, c1, by omega, rfl, rfl, HO, HB⟩
  case round =>
    clear HO HB
    obtain ⟨k, A', c', hk, rfl, rfl, HO, HB⟩ := hrel
    by_cases hlt : k < n
    · obtain ⟨blk, off, x, rfl, hbB, hmk, e0, e1⟩ := HZ.out.get HB.out hlt
      have hi1 : (k : Int) < n := by omega
      have hhk := hhl k
      have hs1 := HS.out _ _ hmk
      obtain ⟨hx1, hx2⟩ := HX.out _ (List.mem_of_getElem? hmk)
      have hbl : blk < wr.heap.size := Nat.lt_of_lt_of_le hbB HB.out.size
      have hBw : B ≤ wr.heap.size := Nat.le_trans hB HB.out.size
      have ht1 := txtB_len x.1 (by omega)
      clear hmk
      go_upto_region 5 with fail
      refine wp_region_held_drew (S := fun w' => w'.cell? ⟨blk, off + k * 2, none⟩ = some (.string x.1) ∧ w'.cell? ⟨blk, off + k * 2 + 1, none⟩ = some (.int .i64 x.2)) (by kernel_rfl) ⟨e0, e1⟩ (fun hHeld => ?_)
      refine tk 0 ?_
      refine tk 1 ?_
      refine tk 2 ?_
      refine tk 3 ?_
      refine tk 4 ?_
      refine tk 5 ?_
      refine tk 7 ?_
      refine tk 8 ?_
      refine tk 9 ?_
      refine tk 10 ?_
      refine tk 11 ?_
      refine wpAnyH_ready (rs := [6]) (by kernel_rfl) (by simp) ?_
      refine ac (fun K hK => ?_) AllReadyH.nil
      go_simp
      go_at_call 51
      refine (rp_text B (hf k) A' c' x.1 _ (by exact HO.out) (by exact hBw) (by omega) (by omega)).mono ?_
      have hlL1 : (hf k ++ txtB x.1).length ≤ 500000000 := by rw [List.length_append]; omega
      generalize hLL1 : hf k ++ txtB x.1 = L1 at *
      have HLL1 := Lib.hid hLL1
      clear hLL1
      rintro e u1 ⟨A2, c2, rfl, ho, hb⟩
      replace hb := Kn.below_via (Below.refl wr.heap.size wr) hb (Nat.le_refl _) ⟨rfl, rfl, rfl, rfl⟩
      replace e0 := (hb.cell (p := ⟨blk, off + k * 2, none⟩) hbl).trans e0
      replace e1 := (hb.cell (p := ⟨blk, off + k * 2 + 1, none⟩) hbl).trans e1
      replace hbl := Nat.lt_of_lt_of_le hbl hb.size
      have HOA2 := Lib.hid ho
      replace HB := Lib.hid (HB.out.trans (hb.mono HB.out.size))
      clear ho hb
      refine hK.out _ _ ⟨e0, e1⟩ (fun hHeld => ?_)
      clear hK K
      try simp only [Act.put, List.setIfInBounds_toArray, List.set_cons_zero, List.set_cons_succ]
      refine wpAnyH_ready (rs := [12]) (by kernel_rfl) (by simp) ?_
      refine ac (fun K hK => ?_) AllReadyH.nil
      go_simp
      go_at_call 52
      refine (rp_num B L1 A2 c2 x.2 _ (by exact HOA2.out) (by exact Nat.le_trans hB HB.out.size) (by omega) hx2).mono ?_
      rintro e u2 ⟨A3, c3, rfl, ho, hb⟩
      replace hb := Kn.below_via (Below.refl u1.heap.size u1) hb (Nat.le_refl _) ⟨rfl, rfl, rfl, rfl⟩
      replace e0 := (hb.cell (p := ⟨blk, off + k * 2, none⟩) hbl).trans e0
      replace e1 := (hb.cell (p := ⟨blk, off + k * 2 + 1, none⟩) hbl).trans e1
      replace hbl := Nat.lt_of_lt_of_le hbl hb.size
      have HOA3 := Lib.hid ho
      replace HB := Lib.hid (HB.out.trans (hb.mono HB.out.size))
      clear ho hb
      refine hK.out _ _ ⟨e0, e1⟩ (fun hHeld => ?_)
      clear hK K
      try simp only [Act.put, List.setIfInBounds_toArray, List.set_cons_zero, List.set_cons_succ]
      refine tk 13 ?_
      refine wpAnyH_done (by kernel_rfl) ?_ _
      rw [← hs1] at HOA3 ⊢
      go_wp2
      go_roundw
      case rel => exact ⟨k + 1, A3, c3, by omega, by go_num, (by first | rfl | rw [hs1, List.length_append]), HOA3, HB⟩
      case measure => simp [intOf]; omega
    · obtain rfl : k = n := by omega
      have hi1 : ¬ (k : Int) < k := by omega
      go_wp2
      go_ret
      rw [← HA.out]
      exact ⟨A', c', rfl, HO.out, HB.out⟩
end Go.Proofs.YtbookbgfipbaoaaGreatDoor
