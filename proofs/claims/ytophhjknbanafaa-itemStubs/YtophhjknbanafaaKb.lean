/- ItemStubs, walked. -/
import Derived.Test.YtophhjknbanafaaKa
namespace Go.Proofs.Ytophhjknbanafaa
open Go.RowKit

set_option maxRecDepth 100000 in
set_option maxHeartbeats 4000000 in
theorem itemStubs_core (i j : Itm) (hj : rightI j = true) (HX : Hid (∀ w, Calls Try.prog 23 #[refV i] w fun e w' => e = .returned (refV j) ∧ Below w.heap.size w w')) (w : World) :
    Calls Try.prog 8 #[refV i] w fun e w' => e = .returned (.bool true) ∧ Below w.heap.size w w' := by
  have HT := Lib.hid (to_any j)
  have HS := Lib.hid (itemStub_any j)
  have HS2 := Lib.hid (itemStub_any (stubI j))
  have hsm := right_small hj
  have hss : (stubI j).x.natAbs < 2 ^ 53 ∧ (stubI j).y.natAbs < 2 ^ 53 := hsm
  have HR := Lib.hid (itemRight_any (stubI j) hss.1 hss.2)
  have HE := eql_item (stubI j) (stubI j) hss.1 hss.2 hss.1 hss.2
  have HP1 := Lib.hid (itemPut_any none 0 0 [] (stubI j) · (BytesAt.nil _ _ _) (by simp) hss.1 hss.2)
  have HP2 := Lib.hid (itemPut_any none 0 0 [] j · (BytesAt.nil _ _ _) (by simp) hsm.1 hsm.2)
  have hle := stub_len hj
  rw [stub_right hj] at HR
  rw [eqI_same] at HE
  rw [stub_stub] at HS2
  generalize putItm [] (stubI j) = P1 at *
  generalize putItm [] j = P2 at *
  have hle' : (P1.length : Int) ≤ P2.length := by omega
  clear hsm hss hj hle
  obtain ⟨key, ⟨d, a, s⟩, dead, x, y, text, held⟩ := i
  obtain ⟨key', ⟨d', a', s'⟩, dead', x', y', text', held'⟩ := j
  unfold refV at *
  unfold itmV stubI at *
  simp only at HX HT HS HS2 HR HE HP1 HP2 ⊢
  generalize fl x' = fx at *
  generalize fl y' = fy at *
  have hst := store_complex
  go_enter Try.func8, Try.ntmps8
  go_wp2_with fail
  refine (HX.out _).mono ?_
  rintro e w1 ⟨rfl, hb⟩
  have k0 : (w.alloc (.cells #[.int .i64 key, .string d, .int .i64 a, .int .i64 s, .bool dead, .int .i64 x, .int .i64 y, .string text, .bool held] 35)).cell? ⟨w.heap.size, 0, none⟩ = some (.int .i64 key) := by simp [go_sem]
  have kf0 : (w.alloc (.cells #[.int .i64 key, .string d, .int .i64 a, .int .i64 s, .bool dead, .int .i64 x, .int .i64 y, .string text, .bool held] 35)).frozen? ⟨w.heap.size, 0, none⟩ = false := by simp [go_sem]
  have k1 : (w.alloc (.cells #[.int .i64 key, .string d, .int .i64 a, .int .i64 s, .bool dead, .int .i64 x, .int .i64 y, .string text, .bool held] 35)).cell? ⟨w.heap.size, 1, none⟩ = some (.string d) := by simp [go_sem]
  have kf1 : (w.alloc (.cells #[.int .i64 key, .string d, .int .i64 a, .int .i64 s, .bool dead, .int .i64 x, .int .i64 y, .string text, .bool held] 35)).frozen? ⟨w.heap.size, 1, none⟩ = false := by simp [go_sem]
  have k2 : (w.alloc (.cells #[.int .i64 key, .string d, .int .i64 a, .int .i64 s, .bool dead, .int .i64 x, .int .i64 y, .string text, .bool held] 35)).cell? ⟨w.heap.size, 2, none⟩ = some (.int .i64 a) := by simp [go_sem]
  have kf2 : (w.alloc (.cells #[.int .i64 key, .string d, .int .i64 a, .int .i64 s, .bool dead, .int .i64 x, .int .i64 y, .string text, .bool held] 35)).frozen? ⟨w.heap.size, 2, none⟩ = false := by simp [go_sem]
  have k3 : (w.alloc (.cells #[.int .i64 key, .string d, .int .i64 a, .int .i64 s, .bool dead, .int .i64 x, .int .i64 y, .string text, .bool held] 35)).cell? ⟨w.heap.size, 3, none⟩ = some (.int .i64 s) := by simp [go_sem]
  have kf3 : (w.alloc (.cells #[.int .i64 key, .string d, .int .i64 a, .int .i64 s, .bool dead, .int .i64 x, .int .i64 y, .string text, .bool held] 35)).frozen? ⟨w.heap.size, 3, none⟩ = false := by simp [go_sem]
  have k4 : (w.alloc (.cells #[.int .i64 key, .string d, .int .i64 a, .int .i64 s, .bool dead, .int .i64 x, .int .i64 y, .string text, .bool held] 35)).cell? ⟨w.heap.size, 4, none⟩ = some (.bool dead) := by simp [go_sem]
  have kf4 : (w.alloc (.cells #[.int .i64 key, .string d, .int .i64 a, .int .i64 s, .bool dead, .int .i64 x, .int .i64 y, .string text, .bool held] 35)).frozen? ⟨w.heap.size, 4, none⟩ = false := by simp [go_sem]
  have k5 : (w.alloc (.cells #[.int .i64 key, .string d, .int .i64 a, .int .i64 s, .bool dead, .int .i64 x, .int .i64 y, .string text, .bool held] 35)).cell? ⟨w.heap.size, 5, none⟩ = some (.int .i64 x) := by simp [go_sem]
  have kf5 : (w.alloc (.cells #[.int .i64 key, .string d, .int .i64 a, .int .i64 s, .bool dead, .int .i64 x, .int .i64 y, .string text, .bool held] 35)).frozen? ⟨w.heap.size, 5, none⟩ = false := by simp [go_sem]
  have k6 : (w.alloc (.cells #[.int .i64 key, .string d, .int .i64 a, .int .i64 s, .bool dead, .int .i64 x, .int .i64 y, .string text, .bool held] 35)).cell? ⟨w.heap.size, 6, none⟩ = some (.int .i64 y) := by simp [go_sem]
  have kf6 : (w.alloc (.cells #[.int .i64 key, .string d, .int .i64 a, .int .i64 s, .bool dead, .int .i64 x, .int .i64 y, .string text, .bool held] 35)).frozen? ⟨w.heap.size, 6, none⟩ = false := by simp [go_sem]
  have k7 : (w.alloc (.cells #[.int .i64 key, .string d, .int .i64 a, .int .i64 s, .bool dead, .int .i64 x, .int .i64 y, .string text, .bool held] 35)).cell? ⟨w.heap.size, 7, none⟩ = some (.string text) := by simp [go_sem]
  have kf7 : (w.alloc (.cells #[.int .i64 key, .string d, .int .i64 a, .int .i64 s, .bool dead, .int .i64 x, .int .i64 y, .string text, .bool held] 35)).frozen? ⟨w.heap.size, 7, none⟩ = false := by simp [go_sem]
  have k8 : (w.alloc (.cells #[.int .i64 key, .string d, .int .i64 a, .int .i64 s, .bool dead, .int .i64 x, .int .i64 y, .string text, .bool held] 35)).cell? ⟨w.heap.size, 8, none⟩ = some (.bool held) := by simp [go_sem]
  have kf8 : (w.alloc (.cells #[.int .i64 key, .string d, .int .i64 a, .int .i64 s, .bool dead, .int .i64 x, .int .i64 y, .string text, .bool held] 35)).frozen? ⟨w.heap.size, 8, none⟩ = false := by simp [go_sem]
  have kz : w.heap.size < (w.alloc (.cells #[.int .i64 key, .string d, .int .i64 a, .int .i64 s, .bool dead, .int .i64 x, .int .i64 y, .string text, .bool held] 35)).heap.size := by simp <;> omega
  replace k0 := (hb.cell (p := ⟨w.heap.size, 0, none⟩) kz).trans k0
  replace kf0 := (hb.frozen (p := ⟨w.heap.size, 0, none⟩) kz).trans kf0
  replace k1 := (hb.cell (p := ⟨w.heap.size, 1, none⟩) kz).trans k1
  replace kf1 := (hb.frozen (p := ⟨w.heap.size, 1, none⟩) kz).trans kf1
  replace k2 := (hb.cell (p := ⟨w.heap.size, 2, none⟩) kz).trans k2
  replace kf2 := (hb.frozen (p := ⟨w.heap.size, 2, none⟩) kz).trans kf2
  replace k3 := (hb.cell (p := ⟨w.heap.size, 3, none⟩) kz).trans k3
  replace kf3 := (hb.frozen (p := ⟨w.heap.size, 3, none⟩) kz).trans kf3
  replace k4 := (hb.cell (p := ⟨w.heap.size, 4, none⟩) kz).trans k4
  replace kf4 := (hb.frozen (p := ⟨w.heap.size, 4, none⟩) kz).trans kf4
  replace k5 := (hb.cell (p := ⟨w.heap.size, 5, none⟩) kz).trans k5
  replace kf5 := (hb.frozen (p := ⟨w.heap.size, 5, none⟩) kz).trans kf5
  replace k6 := (hb.cell (p := ⟨w.heap.size, 6, none⟩) kz).trans k6
  replace kf6 := (hb.frozen (p := ⟨w.heap.size, 6, none⟩) kz).trans kf6
  replace k7 := (hb.cell (p := ⟨w.heap.size, 7, none⟩) kz).trans k7
  replace kf7 := (hb.frozen (p := ⟨w.heap.size, 7, none⟩) kz).trans kf7
  replace k8 := (hb.cell (p := ⟨w.heap.size, 8, none⟩) kz).trans k8
  replace kf8 := (hb.frozen (p := ⟨w.heap.size, 8, none⟩) kz).trans kf8
  replace kz := Nat.lt_of_lt_of_le kz hb.size
  have HB : Hid (Below w.heap.size w w1) := ((Below.refl _ _).alloc (Nat.le_refl _) _).trans (hb.mono (by simp))
  clear hb HX
  go_upto_region 2 with fail
  replace k0 : (((((((((w1.setCell ⟨w.heap.size, 0, none⟩ (.int .i64 key')).setCell ⟨w.heap.size, 1, none⟩ (.string d')).setCell ⟨w.heap.size, 2, none⟩ (.int .i64 a')).setCell ⟨w.heap.size, 3, none⟩ (.int .i64 s')).setCell ⟨w.heap.size, 4, none⟩ (.bool dead')).setCell ⟨w.heap.size, 5, none⟩ (.int .i64 x')).setCell ⟨w.heap.size, 6, none⟩ (.int .i64 y')).setCell ⟨w.heap.size, 7, none⟩ (.string text')).setCell ⟨w.heap.size, 8, none⟩ (.bool held')).cell? ⟨w.heap.size, 0, none⟩ = some (.int .i64 key') := by simp [go_sem, k0]
  replace kf0 : (((((((((w1.setCell ⟨w.heap.size, 0, none⟩ (.int .i64 key')).setCell ⟨w.heap.size, 1, none⟩ (.string d')).setCell ⟨w.heap.size, 2, none⟩ (.int .i64 a')).setCell ⟨w.heap.size, 3, none⟩ (.int .i64 s')).setCell ⟨w.heap.size, 4, none⟩ (.bool dead')).setCell ⟨w.heap.size, 5, none⟩ (.int .i64 x')).setCell ⟨w.heap.size, 6, none⟩ (.int .i64 y')).setCell ⟨w.heap.size, 7, none⟩ (.string text')).setCell ⟨w.heap.size, 8, none⟩ (.bool held')).frozen? ⟨w.heap.size, 0, none⟩ = false := by simp [go_sem, kf0]
  replace k1 : (((((((((w1.setCell ⟨w.heap.size, 0, none⟩ (.int .i64 key')).setCell ⟨w.heap.size, 1, none⟩ (.string d')).setCell ⟨w.heap.size, 2, none⟩ (.int .i64 a')).setCell ⟨w.heap.size, 3, none⟩ (.int .i64 s')).setCell ⟨w.heap.size, 4, none⟩ (.bool dead')).setCell ⟨w.heap.size, 5, none⟩ (.int .i64 x')).setCell ⟨w.heap.size, 6, none⟩ (.int .i64 y')).setCell ⟨w.heap.size, 7, none⟩ (.string text')).setCell ⟨w.heap.size, 8, none⟩ (.bool held')).cell? ⟨w.heap.size, 1, none⟩ = some (.string d') := by simp [go_sem, k1]
  replace kf1 : (((((((((w1.setCell ⟨w.heap.size, 0, none⟩ (.int .i64 key')).setCell ⟨w.heap.size, 1, none⟩ (.string d')).setCell ⟨w.heap.size, 2, none⟩ (.int .i64 a')).setCell ⟨w.heap.size, 3, none⟩ (.int .i64 s')).setCell ⟨w.heap.size, 4, none⟩ (.bool dead')).setCell ⟨w.heap.size, 5, none⟩ (.int .i64 x')).setCell ⟨w.heap.size, 6, none⟩ (.int .i64 y')).setCell ⟨w.heap.size, 7, none⟩ (.string text')).setCell ⟨w.heap.size, 8, none⟩ (.bool held')).frozen? ⟨w.heap.size, 1, none⟩ = false := by simp [go_sem, kf1]
  replace k2 : (((((((((w1.setCell ⟨w.heap.size, 0, none⟩ (.int .i64 key')).setCell ⟨w.heap.size, 1, none⟩ (.string d')).setCell ⟨w.heap.size, 2, none⟩ (.int .i64 a')).setCell ⟨w.heap.size, 3, none⟩ (.int .i64 s')).setCell ⟨w.heap.size, 4, none⟩ (.bool dead')).setCell ⟨w.heap.size, 5, none⟩ (.int .i64 x')).setCell ⟨w.heap.size, 6, none⟩ (.int .i64 y')).setCell ⟨w.heap.size, 7, none⟩ (.string text')).setCell ⟨w.heap.size, 8, none⟩ (.bool held')).cell? ⟨w.heap.size, 2, none⟩ = some (.int .i64 a') := by simp [go_sem, k2]
  replace kf2 : (((((((((w1.setCell ⟨w.heap.size, 0, none⟩ (.int .i64 key')).setCell ⟨w.heap.size, 1, none⟩ (.string d')).setCell ⟨w.heap.size, 2, none⟩ (.int .i64 a')).setCell ⟨w.heap.size, 3, none⟩ (.int .i64 s')).setCell ⟨w.heap.size, 4, none⟩ (.bool dead')).setCell ⟨w.heap.size, 5, none⟩ (.int .i64 x')).setCell ⟨w.heap.size, 6, none⟩ (.int .i64 y')).setCell ⟨w.heap.size, 7, none⟩ (.string text')).setCell ⟨w.heap.size, 8, none⟩ (.bool held')).frozen? ⟨w.heap.size, 2, none⟩ = false := by simp [go_sem, kf2]
  replace k3 : (((((((((w1.setCell ⟨w.heap.size, 0, none⟩ (.int .i64 key')).setCell ⟨w.heap.size, 1, none⟩ (.string d')).setCell ⟨w.heap.size, 2, none⟩ (.int .i64 a')).setCell ⟨w.heap.size, 3, none⟩ (.int .i64 s')).setCell ⟨w.heap.size, 4, none⟩ (.bool dead')).setCell ⟨w.heap.size, 5, none⟩ (.int .i64 x')).setCell ⟨w.heap.size, 6, none⟩ (.int .i64 y')).setCell ⟨w.heap.size, 7, none⟩ (.string text')).setCell ⟨w.heap.size, 8, none⟩ (.bool held')).cell? ⟨w.heap.size, 3, none⟩ = some (.int .i64 s') := by simp [go_sem, k3]
  replace kf3 : (((((((((w1.setCell ⟨w.heap.size, 0, none⟩ (.int .i64 key')).setCell ⟨w.heap.size, 1, none⟩ (.string d')).setCell ⟨w.heap.size, 2, none⟩ (.int .i64 a')).setCell ⟨w.heap.size, 3, none⟩ (.int .i64 s')).setCell ⟨w.heap.size, 4, none⟩ (.bool dead')).setCell ⟨w.heap.size, 5, none⟩ (.int .i64 x')).setCell ⟨w.heap.size, 6, none⟩ (.int .i64 y')).setCell ⟨w.heap.size, 7, none⟩ (.string text')).setCell ⟨w.heap.size, 8, none⟩ (.bool held')).frozen? ⟨w.heap.size, 3, none⟩ = false := by simp [go_sem, kf3]
  replace k4 : (((((((((w1.setCell ⟨w.heap.size, 0, none⟩ (.int .i64 key')).setCell ⟨w.heap.size, 1, none⟩ (.string d')).setCell ⟨w.heap.size, 2, none⟩ (.int .i64 a')).setCell ⟨w.heap.size, 3, none⟩ (.int .i64 s')).setCell ⟨w.heap.size, 4, none⟩ (.bool dead')).setCell ⟨w.heap.size, 5, none⟩ (.int .i64 x')).setCell ⟨w.heap.size, 6, none⟩ (.int .i64 y')).setCell ⟨w.heap.size, 7, none⟩ (.string text')).setCell ⟨w.heap.size, 8, none⟩ (.bool held')).cell? ⟨w.heap.size, 4, none⟩ = some (.bool dead') := by simp [go_sem, k4]
  replace kf4 : (((((((((w1.setCell ⟨w.heap.size, 0, none⟩ (.int .i64 key')).setCell ⟨w.heap.size, 1, none⟩ (.string d')).setCell ⟨w.heap.size, 2, none⟩ (.int .i64 a')).setCell ⟨w.heap.size, 3, none⟩ (.int .i64 s')).setCell ⟨w.heap.size, 4, none⟩ (.bool dead')).setCell ⟨w.heap.size, 5, none⟩ (.int .i64 x')).setCell ⟨w.heap.size, 6, none⟩ (.int .i64 y')).setCell ⟨w.heap.size, 7, none⟩ (.string text')).setCell ⟨w.heap.size, 8, none⟩ (.bool held')).frozen? ⟨w.heap.size, 4, none⟩ = false := by simp [go_sem, kf4]
  replace k5 : (((((((((w1.setCell ⟨w.heap.size, 0, none⟩ (.int .i64 key')).setCell ⟨w.heap.size, 1, none⟩ (.string d')).setCell ⟨w.heap.size, 2, none⟩ (.int .i64 a')).setCell ⟨w.heap.size, 3, none⟩ (.int .i64 s')).setCell ⟨w.heap.size, 4, none⟩ (.bool dead')).setCell ⟨w.heap.size, 5, none⟩ (.int .i64 x')).setCell ⟨w.heap.size, 6, none⟩ (.int .i64 y')).setCell ⟨w.heap.size, 7, none⟩ (.string text')).setCell ⟨w.heap.size, 8, none⟩ (.bool held')).cell? ⟨w.heap.size, 5, none⟩ = some (.int .i64 x') := by simp [go_sem, k5]
  replace kf5 : (((((((((w1.setCell ⟨w.heap.size, 0, none⟩ (.int .i64 key')).setCell ⟨w.heap.size, 1, none⟩ (.string d')).setCell ⟨w.heap.size, 2, none⟩ (.int .i64 a')).setCell ⟨w.heap.size, 3, none⟩ (.int .i64 s')).setCell ⟨w.heap.size, 4, none⟩ (.bool dead')).setCell ⟨w.heap.size, 5, none⟩ (.int .i64 x')).setCell ⟨w.heap.size, 6, none⟩ (.int .i64 y')).setCell ⟨w.heap.size, 7, none⟩ (.string text')).setCell ⟨w.heap.size, 8, none⟩ (.bool held')).frozen? ⟨w.heap.size, 5, none⟩ = false := by simp [go_sem, kf5]
  replace k6 : (((((((((w1.setCell ⟨w.heap.size, 0, none⟩ (.int .i64 key')).setCell ⟨w.heap.size, 1, none⟩ (.string d')).setCell ⟨w.heap.size, 2, none⟩ (.int .i64 a')).setCell ⟨w.heap.size, 3, none⟩ (.int .i64 s')).setCell ⟨w.heap.size, 4, none⟩ (.bool dead')).setCell ⟨w.heap.size, 5, none⟩ (.int .i64 x')).setCell ⟨w.heap.size, 6, none⟩ (.int .i64 y')).setCell ⟨w.heap.size, 7, none⟩ (.string text')).setCell ⟨w.heap.size, 8, none⟩ (.bool held')).cell? ⟨w.heap.size, 6, none⟩ = some (.int .i64 y') := by simp [go_sem, k6]
  replace kf6 : (((((((((w1.setCell ⟨w.heap.size, 0, none⟩ (.int .i64 key')).setCell ⟨w.heap.size, 1, none⟩ (.string d')).setCell ⟨w.heap.size, 2, none⟩ (.int .i64 a')).setCell ⟨w.heap.size, 3, none⟩ (.int .i64 s')).setCell ⟨w.heap.size, 4, none⟩ (.bool dead')).setCell ⟨w.heap.size, 5, none⟩ (.int .i64 x')).setCell ⟨w.heap.size, 6, none⟩ (.int .i64 y')).setCell ⟨w.heap.size, 7, none⟩ (.string text')).setCell ⟨w.heap.size, 8, none⟩ (.bool held')).frozen? ⟨w.heap.size, 6, none⟩ = false := by simp [go_sem, kf6]
  replace k7 : (((((((((w1.setCell ⟨w.heap.size, 0, none⟩ (.int .i64 key')).setCell ⟨w.heap.size, 1, none⟩ (.string d')).setCell ⟨w.heap.size, 2, none⟩ (.int .i64 a')).setCell ⟨w.heap.size, 3, none⟩ (.int .i64 s')).setCell ⟨w.heap.size, 4, none⟩ (.bool dead')).setCell ⟨w.heap.size, 5, none⟩ (.int .i64 x')).setCell ⟨w.heap.size, 6, none⟩ (.int .i64 y')).setCell ⟨w.heap.size, 7, none⟩ (.string text')).setCell ⟨w.heap.size, 8, none⟩ (.bool held')).cell? ⟨w.heap.size, 7, none⟩ = some (.string text') := by simp [go_sem, k7]
  replace kf7 : (((((((((w1.setCell ⟨w.heap.size, 0, none⟩ (.int .i64 key')).setCell ⟨w.heap.size, 1, none⟩ (.string d')).setCell ⟨w.heap.size, 2, none⟩ (.int .i64 a')).setCell ⟨w.heap.size, 3, none⟩ (.int .i64 s')).setCell ⟨w.heap.size, 4, none⟩ (.bool dead')).setCell ⟨w.heap.size, 5, none⟩ (.int .i64 x')).setCell ⟨w.heap.size, 6, none⟩ (.int .i64 y')).setCell ⟨w.heap.size, 7, none⟩ (.string text')).setCell ⟨w.heap.size, 8, none⟩ (.bool held')).frozen? ⟨w.heap.size, 7, none⟩ = false := by simp [go_sem, kf7]
  replace k8 : (((((((((w1.setCell ⟨w.heap.size, 0, none⟩ (.int .i64 key')).setCell ⟨w.heap.size, 1, none⟩ (.string d')).setCell ⟨w.heap.size, 2, none⟩ (.int .i64 a')).setCell ⟨w.heap.size, 3, none⟩ (.int .i64 s')).setCell ⟨w.heap.size, 4, none⟩ (.bool dead')).setCell ⟨w.heap.size, 5, none⟩ (.int .i64 x')).setCell ⟨w.heap.size, 6, none⟩ (.int .i64 y')).setCell ⟨w.heap.size, 7, none⟩ (.string text')).setCell ⟨w.heap.size, 8, none⟩ (.bool held')).cell? ⟨w.heap.size, 8, none⟩ = some (.bool held') := by simp [go_sem, k8]
  replace kf8 : (((((((((w1.setCell ⟨w.heap.size, 0, none⟩ (.int .i64 key')).setCell ⟨w.heap.size, 1, none⟩ (.string d')).setCell ⟨w.heap.size, 2, none⟩ (.int .i64 a')).setCell ⟨w.heap.size, 3, none⟩ (.int .i64 s')).setCell ⟨w.heap.size, 4, none⟩ (.bool dead')).setCell ⟨w.heap.size, 5, none⟩ (.int .i64 x')).setCell ⟨w.heap.size, 6, none⟩ (.int .i64 y')).setCell ⟨w.heap.size, 7, none⟩ (.string text')).setCell ⟨w.heap.size, 8, none⟩ (.bool held')).frozen? ⟨w.heap.size, 8, none⟩ = false := by simp [go_sem, kf8]
  replace kz : w.heap.size < (((((((((w1.setCell ⟨w.heap.size, 0, none⟩ (.int .i64 key')).setCell ⟨w.heap.size, 1, none⟩ (.string d')).setCell ⟨w.heap.size, 2, none⟩ (.int .i64 a')).setCell ⟨w.heap.size, 3, none⟩ (.int .i64 s')).setCell ⟨w.heap.size, 4, none⟩ (.bool dead')).setCell ⟨w.heap.size, 5, none⟩ (.int .i64 x')).setCell ⟨w.heap.size, 6, none⟩ (.int .i64 y')).setCell ⟨w.heap.size, 7, none⟩ (.string text')).setCell ⟨w.heap.size, 8, none⟩ (.bool held')).heap.size := by simp <;> omega
  replace HB : Hid (Below w.heap.size w (((((((((w1.setCell ⟨w.heap.size, 0, none⟩ (.int .i64 key')).setCell ⟨w.heap.size, 1, none⟩ (.string d')).setCell ⟨w.heap.size, 2, none⟩ (.int .i64 a')).setCell ⟨w.heap.size, 3, none⟩ (.int .i64 s')).setCell ⟨w.heap.size, 4, none⟩ (.bool dead')).setCell ⟨w.heap.size, 5, none⟩ (.int .i64 x')).setCell ⟨w.heap.size, 6, none⟩ (.int .i64 y')).setCell ⟨w.heap.size, 7, none⟩ (.string text')).setCell ⟨w.heap.size, 8, none⟩ (.bool held'))) := (((((((((HB.out.setCell (by simp) _).setCell (by simp) _).setCell (by simp) _).setCell (by simp) _).setCell (by simp) _).setCell (by simp) _).setCell (by simp) _).setCell (by simp) _).setCell (by simp) _)
  generalize (((((((((w1.setCell ⟨w.heap.size, 0, none⟩ (.int .i64 key')).setCell ⟨w.heap.size, 1, none⟩ (.string d')).setCell ⟨w.heap.size, 2, none⟩ (.int .i64 a')).setCell ⟨w.heap.size, 3, none⟩ (.int .i64 s')).setCell ⟨w.heap.size, 4, none⟩ (.bool dead')).setCell ⟨w.heap.size, 5, none⟩ (.int .i64 x')).setCell ⟨w.heap.size, 6, none⟩ (.int .i64 y')).setCell ⟨w.heap.size, 7, none⟩ (.string text')).setCell ⟨w.heap.size, 8, none⟩ (.bool held')) = W1 at *
  go_wp2_with fail
  refine (HT.out _).mono ?_
  rintro e w2 ⟨rfl, hb⟩
  replace k0 := (hb.cell (p := ⟨w.heap.size, 0, none⟩) kz).trans k0
  replace kf0 := (hb.frozen (p := ⟨w.heap.size, 0, none⟩) kz).trans kf0
  replace k1 := (hb.cell (p := ⟨w.heap.size, 1, none⟩) kz).trans k1
  replace kf1 := (hb.frozen (p := ⟨w.heap.size, 1, none⟩) kz).trans kf1
  replace k2 := (hb.cell (p := ⟨w.heap.size, 2, none⟩) kz).trans k2
  replace kf2 := (hb.frozen (p := ⟨w.heap.size, 2, none⟩) kz).trans kf2
  replace k3 := (hb.cell (p := ⟨w.heap.size, 3, none⟩) kz).trans k3
  replace kf3 := (hb.frozen (p := ⟨w.heap.size, 3, none⟩) kz).trans kf3
  replace k4 := (hb.cell (p := ⟨w.heap.size, 4, none⟩) kz).trans k4
  replace kf4 := (hb.frozen (p := ⟨w.heap.size, 4, none⟩) kz).trans kf4
  replace k5 := (hb.cell (p := ⟨w.heap.size, 5, none⟩) kz).trans k5
  replace kf5 := (hb.frozen (p := ⟨w.heap.size, 5, none⟩) kz).trans kf5
  replace k6 := (hb.cell (p := ⟨w.heap.size, 6, none⟩) kz).trans k6
  replace kf6 := (hb.frozen (p := ⟨w.heap.size, 6, none⟩) kz).trans kf6
  replace k7 := (hb.cell (p := ⟨w.heap.size, 7, none⟩) kz).trans k7
  replace kf7 := (hb.frozen (p := ⟨w.heap.size, 7, none⟩) kz).trans kf7
  replace k8 := (hb.cell (p := ⟨w.heap.size, 8, none⟩) kz).trans k8
  replace kf8 := (hb.frozen (p := ⟨w.heap.size, 8, none⟩) kz).trans kf8
  replace kz := Nat.lt_of_lt_of_le kz hb.size
  replace HB := Lib.hid (HB.out.trans (hb.mono HB.out.size))
  clear hb
  go_wp2_with fail
  refine (HS.out _).mono ?_
  rintro e w3 ⟨rfl, hb⟩
  replace k0 := (hb.cell (p := ⟨w.heap.size, 0, none⟩) kz).trans k0
  replace kf0 := (hb.frozen (p := ⟨w.heap.size, 0, none⟩) kz).trans kf0
  replace k1 := (hb.cell (p := ⟨w.heap.size, 1, none⟩) kz).trans k1
  replace kf1 := (hb.frozen (p := ⟨w.heap.size, 1, none⟩) kz).trans kf1
  replace k2 := (hb.cell (p := ⟨w.heap.size, 2, none⟩) kz).trans k2
  replace kf2 := (hb.frozen (p := ⟨w.heap.size, 2, none⟩) kz).trans kf2
  replace k3 := (hb.cell (p := ⟨w.heap.size, 3, none⟩) kz).trans k3
  replace kf3 := (hb.frozen (p := ⟨w.heap.size, 3, none⟩) kz).trans kf3
  replace k4 := (hb.cell (p := ⟨w.heap.size, 4, none⟩) kz).trans k4
  replace kf4 := (hb.frozen (p := ⟨w.heap.size, 4, none⟩) kz).trans kf4
  replace k5 := (hb.cell (p := ⟨w.heap.size, 5, none⟩) kz).trans k5
  replace kf5 := (hb.frozen (p := ⟨w.heap.size, 5, none⟩) kz).trans kf5
  replace k6 := (hb.cell (p := ⟨w.heap.size, 6, none⟩) kz).trans k6
  replace kf6 := (hb.frozen (p := ⟨w.heap.size, 6, none⟩) kz).trans kf6
  replace k7 := (hb.cell (p := ⟨w.heap.size, 7, none⟩) kz).trans k7
  replace kf7 := (hb.frozen (p := ⟨w.heap.size, 7, none⟩) kz).trans kf7
  replace k8 := (hb.cell (p := ⟨w.heap.size, 8, none⟩) kz).trans k8
  replace kf8 := (hb.frozen (p := ⟨w.heap.size, 8, none⟩) kz).trans kf8
  replace kz := Nat.lt_of_lt_of_le kz hb.size
  replace HB := Lib.hid (HB.out.trans (hb.mono HB.out.size))
  clear hb
  go_upto_region 3 with fail
  have hne1 : w.heap.size ≠ w3.heap.size := by omega
  replace k0 : (w3.alloc (.cells #[.int .i64 key', .string d', .int .i64 a', .int .i64 s', .bool dead', .complex .f64 fx fy, .string ⟨#[]⟩, .bool false] 40)).cell? ⟨w.heap.size, 0, none⟩ = some (.int .i64 key') := by simp [go_sem, k0, kz]
  replace kf0 : (w3.alloc (.cells #[.int .i64 key', .string d', .int .i64 a', .int .i64 s', .bool dead', .complex .f64 fx fy, .string ⟨#[]⟩, .bool false] 40)).frozen? ⟨w.heap.size, 0, none⟩ = false := by simp [go_sem, kf0, kz]
  replace k1 : (w3.alloc (.cells #[.int .i64 key', .string d', .int .i64 a', .int .i64 s', .bool dead', .complex .f64 fx fy, .string ⟨#[]⟩, .bool false] 40)).cell? ⟨w.heap.size, 1, none⟩ = some (.string d') := by simp [go_sem, k1, kz]
  replace kf1 : (w3.alloc (.cells #[.int .i64 key', .string d', .int .i64 a', .int .i64 s', .bool dead', .complex .f64 fx fy, .string ⟨#[]⟩, .bool false] 40)).frozen? ⟨w.heap.size, 1, none⟩ = false := by simp [go_sem, kf1, kz]
  replace k2 : (w3.alloc (.cells #[.int .i64 key', .string d', .int .i64 a', .int .i64 s', .bool dead', .complex .f64 fx fy, .string ⟨#[]⟩, .bool false] 40)).cell? ⟨w.heap.size, 2, none⟩ = some (.int .i64 a') := by simp [go_sem, k2, kz]
  replace kf2 : (w3.alloc (.cells #[.int .i64 key', .string d', .int .i64 a', .int .i64 s', .bool dead', .complex .f64 fx fy, .string ⟨#[]⟩, .bool false] 40)).frozen? ⟨w.heap.size, 2, none⟩ = false := by simp [go_sem, kf2, kz]
  replace k3 : (w3.alloc (.cells #[.int .i64 key', .string d', .int .i64 a', .int .i64 s', .bool dead', .complex .f64 fx fy, .string ⟨#[]⟩, .bool false] 40)).cell? ⟨w.heap.size, 3, none⟩ = some (.int .i64 s') := by simp [go_sem, k3, kz]
  replace kf3 : (w3.alloc (.cells #[.int .i64 key', .string d', .int .i64 a', .int .i64 s', .bool dead', .complex .f64 fx fy, .string ⟨#[]⟩, .bool false] 40)).frozen? ⟨w.heap.size, 3, none⟩ = false := by simp [go_sem, kf3, kz]
  replace k4 : (w3.alloc (.cells #[.int .i64 key', .string d', .int .i64 a', .int .i64 s', .bool dead', .complex .f64 fx fy, .string ⟨#[]⟩, .bool false] 40)).cell? ⟨w.heap.size, 4, none⟩ = some (.bool dead') := by simp [go_sem, k4, kz]
  replace kf4 : (w3.alloc (.cells #[.int .i64 key', .string d', .int .i64 a', .int .i64 s', .bool dead', .complex .f64 fx fy, .string ⟨#[]⟩, .bool false] 40)).frozen? ⟨w.heap.size, 4, none⟩ = false := by simp [go_sem, kf4, kz]
  replace k5 : (w3.alloc (.cells #[.int .i64 key', .string d', .int .i64 a', .int .i64 s', .bool dead', .complex .f64 fx fy, .string ⟨#[]⟩, .bool false] 40)).cell? ⟨w.heap.size, 5, none⟩ = some (.int .i64 x') := by simp [go_sem, k5, kz]
  replace kf5 : (w3.alloc (.cells #[.int .i64 key', .string d', .int .i64 a', .int .i64 s', .bool dead', .complex .f64 fx fy, .string ⟨#[]⟩, .bool false] 40)).frozen? ⟨w.heap.size, 5, none⟩ = false := by simp [go_sem, kf5, kz]
  replace k6 : (w3.alloc (.cells #[.int .i64 key', .string d', .int .i64 a', .int .i64 s', .bool dead', .complex .f64 fx fy, .string ⟨#[]⟩, .bool false] 40)).cell? ⟨w.heap.size, 6, none⟩ = some (.int .i64 y') := by simp [go_sem, k6, kz]
  replace kf6 : (w3.alloc (.cells #[.int .i64 key', .string d', .int .i64 a', .int .i64 s', .bool dead', .complex .f64 fx fy, .string ⟨#[]⟩, .bool false] 40)).frozen? ⟨w.heap.size, 6, none⟩ = false := by simp [go_sem, kf6, kz]
  replace k7 : (w3.alloc (.cells #[.int .i64 key', .string d', .int .i64 a', .int .i64 s', .bool dead', .complex .f64 fx fy, .string ⟨#[]⟩, .bool false] 40)).cell? ⟨w.heap.size, 7, none⟩ = some (.string text') := by simp [go_sem, k7, kz]
  replace kf7 : (w3.alloc (.cells #[.int .i64 key', .string d', .int .i64 a', .int .i64 s', .bool dead', .complex .f64 fx fy, .string ⟨#[]⟩, .bool false] 40)).frozen? ⟨w.heap.size, 7, none⟩ = false := by simp [go_sem, kf7, kz]
  replace k8 : (w3.alloc (.cells #[.int .i64 key', .string d', .int .i64 a', .int .i64 s', .bool dead', .complex .f64 fx fy, .string ⟨#[]⟩, .bool false] 40)).cell? ⟨w.heap.size, 8, none⟩ = some (.bool held') := by simp [go_sem, k8, kz]
  replace kf8 : (w3.alloc (.cells #[.int .i64 key', .string d', .int .i64 a', .int .i64 s', .bool dead', .complex .f64 fx fy, .string ⟨#[]⟩, .bool false] 40)).frozen? ⟨w.heap.size, 8, none⟩ = false := by simp [go_sem, kf8, kz]
  replace kz : w.heap.size < (w3.alloc (.cells #[.int .i64 key', .string d', .int .i64 a', .int .i64 s', .bool dead', .complex .f64 fx fy, .string ⟨#[]⟩, .bool false] 40)).heap.size := by simp <;> omega
  have m0 : (w3.alloc (.cells #[.int .i64 key', .string d', .int .i64 a', .int .i64 s', .bool dead', .complex .f64 fx fy, .string ⟨#[]⟩, .bool false] 40)).cell? ⟨w3.heap.size, 0, none⟩ = some (.int .i64 key') := by simp [go_sem]
  have mf0 : (w3.alloc (.cells #[.int .i64 key', .string d', .int .i64 a', .int .i64 s', .bool dead', .complex .f64 fx fy, .string ⟨#[]⟩, .bool false] 40)).frozen? ⟨w3.heap.size, 0, none⟩ = false := by simp [go_sem]
  have m1 : (w3.alloc (.cells #[.int .i64 key', .string d', .int .i64 a', .int .i64 s', .bool dead', .complex .f64 fx fy, .string ⟨#[]⟩, .bool false] 40)).cell? ⟨w3.heap.size, 1, none⟩ = some (.string d') := by simp [go_sem]
  have mf1 : (w3.alloc (.cells #[.int .i64 key', .string d', .int .i64 a', .int .i64 s', .bool dead', .complex .f64 fx fy, .string ⟨#[]⟩, .bool false] 40)).frozen? ⟨w3.heap.size, 1, none⟩ = false := by simp [go_sem]
  have m2 : (w3.alloc (.cells #[.int .i64 key', .string d', .int .i64 a', .int .i64 s', .bool dead', .complex .f64 fx fy, .string ⟨#[]⟩, .bool false] 40)).cell? ⟨w3.heap.size, 2, none⟩ = some (.int .i64 a') := by simp [go_sem]
  have mf2 : (w3.alloc (.cells #[.int .i64 key', .string d', .int .i64 a', .int .i64 s', .bool dead', .complex .f64 fx fy, .string ⟨#[]⟩, .bool false] 40)).frozen? ⟨w3.heap.size, 2, none⟩ = false := by simp [go_sem]
  have m3 : (w3.alloc (.cells #[.int .i64 key', .string d', .int .i64 a', .int .i64 s', .bool dead', .complex .f64 fx fy, .string ⟨#[]⟩, .bool false] 40)).cell? ⟨w3.heap.size, 3, none⟩ = some (.int .i64 s') := by simp [go_sem]
  have mf3 : (w3.alloc (.cells #[.int .i64 key', .string d', .int .i64 a', .int .i64 s', .bool dead', .complex .f64 fx fy, .string ⟨#[]⟩, .bool false] 40)).frozen? ⟨w3.heap.size, 3, none⟩ = false := by simp [go_sem]
  have m4 : (w3.alloc (.cells #[.int .i64 key', .string d', .int .i64 a', .int .i64 s', .bool dead', .complex .f64 fx fy, .string ⟨#[]⟩, .bool false] 40)).cell? ⟨w3.heap.size, 4, none⟩ = some (.bool dead') := by simp [go_sem]
  have mf4 : (w3.alloc (.cells #[.int .i64 key', .string d', .int .i64 a', .int .i64 s', .bool dead', .complex .f64 fx fy, .string ⟨#[]⟩, .bool false] 40)).frozen? ⟨w3.heap.size, 4, none⟩ = false := by simp [go_sem]
  have m5 : (w3.alloc (.cells #[.int .i64 key', .string d', .int .i64 a', .int .i64 s', .bool dead', .complex .f64 fx fy, .string ⟨#[]⟩, .bool false] 40)).cell? ⟨w3.heap.size, 5, none⟩ = some (.complex .f64 fx fy) := by simp [go_sem]
  have mf5 : (w3.alloc (.cells #[.int .i64 key', .string d', .int .i64 a', .int .i64 s', .bool dead', .complex .f64 fx fy, .string ⟨#[]⟩, .bool false] 40)).frozen? ⟨w3.heap.size, 5, none⟩ = false := by simp [go_sem]
  have m6 : (w3.alloc (.cells #[.int .i64 key', .string d', .int .i64 a', .int .i64 s', .bool dead', .complex .f64 fx fy, .string ⟨#[]⟩, .bool false] 40)).cell? ⟨w3.heap.size, 6, none⟩ = some (.string ⟨#[]⟩) := by simp [go_sem]
  have mf6 : (w3.alloc (.cells #[.int .i64 key', .string d', .int .i64 a', .int .i64 s', .bool dead', .complex .f64 fx fy, .string ⟨#[]⟩, .bool false] 40)).frozen? ⟨w3.heap.size, 6, none⟩ = false := by simp [go_sem]
  have m7 : (w3.alloc (.cells #[.int .i64 key', .string d', .int .i64 a', .int .i64 s', .bool dead', .complex .f64 fx fy, .string ⟨#[]⟩, .bool false] 40)).cell? ⟨w3.heap.size, 7, none⟩ = some (.bool false) := by simp [go_sem]
  have mf7 : (w3.alloc (.cells #[.int .i64 key', .string d', .int .i64 a', .int .i64 s', .bool dead', .complex .f64 fx fy, .string ⟨#[]⟩, .bool false] 40)).frozen? ⟨w3.heap.size, 7, none⟩ = false := by simp [go_sem]
  have mz : w3.heap.size < (w3.alloc (.cells #[.int .i64 key', .string d', .int .i64 a', .int .i64 s', .bool dead', .complex .f64 fx fy, .string ⟨#[]⟩, .bool false] 40)).heap.size := by simp <;> omega
  replace HB : Hid (Below w.heap.size w (w3.alloc (.cells #[.int .i64 key', .string d', .int .i64 a', .int .i64 s', .bool dead', .complex .f64 fx fy, .string ⟨#[]⟩, .bool false] 40))) := HB.out.alloc HB.out.size _
  generalize hB1 : w3.heap.size = B1 at *
  generalize (w3.alloc (.cells #[.int .i64 key', .string d', .int .i64 a', .int .i64 s', .bool dead', .complex .f64 fx fy, .string ⟨#[]⟩, .bool false] 40)) = W2 at *
  clear hB1
  go_wp2_with fail
  refine (HT.out _).mono ?_
  rintro e w4 ⟨rfl, hb⟩
  replace k0 := (hb.cell (p := ⟨w.heap.size, 0, none⟩) kz).trans k0
  replace kf0 := (hb.frozen (p := ⟨w.heap.size, 0, none⟩) kz).trans kf0
  replace k1 := (hb.cell (p := ⟨w.heap.size, 1, none⟩) kz).trans k1
  replace kf1 := (hb.frozen (p := ⟨w.heap.size, 1, none⟩) kz).trans kf1
  replace k2 := (hb.cell (p := ⟨w.heap.size, 2, none⟩) kz).trans k2
  replace kf2 := (hb.frozen (p := ⟨w.heap.size, 2, none⟩) kz).trans kf2
  replace k3 := (hb.cell (p := ⟨w.heap.size, 3, none⟩) kz).trans k3
  replace kf3 := (hb.frozen (p := ⟨w.heap.size, 3, none⟩) kz).trans kf3
  replace k4 := (hb.cell (p := ⟨w.heap.size, 4, none⟩) kz).trans k4
  replace kf4 := (hb.frozen (p := ⟨w.heap.size, 4, none⟩) kz).trans kf4
  replace k5 := (hb.cell (p := ⟨w.heap.size, 5, none⟩) kz).trans k5
  replace kf5 := (hb.frozen (p := ⟨w.heap.size, 5, none⟩) kz).trans kf5
  replace k6 := (hb.cell (p := ⟨w.heap.size, 6, none⟩) kz).trans k6
  replace kf6 := (hb.frozen (p := ⟨w.heap.size, 6, none⟩) kz).trans kf6
  replace k7 := (hb.cell (p := ⟨w.heap.size, 7, none⟩) kz).trans k7
  replace kf7 := (hb.frozen (p := ⟨w.heap.size, 7, none⟩) kz).trans kf7
  replace k8 := (hb.cell (p := ⟨w.heap.size, 8, none⟩) kz).trans k8
  replace kf8 := (hb.frozen (p := ⟨w.heap.size, 8, none⟩) kz).trans kf8
  replace kz := Nat.lt_of_lt_of_le kz hb.size
  replace m0 := (hb.cell (p := ⟨B1, 0, none⟩) mz).trans m0
  replace mf0 := (hb.frozen (p := ⟨B1, 0, none⟩) mz).trans mf0
  replace m1 := (hb.cell (p := ⟨B1, 1, none⟩) mz).trans m1
  replace mf1 := (hb.frozen (p := ⟨B1, 1, none⟩) mz).trans mf1
  replace m2 := (hb.cell (p := ⟨B1, 2, none⟩) mz).trans m2
  replace mf2 := (hb.frozen (p := ⟨B1, 2, none⟩) mz).trans mf2
  replace m3 := (hb.cell (p := ⟨B1, 3, none⟩) mz).trans m3
  replace mf3 := (hb.frozen (p := ⟨B1, 3, none⟩) mz).trans mf3
  replace m4 := (hb.cell (p := ⟨B1, 4, none⟩) mz).trans m4
  replace mf4 := (hb.frozen (p := ⟨B1, 4, none⟩) mz).trans mf4
  replace m5 := (hb.cell (p := ⟨B1, 5, none⟩) mz).trans m5
  replace mf5 := (hb.frozen (p := ⟨B1, 5, none⟩) mz).trans mf5
  replace m6 := (hb.cell (p := ⟨B1, 6, none⟩) mz).trans m6
  replace mf6 := (hb.frozen (p := ⟨B1, 6, none⟩) mz).trans mf6
  replace m7 := (hb.cell (p := ⟨B1, 7, none⟩) mz).trans m7
  replace mf7 := (hb.frozen (p := ⟨B1, 7, none⟩) mz).trans mf7
  replace mz := Nat.lt_of_lt_of_le mz hb.size
  replace HB := Lib.hid (HB.out.trans (hb.mono HB.out.size))
  clear hb
  go_upto_region 5 with fail
  replace k0 : (w4.alloc (.cells #[.int .i64 key', .string d', .int .i64 a', .int .i64 s', .bool dead', .complex .f64 fx fy, .string ⟨#[]⟩, .bool false] 40)).cell? ⟨w.heap.size, 0, none⟩ = some (.int .i64 key') := by simp [go_sem, k0, kz]
  replace kf0 : (w4.alloc (.cells #[.int .i64 key', .string d', .int .i64 a', .int .i64 s', .bool dead', .complex .f64 fx fy, .string ⟨#[]⟩, .bool false] 40)).frozen? ⟨w.heap.size, 0, none⟩ = false := by simp [go_sem, kf0, kz]
  replace k1 : (w4.alloc (.cells #[.int .i64 key', .string d', .int .i64 a', .int .i64 s', .bool dead', .complex .f64 fx fy, .string ⟨#[]⟩, .bool false] 40)).cell? ⟨w.heap.size, 1, none⟩ = some (.string d') := by simp [go_sem, k1, kz]
  replace kf1 : (w4.alloc (.cells #[.int .i64 key', .string d', .int .i64 a', .int .i64 s', .bool dead', .complex .f64 fx fy, .string ⟨#[]⟩, .bool false] 40)).frozen? ⟨w.heap.size, 1, none⟩ = false := by simp [go_sem, kf1, kz]
  replace k2 : (w4.alloc (.cells #[.int .i64 key', .string d', .int .i64 a', .int .i64 s', .bool dead', .complex .f64 fx fy, .string ⟨#[]⟩, .bool false] 40)).cell? ⟨w.heap.size, 2, none⟩ = some (.int .i64 a') := by simp [go_sem, k2, kz]
  replace kf2 : (w4.alloc (.cells #[.int .i64 key', .string d', .int .i64 a', .int .i64 s', .bool dead', .complex .f64 fx fy, .string ⟨#[]⟩, .bool false] 40)).frozen? ⟨w.heap.size, 2, none⟩ = false := by simp [go_sem, kf2, kz]
  replace k3 : (w4.alloc (.cells #[.int .i64 key', .string d', .int .i64 a', .int .i64 s', .bool dead', .complex .f64 fx fy, .string ⟨#[]⟩, .bool false] 40)).cell? ⟨w.heap.size, 3, none⟩ = some (.int .i64 s') := by simp [go_sem, k3, kz]
  replace kf3 : (w4.alloc (.cells #[.int .i64 key', .string d', .int .i64 a', .int .i64 s', .bool dead', .complex .f64 fx fy, .string ⟨#[]⟩, .bool false] 40)).frozen? ⟨w.heap.size, 3, none⟩ = false := by simp [go_sem, kf3, kz]
  replace k4 : (w4.alloc (.cells #[.int .i64 key', .string d', .int .i64 a', .int .i64 s', .bool dead', .complex .f64 fx fy, .string ⟨#[]⟩, .bool false] 40)).cell? ⟨w.heap.size, 4, none⟩ = some (.bool dead') := by simp [go_sem, k4, kz]
  replace kf4 : (w4.alloc (.cells #[.int .i64 key', .string d', .int .i64 a', .int .i64 s', .bool dead', .complex .f64 fx fy, .string ⟨#[]⟩, .bool false] 40)).frozen? ⟨w.heap.size, 4, none⟩ = false := by simp [go_sem, kf4, kz]
  replace k5 : (w4.alloc (.cells #[.int .i64 key', .string d', .int .i64 a', .int .i64 s', .bool dead', .complex .f64 fx fy, .string ⟨#[]⟩, .bool false] 40)).cell? ⟨w.heap.size, 5, none⟩ = some (.int .i64 x') := by simp [go_sem, k5, kz]
  replace kf5 : (w4.alloc (.cells #[.int .i64 key', .string d', .int .i64 a', .int .i64 s', .bool dead', .complex .f64 fx fy, .string ⟨#[]⟩, .bool false] 40)).frozen? ⟨w.heap.size, 5, none⟩ = false := by simp [go_sem, kf5, kz]
  replace k6 : (w4.alloc (.cells #[.int .i64 key', .string d', .int .i64 a', .int .i64 s', .bool dead', .complex .f64 fx fy, .string ⟨#[]⟩, .bool false] 40)).cell? ⟨w.heap.size, 6, none⟩ = some (.int .i64 y') := by simp [go_sem, k6, kz]
  replace kf6 : (w4.alloc (.cells #[.int .i64 key', .string d', .int .i64 a', .int .i64 s', .bool dead', .complex .f64 fx fy, .string ⟨#[]⟩, .bool false] 40)).frozen? ⟨w.heap.size, 6, none⟩ = false := by simp [go_sem, kf6, kz]
  replace k7 : (w4.alloc (.cells #[.int .i64 key', .string d', .int .i64 a', .int .i64 s', .bool dead', .complex .f64 fx fy, .string ⟨#[]⟩, .bool false] 40)).cell? ⟨w.heap.size, 7, none⟩ = some (.string text') := by simp [go_sem, k7, kz]
  replace kf7 : (w4.alloc (.cells #[.int .i64 key', .string d', .int .i64 a', .int .i64 s', .bool dead', .complex .f64 fx fy, .string ⟨#[]⟩, .bool false] 40)).frozen? ⟨w.heap.size, 7, none⟩ = false := by simp [go_sem, kf7, kz]
  replace k8 : (w4.alloc (.cells #[.int .i64 key', .string d', .int .i64 a', .int .i64 s', .bool dead', .complex .f64 fx fy, .string ⟨#[]⟩, .bool false] 40)).cell? ⟨w.heap.size, 8, none⟩ = some (.bool held') := by simp [go_sem, k8, kz]
  replace kf8 : (w4.alloc (.cells #[.int .i64 key', .string d', .int .i64 a', .int .i64 s', .bool dead', .complex .f64 fx fy, .string ⟨#[]⟩, .bool false] 40)).frozen? ⟨w.heap.size, 8, none⟩ = false := by simp [go_sem, kf8, kz]
  replace kz : w.heap.size < (w4.alloc (.cells #[.int .i64 key', .string d', .int .i64 a', .int .i64 s', .bool dead', .complex .f64 fx fy, .string ⟨#[]⟩, .bool false] 40)).heap.size := by simp <;> omega
  replace m0 : (w4.alloc (.cells #[.int .i64 key', .string d', .int .i64 a', .int .i64 s', .bool dead', .complex .f64 fx fy, .string ⟨#[]⟩, .bool false] 40)).cell? ⟨B1, 0, none⟩ = some (.int .i64 key') := by simp [go_sem, m0, mz]
  replace mf0 : (w4.alloc (.cells #[.int .i64 key', .string d', .int .i64 a', .int .i64 s', .bool dead', .complex .f64 fx fy, .string ⟨#[]⟩, .bool false] 40)).frozen? ⟨B1, 0, none⟩ = false := by simp [go_sem, mf0, mz]
  replace m1 : (w4.alloc (.cells #[.int .i64 key', .string d', .int .i64 a', .int .i64 s', .bool dead', .complex .f64 fx fy, .string ⟨#[]⟩, .bool false] 40)).cell? ⟨B1, 1, none⟩ = some (.string d') := by simp [go_sem, m1, mz]
  replace mf1 : (w4.alloc (.cells #[.int .i64 key', .string d', .int .i64 a', .int .i64 s', .bool dead', .complex .f64 fx fy, .string ⟨#[]⟩, .bool false] 40)).frozen? ⟨B1, 1, none⟩ = false := by simp [go_sem, mf1, mz]
  replace m2 : (w4.alloc (.cells #[.int .i64 key', .string d', .int .i64 a', .int .i64 s', .bool dead', .complex .f64 fx fy, .string ⟨#[]⟩, .bool false] 40)).cell? ⟨B1, 2, none⟩ = some (.int .i64 a') := by simp [go_sem, m2, mz]
  replace mf2 : (w4.alloc (.cells #[.int .i64 key', .string d', .int .i64 a', .int .i64 s', .bool dead', .complex .f64 fx fy, .string ⟨#[]⟩, .bool false] 40)).frozen? ⟨B1, 2, none⟩ = false := by simp [go_sem, mf2, mz]
  replace m3 : (w4.alloc (.cells #[.int .i64 key', .string d', .int .i64 a', .int .i64 s', .bool dead', .complex .f64 fx fy, .string ⟨#[]⟩, .bool false] 40)).cell? ⟨B1, 3, none⟩ = some (.int .i64 s') := by simp [go_sem, m3, mz]
  replace mf3 : (w4.alloc (.cells #[.int .i64 key', .string d', .int .i64 a', .int .i64 s', .bool dead', .complex .f64 fx fy, .string ⟨#[]⟩, .bool false] 40)).frozen? ⟨B1, 3, none⟩ = false := by simp [go_sem, mf3, mz]
  replace m4 : (w4.alloc (.cells #[.int .i64 key', .string d', .int .i64 a', .int .i64 s', .bool dead', .complex .f64 fx fy, .string ⟨#[]⟩, .bool false] 40)).cell? ⟨B1, 4, none⟩ = some (.bool dead') := by simp [go_sem, m4, mz]
  replace mf4 : (w4.alloc (.cells #[.int .i64 key', .string d', .int .i64 a', .int .i64 s', .bool dead', .complex .f64 fx fy, .string ⟨#[]⟩, .bool false] 40)).frozen? ⟨B1, 4, none⟩ = false := by simp [go_sem, mf4, mz]
  replace m5 : (w4.alloc (.cells #[.int .i64 key', .string d', .int .i64 a', .int .i64 s', .bool dead', .complex .f64 fx fy, .string ⟨#[]⟩, .bool false] 40)).cell? ⟨B1, 5, none⟩ = some (.complex .f64 fx fy) := by simp [go_sem, m5, mz]
  replace mf5 : (w4.alloc (.cells #[.int .i64 key', .string d', .int .i64 a', .int .i64 s', .bool dead', .complex .f64 fx fy, .string ⟨#[]⟩, .bool false] 40)).frozen? ⟨B1, 5, none⟩ = false := by simp [go_sem, mf5, mz]
  replace m6 : (w4.alloc (.cells #[.int .i64 key', .string d', .int .i64 a', .int .i64 s', .bool dead', .complex .f64 fx fy, .string ⟨#[]⟩, .bool false] 40)).cell? ⟨B1, 6, none⟩ = some (.string ⟨#[]⟩) := by simp [go_sem, m6, mz]
  replace mf6 : (w4.alloc (.cells #[.int .i64 key', .string d', .int .i64 a', .int .i64 s', .bool dead', .complex .f64 fx fy, .string ⟨#[]⟩, .bool false] 40)).frozen? ⟨B1, 6, none⟩ = false := by simp [go_sem, mf6, mz]
  replace m7 : (w4.alloc (.cells #[.int .i64 key', .string d', .int .i64 a', .int .i64 s', .bool dead', .complex .f64 fx fy, .string ⟨#[]⟩, .bool false] 40)).cell? ⟨B1, 7, none⟩ = some (.bool false) := by simp [go_sem, m7, mz]
  replace mf7 : (w4.alloc (.cells #[.int .i64 key', .string d', .int .i64 a', .int .i64 s', .bool dead', .complex .f64 fx fy, .string ⟨#[]⟩, .bool false] 40)).frozen? ⟨B1, 7, none⟩ = false := by simp [go_sem, mf7, mz]
  replace mz : B1 < (w4.alloc (.cells #[.int .i64 key', .string d', .int .i64 a', .int .i64 s', .bool dead', .complex .f64 fx fy, .string ⟨#[]⟩, .bool false] 40)).heap.size := by simp <;> omega
  have n0 : (w4.alloc (.cells #[.int .i64 key', .string d', .int .i64 a', .int .i64 s', .bool dead', .complex .f64 fx fy, .string ⟨#[]⟩, .bool false] 40)).cell? ⟨w4.heap.size, 0, none⟩ = some (.int .i64 key') := by simp [go_sem]
  have nf0 : (w4.alloc (.cells #[.int .i64 key', .string d', .int .i64 a', .int .i64 s', .bool dead', .complex .f64 fx fy, .string ⟨#[]⟩, .bool false] 40)).frozen? ⟨w4.heap.size, 0, none⟩ = false := by simp [go_sem]
  have n1 : (w4.alloc (.cells #[.int .i64 key', .string d', .int .i64 a', .int .i64 s', .bool dead', .complex .f64 fx fy, .string ⟨#[]⟩, .bool false] 40)).cell? ⟨w4.heap.size, 1, none⟩ = some (.string d') := by simp [go_sem]
  have nf1 : (w4.alloc (.cells #[.int .i64 key', .string d', .int .i64 a', .int .i64 s', .bool dead', .complex .f64 fx fy, .string ⟨#[]⟩, .bool false] 40)).frozen? ⟨w4.heap.size, 1, none⟩ = false := by simp [go_sem]
  have n2 : (w4.alloc (.cells #[.int .i64 key', .string d', .int .i64 a', .int .i64 s', .bool dead', .complex .f64 fx fy, .string ⟨#[]⟩, .bool false] 40)).cell? ⟨w4.heap.size, 2, none⟩ = some (.int .i64 a') := by simp [go_sem]
  have nf2 : (w4.alloc (.cells #[.int .i64 key', .string d', .int .i64 a', .int .i64 s', .bool dead', .complex .f64 fx fy, .string ⟨#[]⟩, .bool false] 40)).frozen? ⟨w4.heap.size, 2, none⟩ = false := by simp [go_sem]
  have n3 : (w4.alloc (.cells #[.int .i64 key', .string d', .int .i64 a', .int .i64 s', .bool dead', .complex .f64 fx fy, .string ⟨#[]⟩, .bool false] 40)).cell? ⟨w4.heap.size, 3, none⟩ = some (.int .i64 s') := by simp [go_sem]
  have nf3 : (w4.alloc (.cells #[.int .i64 key', .string d', .int .i64 a', .int .i64 s', .bool dead', .complex .f64 fx fy, .string ⟨#[]⟩, .bool false] 40)).frozen? ⟨w4.heap.size, 3, none⟩ = false := by simp [go_sem]
  have n4 : (w4.alloc (.cells #[.int .i64 key', .string d', .int .i64 a', .int .i64 s', .bool dead', .complex .f64 fx fy, .string ⟨#[]⟩, .bool false] 40)).cell? ⟨w4.heap.size, 4, none⟩ = some (.bool dead') := by simp [go_sem]
  have nf4 : (w4.alloc (.cells #[.int .i64 key', .string d', .int .i64 a', .int .i64 s', .bool dead', .complex .f64 fx fy, .string ⟨#[]⟩, .bool false] 40)).frozen? ⟨w4.heap.size, 4, none⟩ = false := by simp [go_sem]
  have n5 : (w4.alloc (.cells #[.int .i64 key', .string d', .int .i64 a', .int .i64 s', .bool dead', .complex .f64 fx fy, .string ⟨#[]⟩, .bool false] 40)).cell? ⟨w4.heap.size, 5, none⟩ = some (.complex .f64 fx fy) := by simp [go_sem]
  have nf5 : (w4.alloc (.cells #[.int .i64 key', .string d', .int .i64 a', .int .i64 s', .bool dead', .complex .f64 fx fy, .string ⟨#[]⟩, .bool false] 40)).frozen? ⟨w4.heap.size, 5, none⟩ = false := by simp [go_sem]
  have n6 : (w4.alloc (.cells #[.int .i64 key', .string d', .int .i64 a', .int .i64 s', .bool dead', .complex .f64 fx fy, .string ⟨#[]⟩, .bool false] 40)).cell? ⟨w4.heap.size, 6, none⟩ = some (.string ⟨#[]⟩) := by simp [go_sem]
  have nf6 : (w4.alloc (.cells #[.int .i64 key', .string d', .int .i64 a', .int .i64 s', .bool dead', .complex .f64 fx fy, .string ⟨#[]⟩, .bool false] 40)).frozen? ⟨w4.heap.size, 6, none⟩ = false := by simp [go_sem]
  have n7 : (w4.alloc (.cells #[.int .i64 key', .string d', .int .i64 a', .int .i64 s', .bool dead', .complex .f64 fx fy, .string ⟨#[]⟩, .bool false] 40)).cell? ⟨w4.heap.size, 7, none⟩ = some (.bool false) := by simp [go_sem]
  have nf7 : (w4.alloc (.cells #[.int .i64 key', .string d', .int .i64 a', .int .i64 s', .bool dead', .complex .f64 fx fy, .string ⟨#[]⟩, .bool false] 40)).frozen? ⟨w4.heap.size, 7, none⟩ = false := by simp [go_sem]
  have nz : w4.heap.size < (w4.alloc (.cells #[.int .i64 key', .string d', .int .i64 a', .int .i64 s', .bool dead', .complex .f64 fx fy, .string ⟨#[]⟩, .bool false] 40)).heap.size := by simp <;> omega
  replace HB : Hid (Below w.heap.size w (w4.alloc (.cells #[.int .i64 key', .string d', .int .i64 a', .int .i64 s', .bool dead', .complex .f64 fx fy, .string ⟨#[]⟩, .bool false] 40))) := HB.out.alloc HB.out.size _
  generalize hB2 : w4.heap.size = B2 at *
  generalize (w4.alloc (.cells #[.int .i64 key', .string d', .int .i64 a', .int .i64 s', .bool dead', .complex .f64 fx fy, .string ⟨#[]⟩, .bool false] 40)) = W3 at *
  clear hB2 hne1
  refine wp_region_held_drew (S := fun w' => w'.cell? ⟨w.heap.size, 0, none⟩ = some (.int .i64 key') ∧ w'.cell? ⟨w.heap.size, 1, none⟩ = some (.string d') ∧ w'.cell? ⟨w.heap.size, 2, none⟩ = some (.int .i64 a') ∧ w'.cell? ⟨w.heap.size, 3, none⟩ = some (.int .i64 s') ∧ w'.cell? ⟨w.heap.size, 4, none⟩ = some (.bool dead') ∧ w'.cell? ⟨w.heap.size, 5, none⟩ = some (.int .i64 x') ∧ w'.cell? ⟨w.heap.size, 6, none⟩ = some (.int .i64 y') ∧ w'.cell? ⟨w.heap.size, 7, none⟩ = some (.string text') ∧ w'.cell? ⟨w.heap.size, 8, none⟩ = some (.bool held') ∧ w'.cell? ⟨B1, 0, none⟩ = some (.int .i64 key') ∧ w'.cell? ⟨B1, 1, none⟩ = some (.string d') ∧ w'.cell? ⟨B1, 2, none⟩ = some (.int .i64 a') ∧ w'.cell? ⟨B1, 3, none⟩ = some (.int .i64 s') ∧ w'.cell? ⟨B1, 4, none⟩ = some (.bool dead') ∧ w'.cell? ⟨B1, 5, none⟩ = some (.complex .f64 fx fy) ∧ w'.cell? ⟨B1, 6, none⟩ = some (.string ⟨#[]⟩) ∧ w'.cell? ⟨B1, 7, none⟩ = some (.bool false) ∧ w'.cell? ⟨B2, 0, none⟩ = some (.int .i64 key') ∧ w'.cell? ⟨B2, 1, none⟩ = some (.string d') ∧ w'.cell? ⟨B2, 2, none⟩ = some (.int .i64 a') ∧ w'.cell? ⟨B2, 3, none⟩ = some (.int .i64 s') ∧ w'.cell? ⟨B2, 4, none⟩ = some (.bool dead') ∧ w'.cell? ⟨B2, 5, none⟩ = some (.complex .f64 fx fy) ∧ w'.cell? ⟨B2, 6, none⟩ = some (.string ⟨#[]⟩) ∧ w'.cell? ⟨B2, 7, none⟩ = some (.bool false)) (by kernel_rfl) ⟨k0, k1, k2, k3, k4, k5, k6, k7, k8, m0, m1, m2, m3, m4, m5, m6, m7, n0, n1, n2, n3, n4, n5, n6, n7⟩ (fun hHeld => ?_)
  refine wpAnyH_ready (rs := [0]) (by kernel_rfl) (by simp) ?_
  refine AllReadyH.cons (o := { dst := some 14, op := Go.Op.call { callee := Go.Callee.value (Go.Operand.func 11), args := #[], argTypes := #[] }, type := 4, pos := "law.go:103", after := #[], guard := none }) rfl (fun K hK => ?_) AllReadyH.nil
  go_simp
  go_at_call 11
  refine (told_any _).mono ?_
  rintro e w5 ⟨rfl, hb⟩
  replace k0 := (hb.cell (p := ⟨w.heap.size, 0, none⟩) kz).trans k0
  replace kf0 := (hb.frozen (p := ⟨w.heap.size, 0, none⟩) kz).trans kf0
  replace k1 := (hb.cell (p := ⟨w.heap.size, 1, none⟩) kz).trans k1
  replace kf1 := (hb.frozen (p := ⟨w.heap.size, 1, none⟩) kz).trans kf1
  replace k2 := (hb.cell (p := ⟨w.heap.size, 2, none⟩) kz).trans k2
  replace kf2 := (hb.frozen (p := ⟨w.heap.size, 2, none⟩) kz).trans kf2
  replace k3 := (hb.cell (p := ⟨w.heap.size, 3, none⟩) kz).trans k3
  replace kf3 := (hb.frozen (p := ⟨w.heap.size, 3, none⟩) kz).trans kf3
  replace k4 := (hb.cell (p := ⟨w.heap.size, 4, none⟩) kz).trans k4
  replace kf4 := (hb.frozen (p := ⟨w.heap.size, 4, none⟩) kz).trans kf4
  replace k5 := (hb.cell (p := ⟨w.heap.size, 5, none⟩) kz).trans k5
  replace kf5 := (hb.frozen (p := ⟨w.heap.size, 5, none⟩) kz).trans kf5
  replace k6 := (hb.cell (p := ⟨w.heap.size, 6, none⟩) kz).trans k6
  replace kf6 := (hb.frozen (p := ⟨w.heap.size, 6, none⟩) kz).trans kf6
  replace k7 := (hb.cell (p := ⟨w.heap.size, 7, none⟩) kz).trans k7
  replace kf7 := (hb.frozen (p := ⟨w.heap.size, 7, none⟩) kz).trans kf7
  replace k8 := (hb.cell (p := ⟨w.heap.size, 8, none⟩) kz).trans k8
  replace kf8 := (hb.frozen (p := ⟨w.heap.size, 8, none⟩) kz).trans kf8
  replace kz := Nat.lt_of_lt_of_le kz hb.size
  replace m0 := (hb.cell (p := ⟨B1, 0, none⟩) mz).trans m0
  replace mf0 := (hb.frozen (p := ⟨B1, 0, none⟩) mz).trans mf0
  replace m1 := (hb.cell (p := ⟨B1, 1, none⟩) mz).trans m1
  replace mf1 := (hb.frozen (p := ⟨B1, 1, none⟩) mz).trans mf1
  replace m2 := (hb.cell (p := ⟨B1, 2, none⟩) mz).trans m2
  replace mf2 := (hb.frozen (p := ⟨B1, 2, none⟩) mz).trans mf2
  replace m3 := (hb.cell (p := ⟨B1, 3, none⟩) mz).trans m3
  replace mf3 := (hb.frozen (p := ⟨B1, 3, none⟩) mz).trans mf3
  replace m4 := (hb.cell (p := ⟨B1, 4, none⟩) mz).trans m4
  replace mf4 := (hb.frozen (p := ⟨B1, 4, none⟩) mz).trans mf4
  replace m5 := (hb.cell (p := ⟨B1, 5, none⟩) mz).trans m5
  replace mf5 := (hb.frozen (p := ⟨B1, 5, none⟩) mz).trans mf5
  replace m6 := (hb.cell (p := ⟨B1, 6, none⟩) mz).trans m6
  replace mf6 := (hb.frozen (p := ⟨B1, 6, none⟩) mz).trans mf6
  replace m7 := (hb.cell (p := ⟨B1, 7, none⟩) mz).trans m7
  replace mf7 := (hb.frozen (p := ⟨B1, 7, none⟩) mz).trans mf7
  replace mz := Nat.lt_of_lt_of_le mz hb.size
  replace n0 := (hb.cell (p := ⟨B2, 0, none⟩) nz).trans n0
  replace nf0 := (hb.frozen (p := ⟨B2, 0, none⟩) nz).trans nf0
  replace n1 := (hb.cell (p := ⟨B2, 1, none⟩) nz).trans n1
  replace nf1 := (hb.frozen (p := ⟨B2, 1, none⟩) nz).trans nf1
  replace n2 := (hb.cell (p := ⟨B2, 2, none⟩) nz).trans n2
  replace nf2 := (hb.frozen (p := ⟨B2, 2, none⟩) nz).trans nf2
  replace n3 := (hb.cell (p := ⟨B2, 3, none⟩) nz).trans n3
  replace nf3 := (hb.frozen (p := ⟨B2, 3, none⟩) nz).trans nf3
  replace n4 := (hb.cell (p := ⟨B2, 4, none⟩) nz).trans n4
  replace nf4 := (hb.frozen (p := ⟨B2, 4, none⟩) nz).trans nf4
  replace n5 := (hb.cell (p := ⟨B2, 5, none⟩) nz).trans n5
  replace nf5 := (hb.frozen (p := ⟨B2, 5, none⟩) nz).trans nf5
  replace n6 := (hb.cell (p := ⟨B2, 6, none⟩) nz).trans n6
  replace nf6 := (hb.frozen (p := ⟨B2, 6, none⟩) nz).trans nf6
  replace n7 := (hb.cell (p := ⟨B2, 7, none⟩) nz).trans n7
  replace nf7 := (hb.frozen (p := ⟨B2, 7, none⟩) nz).trans nf7
  replace nz := Nat.lt_of_lt_of_le nz hb.size
  replace HB := Lib.hid (below_via HB.out hb HB.out.size ⟨rfl, rfl, rfl, rfl⟩)
  clear hb
  refine hK.out _ _ ⟨k0, k1, k2, k3, k4, k5, k6, k7, k8, m0, m1, m2, m3, m4, m5, m6, m7, n0, n1, n2, n3, n4, n5, n6, n7⟩ (fun hHeld => ?_)
  clear hK K
  try simp only [Act.put, List.setIfInBounds_toArray, List.set_cons_zero, List.set_cons_succ]
  refine wpAnyH_take (i := 1) (oi := { dst := some 15, op := Go.Op.move (Go.Operand.tmp 14), type := 4, pos := "law.go:103", after := #[{ on := 0, ground := Go.Ground.data }, { on := 0, ground := Go.Ground.chain }], guard := none }) (v := ?_) rfl (by kernel_rfl) (by kernel_rfl) (by kernel_rfl) (fun _ _ _ h => h) (Or.inl ⟨rfl, ?_⟩) (by assumption) ?_
  rotate_left
  · intro wz hSw; (try dsimp only at hSw); go_simp; try (with_reducible rfl)
  try simp only [Act.put, List.setIfInBounds_toArray, List.set_cons_zero, List.set_cons_succ]
  refine wpAnyH_take (i := 2) (oi := { dst := some 16, op := Go.Op.load 40 (Go.Operand.tmp 3), type := 40, pos := "law.go:103", after := #[{ on := 1, ground := Go.Ground.guard }], guard := some (1, true) }) (v := ?_) rfl (by kernel_rfl) (by kernel_rfl) (by kernel_rfl) (fun _ _ _ h => h) (Or.inl ⟨rfl, ?_⟩) (by assumption) ?_
  rotate_left
  · intro wz hSw; (try dsimp only at hSw); go_simp; try (with_reducible rfl)
  try simp only [Act.put, List.setIfInBounds_toArray, List.set_cons_zero, List.set_cons_succ]
  refine wpAnyH_ready (rs := [3]) (by kernel_rfl) (by simp) ?_
  refine AllReadyH.cons (o := { dst := some 17, op := Go.Op.call { callee := Go.Callee.value (Go.Operand.func 14), args := #[Go.Operand.tmp 16], argTypes := #[40] }, type := 4, pos := "law.go:103", after := #[{ on := 2, ground := Go.Ground.data }, { on := 1, ground := Go.Ground.chain }, { on := 1, ground := Go.Ground.guard }], guard := some (1, true) }) rfl (fun K hK => ?_) AllReadyH.nil
  go_simp
  go_at_call 14
  refine (HR.out _).mono ?_
  rintro e w5 ⟨rfl, hb⟩
  replace k0 := (hb.cell (p := ⟨w.heap.size, 0, none⟩) kz).trans k0
  replace kf0 := (hb.frozen (p := ⟨w.heap.size, 0, none⟩) kz).trans kf0
  replace k1 := (hb.cell (p := ⟨w.heap.size, 1, none⟩) kz).trans k1
  replace kf1 := (hb.frozen (p := ⟨w.heap.size, 1, none⟩) kz).trans kf1
  replace k2 := (hb.cell (p := ⟨w.heap.size, 2, none⟩) kz).trans k2
  replace kf2 := (hb.frozen (p := ⟨w.heap.size, 2, none⟩) kz).trans kf2
  replace k3 := (hb.cell (p := ⟨w.heap.size, 3, none⟩) kz).trans k3
  replace kf3 := (hb.frozen (p := ⟨w.heap.size, 3, none⟩) kz).trans kf3
  replace k4 := (hb.cell (p := ⟨w.heap.size, 4, none⟩) kz).trans k4
  replace kf4 := (hb.frozen (p := ⟨w.heap.size, 4, none⟩) kz).trans kf4
  replace k5 := (hb.cell (p := ⟨w.heap.size, 5, none⟩) kz).trans k5
  replace kf5 := (hb.frozen (p := ⟨w.heap.size, 5, none⟩) kz).trans kf5
  replace k6 := (hb.cell (p := ⟨w.heap.size, 6, none⟩) kz).trans k6
  replace kf6 := (hb.frozen (p := ⟨w.heap.size, 6, none⟩) kz).trans kf6
  replace k7 := (hb.cell (p := ⟨w.heap.size, 7, none⟩) kz).trans k7
  replace kf7 := (hb.frozen (p := ⟨w.heap.size, 7, none⟩) kz).trans kf7
  replace k8 := (hb.cell (p := ⟨w.heap.size, 8, none⟩) kz).trans k8
  replace kf8 := (hb.frozen (p := ⟨w.heap.size, 8, none⟩) kz).trans kf8
  replace kz := Nat.lt_of_lt_of_le kz hb.size
  replace m0 := (hb.cell (p := ⟨B1, 0, none⟩) mz).trans m0
  replace mf0 := (hb.frozen (p := ⟨B1, 0, none⟩) mz).trans mf0
  replace m1 := (hb.cell (p := ⟨B1, 1, none⟩) mz).trans m1
  replace mf1 := (hb.frozen (p := ⟨B1, 1, none⟩) mz).trans mf1
  replace m2 := (hb.cell (p := ⟨B1, 2, none⟩) mz).trans m2
  replace mf2 := (hb.frozen (p := ⟨B1, 2, none⟩) mz).trans mf2
  replace m3 := (hb.cell (p := ⟨B1, 3, none⟩) mz).trans m3
  replace mf3 := (hb.frozen (p := ⟨B1, 3, none⟩) mz).trans mf3
  replace m4 := (hb.cell (p := ⟨B1, 4, none⟩) mz).trans m4
  replace mf4 := (hb.frozen (p := ⟨B1, 4, none⟩) mz).trans mf4
  replace m5 := (hb.cell (p := ⟨B1, 5, none⟩) mz).trans m5
  replace mf5 := (hb.frozen (p := ⟨B1, 5, none⟩) mz).trans mf5
  replace m6 := (hb.cell (p := ⟨B1, 6, none⟩) mz).trans m6
  replace mf6 := (hb.frozen (p := ⟨B1, 6, none⟩) mz).trans mf6
  replace m7 := (hb.cell (p := ⟨B1, 7, none⟩) mz).trans m7
  replace mf7 := (hb.frozen (p := ⟨B1, 7, none⟩) mz).trans mf7
  replace mz := Nat.lt_of_lt_of_le mz hb.size
  replace n0 := (hb.cell (p := ⟨B2, 0, none⟩) nz).trans n0
  replace nf0 := (hb.frozen (p := ⟨B2, 0, none⟩) nz).trans nf0
  replace n1 := (hb.cell (p := ⟨B2, 1, none⟩) nz).trans n1
  replace nf1 := (hb.frozen (p := ⟨B2, 1, none⟩) nz).trans nf1
  replace n2 := (hb.cell (p := ⟨B2, 2, none⟩) nz).trans n2
  replace nf2 := (hb.frozen (p := ⟨B2, 2, none⟩) nz).trans nf2
  replace n3 := (hb.cell (p := ⟨B2, 3, none⟩) nz).trans n3
  replace nf3 := (hb.frozen (p := ⟨B2, 3, none⟩) nz).trans nf3
  replace n4 := (hb.cell (p := ⟨B2, 4, none⟩) nz).trans n4
  replace nf4 := (hb.frozen (p := ⟨B2, 4, none⟩) nz).trans nf4
  replace n5 := (hb.cell (p := ⟨B2, 5, none⟩) nz).trans n5
  replace nf5 := (hb.frozen (p := ⟨B2, 5, none⟩) nz).trans nf5
  replace n6 := (hb.cell (p := ⟨B2, 6, none⟩) nz).trans n6
  replace nf6 := (hb.frozen (p := ⟨B2, 6, none⟩) nz).trans nf6
  replace n7 := (hb.cell (p := ⟨B2, 7, none⟩) nz).trans n7
  replace nf7 := (hb.frozen (p := ⟨B2, 7, none⟩) nz).trans nf7
  replace nz := Nat.lt_of_lt_of_le nz hb.size
  replace HB := Lib.hid (below_via HB.out hb HB.out.size ⟨rfl, rfl, rfl, rfl⟩)
  clear hb
  refine hK.out _ _ ⟨k0, k1, k2, k3, k4, k5, k6, k7, k8, m0, m1, m2, m3, m4, m5, m6, m7, n0, n1, n2, n3, n4, n5, n6, n7⟩ (fun hHeld => ?_)
  clear hK K
  try simp only [Act.put, List.setIfInBounds_toArray, List.set_cons_zero, List.set_cons_succ]
  refine wpAnyH_take (i := 4) (oi := { dst := some 18, op := Go.Op.pick (Go.Operand.tmp 15) (Go.Operand.tmp 17) (Go.Operand.const (Go.Value.bool false)), type := 4, pos := "law.go:103", after := #[{ on := 1, ground := Go.Ground.data }, { on := 3, ground := Go.Ground.data }], guard := none }) (v := ?_) rfl (by kernel_rfl) (by kernel_rfl) (by kernel_rfl) (fun _ _ _ h => h) (Or.inl ⟨rfl, ?_⟩) (by assumption) ?_
  rotate_left
  · intro wz hSw; (try dsimp only at hSw); go_simp; try (with_reducible rfl)
  try simp only [Act.put, List.setIfInBounds_toArray, List.set_cons_zero, List.set_cons_succ]
  refine wpAnyH_take (i := 5) (oi := { dst := some 19, op := Go.Op.move (Go.Operand.tmp 18), type := 4, pos := "law.go:103", after := #[{ on := 4, ground := Go.Ground.data }, { on := 3, ground := Go.Ground.chain }], guard := none }) (v := ?_) rfl (by kernel_rfl) (by kernel_rfl) (by kernel_rfl) (fun _ _ _ h => h) (Or.inl ⟨rfl, ?_⟩) (by assumption) ?_
  rotate_left
  · intro wz hSw; (try dsimp only at hSw); go_simp; try (with_reducible rfl)
  try simp only [Act.put, List.setIfInBounds_toArray, List.set_cons_zero, List.set_cons_succ]
  refine wpAnyH_take (i := 6) (oi := { dst := some 20, op := Go.Op.load 40 (Go.Operand.tmp 3), type := 40, pos := "law.go:103", after := #[{ on := 5, ground := Go.Ground.guard }], guard := some (5, true) }) (v := ?_) rfl (by kernel_rfl) (by kernel_rfl) (by kernel_rfl) (fun _ _ _ h => h) (Or.inl ⟨rfl, ?_⟩) (by assumption) ?_
  rotate_left
  · intro wz hSw; (try dsimp only at hSw); go_simp; try (with_reducible rfl)
  try simp only [Act.put, List.setIfInBounds_toArray, List.set_cons_zero, List.set_cons_succ]
  refine wpAnyH_take (i := 7) (oi := { dst := some 21, op := Go.Op.load 40 (Go.Operand.tmp 4), type := 40, pos := "law.go:103", after := #[{ on := 5, ground := Go.Ground.guard }], guard := some (5, true) }) (v := ?_) rfl (by kernel_rfl) (by kernel_rfl) (by kernel_rfl) (fun _ _ _ h => h) (Or.inl ⟨rfl, ?_⟩) (by assumption) ?_
  rotate_left
  · intro wz hSw; (try dsimp only at hSw); go_simp; try (with_reducible rfl)
  try simp only [Act.put, List.setIfInBounds_toArray, List.set_cons_zero, List.set_cons_succ]
  refine wpAnyH_take (i := 8) (oi := { dst := some 22, op := Go.Op.binOp Go.BinOp.eql 40 (Go.Operand.tmp 20) (Go.Operand.tmp 21) 40, type := 4, pos := "law.go:103", after := #[{ on := 6, ground := Go.Ground.data }, { on := 7, ground := Go.Ground.data }, { on := 5, ground := Go.Ground.guard }], guard := some (5, true) }) (v := ?_) rfl (by kernel_rfl) (by kernel_rfl) (by kernel_rfl) (fun _ _ _ h => h) (Or.inl ⟨rfl, ?_⟩) (by assumption) ?_
  rotate_left
  · intro wz hSw; (try dsimp only at hSw); go_simp; try (with_reducible rfl)
  try simp only [Act.put, List.setIfInBounds_toArray, List.set_cons_zero, List.set_cons_succ]
  refine wpAnyH_take (i := 9) (oi := { dst := some 23, op := Go.Op.pick (Go.Operand.tmp 19) (Go.Operand.tmp 22) (Go.Operand.const (Go.Value.bool false)), type := 4, pos := "law.go:103", after := #[{ on := 5, ground := Go.Ground.data }, { on := 8, ground := Go.Ground.data }], guard := none }) (v := ?_) rfl (by kernel_rfl) (by kernel_rfl) (by kernel_rfl) (fun _ _ _ h => h) (Or.inl ⟨rfl, ?_⟩) (by assumption) ?_
  rotate_left
  · intro wz hSw; (try dsimp only at hSw); go_simp; try (with_reducible rfl)
  try simp only [Act.put, List.setIfInBounds_toArray, List.set_cons_zero, List.set_cons_succ]
  refine wpAnyH_take (i := 10) (oi := { dst := some 24, op := Go.Op.move (Go.Operand.tmp 23), type := 4, pos := "law.go:103", after := #[{ on := 9, ground := Go.Ground.data }, { on := 5, ground := Go.Ground.chain }], guard := none }) (v := ?_) rfl (by kernel_rfl) (by kernel_rfl) (by kernel_rfl) (fun _ _ _ h => h) (Or.inl ⟨rfl, ?_⟩) (by assumption) ?_
  rotate_left
  · intro wz hSw; (try dsimp only at hSw); go_simp; try (with_reducible rfl)
  try simp only [Act.put, List.setIfInBounds_toArray, List.set_cons_zero, List.set_cons_succ]
  refine wpAnyH_take (i := 11) (oi := { dst := some 25, op := Go.Op.load 40 (Go.Operand.tmp 3), type := 40, pos := "law.go:103", after := #[{ on := 10, ground := Go.Ground.guard }], guard := some (10, true) }) (v := ?_) rfl (by kernel_rfl) (by kernel_rfl) (by kernel_rfl) (fun _ _ _ h => h) (Or.inl ⟨rfl, ?_⟩) (by assumption) ?_
  rotate_left
  · intro wz hSw; (try dsimp only at hSw); go_simp; try (with_reducible rfl)
  try simp only [Act.put, List.setIfInBounds_toArray, List.set_cons_zero, List.set_cons_succ]
  refine wpAnyH_take (i := 13) (oi := { dst := some 27, op := Go.Op.load 40 (Go.Operand.tmp 3), type := 40, pos := "law.go:103", after := #[{ on := 10, ground := Go.Ground.guard }], guard := some (10, true) }) (v := ?_) rfl (by kernel_rfl) (by kernel_rfl) (by kernel_rfl) (fun _ _ _ h => h) (Or.inl ⟨rfl, ?_⟩) (by assumption) ?_
  rotate_left
  · intro wz hSw; (try dsimp only at hSw); go_simp; try (with_reducible rfl)
  try simp only [Act.put, List.setIfInBounds_toArray, List.set_cons_zero, List.set_cons_succ]
  refine wpAnyH_ready (rs := [12]) (by kernel_rfl) (by simp) ?_
  refine AllReadyH.cons (o := { dst := some 26, op := Go.Op.call { callee := Go.Callee.value (Go.Operand.func 18), args := #[Go.Operand.tmp 25], argTypes := #[40] }, type := 40, pos := "law.go:103", after := #[{ on := 11, ground := Go.Ground.data }, { on := 10, ground := Go.Ground.chain }, { on := 10, ground := Go.Ground.guard }], guard := some (10, true) }) rfl (fun K hK => ?_) AllReadyH.nil
  go_simp
  go_at_call 18
  refine (HS2.out _).mono ?_
  rintro e w5 ⟨rfl, hb⟩
  replace k0 := (hb.cell (p := ⟨w.heap.size, 0, none⟩) kz).trans k0
  replace kf0 := (hb.frozen (p := ⟨w.heap.size, 0, none⟩) kz).trans kf0
  replace k1 := (hb.cell (p := ⟨w.heap.size, 1, none⟩) kz).trans k1
  replace kf1 := (hb.frozen (p := ⟨w.heap.size, 1, none⟩) kz).trans kf1
  replace k2 := (hb.cell (p := ⟨w.heap.size, 2, none⟩) kz).trans k2
  replace kf2 := (hb.frozen (p := ⟨w.heap.size, 2, none⟩) kz).trans kf2
  replace k3 := (hb.cell (p := ⟨w.heap.size, 3, none⟩) kz).trans k3
  replace kf3 := (hb.frozen (p := ⟨w.heap.size, 3, none⟩) kz).trans kf3
  replace k4 := (hb.cell (p := ⟨w.heap.size, 4, none⟩) kz).trans k4
  replace kf4 := (hb.frozen (p := ⟨w.heap.size, 4, none⟩) kz).trans kf4
  replace k5 := (hb.cell (p := ⟨w.heap.size, 5, none⟩) kz).trans k5
  replace kf5 := (hb.frozen (p := ⟨w.heap.size, 5, none⟩) kz).trans kf5
  replace k6 := (hb.cell (p := ⟨w.heap.size, 6, none⟩) kz).trans k6
  replace kf6 := (hb.frozen (p := ⟨w.heap.size, 6, none⟩) kz).trans kf6
  replace k7 := (hb.cell (p := ⟨w.heap.size, 7, none⟩) kz).trans k7
  replace kf7 := (hb.frozen (p := ⟨w.heap.size, 7, none⟩) kz).trans kf7
  replace k8 := (hb.cell (p := ⟨w.heap.size, 8, none⟩) kz).trans k8
  replace kf8 := (hb.frozen (p := ⟨w.heap.size, 8, none⟩) kz).trans kf8
  replace kz := Nat.lt_of_lt_of_le kz hb.size
  replace m0 := (hb.cell (p := ⟨B1, 0, none⟩) mz).trans m0
  replace mf0 := (hb.frozen (p := ⟨B1, 0, none⟩) mz).trans mf0
  replace m1 := (hb.cell (p := ⟨B1, 1, none⟩) mz).trans m1
  replace mf1 := (hb.frozen (p := ⟨B1, 1, none⟩) mz).trans mf1
  replace m2 := (hb.cell (p := ⟨B1, 2, none⟩) mz).trans m2
  replace mf2 := (hb.frozen (p := ⟨B1, 2, none⟩) mz).trans mf2
  replace m3 := (hb.cell (p := ⟨B1, 3, none⟩) mz).trans m3
  replace mf3 := (hb.frozen (p := ⟨B1, 3, none⟩) mz).trans mf3
  replace m4 := (hb.cell (p := ⟨B1, 4, none⟩) mz).trans m4
  replace mf4 := (hb.frozen (p := ⟨B1, 4, none⟩) mz).trans mf4
  replace m5 := (hb.cell (p := ⟨B1, 5, none⟩) mz).trans m5
  replace mf5 := (hb.frozen (p := ⟨B1, 5, none⟩) mz).trans mf5
  replace m6 := (hb.cell (p := ⟨B1, 6, none⟩) mz).trans m6
  replace mf6 := (hb.frozen (p := ⟨B1, 6, none⟩) mz).trans mf6
  replace m7 := (hb.cell (p := ⟨B1, 7, none⟩) mz).trans m7
  replace mf7 := (hb.frozen (p := ⟨B1, 7, none⟩) mz).trans mf7
  replace mz := Nat.lt_of_lt_of_le mz hb.size
  replace n0 := (hb.cell (p := ⟨B2, 0, none⟩) nz).trans n0
  replace nf0 := (hb.frozen (p := ⟨B2, 0, none⟩) nz).trans nf0
  replace n1 := (hb.cell (p := ⟨B2, 1, none⟩) nz).trans n1
  replace nf1 := (hb.frozen (p := ⟨B2, 1, none⟩) nz).trans nf1
  replace n2 := (hb.cell (p := ⟨B2, 2, none⟩) nz).trans n2
  replace nf2 := (hb.frozen (p := ⟨B2, 2, none⟩) nz).trans nf2
  replace n3 := (hb.cell (p := ⟨B2, 3, none⟩) nz).trans n3
  replace nf3 := (hb.frozen (p := ⟨B2, 3, none⟩) nz).trans nf3
  replace n4 := (hb.cell (p := ⟨B2, 4, none⟩) nz).trans n4
  replace nf4 := (hb.frozen (p := ⟨B2, 4, none⟩) nz).trans nf4
  replace n5 := (hb.cell (p := ⟨B2, 5, none⟩) nz).trans n5
  replace nf5 := (hb.frozen (p := ⟨B2, 5, none⟩) nz).trans nf5
  replace n6 := (hb.cell (p := ⟨B2, 6, none⟩) nz).trans n6
  replace nf6 := (hb.frozen (p := ⟨B2, 6, none⟩) nz).trans nf6
  replace n7 := (hb.cell (p := ⟨B2, 7, none⟩) nz).trans n7
  replace nf7 := (hb.frozen (p := ⟨B2, 7, none⟩) nz).trans nf7
  replace nz := Nat.lt_of_lt_of_le nz hb.size
  replace HB := Lib.hid (below_via HB.out hb HB.out.size ⟨rfl, rfl, rfl, rfl⟩)
  clear hb
  refine hK.out _ _ ⟨k0, k1, k2, k3, k4, k5, k6, k7, k8, m0, m1, m2, m3, m4, m5, m6, m7, n0, n1, n2, n3, n4, n5, n6, n7⟩ (fun hHeld => ?_)
  clear hK K
  try simp only [Act.put, List.setIfInBounds_toArray, List.set_cons_zero, List.set_cons_succ]
  refine wpAnyH_take (i := 14) (oi := { dst := some 28, op := Go.Op.binOp Go.BinOp.eql 40 (Go.Operand.tmp 26) (Go.Operand.tmp 27) 40, type := 4, pos := "law.go:103", after := #[{ on := 12, ground := Go.Ground.data }, { on := 13, ground := Go.Ground.data }, { on := 10, ground := Go.Ground.guard }], guard := some (10, true) }) (v := ?_) rfl (by kernel_rfl) (by kernel_rfl) (by kernel_rfl) (fun _ _ _ h => h) (Or.inl ⟨rfl, ?_⟩) (by assumption) ?_
  rotate_left
  · intro wz hSw; (try dsimp only at hSw); go_simp; try (with_reducible rfl)
  try simp only [Act.put, List.setIfInBounds_toArray, List.set_cons_zero, List.set_cons_succ]
  refine wpAnyH_take (i := 15) (oi := { dst := some 29, op := Go.Op.pick (Go.Operand.tmp 24) (Go.Operand.tmp 28) (Go.Operand.const (Go.Value.bool false)), type := 4, pos := "law.go:103", after := #[{ on := 10, ground := Go.Ground.data }, { on := 14, ground := Go.Ground.data }], guard := none }) (v := ?_) rfl (by kernel_rfl) (by kernel_rfl) (by kernel_rfl) (fun _ _ _ h => h) (Or.inl ⟨rfl, ?_⟩) (by assumption) ?_
  rotate_left
  · intro wz hSw; (try dsimp only at hSw); go_simp; try (with_reducible rfl)
  try simp only [Act.put, List.setIfInBounds_toArray, List.set_cons_zero, List.set_cons_succ]
  refine wpAnyH_take (i := 16) (oi := { dst := some 30, op := Go.Op.move (Go.Operand.tmp 29), type := 4, pos := "law.go:103", after := #[{ on := 15, ground := Go.Ground.data }, { on := 12, ground := Go.Ground.chain }], guard := none }) (v := ?_) rfl (by kernel_rfl) (by kernel_rfl) (by kernel_rfl) (fun _ _ _ h => h) (Or.inl ⟨rfl, ?_⟩) (by assumption) ?_
  rotate_left
  · intro wz hSw; (try dsimp only at hSw); go_simp; try (with_reducible rfl)
  try simp only [Act.put, List.setIfInBounds_toArray, List.set_cons_zero, List.set_cons_succ]
  refine wpAnyH_take (i := 17) (oi := { dst := some 31, op := Go.Op.load 40 (Go.Operand.tmp 3), type := 40, pos := "law.go:103", after := #[{ on := 16, ground := Go.Ground.guard }], guard := some (16, true) }) (v := ?_) rfl (by kernel_rfl) (by kernel_rfl) (by kernel_rfl) (fun _ _ _ h => h) (Or.inl ⟨rfl, ?_⟩) (by assumption) ?_
  rotate_left
  · intro wz hSw; (try dsimp only at hSw); go_simp; try (with_reducible rfl)
  try simp only [Act.put, List.setIfInBounds_toArray, List.set_cons_zero, List.set_cons_succ]
  refine wpAnyH_take (i := 20) (oi := { dst := some 34, op := Go.Op.load 35 (Go.Operand.tmp 1), type := 35, pos := "law.go:103", after := #[{ on := 16, ground := Go.Ground.guard }], guard := some (16, true) }) (v := ?_) rfl (by kernel_rfl) (by kernel_rfl) (by kernel_rfl) (fun _ _ _ h => h) (Or.inl ⟨rfl, ?_⟩) (by assumption) ?_
  rotate_left
  · intro wz hSw; (try dsimp only at hSw); go_simp; try (with_reducible rfl)
  try simp only [Act.put, List.setIfInBounds_toArray, List.set_cons_zero, List.set_cons_succ]
  refine wpAnyH_ready (rs := [18]) (by kernel_rfl) (by simp) ?_
  refine AllReadyH.cons (o := { dst := some 32, op := Go.Op.call { callee := Go.Callee.value (Go.Operand.func 21), args := #[Go.Operand.const (Go.Value.slice none 0 0), Go.Operand.tmp 31], argTypes := #[47, 40] }, type := 47, pos := "law.go:103", after := #[{ on := 17, ground := Go.Ground.data }, { on := 16, ground := Go.Ground.chain }, { on := 16, ground := Go.Ground.guard }], guard := some (16, true) }) rfl (fun K hK => ?_) AllReadyH.nil
  go_simp
  go_at_call 21
  refine (HP1.out _).mono ?_
  rintro e w5 ⟨_, _, rfl, _, hb⟩
  replace k0 := (hb.cell (p := ⟨w.heap.size, 0, none⟩) kz).trans k0
  replace kf0 := (hb.frozen (p := ⟨w.heap.size, 0, none⟩) kz).trans kf0
  replace k1 := (hb.cell (p := ⟨w.heap.size, 1, none⟩) kz).trans k1
  replace kf1 := (hb.frozen (p := ⟨w.heap.size, 1, none⟩) kz).trans kf1
  replace k2 := (hb.cell (p := ⟨w.heap.size, 2, none⟩) kz).trans k2
  replace kf2 := (hb.frozen (p := ⟨w.heap.size, 2, none⟩) kz).trans kf2
  replace k3 := (hb.cell (p := ⟨w.heap.size, 3, none⟩) kz).trans k3
  replace kf3 := (hb.frozen (p := ⟨w.heap.size, 3, none⟩) kz).trans kf3
  replace k4 := (hb.cell (p := ⟨w.heap.size, 4, none⟩) kz).trans k4
  replace kf4 := (hb.frozen (p := ⟨w.heap.size, 4, none⟩) kz).trans kf4
  replace k5 := (hb.cell (p := ⟨w.heap.size, 5, none⟩) kz).trans k5
  replace kf5 := (hb.frozen (p := ⟨w.heap.size, 5, none⟩) kz).trans kf5
  replace k6 := (hb.cell (p := ⟨w.heap.size, 6, none⟩) kz).trans k6
  replace kf6 := (hb.frozen (p := ⟨w.heap.size, 6, none⟩) kz).trans kf6
  replace k7 := (hb.cell (p := ⟨w.heap.size, 7, none⟩) kz).trans k7
  replace kf7 := (hb.frozen (p := ⟨w.heap.size, 7, none⟩) kz).trans kf7
  replace k8 := (hb.cell (p := ⟨w.heap.size, 8, none⟩) kz).trans k8
  replace kf8 := (hb.frozen (p := ⟨w.heap.size, 8, none⟩) kz).trans kf8
  replace kz := Nat.lt_of_lt_of_le kz hb.size
  replace m0 := (hb.cell (p := ⟨B1, 0, none⟩) mz).trans m0
  replace mf0 := (hb.frozen (p := ⟨B1, 0, none⟩) mz).trans mf0
  replace m1 := (hb.cell (p := ⟨B1, 1, none⟩) mz).trans m1
  replace mf1 := (hb.frozen (p := ⟨B1, 1, none⟩) mz).trans mf1
  replace m2 := (hb.cell (p := ⟨B1, 2, none⟩) mz).trans m2
  replace mf2 := (hb.frozen (p := ⟨B1, 2, none⟩) mz).trans mf2
  replace m3 := (hb.cell (p := ⟨B1, 3, none⟩) mz).trans m3
  replace mf3 := (hb.frozen (p := ⟨B1, 3, none⟩) mz).trans mf3
  replace m4 := (hb.cell (p := ⟨B1, 4, none⟩) mz).trans m4
  replace mf4 := (hb.frozen (p := ⟨B1, 4, none⟩) mz).trans mf4
  replace m5 := (hb.cell (p := ⟨B1, 5, none⟩) mz).trans m5
  replace mf5 := (hb.frozen (p := ⟨B1, 5, none⟩) mz).trans mf5
  replace m6 := (hb.cell (p := ⟨B1, 6, none⟩) mz).trans m6
  replace mf6 := (hb.frozen (p := ⟨B1, 6, none⟩) mz).trans mf6
  replace m7 := (hb.cell (p := ⟨B1, 7, none⟩) mz).trans m7
  replace mf7 := (hb.frozen (p := ⟨B1, 7, none⟩) mz).trans mf7
  replace mz := Nat.lt_of_lt_of_le mz hb.size
  replace n0 := (hb.cell (p := ⟨B2, 0, none⟩) nz).trans n0
  replace nf0 := (hb.frozen (p := ⟨B2, 0, none⟩) nz).trans nf0
  replace n1 := (hb.cell (p := ⟨B2, 1, none⟩) nz).trans n1
  replace nf1 := (hb.frozen (p := ⟨B2, 1, none⟩) nz).trans nf1
  replace n2 := (hb.cell (p := ⟨B2, 2, none⟩) nz).trans n2
  replace nf2 := (hb.frozen (p := ⟨B2, 2, none⟩) nz).trans nf2
  replace n3 := (hb.cell (p := ⟨B2, 3, none⟩) nz).trans n3
  replace nf3 := (hb.frozen (p := ⟨B2, 3, none⟩) nz).trans nf3
  replace n4 := (hb.cell (p := ⟨B2, 4, none⟩) nz).trans n4
  replace nf4 := (hb.frozen (p := ⟨B2, 4, none⟩) nz).trans nf4
  replace n5 := (hb.cell (p := ⟨B2, 5, none⟩) nz).trans n5
  replace nf5 := (hb.frozen (p := ⟨B2, 5, none⟩) nz).trans nf5
  replace n6 := (hb.cell (p := ⟨B2, 6, none⟩) nz).trans n6
  replace nf6 := (hb.frozen (p := ⟨B2, 6, none⟩) nz).trans nf6
  replace n7 := (hb.cell (p := ⟨B2, 7, none⟩) nz).trans n7
  replace nf7 := (hb.frozen (p := ⟨B2, 7, none⟩) nz).trans nf7
  replace nz := Nat.lt_of_lt_of_le nz hb.size
  replace HB := Lib.hid (below_via HB.out hb HB.out.size ⟨rfl, rfl, rfl, rfl⟩)
  clear hb
  refine hK.out _ _ ⟨k0, k1, k2, k3, k4, k5, k6, k7, k8, m0, m1, m2, m3, m4, m5, m6, m7, n0, n1, n2, n3, n4, n5, n6, n7⟩ (fun hHeld => ?_)
  clear hK K
  try simp only [Act.put, List.setIfInBounds_toArray, List.set_cons_zero, List.set_cons_succ]
  refine wpAnyH_take (i := 19) (oi := { dst := some 33, op := Go.Op.call { callee := Go.Callee.builtin Go.Builtin.len, args := #[Go.Operand.tmp 32], argTypes := #[47] }, type := 3, pos := "law.go:103", after := #[{ on := 18, ground := Go.Ground.data }, { on := 16, ground := Go.Ground.guard }], guard := some (16, true) }) (v := ?_) rfl (by kernel_rfl) (by kernel_rfl) (by kernel_rfl) (fun _ _ _ h => h) (Or.inl ⟨rfl, ?_⟩) (by assumption) ?_
  rotate_left
  · intro wz hSw; (try dsimp only at hSw); go_simp; try (with_reducible rfl)
  try simp only [Act.put, List.setIfInBounds_toArray, List.set_cons_zero, List.set_cons_succ]
  refine wpAnyH_ready (rs := [21]) (by kernel_rfl) (by simp) ?_
  refine AllReadyH.cons (o := { dst := some 35, op := Go.Op.call { callee := Go.Callee.value (Go.Operand.func 15), args := #[Go.Operand.tmp 34], argTypes := #[35] }, type := 40, pos := "law.go:103", after := #[{ on := 20, ground := Go.Ground.data }, { on := 18, ground := Go.Ground.chain }, { on := 16, ground := Go.Ground.guard }], guard := some (16, true) }) rfl (fun K hK => ?_) AllReadyH.nil
  go_simp
  go_at_call 15
  refine (HT.out _).mono ?_
  rintro e w5 ⟨rfl, hb⟩
  replace k0 := (hb.cell (p := ⟨w.heap.size, 0, none⟩) kz).trans k0
  replace kf0 := (hb.frozen (p := ⟨w.heap.size, 0, none⟩) kz).trans kf0
  replace k1 := (hb.cell (p := ⟨w.heap.size, 1, none⟩) kz).trans k1
  replace kf1 := (hb.frozen (p := ⟨w.heap.size, 1, none⟩) kz).trans kf1
  replace k2 := (hb.cell (p := ⟨w.heap.size, 2, none⟩) kz).trans k2
  replace kf2 := (hb.frozen (p := ⟨w.heap.size, 2, none⟩) kz).trans kf2
  replace k3 := (hb.cell (p := ⟨w.heap.size, 3, none⟩) kz).trans k3
  replace kf3 := (hb.frozen (p := ⟨w.heap.size, 3, none⟩) kz).trans kf3
  replace k4 := (hb.cell (p := ⟨w.heap.size, 4, none⟩) kz).trans k4
  replace kf4 := (hb.frozen (p := ⟨w.heap.size, 4, none⟩) kz).trans kf4
  replace k5 := (hb.cell (p := ⟨w.heap.size, 5, none⟩) kz).trans k5
  replace kf5 := (hb.frozen (p := ⟨w.heap.size, 5, none⟩) kz).trans kf5
  replace k6 := (hb.cell (p := ⟨w.heap.size, 6, none⟩) kz).trans k6
  replace kf6 := (hb.frozen (p := ⟨w.heap.size, 6, none⟩) kz).trans kf6
  replace k7 := (hb.cell (p := ⟨w.heap.size, 7, none⟩) kz).trans k7
  replace kf7 := (hb.frozen (p := ⟨w.heap.size, 7, none⟩) kz).trans kf7
  replace k8 := (hb.cell (p := ⟨w.heap.size, 8, none⟩) kz).trans k8
  replace kf8 := (hb.frozen (p := ⟨w.heap.size, 8, none⟩) kz).trans kf8
  replace kz := Nat.lt_of_lt_of_le kz hb.size
  replace m0 := (hb.cell (p := ⟨B1, 0, none⟩) mz).trans m0
  replace mf0 := (hb.frozen (p := ⟨B1, 0, none⟩) mz).trans mf0
  replace m1 := (hb.cell (p := ⟨B1, 1, none⟩) mz).trans m1
  replace mf1 := (hb.frozen (p := ⟨B1, 1, none⟩) mz).trans mf1
  replace m2 := (hb.cell (p := ⟨B1, 2, none⟩) mz).trans m2
  replace mf2 := (hb.frozen (p := ⟨B1, 2, none⟩) mz).trans mf2
  replace m3 := (hb.cell (p := ⟨B1, 3, none⟩) mz).trans m3
  replace mf3 := (hb.frozen (p := ⟨B1, 3, none⟩) mz).trans mf3
  replace m4 := (hb.cell (p := ⟨B1, 4, none⟩) mz).trans m4
  replace mf4 := (hb.frozen (p := ⟨B1, 4, none⟩) mz).trans mf4
  replace m5 := (hb.cell (p := ⟨B1, 5, none⟩) mz).trans m5
  replace mf5 := (hb.frozen (p := ⟨B1, 5, none⟩) mz).trans mf5
  replace m6 := (hb.cell (p := ⟨B1, 6, none⟩) mz).trans m6
  replace mf6 := (hb.frozen (p := ⟨B1, 6, none⟩) mz).trans mf6
  replace m7 := (hb.cell (p := ⟨B1, 7, none⟩) mz).trans m7
  replace mf7 := (hb.frozen (p := ⟨B1, 7, none⟩) mz).trans mf7
  replace mz := Nat.lt_of_lt_of_le mz hb.size
  replace n0 := (hb.cell (p := ⟨B2, 0, none⟩) nz).trans n0
  replace nf0 := (hb.frozen (p := ⟨B2, 0, none⟩) nz).trans nf0
  replace n1 := (hb.cell (p := ⟨B2, 1, none⟩) nz).trans n1
  replace nf1 := (hb.frozen (p := ⟨B2, 1, none⟩) nz).trans nf1
  replace n2 := (hb.cell (p := ⟨B2, 2, none⟩) nz).trans n2
  replace nf2 := (hb.frozen (p := ⟨B2, 2, none⟩) nz).trans nf2
  replace n3 := (hb.cell (p := ⟨B2, 3, none⟩) nz).trans n3
  replace nf3 := (hb.frozen (p := ⟨B2, 3, none⟩) nz).trans nf3
  replace n4 := (hb.cell (p := ⟨B2, 4, none⟩) nz).trans n4
  replace nf4 := (hb.frozen (p := ⟨B2, 4, none⟩) nz).trans nf4
  replace n5 := (hb.cell (p := ⟨B2, 5, none⟩) nz).trans n5
  replace nf5 := (hb.frozen (p := ⟨B2, 5, none⟩) nz).trans nf5
  replace n6 := (hb.cell (p := ⟨B2, 6, none⟩) nz).trans n6
  replace nf6 := (hb.frozen (p := ⟨B2, 6, none⟩) nz).trans nf6
  replace n7 := (hb.cell (p := ⟨B2, 7, none⟩) nz).trans n7
  replace nf7 := (hb.frozen (p := ⟨B2, 7, none⟩) nz).trans nf7
  replace nz := Nat.lt_of_lt_of_le nz hb.size
  replace HB := Lib.hid (below_via HB.out hb HB.out.size ⟨rfl, rfl, rfl, rfl⟩)
  clear hb
  refine hK.out _ _ ⟨k0, k1, k2, k3, k4, k5, k6, k7, k8, m0, m1, m2, m3, m4, m5, m6, m7, n0, n1, n2, n3, n4, n5, n6, n7⟩ (fun hHeld => ?_)
  clear hK K
  try simp only [Act.put, List.setIfInBounds_toArray, List.set_cons_zero, List.set_cons_succ]
  refine wpAnyH_ready (rs := [22]) (by kernel_rfl) (by simp) ?_
  refine AllReadyH.cons (o := { dst := some 36, op := Go.Op.call { callee := Go.Callee.value (Go.Operand.func 21), args := #[Go.Operand.const (Go.Value.slice none 0 0), Go.Operand.tmp 35], argTypes := #[47, 40] }, type := 47, pos := "law.go:103", after := #[{ on := 21, ground := Go.Ground.data }, { on := 21, ground := Go.Ground.chain }, { on := 16, ground := Go.Ground.guard }], guard := some (16, true) }) rfl (fun K hK => ?_) AllReadyH.nil
  go_simp
  go_at_call 21
  refine (HP2.out _).mono ?_
  rintro e w5 ⟨_, _, rfl, _, hb⟩
  replace k0 := (hb.cell (p := ⟨w.heap.size, 0, none⟩) kz).trans k0
  replace kf0 := (hb.frozen (p := ⟨w.heap.size, 0, none⟩) kz).trans kf0
  replace k1 := (hb.cell (p := ⟨w.heap.size, 1, none⟩) kz).trans k1
  replace kf1 := (hb.frozen (p := ⟨w.heap.size, 1, none⟩) kz).trans kf1
  replace k2 := (hb.cell (p := ⟨w.heap.size, 2, none⟩) kz).trans k2
  replace kf2 := (hb.frozen (p := ⟨w.heap.size, 2, none⟩) kz).trans kf2
  replace k3 := (hb.cell (p := ⟨w.heap.size, 3, none⟩) kz).trans k3
  replace kf3 := (hb.frozen (p := ⟨w.heap.size, 3, none⟩) kz).trans kf3
  replace k4 := (hb.cell (p := ⟨w.heap.size, 4, none⟩) kz).trans k4
  replace kf4 := (hb.frozen (p := ⟨w.heap.size, 4, none⟩) kz).trans kf4
  replace k5 := (hb.cell (p := ⟨w.heap.size, 5, none⟩) kz).trans k5
  replace kf5 := (hb.frozen (p := ⟨w.heap.size, 5, none⟩) kz).trans kf5
  replace k6 := (hb.cell (p := ⟨w.heap.size, 6, none⟩) kz).trans k6
  replace kf6 := (hb.frozen (p := ⟨w.heap.size, 6, none⟩) kz).trans kf6
  replace k7 := (hb.cell (p := ⟨w.heap.size, 7, none⟩) kz).trans k7
  replace kf7 := (hb.frozen (p := ⟨w.heap.size, 7, none⟩) kz).trans kf7
  replace k8 := (hb.cell (p := ⟨w.heap.size, 8, none⟩) kz).trans k8
  replace kf8 := (hb.frozen (p := ⟨w.heap.size, 8, none⟩) kz).trans kf8
  replace kz := Nat.lt_of_lt_of_le kz hb.size
  replace m0 := (hb.cell (p := ⟨B1, 0, none⟩) mz).trans m0
  replace mf0 := (hb.frozen (p := ⟨B1, 0, none⟩) mz).trans mf0
  replace m1 := (hb.cell (p := ⟨B1, 1, none⟩) mz).trans m1
  replace mf1 := (hb.frozen (p := ⟨B1, 1, none⟩) mz).trans mf1
  replace m2 := (hb.cell (p := ⟨B1, 2, none⟩) mz).trans m2
  replace mf2 := (hb.frozen (p := ⟨B1, 2, none⟩) mz).trans mf2
  replace m3 := (hb.cell (p := ⟨B1, 3, none⟩) mz).trans m3
  replace mf3 := (hb.frozen (p := ⟨B1, 3, none⟩) mz).trans mf3
  replace m4 := (hb.cell (p := ⟨B1, 4, none⟩) mz).trans m4
  replace mf4 := (hb.frozen (p := ⟨B1, 4, none⟩) mz).trans mf4
  replace m5 := (hb.cell (p := ⟨B1, 5, none⟩) mz).trans m5
  replace mf5 := (hb.frozen (p := ⟨B1, 5, none⟩) mz).trans mf5
  replace m6 := (hb.cell (p := ⟨B1, 6, none⟩) mz).trans m6
  replace mf6 := (hb.frozen (p := ⟨B1, 6, none⟩) mz).trans mf6
  replace m7 := (hb.cell (p := ⟨B1, 7, none⟩) mz).trans m7
  replace mf7 := (hb.frozen (p := ⟨B1, 7, none⟩) mz).trans mf7
  replace mz := Nat.lt_of_lt_of_le mz hb.size
  replace n0 := (hb.cell (p := ⟨B2, 0, none⟩) nz).trans n0
  replace nf0 := (hb.frozen (p := ⟨B2, 0, none⟩) nz).trans nf0
  replace n1 := (hb.cell (p := ⟨B2, 1, none⟩) nz).trans n1
  replace nf1 := (hb.frozen (p := ⟨B2, 1, none⟩) nz).trans nf1
  replace n2 := (hb.cell (p := ⟨B2, 2, none⟩) nz).trans n2
  replace nf2 := (hb.frozen (p := ⟨B2, 2, none⟩) nz).trans nf2
  replace n3 := (hb.cell (p := ⟨B2, 3, none⟩) nz).trans n3
  replace nf3 := (hb.frozen (p := ⟨B2, 3, none⟩) nz).trans nf3
  replace n4 := (hb.cell (p := ⟨B2, 4, none⟩) nz).trans n4
  replace nf4 := (hb.frozen (p := ⟨B2, 4, none⟩) nz).trans nf4
  replace n5 := (hb.cell (p := ⟨B2, 5, none⟩) nz).trans n5
  replace nf5 := (hb.frozen (p := ⟨B2, 5, none⟩) nz).trans nf5
  replace n6 := (hb.cell (p := ⟨B2, 6, none⟩) nz).trans n6
  replace nf6 := (hb.frozen (p := ⟨B2, 6, none⟩) nz).trans nf6
  replace n7 := (hb.cell (p := ⟨B2, 7, none⟩) nz).trans n7
  replace nf7 := (hb.frozen (p := ⟨B2, 7, none⟩) nz).trans nf7
  replace nz := Nat.lt_of_lt_of_le nz hb.size
  replace HB := Lib.hid (below_via HB.out hb HB.out.size ⟨rfl, rfl, rfl, rfl⟩)
  clear hb
  refine hK.out _ _ ⟨k0, k1, k2, k3, k4, k5, k6, k7, k8, m0, m1, m2, m3, m4, m5, m6, m7, n0, n1, n2, n3, n4, n5, n6, n7⟩ (fun hHeld => ?_)
  clear hK K
  try simp only [Act.put, List.setIfInBounds_toArray, List.set_cons_zero, List.set_cons_succ]
  refine wpAnyH_take (i := 23) (oi := { dst := some 37, op := Go.Op.call { callee := Go.Callee.builtin Go.Builtin.len, args := #[Go.Operand.tmp 36], argTypes := #[47] }, type := 3, pos := "law.go:103", after := #[{ on := 22, ground := Go.Ground.data }, { on := 16, ground := Go.Ground.guard }], guard := some (16, true) }) (v := ?_) rfl (by kernel_rfl) (by kernel_rfl) (by kernel_rfl) (fun _ _ _ h => h) (Or.inl ⟨rfl, ?_⟩) (by assumption) ?_
  rotate_left
  · intro wz hSw; (try dsimp only at hSw); go_simp; try (with_reducible rfl)
  try simp only [Act.put, List.setIfInBounds_toArray, List.set_cons_zero, List.set_cons_succ]
  refine wpAnyH_take (i := 24) (oi := { dst := some 38, op := Go.Op.binOp Go.BinOp.leq 3 (Go.Operand.tmp 33) (Go.Operand.tmp 37) 3, type := 4, pos := "law.go:103", after := #[{ on := 19, ground := Go.Ground.data }, { on := 23, ground := Go.Ground.data }, { on := 16, ground := Go.Ground.guard }], guard := some (16, true) }) (v := ?_) rfl (by kernel_rfl) (by kernel_rfl) (by kernel_rfl) (fun _ _ _ h => h) (Or.inl ⟨rfl, ?_⟩) (by assumption) ?_
  rotate_left
  · intro wz hSw; (try dsimp only at hSw); go_simp; try (with_reducible rfl)
  try simp only [Act.put, List.setIfInBounds_toArray, List.set_cons_zero, List.set_cons_succ]
  refine wpAnyH_take (i := 25) (oi := { dst := some 39, op := Go.Op.pick (Go.Operand.tmp 30) (Go.Operand.tmp 38) (Go.Operand.const (Go.Value.bool false)), type := 4, pos := "law.go:103", after := #[{ on := 16, ground := Go.Ground.data }, { on := 24, ground := Go.Ground.data }], guard := none }) (v := ?_) rfl (by kernel_rfl) (by kernel_rfl) (by kernel_rfl) (fun _ _ _ h => h) (Or.inl ⟨rfl, ?_⟩) (by assumption) ?_
  rotate_left
  · intro wz hSw; (try dsimp only at hSw); go_simp; try (with_reducible rfl)
  try simp only [Act.put, List.setIfInBounds_toArray, List.set_cons_zero, List.set_cons_succ]
  refine wpAnyH_take (i := 26) (oi := { dst := some 2, op := Go.Op.assign (Go.Operand.tmp 39), type := 4, pos := "law.go:103", after := #[{ on := 25, ground := Go.Ground.data }, { on := 22, ground := Go.Ground.chain }, { on := 0, ground := Go.Ground.phase }, { on := 1, ground := Go.Ground.phase }, { on := 2, ground := Go.Ground.phase }, { on := 3, ground := Go.Ground.phase }, { on := 4, ground := Go.Ground.phase }, { on := 5, ground := Go.Ground.phase }, { on := 6, ground := Go.Ground.phase }, { on := 7, ground := Go.Ground.phase }, { on := 8, ground := Go.Ground.phase }, { on := 9, ground := Go.Ground.phase }, { on := 10, ground := Go.Ground.phase }, { on := 11, ground := Go.Ground.phase }, { on := 12, ground := Go.Ground.phase }, { on := 13, ground := Go.Ground.phase }, { on := 14, ground := Go.Ground.phase }, { on := 15, ground := Go.Ground.phase }, { on := 16, ground := Go.Ground.phase }, { on := 17, ground := Go.Ground.phase }, { on := 18, ground := Go.Ground.phase }, { on := 19, ground := Go.Ground.phase }, { on := 20, ground := Go.Ground.phase }, { on := 21, ground := Go.Ground.phase }, { on := 22, ground := Go.Ground.phase }, { on := 23, ground := Go.Ground.phase }, { on := 24, ground := Go.Ground.phase }, { on := 25, ground := Go.Ground.phase }], guard := none }) (v := ?_) rfl (by kernel_rfl) (by kernel_rfl) (by kernel_rfl) (fun _ _ _ h => h) (Or.inl ⟨rfl, ?_⟩) (by assumption) ?_
  rotate_left
  · intro wz hSw; (try dsimp only at hSw); go_simp; try (with_reducible rfl)
  try simp only [Act.put, List.setIfInBounds_toArray, List.set_cons_zero, List.set_cons_succ]
  refine wpAnyH_done (by kernel_rfl) ?_ _
  go_wp2
  go_ret
  exact ⟨rfl, HB.out⟩
theorem itemStubs_walk (i : Itm) (w : World) : Calls Try.prog 8 #[refV i] w fun e w' => e = .returned (.bool true) ∧ Below w.heap.size w w' :=
  itemStubs_core i (fixI i) (fix_right i) (fun w => fixRef_any i w) w
end Go.Proofs.Ytophhjknbanafaa
