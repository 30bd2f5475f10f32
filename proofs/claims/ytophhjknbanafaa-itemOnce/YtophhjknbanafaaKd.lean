/- ItemOnce, walked. -/
import Derived.Test.YtophhjknbanafaaKc
namespace Go.Proofs.Ytophhjknbanafaa
open Go.RowKit

set_option maxRecDepth 100000 in
set_option maxHeartbeats 4000000 in
theorem itemOnce_core (i1 i2 j1 j2 : Itm) (h1 : rightI j1 = true) (h2 : rightI j2 = true) (HX1 : Hid (∀ w, Calls Try.prog 23 #[refV i1] w fun e w' => e = .returned (refV j1) ∧ Below w.heap.size w w')) (HX2 : Hid (∀ w, Calls Try.prog 23 #[refV i2] w fun e w' => e = .returned (refV j2) ∧ Below w.heap.size w w')) (w : World) :
    Calls Try.prog 7 #[refV i1, refV i2] w fun e w' => e = .returned (.bool true) ∧ Below w.heap.size w w' := by
  have HT1 := Lib.hid (to_any j1)
  have HT2 := Lib.hid (to_any j2)
  have s1 := right_small h1
  have s2 := right_small h2
  have HE := eql_item j1 j2 s1.1 s1.2 s2.1 s2.2
  have HF := eql_ref j1 j2
  have HP1 := Lib.hid (itemPut_any none 0 0 [] j1 · (BytesAt.nil _ _ _) (by simp) s1.1 s1.2)
  have HP2 := Lib.hid (itemPut_any none 0 0 [] j2 · (BytesAt.nil _ _ _) (by simp) s2.1 s2.2)
  have HQ := Lib.hid (same_once h1 h2)
  generalize eqI j1 j2 = E at *
  generalize putItm [] j1 = P1 at *
  generalize putItm [] j2 = P2 at *
  clear s1 s2 h1 h2
  obtain ⟨key1, ⟨d1, a1, s1⟩, dead1, x1, y1, text1, held1⟩ := i1
  obtain ⟨key2, ⟨d2, a2, s2⟩, dead2, x2, y2, text2, held2⟩ := i2
  obtain ⟨key3, ⟨d3, a3, s3⟩, dead3, x3, y3, text3, held3⟩ := j1
  obtain ⟨key4, ⟨d4, a4, s4⟩, dead4, x4, y4, text4, held4⟩ := j2
  unfold refV itmV at *
  simp only at HX1 HX2 HT1 HT2 HE HF HP1 HP2 ⊢
  generalize fl x3 = fx3 at *
  generalize fl y3 = fy3 at *
  generalize fl x4 = fx4 at *
  generalize fl y4 = fy4 at *
  go_enter Try.func7, Try.ntmps7
  go_upto_region 1 with fail
  have k0 : ((w.alloc (.cells #[.int .i64 key1, .string d1, .int .i64 a1, .int .i64 s1, .bool dead1, .int .i64 x1, .int .i64 y1, .string text1, .bool held1] 35)).alloc (.cells #[.int .i64 key2, .string d2, .int .i64 a2, .int .i64 s2, .bool dead2, .int .i64 x2, .int .i64 y2, .string text2, .bool held2] 35)).cell? ⟨w.heap.size, 0, none⟩ = some (.int .i64 key1) := by simp [go_sem]
  have kf0 : ((w.alloc (.cells #[.int .i64 key1, .string d1, .int .i64 a1, .int .i64 s1, .bool dead1, .int .i64 x1, .int .i64 y1, .string text1, .bool held1] 35)).alloc (.cells #[.int .i64 key2, .string d2, .int .i64 a2, .int .i64 s2, .bool dead2, .int .i64 x2, .int .i64 y2, .string text2, .bool held2] 35)).frozen? ⟨w.heap.size, 0, none⟩ = false := by simp [go_sem]
  have k1 : ((w.alloc (.cells #[.int .i64 key1, .string d1, .int .i64 a1, .int .i64 s1, .bool dead1, .int .i64 x1, .int .i64 y1, .string text1, .bool held1] 35)).alloc (.cells #[.int .i64 key2, .string d2, .int .i64 a2, .int .i64 s2, .bool dead2, .int .i64 x2, .int .i64 y2, .string text2, .bool held2] 35)).cell? ⟨w.heap.size, 1, none⟩ = some (.string d1) := by simp [go_sem]
  have kf1 : ((w.alloc (.cells #[.int .i64 key1, .string d1, .int .i64 a1, .int .i64 s1, .bool dead1, .int .i64 x1, .int .i64 y1, .string text1, .bool held1] 35)).alloc (.cells #[.int .i64 key2, .string d2, .int .i64 a2, .int .i64 s2, .bool dead2, .int .i64 x2, .int .i64 y2, .string text2, .bool held2] 35)).frozen? ⟨w.heap.size, 1, none⟩ = false := by simp [go_sem]
  have k2 : ((w.alloc (.cells #[.int .i64 key1, .string d1, .int .i64 a1, .int .i64 s1, .bool dead1, .int .i64 x1, .int .i64 y1, .string text1, .bool held1] 35)).alloc (.cells #[.int .i64 key2, .string d2, .int .i64 a2, .int .i64 s2, .bool dead2, .int .i64 x2, .int .i64 y2, .string text2, .bool held2] 35)).cell? ⟨w.heap.size, 2, none⟩ = some (.int .i64 a1) := by simp [go_sem]
  have kf2 : ((w.alloc (.cells #[.int .i64 key1, .string d1, .int .i64 a1, .int .i64 s1, .bool dead1, .int .i64 x1, .int .i64 y1, .string text1, .bool held1] 35)).alloc (.cells #[.int .i64 key2, .string d2, .int .i64 a2, .int .i64 s2, .bool dead2, .int .i64 x2, .int .i64 y2, .string text2, .bool held2] 35)).frozen? ⟨w.heap.size, 2, none⟩ = false := by simp [go_sem]
  have k3 : ((w.alloc (.cells #[.int .i64 key1, .string d1, .int .i64 a1, .int .i64 s1, .bool dead1, .int .i64 x1, .int .i64 y1, .string text1, .bool held1] 35)).alloc (.cells #[.int .i64 key2, .string d2, .int .i64 a2, .int .i64 s2, .bool dead2, .int .i64 x2, .int .i64 y2, .string text2, .bool held2] 35)).cell? ⟨w.heap.size, 3, none⟩ = some (.int .i64 s1) := by simp [go_sem]
  have kf3 : ((w.alloc (.cells #[.int .i64 key1, .string d1, .int .i64 a1, .int .i64 s1, .bool dead1, .int .i64 x1, .int .i64 y1, .string text1, .bool held1] 35)).alloc (.cells #[.int .i64 key2, .string d2, .int .i64 a2, .int .i64 s2, .bool dead2, .int .i64 x2, .int .i64 y2, .string text2, .bool held2] 35)).frozen? ⟨w.heap.size, 3, none⟩ = false := by simp [go_sem]
  have k4 : ((w.alloc (.cells #[.int .i64 key1, .string d1, .int .i64 a1, .int .i64 s1, .bool dead1, .int .i64 x1, .int .i64 y1, .string text1, .bool held1] 35)).alloc (.cells #[.int .i64 key2, .string d2, .int .i64 a2, .int .i64 s2, .bool dead2, .int .i64 x2, .int .i64 y2, .string text2, .bool held2] 35)).cell? ⟨w.heap.size, 4, none⟩ = some (.bool dead1) := by simp [go_sem]
  have kf4 : ((w.alloc (.cells #[.int .i64 key1, .string d1, .int .i64 a1, .int .i64 s1, .bool dead1, .int .i64 x1, .int .i64 y1, .string text1, .bool held1] 35)).alloc (.cells #[.int .i64 key2, .string d2, .int .i64 a2, .int .i64 s2, .bool dead2, .int .i64 x2, .int .i64 y2, .string text2, .bool held2] 35)).frozen? ⟨w.heap.size, 4, none⟩ = false := by simp [go_sem]
  have k5 : ((w.alloc (.cells #[.int .i64 key1, .string d1, .int .i64 a1, .int .i64 s1, .bool dead1, .int .i64 x1, .int .i64 y1, .string text1, .bool held1] 35)).alloc (.cells #[.int .i64 key2, .string d2, .int .i64 a2, .int .i64 s2, .bool dead2, .int .i64 x2, .int .i64 y2, .string text2, .bool held2] 35)).cell? ⟨w.heap.size, 5, none⟩ = some (.int .i64 x1) := by simp [go_sem]
  have kf5 : ((w.alloc (.cells #[.int .i64 key1, .string d1, .int .i64 a1, .int .i64 s1, .bool dead1, .int .i64 x1, .int .i64 y1, .string text1, .bool held1] 35)).alloc (.cells #[.int .i64 key2, .string d2, .int .i64 a2, .int .i64 s2, .bool dead2, .int .i64 x2, .int .i64 y2, .string text2, .bool held2] 35)).frozen? ⟨w.heap.size, 5, none⟩ = false := by simp [go_sem]
  have k6 : ((w.alloc (.cells #[.int .i64 key1, .string d1, .int .i64 a1, .int .i64 s1, .bool dead1, .int .i64 x1, .int .i64 y1, .string text1, .bool held1] 35)).alloc (.cells #[.int .i64 key2, .string d2, .int .i64 a2, .int .i64 s2, .bool dead2, .int .i64 x2, .int .i64 y2, .string text2, .bool held2] 35)).cell? ⟨w.heap.size, 6, none⟩ = some (.int .i64 y1) := by simp [go_sem]
  have kf6 : ((w.alloc (.cells #[.int .i64 key1, .string d1, .int .i64 a1, .int .i64 s1, .bool dead1, .int .i64 x1, .int .i64 y1, .string text1, .bool held1] 35)).alloc (.cells #[.int .i64 key2, .string d2, .int .i64 a2, .int .i64 s2, .bool dead2, .int .i64 x2, .int .i64 y2, .string text2, .bool held2] 35)).frozen? ⟨w.heap.size, 6, none⟩ = false := by simp [go_sem]
  have k7 : ((w.alloc (.cells #[.int .i64 key1, .string d1, .int .i64 a1, .int .i64 s1, .bool dead1, .int .i64 x1, .int .i64 y1, .string text1, .bool held1] 35)).alloc (.cells #[.int .i64 key2, .string d2, .int .i64 a2, .int .i64 s2, .bool dead2, .int .i64 x2, .int .i64 y2, .string text2, .bool held2] 35)).cell? ⟨w.heap.size, 7, none⟩ = some (.string text1) := by simp [go_sem]
  have kf7 : ((w.alloc (.cells #[.int .i64 key1, .string d1, .int .i64 a1, .int .i64 s1, .bool dead1, .int .i64 x1, .int .i64 y1, .string text1, .bool held1] 35)).alloc (.cells #[.int .i64 key2, .string d2, .int .i64 a2, .int .i64 s2, .bool dead2, .int .i64 x2, .int .i64 y2, .string text2, .bool held2] 35)).frozen? ⟨w.heap.size, 7, none⟩ = false := by simp [go_sem]
  have k8 : ((w.alloc (.cells #[.int .i64 key1, .string d1, .int .i64 a1, .int .i64 s1, .bool dead1, .int .i64 x1, .int .i64 y1, .string text1, .bool held1] 35)).alloc (.cells #[.int .i64 key2, .string d2, .int .i64 a2, .int .i64 s2, .bool dead2, .int .i64 x2, .int .i64 y2, .string text2, .bool held2] 35)).cell? ⟨w.heap.size, 8, none⟩ = some (.bool held1) := by simp [go_sem]
  have kf8 : ((w.alloc (.cells #[.int .i64 key1, .string d1, .int .i64 a1, .int .i64 s1, .bool dead1, .int .i64 x1, .int .i64 y1, .string text1, .bool held1] 35)).alloc (.cells #[.int .i64 key2, .string d2, .int .i64 a2, .int .i64 s2, .bool dead2, .int .i64 x2, .int .i64 y2, .string text2, .bool held2] 35)).frozen? ⟨w.heap.size, 8, none⟩ = false := by simp [go_sem]
  have kz : w.heap.size < ((w.alloc (.cells #[.int .i64 key1, .string d1, .int .i64 a1, .int .i64 s1, .bool dead1, .int .i64 x1, .int .i64 y1, .string text1, .bool held1] 35)).alloc (.cells #[.int .i64 key2, .string d2, .int .i64 a2, .int .i64 s2, .bool dead2, .int .i64 x2, .int .i64 y2, .string text2, .bool held2] 35)).heap.size := by simp <;> omega
  have m0 : ((w.alloc (.cells #[.int .i64 key1, .string d1, .int .i64 a1, .int .i64 s1, .bool dead1, .int .i64 x1, .int .i64 y1, .string text1, .bool held1] 35)).alloc (.cells #[.int .i64 key2, .string d2, .int .i64 a2, .int .i64 s2, .bool dead2, .int .i64 x2, .int .i64 y2, .string text2, .bool held2] 35)).cell? ⟨w.heap.size + 1, 0, none⟩ = some (.int .i64 key2) := by simp [go_sem]
  have mf0 : ((w.alloc (.cells #[.int .i64 key1, .string d1, .int .i64 a1, .int .i64 s1, .bool dead1, .int .i64 x1, .int .i64 y1, .string text1, .bool held1] 35)).alloc (.cells #[.int .i64 key2, .string d2, .int .i64 a2, .int .i64 s2, .bool dead2, .int .i64 x2, .int .i64 y2, .string text2, .bool held2] 35)).frozen? ⟨w.heap.size + 1, 0, none⟩ = false := by simp [go_sem]
  have m1 : ((w.alloc (.cells #[.int .i64 key1, .string d1, .int .i64 a1, .int .i64 s1, .bool dead1, .int .i64 x1, .int .i64 y1, .string text1, .bool held1] 35)).alloc (.cells #[.int .i64 key2, .string d2, .int .i64 a2, .int .i64 s2, .bool dead2, .int .i64 x2, .int .i64 y2, .string text2, .bool held2] 35)).cell? ⟨w.heap.size + 1, 1, none⟩ = some (.string d2) := by simp [go_sem]
  have mf1 : ((w.alloc (.cells #[.int .i64 key1, .string d1, .int .i64 a1, .int .i64 s1, .bool dead1, .int .i64 x1, .int .i64 y1, .string text1, .bool held1] 35)).alloc (.cells #[.int .i64 key2, .string d2, .int .i64 a2, .int .i64 s2, .bool dead2, .int .i64 x2, .int .i64 y2, .string text2, .bool held2] 35)).frozen? ⟨w.heap.size + 1, 1, none⟩ = false := by simp [go_sem]
  have m2 : ((w.alloc (.cells #[.int .i64 key1, .string d1, .int .i64 a1, .int .i64 s1, .bool dead1, .int .i64 x1, .int .i64 y1, .string text1, .bool held1] 35)).alloc (.cells #[.int .i64 key2, .string d2, .int .i64 a2, .int .i64 s2, .bool dead2, .int .i64 x2, .int .i64 y2, .string text2, .bool held2] 35)).cell? ⟨w.heap.size + 1, 2, none⟩ = some (.int .i64 a2) := by simp [go_sem]
  have mf2 : ((w.alloc (.cells #[.int .i64 key1, .string d1, .int .i64 a1, .int .i64 s1, .bool dead1, .int .i64 x1, .int .i64 y1, .string text1, .bool held1] 35)).alloc (.cells #[.int .i64 key2, .string d2, .int .i64 a2, .int .i64 s2, .bool dead2, .int .i64 x2, .int .i64 y2, .string text2, .bool held2] 35)).frozen? ⟨w.heap.size + 1, 2, none⟩ = false := by simp [go_sem]
  have m3 : ((w.alloc (.cells #[.int .i64 key1, .string d1, .int .i64 a1, .int .i64 s1, .bool dead1, .int .i64 x1, .int .i64 y1, .string text1, .bool held1] 35)).alloc (.cells #[.int .i64 key2, .string d2, .int .i64 a2, .int .i64 s2, .bool dead2, .int .i64 x2, .int .i64 y2, .string text2, .bool held2] 35)).cell? ⟨w.heap.size + 1, 3, none⟩ = some (.int .i64 s2) := by simp [go_sem]
  have mf3 : ((w.alloc (.cells #[.int .i64 key1, .string d1, .int .i64 a1, .int .i64 s1, .bool dead1, .int .i64 x1, .int .i64 y1, .string text1, .bool held1] 35)).alloc (.cells #[.int .i64 key2, .string d2, .int .i64 a2, .int .i64 s2, .bool dead2, .int .i64 x2, .int .i64 y2, .string text2, .bool held2] 35)).frozen? ⟨w.heap.size + 1, 3, none⟩ = false := by simp [go_sem]
  have m4 : ((w.alloc (.cells #[.int .i64 key1, .string d1, .int .i64 a1, .int .i64 s1, .bool dead1, .int .i64 x1, .int .i64 y1, .string text1, .bool held1] 35)).alloc (.cells #[.int .i64 key2, .string d2, .int .i64 a2, .int .i64 s2, .bool dead2, .int .i64 x2, .int .i64 y2, .string text2, .bool held2] 35)).cell? ⟨w.heap.size + 1, 4, none⟩ = some (.bool dead2) := by simp [go_sem]
  have mf4 : ((w.alloc (.cells #[.int .i64 key1, .string d1, .int .i64 a1, .int .i64 s1, .bool dead1, .int .i64 x1, .int .i64 y1, .string text1, .bool held1] 35)).alloc (.cells #[.int .i64 key2, .string d2, .int .i64 a2, .int .i64 s2, .bool dead2, .int .i64 x2, .int .i64 y2, .string text2, .bool held2] 35)).frozen? ⟨w.heap.size + 1, 4, none⟩ = false := by simp [go_sem]
  have m5 : ((w.alloc (.cells #[.int .i64 key1, .string d1, .int .i64 a1, .int .i64 s1, .bool dead1, .int .i64 x1, .int .i64 y1, .string text1, .bool held1] 35)).alloc (.cells #[.int .i64 key2, .string d2, .int .i64 a2, .int .i64 s2, .bool dead2, .int .i64 x2, .int .i64 y2, .string text2, .bool held2] 35)).cell? ⟨w.heap.size + 1, 5, none⟩ = some (.int .i64 x2) := by simp [go_sem]
  have mf5 : ((w.alloc (.cells #[.int .i64 key1, .string d1, .int .i64 a1, .int .i64 s1, .bool dead1, .int .i64 x1, .int .i64 y1, .string text1, .bool held1] 35)).alloc (.cells #[.int .i64 key2, .string d2, .int .i64 a2, .int .i64 s2, .bool dead2, .int .i64 x2, .int .i64 y2, .string text2, .bool held2] 35)).frozen? ⟨w.heap.size + 1, 5, none⟩ = false := by simp [go_sem]
  have m6 : ((w.alloc (.cells #[.int .i64 key1, .string d1, .int .i64 a1, .int .i64 s1, .bool dead1, .int .i64 x1, .int .i64 y1, .string text1, .bool held1] 35)).alloc (.cells #[.int .i64 key2, .string d2, .int .i64 a2, .int .i64 s2, .bool dead2, .int .i64 x2, .int .i64 y2, .string text2, .bool held2] 35)).cell? ⟨w.heap.size + 1, 6, none⟩ = some (.int .i64 y2) := by simp [go_sem]
  have mf6 : ((w.alloc (.cells #[.int .i64 key1, .string d1, .int .i64 a1, .int .i64 s1, .bool dead1, .int .i64 x1, .int .i64 y1, .string text1, .bool held1] 35)).alloc (.cells #[.int .i64 key2, .string d2, .int .i64 a2, .int .i64 s2, .bool dead2, .int .i64 x2, .int .i64 y2, .string text2, .bool held2] 35)).frozen? ⟨w.heap.size + 1, 6, none⟩ = false := by simp [go_sem]
  have m7 : ((w.alloc (.cells #[.int .i64 key1, .string d1, .int .i64 a1, .int .i64 s1, .bool dead1, .int .i64 x1, .int .i64 y1, .string text1, .bool held1] 35)).alloc (.cells #[.int .i64 key2, .string d2, .int .i64 a2, .int .i64 s2, .bool dead2, .int .i64 x2, .int .i64 y2, .string text2, .bool held2] 35)).cell? ⟨w.heap.size + 1, 7, none⟩ = some (.string text2) := by simp [go_sem]
  have mf7 : ((w.alloc (.cells #[.int .i64 key1, .string d1, .int .i64 a1, .int .i64 s1, .bool dead1, .int .i64 x1, .int .i64 y1, .string text1, .bool held1] 35)).alloc (.cells #[.int .i64 key2, .string d2, .int .i64 a2, .int .i64 s2, .bool dead2, .int .i64 x2, .int .i64 y2, .string text2, .bool held2] 35)).frozen? ⟨w.heap.size + 1, 7, none⟩ = false := by simp [go_sem]
  have m8 : ((w.alloc (.cells #[.int .i64 key1, .string d1, .int .i64 a1, .int .i64 s1, .bool dead1, .int .i64 x1, .int .i64 y1, .string text1, .bool held1] 35)).alloc (.cells #[.int .i64 key2, .string d2, .int .i64 a2, .int .i64 s2, .bool dead2, .int .i64 x2, .int .i64 y2, .string text2, .bool held2] 35)).cell? ⟨w.heap.size + 1, 8, none⟩ = some (.bool held2) := by simp [go_sem]
  have mf8 : ((w.alloc (.cells #[.int .i64 key1, .string d1, .int .i64 a1, .int .i64 s1, .bool dead1, .int .i64 x1, .int .i64 y1, .string text1, .bool held1] 35)).alloc (.cells #[.int .i64 key2, .string d2, .int .i64 a2, .int .i64 s2, .bool dead2, .int .i64 x2, .int .i64 y2, .string text2, .bool held2] 35)).frozen? ⟨w.heap.size + 1, 8, none⟩ = false := by simp [go_sem]
  have mz : w.heap.size + 1 < ((w.alloc (.cells #[.int .i64 key1, .string d1, .int .i64 a1, .int .i64 s1, .bool dead1, .int .i64 x1, .int .i64 y1, .string text1, .bool held1] 35)).alloc (.cells #[.int .i64 key2, .string d2, .int .i64 a2, .int .i64 s2, .bool dead2, .int .i64 x2, .int .i64 y2, .string text2, .bool held2] 35)).heap.size := by simp <;> omega
  have HB : Hid (Below w.heap.size w ((w.alloc (.cells #[.int .i64 key1, .string d1, .int .i64 a1, .int .i64 s1, .bool dead1, .int .i64 x1, .int .i64 y1, .string text1, .bool held1] 35)).alloc (.cells #[.int .i64 key2, .string d2, .int .i64 a2, .int .i64 s2, .bool dead2, .int .i64 x2, .int .i64 y2, .string text2, .bool held2] 35))) := ((Below.refl _ _).alloc (Nat.le_refl _) _).alloc (by simp) _
  generalize ((w.alloc (.cells #[.int .i64 key1, .string d1, .int .i64 a1, .int .i64 s1, .bool dead1, .int .i64 x1, .int .i64 y1, .string text1, .bool held1] 35)).alloc (.cells #[.int .i64 key2, .string d2, .int .i64 a2, .int .i64 s2, .bool dead2, .int .i64 x2, .int .i64 y2, .string text2, .bool held2] 35)) = W at *
  refine tail_begin (S := fun w' => w'.cell? ⟨w.heap.size, 0, none⟩ = some (.int .i64 key1) ∧ w'.cell? ⟨w.heap.size, 1, none⟩ = some (.string d1) ∧ w'.cell? ⟨w.heap.size, 2, none⟩ = some (.int .i64 a1) ∧ w'.cell? ⟨w.heap.size, 3, none⟩ = some (.int .i64 s1) ∧ w'.cell? ⟨w.heap.size, 4, none⟩ = some (.bool dead1) ∧ w'.cell? ⟨w.heap.size, 5, none⟩ = some (.int .i64 x1) ∧ w'.cell? ⟨w.heap.size, 6, none⟩ = some (.int .i64 y1) ∧ w'.cell? ⟨w.heap.size, 7, none⟩ = some (.string text1) ∧ w'.cell? ⟨w.heap.size, 8, none⟩ = some (.bool held1) ∧ w'.cell? ⟨w.heap.size + 1, 0, none⟩ = some (.int .i64 key2) ∧ w'.cell? ⟨w.heap.size + 1, 1, none⟩ = some (.string d2) ∧ w'.cell? ⟨w.heap.size + 1, 2, none⟩ = some (.int .i64 a2) ∧ w'.cell? ⟨w.heap.size + 1, 3, none⟩ = some (.int .i64 s2) ∧ w'.cell? ⟨w.heap.size + 1, 4, none⟩ = some (.bool dead2) ∧ w'.cell? ⟨w.heap.size + 1, 5, none⟩ = some (.int .i64 x2) ∧ w'.cell? ⟨w.heap.size + 1, 6, none⟩ = some (.int .i64 y2) ∧ w'.cell? ⟨w.heap.size + 1, 7, none⟩ = some (.string text2) ∧ w'.cell? ⟨w.heap.size + 1, 8, none⟩ = some (.bool held2)) 4 (by kernel_rfl) ⟨k0, k1, k2, k3, k4, k5, k6, k7, k8, m0, m1, m2, m3, m4, m5, m6, m7, m8⟩ (fun hHeld => ?_)
  refine tail_take (i := 0) (oi := { dst := some 5, op := Go.Op.load 35 (Go.Operand.tmp 2), type := 35, pos := "law.go:93", after := #[], guard := none }) (v := ?_) rfl (by kernel_rfl) (by kernel_rfl) (by kernel_rfl) (by kernel_rfl) (fun _ _ _ h => h) (Or.inl ⟨rfl, ?_⟩) (by assumption) ?_
  rotate_left
  · intro wz hSw; (try dsimp only at hSw); go_simp; try (with_reducible rfl)
  try simp only [Act.put, List.setIfInBounds_toArray, List.set_cons_zero, List.set_cons_succ]
  refine tail_take (i := 2) (oi := { dst := some 7, op := Go.Op.load 35 (Go.Operand.tmp 3), type := 35, pos := "law.go:93", after := #[], guard := none }) (v := ?_) rfl (by kernel_rfl) (by kernel_rfl) (by kernel_rfl) (by kernel_rfl) (fun _ _ _ h => h) (Or.inl ⟨rfl, ?_⟩) (by assumption) ?_
  rotate_left
  · intro wz hSw; (try dsimp only at hSw); go_simp; try (with_reducible rfl)
  try simp only [Act.put, List.setIfInBounds_toArray, List.set_cons_zero, List.set_cons_succ]
  refine tail_call (i := 1) (o := { dst := some 6, op := Go.Op.call { callee := Go.Callee.value (Go.Operand.func 23), args := #[Go.Operand.tmp 5], argTypes := #[35] }, type := 35, pos := "law.go:93", after := #[{ on := 0, ground := Go.Ground.data }], guard := none }) (by kernel_rfl) (by kernel_rfl) rfl (fun K hK => ?_)
  go_simp
  go_at_call 23
  refine (HX1.out _).mono ?_
  rintro e w5 ⟨rfl, hb⟩
  replace k0 := (hb.cell (p := ⟨w.heap.size, 0, none⟩) kz).trans k0
  replace kf0 := (hb.frozen (p := ⟨w.heap.size, 0, none⟩) kz).trans kf0
  replace k1 := (hb.cell (p := ⟨w.heap.size, 1, none⟩) kz).trans k1
  replace kf1 := (hb.frozen (p := ⟨w.heap.size, 1, none⟩) kz).trans kf1
  replace k2 := (hb.cell (p := ⟨w.heap.size, 2, none⟩) kz).trans k2
  replace kf2 := (hb.frozen (p := ⟨w.heap.size, 2, none⟩) kz).trans kf2
  replace k3 := (hb.cell (p := ⟨w.heap.size, 3, none⟩) kz).trans k3
  replace kf3 := (hb.frozen (p := ⟨w.heap.size, 3, none⟩) kz).trans kf3
  replace k4 := (hb.cell (p := ⟨w.heap.size, 4, none⟩) kz).trans k4
  replace kf4 := (hb.frozen (p := ⟨w.heap.size, 4, none⟩) kz).trans kf4
  replace k5 := (hb.cell (p := ⟨w.heap.size, 5, none⟩) kz).trans k5
  replace kf5 := (hb.frozen (p := ⟨w.heap.size, 5, none⟩) kz).trans kf5
  replace k6 := (hb.cell (p := ⟨w.heap.size, 6, none⟩) kz).trans k6
  replace kf6 := (hb.frozen (p := ⟨w.heap.size, 6, none⟩) kz).trans kf6
  replace k7 := (hb.cell (p := ⟨w.heap.size, 7, none⟩) kz).trans k7
  replace kf7 := (hb.frozen (p := ⟨w.heap.size, 7, none⟩) kz).trans kf7
  replace k8 := (hb.cell (p := ⟨w.heap.size, 8, none⟩) kz).trans k8
  replace kf8 := (hb.frozen (p := ⟨w.heap.size, 8, none⟩) kz).trans kf8
  replace kz := Nat.lt_of_lt_of_le kz hb.size
  replace m0 := (hb.cell (p := ⟨w.heap.size + 1, 0, none⟩) mz).trans m0
  replace mf0 := (hb.frozen (p := ⟨w.heap.size + 1, 0, none⟩) mz).trans mf0
  replace m1 := (hb.cell (p := ⟨w.heap.size + 1, 1, none⟩) mz).trans m1
  replace mf1 := (hb.frozen (p := ⟨w.heap.size + 1, 1, none⟩) mz).trans mf1
  replace m2 := (hb.cell (p := ⟨w.heap.size + 1, 2, none⟩) mz).trans m2
  replace mf2 := (hb.frozen (p := ⟨w.heap.size + 1, 2, none⟩) mz).trans mf2
  replace m3 := (hb.cell (p := ⟨w.heap.size + 1, 3, none⟩) mz).trans m3
  replace mf3 := (hb.frozen (p := ⟨w.heap.size + 1, 3, none⟩) mz).trans mf3
  replace m4 := (hb.cell (p := ⟨w.heap.size + 1, 4, none⟩) mz).trans m4
  replace mf4 := (hb.frozen (p := ⟨w.heap.size + 1, 4, none⟩) mz).trans mf4
  replace m5 := (hb.cell (p := ⟨w.heap.size + 1, 5, none⟩) mz).trans m5
  replace mf5 := (hb.frozen (p := ⟨w.heap.size + 1, 5, none⟩) mz).trans mf5
  replace m6 := (hb.cell (p := ⟨w.heap.size + 1, 6, none⟩) mz).trans m6
  replace mf6 := (hb.frozen (p := ⟨w.heap.size + 1, 6, none⟩) mz).trans mf6
  replace m7 := (hb.cell (p := ⟨w.heap.size + 1, 7, none⟩) mz).trans m7
  replace mf7 := (hb.frozen (p := ⟨w.heap.size + 1, 7, none⟩) mz).trans mf7
  replace m8 := (hb.cell (p := ⟨w.heap.size + 1, 8, none⟩) mz).trans m8
  replace mf8 := (hb.frozen (p := ⟨w.heap.size + 1, 8, none⟩) mz).trans mf8
  replace mz := Nat.lt_of_lt_of_le mz hb.size
  replace HB := Lib.hid (below_via HB.out hb HB.out.size ⟨rfl, rfl, rfl, rfl⟩)
  clear hb
  refine hK.out _ _ ⟨k0, k1, k2, k3, k4, k5, k6, k7, k8, m0, m1, m2, m3, m4, m5, m6, m7, m8⟩ (fun hHeld => ?_)
  clear hK K
  try simp only [Act.put, List.setIfInBounds_toArray, List.set_cons_zero, List.set_cons_succ]
  refine tail_call (i := 3) (o := { dst := some 8, op := Go.Op.call { callee := Go.Callee.value (Go.Operand.func 23), args := #[Go.Operand.tmp 7], argTypes := #[35] }, type := 35, pos := "law.go:93", after := #[{ on := 2, ground := Go.Ground.data }, { on := 1, ground := Go.Ground.chain }], guard := none }) (by kernel_rfl) (by kernel_rfl) rfl (fun K hK => ?_)
  go_simp
  go_at_call 23
  refine (HX2.out _).mono ?_
  rintro e w5 ⟨rfl, hb⟩
  replace k0 := (hb.cell (p := ⟨w.heap.size, 0, none⟩) kz).trans k0
  replace kf0 := (hb.frozen (p := ⟨w.heap.size, 0, none⟩) kz).trans kf0
  replace k1 := (hb.cell (p := ⟨w.heap.size, 1, none⟩) kz).trans k1
  replace kf1 := (hb.frozen (p := ⟨w.heap.size, 1, none⟩) kz).trans kf1
  replace k2 := (hb.cell (p := ⟨w.heap.size, 2, none⟩) kz).trans k2
  replace kf2 := (hb.frozen (p := ⟨w.heap.size, 2, none⟩) kz).trans kf2
  replace k3 := (hb.cell (p := ⟨w.heap.size, 3, none⟩) kz).trans k3
  replace kf3 := (hb.frozen (p := ⟨w.heap.size, 3, none⟩) kz).trans kf3
  replace k4 := (hb.cell (p := ⟨w.heap.size, 4, none⟩) kz).trans k4
  replace kf4 := (hb.frozen (p := ⟨w.heap.size, 4, none⟩) kz).trans kf4
  replace k5 := (hb.cell (p := ⟨w.heap.size, 5, none⟩) kz).trans k5
  replace kf5 := (hb.frozen (p := ⟨w.heap.size, 5, none⟩) kz).trans kf5
  replace k6 := (hb.cell (p := ⟨w.heap.size, 6, none⟩) kz).trans k6
  replace kf6 := (hb.frozen (p := ⟨w.heap.size, 6, none⟩) kz).trans kf6
  replace k7 := (hb.cell (p := ⟨w.heap.size, 7, none⟩) kz).trans k7
  replace kf7 := (hb.frozen (p := ⟨w.heap.size, 7, none⟩) kz).trans kf7
  replace k8 := (hb.cell (p := ⟨w.heap.size, 8, none⟩) kz).trans k8
  replace kf8 := (hb.frozen (p := ⟨w.heap.size, 8, none⟩) kz).trans kf8
  replace kz := Nat.lt_of_lt_of_le kz hb.size
  replace m0 := (hb.cell (p := ⟨w.heap.size + 1, 0, none⟩) mz).trans m0
  replace mf0 := (hb.frozen (p := ⟨w.heap.size + 1, 0, none⟩) mz).trans mf0
  replace m1 := (hb.cell (p := ⟨w.heap.size + 1, 1, none⟩) mz).trans m1
  replace mf1 := (hb.frozen (p := ⟨w.heap.size + 1, 1, none⟩) mz).trans mf1
  replace m2 := (hb.cell (p := ⟨w.heap.size + 1, 2, none⟩) mz).trans m2
  replace mf2 := (hb.frozen (p := ⟨w.heap.size + 1, 2, none⟩) mz).trans mf2
  replace m3 := (hb.cell (p := ⟨w.heap.size + 1, 3, none⟩) mz).trans m3
  replace mf3 := (hb.frozen (p := ⟨w.heap.size + 1, 3, none⟩) mz).trans mf3
  replace m4 := (hb.cell (p := ⟨w.heap.size + 1, 4, none⟩) mz).trans m4
  replace mf4 := (hb.frozen (p := ⟨w.heap.size + 1, 4, none⟩) mz).trans mf4
  replace m5 := (hb.cell (p := ⟨w.heap.size + 1, 5, none⟩) mz).trans m5
  replace mf5 := (hb.frozen (p := ⟨w.heap.size + 1, 5, none⟩) mz).trans mf5
  replace m6 := (hb.cell (p := ⟨w.heap.size + 1, 6, none⟩) mz).trans m6
  replace mf6 := (hb.frozen (p := ⟨w.heap.size + 1, 6, none⟩) mz).trans mf6
  replace m7 := (hb.cell (p := ⟨w.heap.size + 1, 7, none⟩) mz).trans m7
  replace mf7 := (hb.frozen (p := ⟨w.heap.size + 1, 7, none⟩) mz).trans mf7
  replace m8 := (hb.cell (p := ⟨w.heap.size + 1, 8, none⟩) mz).trans m8
  replace mf8 := (hb.frozen (p := ⟨w.heap.size + 1, 8, none⟩) mz).trans mf8
  replace mz := Nat.lt_of_lt_of_le mz hb.size
  replace HB := Lib.hid (below_via HB.out hb HB.out.size ⟨rfl, rfl, rfl, rfl⟩)
  clear hb
  refine hK.out _ _ ⟨k0, k1, k2, k3, k4, k5, k6, k7, k8, m0, m1, m2, m3, m4, m5, m6, m7, m8⟩ (fun hHeld => ?_)
  clear hK K
  try simp only [Act.put, List.setIfInBounds_toArray, List.set_cons_zero, List.set_cons_succ]
  refine tail_enter ?_
  refine rest_step (k := 4) (o := { dst := none, op := Go.Op.store 35 (Go.Operand.tmp 2) (Go.Operand.tmp 6), type := 0, pos := "law.go:93", after := #[{ on := 1, ground := Go.Ground.data }, { on := 3, ground := Go.Ground.chain }, { on := 0, ground := Go.Ground.phase }, { on := 1, ground := Go.Ground.phase }, { on := 2, ground := Go.Ground.textOnly Go.Departure.lateStores }, { on := 3, ground := Go.Ground.textOnly Go.Departure.lateStoresUnsure }], guard := none }) (by kernel_rfl) (by kernel_rfl) rfl (fun K hK => ?_)
  go_simp
  clear hHeld
  replace k0 : (((((((((w5.setCell ⟨w.heap.size, 0, none⟩ (.int .i64 key3)).setCell ⟨w.heap.size, 1, none⟩ (.string d3)).setCell ⟨w.heap.size, 2, none⟩ (.int .i64 a3)).setCell ⟨w.heap.size, 3, none⟩ (.int .i64 s3)).setCell ⟨w.heap.size, 4, none⟩ (.bool dead3)).setCell ⟨w.heap.size, 5, none⟩ (.int .i64 x3)).setCell ⟨w.heap.size, 6, none⟩ (.int .i64 y3)).setCell ⟨w.heap.size, 7, none⟩ (.string text3)).setCell ⟨w.heap.size, 8, none⟩ (.bool held3)).cell? ⟨w.heap.size, 0, none⟩ = some (.int .i64 key3) := by simp [go_sem, k0]
  replace kf0 : (((((((((w5.setCell ⟨w.heap.size, 0, none⟩ (.int .i64 key3)).setCell ⟨w.heap.size, 1, none⟩ (.string d3)).setCell ⟨w.heap.size, 2, none⟩ (.int .i64 a3)).setCell ⟨w.heap.size, 3, none⟩ (.int .i64 s3)).setCell ⟨w.heap.size, 4, none⟩ (.bool dead3)).setCell ⟨w.heap.size, 5, none⟩ (.int .i64 x3)).setCell ⟨w.heap.size, 6, none⟩ (.int .i64 y3)).setCell ⟨w.heap.size, 7, none⟩ (.string text3)).setCell ⟨w.heap.size, 8, none⟩ (.bool held3)).frozen? ⟨w.heap.size, 0, none⟩ = false := by simp [go_sem, kf0]
  replace k1 : (((((((((w5.setCell ⟨w.heap.size, 0, none⟩ (.int .i64 key3)).setCell ⟨w.heap.size, 1, none⟩ (.string d3)).setCell ⟨w.heap.size, 2, none⟩ (.int .i64 a3)).setCell ⟨w.heap.size, 3, none⟩ (.int .i64 s3)).setCell ⟨w.heap.size, 4, none⟩ (.bool dead3)).setCell ⟨w.heap.size, 5, none⟩ (.int .i64 x3)).setCell ⟨w.heap.size, 6, none⟩ (.int .i64 y3)).setCell ⟨w.heap.size, 7, none⟩ (.string text3)).setCell ⟨w.heap.size, 8, none⟩ (.bool held3)).cell? ⟨w.heap.size, 1, none⟩ = some (.string d3) := by simp [go_sem, k1]
  replace kf1 : (((((((((w5.setCell ⟨w.heap.size, 0, none⟩ (.int .i64 key3)).setCell ⟨w.heap.size, 1, none⟩ (.string d3)).setCell ⟨w.heap.size, 2, none⟩ (.int .i64 a3)).setCell ⟨w.heap.size, 3, none⟩ (.int .i64 s3)).setCell ⟨w.heap.size, 4, none⟩ (.bool dead3)).setCell ⟨w.heap.size, 5, none⟩ (.int .i64 x3)).setCell ⟨w.heap.size, 6, none⟩ (.int .i64 y3)).setCell ⟨w.heap.size, 7, none⟩ (.string text3)).setCell ⟨w.heap.size, 8, none⟩ (.bool held3)).frozen? ⟨w.heap.size, 1, none⟩ = false := by simp [go_sem, kf1]
  replace k2 : (((((((((w5.setCell ⟨w.heap.size, 0, none⟩ (.int .i64 key3)).setCell ⟨w.heap.size, 1, none⟩ (.string d3)).setCell ⟨w.heap.size, 2, none⟩ (.int .i64 a3)).setCell ⟨w.heap.size, 3, none⟩ (.int .i64 s3)).setCell ⟨w.heap.size, 4, none⟩ (.bool dead3)).setCell ⟨w.heap.size, 5, none⟩ (.int .i64 x3)).setCell ⟨w.heap.size, 6, none⟩ (.int .i64 y3)).setCell ⟨w.heap.size, 7, none⟩ (.string text3)).setCell ⟨w.heap.size, 8, none⟩ (.bool held3)).cell? ⟨w.heap.size, 2, none⟩ = some (.int .i64 a3) := by simp [go_sem, k2]
  replace kf2 : (((((((((w5.setCell ⟨w.heap.size, 0, none⟩ (.int .i64 key3)).setCell ⟨w.heap.size, 1, none⟩ (.string d3)).setCell ⟨w.heap.size, 2, none⟩ (.int .i64 a3)).setCell ⟨w.heap.size, 3, none⟩ (.int .i64 s3)).setCell ⟨w.heap.size, 4, none⟩ (.bool dead3)).setCell ⟨w.heap.size, 5, none⟩ (.int .i64 x3)).setCell ⟨w.heap.size, 6, none⟩ (.int .i64 y3)).setCell ⟨w.heap.size, 7, none⟩ (.string text3)).setCell ⟨w.heap.size, 8, none⟩ (.bool held3)).frozen? ⟨w.heap.size, 2, none⟩ = false := by simp [go_sem, kf2]
  replace k3 : (((((((((w5.setCell ⟨w.heap.size, 0, none⟩ (.int .i64 key3)).setCell ⟨w.heap.size, 1, none⟩ (.string d3)).setCell ⟨w.heap.size, 2, none⟩ (.int .i64 a3)).setCell ⟨w.heap.size, 3, none⟩ (.int .i64 s3)).setCell ⟨w.heap.size, 4, none⟩ (.bool dead3)).setCell ⟨w.heap.size, 5, none⟩ (.int .i64 x3)).setCell ⟨w.heap.size, 6, none⟩ (.int .i64 y3)).setCell ⟨w.heap.size, 7, none⟩ (.string text3)).setCell ⟨w.heap.size, 8, none⟩ (.bool held3)).cell? ⟨w.heap.size, 3, none⟩ = some (.int .i64 s3) := by simp [go_sem, k3]
  replace kf3 : (((((((((w5.setCell ⟨w.heap.size, 0, none⟩ (.int .i64 key3)).setCell ⟨w.heap.size, 1, none⟩ (.string d3)).setCell ⟨w.heap.size, 2, none⟩ (.int .i64 a3)).setCell ⟨w.heap.size, 3, none⟩ (.int .i64 s3)).setCell ⟨w.heap.size, 4, none⟩ (.bool dead3)).setCell ⟨w.heap.size, 5, none⟩ (.int .i64 x3)).setCell ⟨w.heap.size, 6, none⟩ (.int .i64 y3)).setCell ⟨w.heap.size, 7, none⟩ (.string text3)).setCell ⟨w.heap.size, 8, none⟩ (.bool held3)).frozen? ⟨w.heap.size, 3, none⟩ = false := by simp [go_sem, kf3]
  replace k4 : (((((((((w5.setCell ⟨w.heap.size, 0, none⟩ (.int .i64 key3)).setCell ⟨w.heap.size, 1, none⟩ (.string d3)).setCell ⟨w.heap.size, 2, none⟩ (.int .i64 a3)).setCell ⟨w.heap.size, 3, none⟩ (.int .i64 s3)).setCell ⟨w.heap.size, 4, none⟩ (.bool dead3)).setCell ⟨w.heap.size, 5, none⟩ (.int .i64 x3)).setCell ⟨w.heap.size, 6, none⟩ (.int .i64 y3)).setCell ⟨w.heap.size, 7, none⟩ (.string text3)).setCell ⟨w.heap.size, 8, none⟩ (.bool held3)).cell? ⟨w.heap.size, 4, none⟩ = some (.bool dead3) := by simp [go_sem, k4]
  replace kf4 : (((((((((w5.setCell ⟨w.heap.size, 0, none⟩ (.int .i64 key3)).setCell ⟨w.heap.size, 1, none⟩ (.string d3)).setCell ⟨w.heap.size, 2, none⟩ (.int .i64 a3)).setCell ⟨w.heap.size, 3, none⟩ (.int .i64 s3)).setCell ⟨w.heap.size, 4, none⟩ (.bool dead3)).setCell ⟨w.heap.size, 5, none⟩ (.int .i64 x3)).setCell ⟨w.heap.size, 6, none⟩ (.int .i64 y3)).setCell ⟨w.heap.size, 7, none⟩ (.string text3)).setCell ⟨w.heap.size, 8, none⟩ (.bool held3)).frozen? ⟨w.heap.size, 4, none⟩ = false := by simp [go_sem, kf4]
  replace k5 : (((((((((w5.setCell ⟨w.heap.size, 0, none⟩ (.int .i64 key3)).setCell ⟨w.heap.size, 1, none⟩ (.string d3)).setCell ⟨w.heap.size, 2, none⟩ (.int .i64 a3)).setCell ⟨w.heap.size, 3, none⟩ (.int .i64 s3)).setCell ⟨w.heap.size, 4, none⟩ (.bool dead3)).setCell ⟨w.heap.size, 5, none⟩ (.int .i64 x3)).setCell ⟨w.heap.size, 6, none⟩ (.int .i64 y3)).setCell ⟨w.heap.size, 7, none⟩ (.string text3)).setCell ⟨w.heap.size, 8, none⟩ (.bool held3)).cell? ⟨w.heap.size, 5, none⟩ = some (.int .i64 x3) := by simp [go_sem, k5]
  replace kf5 : (((((((((w5.setCell ⟨w.heap.size, 0, none⟩ (.int .i64 key3)).setCell ⟨w.heap.size, 1, none⟩ (.string d3)).setCell ⟨w.heap.size, 2, none⟩ (.int .i64 a3)).setCell ⟨w.heap.size, 3, none⟩ (.int .i64 s3)).setCell ⟨w.heap.size, 4, none⟩ (.bool dead3)).setCell ⟨w.heap.size, 5, none⟩ (.int .i64 x3)).setCell ⟨w.heap.size, 6, none⟩ (.int .i64 y3)).setCell ⟨w.heap.size, 7, none⟩ (.string text3)).setCell ⟨w.heap.size, 8, none⟩ (.bool held3)).frozen? ⟨w.heap.size, 5, none⟩ = false := by simp [go_sem, kf5]
  replace k6 : (((((((((w5.setCell ⟨w.heap.size, 0, none⟩ (.int .i64 key3)).setCell ⟨w.heap.size, 1, none⟩ (.string d3)).setCell ⟨w.heap.size, 2, none⟩ (.int .i64 a3)).setCell ⟨w.heap.size, 3, none⟩ (.int .i64 s3)).setCell ⟨w.heap.size, 4, none⟩ (.bool dead3)).setCell ⟨w.heap.size, 5, none⟩ (.int .i64 x3)).setCell ⟨w.heap.size, 6, none⟩ (.int .i64 y3)).setCell ⟨w.heap.size, 7, none⟩ (.string text3)).setCell ⟨w.heap.size, 8, none⟩ (.bool held3)).cell? ⟨w.heap.size, 6, none⟩ = some (.int .i64 y3) := by simp [go_sem, k6]
  replace kf6 : (((((((((w5.setCell ⟨w.heap.size, 0, none⟩ (.int .i64 key3)).setCell ⟨w.heap.size, 1, none⟩ (.string d3)).setCell ⟨w.heap.size, 2, none⟩ (.int .i64 a3)).setCell ⟨w.heap.size, 3, none⟩ (.int .i64 s3)).setCell ⟨w.heap.size, 4, none⟩ (.bool dead3)).setCell ⟨w.heap.size, 5, none⟩ (.int .i64 x3)).setCell ⟨w.heap.size, 6, none⟩ (.int .i64 y3)).setCell ⟨w.heap.size, 7, none⟩ (.string text3)).setCell ⟨w.heap.size, 8, none⟩ (.bool held3)).frozen? ⟨w.heap.size, 6, none⟩ = false := by simp [go_sem, kf6]
  replace k7 : (((((((((w5.setCell ⟨w.heap.size, 0, none⟩ (.int .i64 key3)).setCell ⟨w.heap.size, 1, none⟩ (.string d3)).setCell ⟨w.heap.size, 2, none⟩ (.int .i64 a3)).setCell ⟨w.heap.size, 3, none⟩ (.int .i64 s3)).setCell ⟨w.heap.size, 4, none⟩ (.bool dead3)).setCell ⟨w.heap.size, 5, none⟩ (.int .i64 x3)).setCell ⟨w.heap.size, 6, none⟩ (.int .i64 y3)).setCell ⟨w.heap.size, 7, none⟩ (.string text3)).setCell ⟨w.heap.size, 8, none⟩ (.bool held3)).cell? ⟨w.heap.size, 7, none⟩ = some (.string text3) := by simp [go_sem, k7]
  replace kf7 : (((((((((w5.setCell ⟨w.heap.size, 0, none⟩ (.int .i64 key3)).setCell ⟨w.heap.size, 1, none⟩ (.string d3)).setCell ⟨w.heap.size, 2, none⟩ (.int .i64 a3)).setCell ⟨w.heap.size, 3, none⟩ (.int .i64 s3)).setCell ⟨w.heap.size, 4, none⟩ (.bool dead3)).setCell ⟨w.heap.size, 5, none⟩ (.int .i64 x3)).setCell ⟨w.heap.size, 6, none⟩ (.int .i64 y3)).setCell ⟨w.heap.size, 7, none⟩ (.string text3)).setCell ⟨w.heap.size, 8, none⟩ (.bool held3)).frozen? ⟨w.heap.size, 7, none⟩ = false := by simp [go_sem, kf7]
  replace k8 : (((((((((w5.setCell ⟨w.heap.size, 0, none⟩ (.int .i64 key3)).setCell ⟨w.heap.size, 1, none⟩ (.string d3)).setCell ⟨w.heap.size, 2, none⟩ (.int .i64 a3)).setCell ⟨w.heap.size, 3, none⟩ (.int .i64 s3)).setCell ⟨w.heap.size, 4, none⟩ (.bool dead3)).setCell ⟨w.heap.size, 5, none⟩ (.int .i64 x3)).setCell ⟨w.heap.size, 6, none⟩ (.int .i64 y3)).setCell ⟨w.heap.size, 7, none⟩ (.string text3)).setCell ⟨w.heap.size, 8, none⟩ (.bool held3)).cell? ⟨w.heap.size, 8, none⟩ = some (.bool held3) := by simp [go_sem, k8]
  replace kf8 : (((((((((w5.setCell ⟨w.heap.size, 0, none⟩ (.int .i64 key3)).setCell ⟨w.heap.size, 1, none⟩ (.string d3)).setCell ⟨w.heap.size, 2, none⟩ (.int .i64 a3)).setCell ⟨w.heap.size, 3, none⟩ (.int .i64 s3)).setCell ⟨w.heap.size, 4, none⟩ (.bool dead3)).setCell ⟨w.heap.size, 5, none⟩ (.int .i64 x3)).setCell ⟨w.heap.size, 6, none⟩ (.int .i64 y3)).setCell ⟨w.heap.size, 7, none⟩ (.string text3)).setCell ⟨w.heap.size, 8, none⟩ (.bool held3)).frozen? ⟨w.heap.size, 8, none⟩ = false := by simp [go_sem, kf8]
  replace kz : w.heap.size < (((((((((w5.setCell ⟨w.heap.size, 0, none⟩ (.int .i64 key3)).setCell ⟨w.heap.size, 1, none⟩ (.string d3)).setCell ⟨w.heap.size, 2, none⟩ (.int .i64 a3)).setCell ⟨w.heap.size, 3, none⟩ (.int .i64 s3)).setCell ⟨w.heap.size, 4, none⟩ (.bool dead3)).setCell ⟨w.heap.size, 5, none⟩ (.int .i64 x3)).setCell ⟨w.heap.size, 6, none⟩ (.int .i64 y3)).setCell ⟨w.heap.size, 7, none⟩ (.string text3)).setCell ⟨w.heap.size, 8, none⟩ (.bool held3)).heap.size := by simp <;> omega
  replace m0 : (((((((((w5.setCell ⟨w.heap.size, 0, none⟩ (.int .i64 key3)).setCell ⟨w.heap.size, 1, none⟩ (.string d3)).setCell ⟨w.heap.size, 2, none⟩ (.int .i64 a3)).setCell ⟨w.heap.size, 3, none⟩ (.int .i64 s3)).setCell ⟨w.heap.size, 4, none⟩ (.bool dead3)).setCell ⟨w.heap.size, 5, none⟩ (.int .i64 x3)).setCell ⟨w.heap.size, 6, none⟩ (.int .i64 y3)).setCell ⟨w.heap.size, 7, none⟩ (.string text3)).setCell ⟨w.heap.size, 8, none⟩ (.bool held3)).cell? ⟨w.heap.size + 1, 0, none⟩ = some (.int .i64 key2) := by simp [go_sem, m0]
  replace mf0 : (((((((((w5.setCell ⟨w.heap.size, 0, none⟩ (.int .i64 key3)).setCell ⟨w.heap.size, 1, none⟩ (.string d3)).setCell ⟨w.heap.size, 2, none⟩ (.int .i64 a3)).setCell ⟨w.heap.size, 3, none⟩ (.int .i64 s3)).setCell ⟨w.heap.size, 4, none⟩ (.bool dead3)).setCell ⟨w.heap.size, 5, none⟩ (.int .i64 x3)).setCell ⟨w.heap.size, 6, none⟩ (.int .i64 y3)).setCell ⟨w.heap.size, 7, none⟩ (.string text3)).setCell ⟨w.heap.size, 8, none⟩ (.bool held3)).frozen? ⟨w.heap.size + 1, 0, none⟩ = false := by simp [go_sem, mf0]
  replace m1 : (((((((((w5.setCell ⟨w.heap.size, 0, none⟩ (.int .i64 key3)).setCell ⟨w.heap.size, 1, none⟩ (.string d3)).setCell ⟨w.heap.size, 2, none⟩ (.int .i64 a3)).setCell ⟨w.heap.size, 3, none⟩ (.int .i64 s3)).setCell ⟨w.heap.size, 4, none⟩ (.bool dead3)).setCell ⟨w.heap.size, 5, none⟩ (.int .i64 x3)).setCell ⟨w.heap.size, 6, none⟩ (.int .i64 y3)).setCell ⟨w.heap.size, 7, none⟩ (.string text3)).setCell ⟨w.heap.size, 8, none⟩ (.bool held3)).cell? ⟨w.heap.size + 1, 1, none⟩ = some (.string d2) := by simp [go_sem, m1]
  replace mf1 : (((((((((w5.setCell ⟨w.heap.size, 0, none⟩ (.int .i64 key3)).setCell ⟨w.heap.size, 1, none⟩ (.string d3)).setCell ⟨w.heap.size, 2, none⟩ (.int .i64 a3)).setCell ⟨w.heap.size, 3, none⟩ (.int .i64 s3)).setCell ⟨w.heap.size, 4, none⟩ (.bool dead3)).setCell ⟨w.heap.size, 5, none⟩ (.int .i64 x3)).setCell ⟨w.heap.size, 6, none⟩ (.int .i64 y3)).setCell ⟨w.heap.size, 7, none⟩ (.string text3)).setCell ⟨w.heap.size, 8, none⟩ (.bool held3)).frozen? ⟨w.heap.size + 1, 1, none⟩ = false := by simp [go_sem, mf1]
  replace m2 : (((((((((w5.setCell ⟨w.heap.size, 0, none⟩ (.int .i64 key3)).setCell ⟨w.heap.size, 1, none⟩ (.string d3)).setCell ⟨w.heap.size, 2, none⟩ (.int .i64 a3)).setCell ⟨w.heap.size, 3, none⟩ (.int .i64 s3)).setCell ⟨w.heap.size, 4, none⟩ (.bool dead3)).setCell ⟨w.heap.size, 5, none⟩ (.int .i64 x3)).setCell ⟨w.heap.size, 6, none⟩ (.int .i64 y3)).setCell ⟨w.heap.size, 7, none⟩ (.string text3)).setCell ⟨w.heap.size, 8, none⟩ (.bool held3)).cell? ⟨w.heap.size + 1, 2, none⟩ = some (.int .i64 a2) := by simp [go_sem, m2]
  replace mf2 : (((((((((w5.setCell ⟨w.heap.size, 0, none⟩ (.int .i64 key3)).setCell ⟨w.heap.size, 1, none⟩ (.string d3)).setCell ⟨w.heap.size, 2, none⟩ (.int .i64 a3)).setCell ⟨w.heap.size, 3, none⟩ (.int .i64 s3)).setCell ⟨w.heap.size, 4, none⟩ (.bool dead3)).setCell ⟨w.heap.size, 5, none⟩ (.int .i64 x3)).setCell ⟨w.heap.size, 6, none⟩ (.int .i64 y3)).setCell ⟨w.heap.size, 7, none⟩ (.string text3)).setCell ⟨w.heap.size, 8, none⟩ (.bool held3)).frozen? ⟨w.heap.size + 1, 2, none⟩ = false := by simp [go_sem, mf2]
  replace m3 : (((((((((w5.setCell ⟨w.heap.size, 0, none⟩ (.int .i64 key3)).setCell ⟨w.heap.size, 1, none⟩ (.string d3)).setCell ⟨w.heap.size, 2, none⟩ (.int .i64 a3)).setCell ⟨w.heap.size, 3, none⟩ (.int .i64 s3)).setCell ⟨w.heap.size, 4, none⟩ (.bool dead3)).setCell ⟨w.heap.size, 5, none⟩ (.int .i64 x3)).setCell ⟨w.heap.size, 6, none⟩ (.int .i64 y3)).setCell ⟨w.heap.size, 7, none⟩ (.string text3)).setCell ⟨w.heap.size, 8, none⟩ (.bool held3)).cell? ⟨w.heap.size + 1, 3, none⟩ = some (.int .i64 s2) := by simp [go_sem, m3]
  replace mf3 : (((((((((w5.setCell ⟨w.heap.size, 0, none⟩ (.int .i64 key3)).setCell ⟨w.heap.size, 1, none⟩ (.string d3)).setCell ⟨w.heap.size, 2, none⟩ (.int .i64 a3)).setCell ⟨w.heap.size, 3, none⟩ (.int .i64 s3)).setCell ⟨w.heap.size, 4, none⟩ (.bool dead3)).setCell ⟨w.heap.size, 5, none⟩ (.int .i64 x3)).setCell ⟨w.heap.size, 6, none⟩ (.int .i64 y3)).setCell ⟨w.heap.size, 7, none⟩ (.string text3)).setCell ⟨w.heap.size, 8, none⟩ (.bool held3)).frozen? ⟨w.heap.size + 1, 3, none⟩ = false := by simp [go_sem, mf3]
  replace m4 : (((((((((w5.setCell ⟨w.heap.size, 0, none⟩ (.int .i64 key3)).setCell ⟨w.heap.size, 1, none⟩ (.string d3)).setCell ⟨w.heap.size, 2, none⟩ (.int .i64 a3)).setCell ⟨w.heap.size, 3, none⟩ (.int .i64 s3)).setCell ⟨w.heap.size, 4, none⟩ (.bool dead3)).setCell ⟨w.heap.size, 5, none⟩ (.int .i64 x3)).setCell ⟨w.heap.size, 6, none⟩ (.int .i64 y3)).setCell ⟨w.heap.size, 7, none⟩ (.string text3)).setCell ⟨w.heap.size, 8, none⟩ (.bool held3)).cell? ⟨w.heap.size + 1, 4, none⟩ = some (.bool dead2) := by simp [go_sem, m4]
  replace mf4 : (((((((((w5.setCell ⟨w.heap.size, 0, none⟩ (.int .i64 key3)).setCell ⟨w.heap.size, 1, none⟩ (.string d3)).setCell ⟨w.heap.size, 2, none⟩ (.int .i64 a3)).setCell ⟨w.heap.size, 3, none⟩ (.int .i64 s3)).setCell ⟨w.heap.size, 4, none⟩ (.bool dead3)).setCell ⟨w.heap.size, 5, none⟩ (.int .i64 x3)).setCell ⟨w.heap.size, 6, none⟩ (.int .i64 y3)).setCell ⟨w.heap.size, 7, none⟩ (.string text3)).setCell ⟨w.heap.size, 8, none⟩ (.bool held3)).frozen? ⟨w.heap.size + 1, 4, none⟩ = false := by simp [go_sem, mf4]
  replace m5 : (((((((((w5.setCell ⟨w.heap.size, 0, none⟩ (.int .i64 key3)).setCell ⟨w.heap.size, 1, none⟩ (.string d3)).setCell ⟨w.heap.size, 2, none⟩ (.int .i64 a3)).setCell ⟨w.heap.size, 3, none⟩ (.int .i64 s3)).setCell ⟨w.heap.size, 4, none⟩ (.bool dead3)).setCell ⟨w.heap.size, 5, none⟩ (.int .i64 x3)).setCell ⟨w.heap.size, 6, none⟩ (.int .i64 y3)).setCell ⟨w.heap.size, 7, none⟩ (.string text3)).setCell ⟨w.heap.size, 8, none⟩ (.bool held3)).cell? ⟨w.heap.size + 1, 5, none⟩ = some (.int .i64 x2) := by simp [go_sem, m5]
  replace mf5 : (((((((((w5.setCell ⟨w.heap.size, 0, none⟩ (.int .i64 key3)).setCell ⟨w.heap.size, 1, none⟩ (.string d3)).setCell ⟨w.heap.size, 2, none⟩ (.int .i64 a3)).setCell ⟨w.heap.size, 3, none⟩ (.int .i64 s3)).setCell ⟨w.heap.size, 4, none⟩ (.bool dead3)).setCell ⟨w.heap.size, 5, none⟩ (.int .i64 x3)).setCell ⟨w.heap.size, 6, none⟩ (.int .i64 y3)).setCell ⟨w.heap.size, 7, none⟩ (.string text3)).setCell ⟨w.heap.size, 8, none⟩ (.bool held3)).frozen? ⟨w.heap.size + 1, 5, none⟩ = false := by simp [go_sem, mf5]
  replace m6 : (((((((((w5.setCell ⟨w.heap.size, 0, none⟩ (.int .i64 key3)).setCell ⟨w.heap.size, 1, none⟩ (.string d3)).setCell ⟨w.heap.size, 2, none⟩ (.int .i64 a3)).setCell ⟨w.heap.size, 3, none⟩ (.int .i64 s3)).setCell ⟨w.heap.size, 4, none⟩ (.bool dead3)).setCell ⟨w.heap.size, 5, none⟩ (.int .i64 x3)).setCell ⟨w.heap.size, 6, none⟩ (.int .i64 y3)).setCell ⟨w.heap.size, 7, none⟩ (.string text3)).setCell ⟨w.heap.size, 8, none⟩ (.bool held3)).cell? ⟨w.heap.size + 1, 6, none⟩ = some (.int .i64 y2) := by simp [go_sem, m6]
  replace mf6 : (((((((((w5.setCell ⟨w.heap.size, 0, none⟩ (.int .i64 key3)).setCell ⟨w.heap.size, 1, none⟩ (.string d3)).setCell ⟨w.heap.size, 2, none⟩ (.int .i64 a3)).setCell ⟨w.heap.size, 3, none⟩ (.int .i64 s3)).setCell ⟨w.heap.size, 4, none⟩ (.bool dead3)).setCell ⟨w.heap.size, 5, none⟩ (.int .i64 x3)).setCell ⟨w.heap.size, 6, none⟩ (.int .i64 y3)).setCell ⟨w.heap.size, 7, none⟩ (.string text3)).setCell ⟨w.heap.size, 8, none⟩ (.bool held3)).frozen? ⟨w.heap.size + 1, 6, none⟩ = false := by simp [go_sem, mf6]
  replace m7 : (((((((((w5.setCell ⟨w.heap.size, 0, none⟩ (.int .i64 key3)).setCell ⟨w.heap.size, 1, none⟩ (.string d3)).setCell ⟨w.heap.size, 2, none⟩ (.int .i64 a3)).setCell ⟨w.heap.size, 3, none⟩ (.int .i64 s3)).setCell ⟨w.heap.size, 4, none⟩ (.bool dead3)).setCell ⟨w.heap.size, 5, none⟩ (.int .i64 x3)).setCell ⟨w.heap.size, 6, none⟩ (.int .i64 y3)).setCell ⟨w.heap.size, 7, none⟩ (.string text3)).setCell ⟨w.heap.size, 8, none⟩ (.bool held3)).cell? ⟨w.heap.size + 1, 7, none⟩ = some (.string text2) := by simp [go_sem, m7]
  replace mf7 : (((((((((w5.setCell ⟨w.heap.size, 0, none⟩ (.int .i64 key3)).setCell ⟨w.heap.size, 1, none⟩ (.string d3)).setCell ⟨w.heap.size, 2, none⟩ (.int .i64 a3)).setCell ⟨w.heap.size, 3, none⟩ (.int .i64 s3)).setCell ⟨w.heap.size, 4, none⟩ (.bool dead3)).setCell ⟨w.heap.size, 5, none⟩ (.int .i64 x3)).setCell ⟨w.heap.size, 6, none⟩ (.int .i64 y3)).setCell ⟨w.heap.size, 7, none⟩ (.string text3)).setCell ⟨w.heap.size, 8, none⟩ (.bool held3)).frozen? ⟨w.heap.size + 1, 7, none⟩ = false := by simp [go_sem, mf7]
  replace m8 : (((((((((w5.setCell ⟨w.heap.size, 0, none⟩ (.int .i64 key3)).setCell ⟨w.heap.size, 1, none⟩ (.string d3)).setCell ⟨w.heap.size, 2, none⟩ (.int .i64 a3)).setCell ⟨w.heap.size, 3, none⟩ (.int .i64 s3)).setCell ⟨w.heap.size, 4, none⟩ (.bool dead3)).setCell ⟨w.heap.size, 5, none⟩ (.int .i64 x3)).setCell ⟨w.heap.size, 6, none⟩ (.int .i64 y3)).setCell ⟨w.heap.size, 7, none⟩ (.string text3)).setCell ⟨w.heap.size, 8, none⟩ (.bool held3)).cell? ⟨w.heap.size + 1, 8, none⟩ = some (.bool held2) := by simp [go_sem, m8]
  replace mf8 : (((((((((w5.setCell ⟨w.heap.size, 0, none⟩ (.int .i64 key3)).setCell ⟨w.heap.size, 1, none⟩ (.string d3)).setCell ⟨w.heap.size, 2, none⟩ (.int .i64 a3)).setCell ⟨w.heap.size, 3, none⟩ (.int .i64 s3)).setCell ⟨w.heap.size, 4, none⟩ (.bool dead3)).setCell ⟨w.heap.size, 5, none⟩ (.int .i64 x3)).setCell ⟨w.heap.size, 6, none⟩ (.int .i64 y3)).setCell ⟨w.heap.size, 7, none⟩ (.string text3)).setCell ⟨w.heap.size, 8, none⟩ (.bool held3)).frozen? ⟨w.heap.size + 1, 8, none⟩ = false := by simp [go_sem, mf8]
  replace mz : w.heap.size + 1 < (((((((((w5.setCell ⟨w.heap.size, 0, none⟩ (.int .i64 key3)).setCell ⟨w.heap.size, 1, none⟩ (.string d3)).setCell ⟨w.heap.size, 2, none⟩ (.int .i64 a3)).setCell ⟨w.heap.size, 3, none⟩ (.int .i64 s3)).setCell ⟨w.heap.size, 4, none⟩ (.bool dead3)).setCell ⟨w.heap.size, 5, none⟩ (.int .i64 x3)).setCell ⟨w.heap.size, 6, none⟩ (.int .i64 y3)).setCell ⟨w.heap.size, 7, none⟩ (.string text3)).setCell ⟨w.heap.size, 8, none⟩ (.bool held3)).heap.size := by simp <;> omega
  replace HB : Hid (Below w.heap.size w (((((((((w5.setCell ⟨w.heap.size, 0, none⟩ (.int .i64 key3)).setCell ⟨w.heap.size, 1, none⟩ (.string d3)).setCell ⟨w.heap.size, 2, none⟩ (.int .i64 a3)).setCell ⟨w.heap.size, 3, none⟩ (.int .i64 s3)).setCell ⟨w.heap.size, 4, none⟩ (.bool dead3)).setCell ⟨w.heap.size, 5, none⟩ (.int .i64 x3)).setCell ⟨w.heap.size, 6, none⟩ (.int .i64 y3)).setCell ⟨w.heap.size, 7, none⟩ (.string text3)).setCell ⟨w.heap.size, 8, none⟩ (.bool held3))) := (((((((((HB.out.setCell (by simp) _).setCell (by simp) _).setCell (by simp) _).setCell (by simp) _).setCell (by simp) _).setCell (by simp) _).setCell (by simp) _).setCell (by simp) _).setCell (by simp) _)
  generalize (((((((((w5.setCell ⟨w.heap.size, 0, none⟩ (.int .i64 key3)).setCell ⟨w.heap.size, 1, none⟩ (.string d3)).setCell ⟨w.heap.size, 2, none⟩ (.int .i64 a3)).setCell ⟨w.heap.size, 3, none⟩ (.int .i64 s3)).setCell ⟨w.heap.size, 4, none⟩ (.bool dead3)).setCell ⟨w.heap.size, 5, none⟩ (.int .i64 x3)).setCell ⟨w.heap.size, 6, none⟩ (.int .i64 y3)).setCell ⟨w.heap.size, 7, none⟩ (.string text3)).setCell ⟨w.heap.size, 8, none⟩ (.bool held3)) = W4 at *
  refine hK.out _ _ ?_
  clear hK K
  try simp only [Act.put, List.setIfInBounds_toArray, List.set_cons_zero, List.set_cons_succ]
  refine rest_step (k := 5) (o := { dst := none, op := Go.Op.store 35 (Go.Operand.tmp 3) (Go.Operand.tmp 8), type := 0, pos := "law.go:93", after := #[{ on := 3, ground := Go.Ground.data }, { on := 4, ground := Go.Ground.chain }, { on := 0, ground := Go.Ground.phase }, { on := 1, ground := Go.Ground.phase }, { on := 2, ground := Go.Ground.phase }, { on := 3, ground := Go.Ground.phase }, { on := 4, ground := Go.Ground.phase }], guard := none }) (by kernel_rfl) (by kernel_rfl) rfl (fun K hK => ?_)
  go_simp
  replace k0 : (((((((((W4.setCell ⟨w.heap.size + 1, 0, none⟩ (.int .i64 key4)).setCell ⟨w.heap.size + 1, 1, none⟩ (.string d4)).setCell ⟨w.heap.size + 1, 2, none⟩ (.int .i64 a4)).setCell ⟨w.heap.size + 1, 3, none⟩ (.int .i64 s4)).setCell ⟨w.heap.size + 1, 4, none⟩ (.bool dead4)).setCell ⟨w.heap.size + 1, 5, none⟩ (.int .i64 x4)).setCell ⟨w.heap.size + 1, 6, none⟩ (.int .i64 y4)).setCell ⟨w.heap.size + 1, 7, none⟩ (.string text4)).setCell ⟨w.heap.size + 1, 8, none⟩ (.bool held4)).cell? ⟨w.heap.size, 0, none⟩ = some (.int .i64 key3) := by simp [go_sem, k0]
  replace kf0 : (((((((((W4.setCell ⟨w.heap.size + 1, 0, none⟩ (.int .i64 key4)).setCell ⟨w.heap.size + 1, 1, none⟩ (.string d4)).setCell ⟨w.heap.size + 1, 2, none⟩ (.int .i64 a4)).setCell ⟨w.heap.size + 1, 3, none⟩ (.int .i64 s4)).setCell ⟨w.heap.size + 1, 4, none⟩ (.bool dead4)).setCell ⟨w.heap.size + 1, 5, none⟩ (.int .i64 x4)).setCell ⟨w.heap.size + 1, 6, none⟩ (.int .i64 y4)).setCell ⟨w.heap.size + 1, 7, none⟩ (.string text4)).setCell ⟨w.heap.size + 1, 8, none⟩ (.bool held4)).frozen? ⟨w.heap.size, 0, none⟩ = false := by simp [go_sem, kf0]
  replace k1 : (((((((((W4.setCell ⟨w.heap.size + 1, 0, none⟩ (.int .i64 key4)).setCell ⟨w.heap.size + 1, 1, none⟩ (.string d4)).setCell ⟨w.heap.size + 1, 2, none⟩ (.int .i64 a4)).setCell ⟨w.heap.size + 1, 3, none⟩ (.int .i64 s4)).setCell ⟨w.heap.size + 1, 4, none⟩ (.bool dead4)).setCell ⟨w.heap.size + 1, 5, none⟩ (.int .i64 x4)).setCell ⟨w.heap.size + 1, 6, none⟩ (.int .i64 y4)).setCell ⟨w.heap.size + 1, 7, none⟩ (.string text4)).setCell ⟨w.heap.size + 1, 8, none⟩ (.bool held4)).cell? ⟨w.heap.size, 1, none⟩ = some (.string d3) := by simp [go_sem, k1]
  replace kf1 : (((((((((W4.setCell ⟨w.heap.size + 1, 0, none⟩ (.int .i64 key4)).setCell ⟨w.heap.size + 1, 1, none⟩ (.string d4)).setCell ⟨w.heap.size + 1, 2, none⟩ (.int .i64 a4)).setCell ⟨w.heap.size + 1, 3, none⟩ (.int .i64 s4)).setCell ⟨w.heap.size + 1, 4, none⟩ (.bool dead4)).setCell ⟨w.heap.size + 1, 5, none⟩ (.int .i64 x4)).setCell ⟨w.heap.size + 1, 6, none⟩ (.int .i64 y4)).setCell ⟨w.heap.size + 1, 7, none⟩ (.string text4)).setCell ⟨w.heap.size + 1, 8, none⟩ (.bool held4)).frozen? ⟨w.heap.size, 1, none⟩ = false := by simp [go_sem, kf1]
  replace k2 : (((((((((W4.setCell ⟨w.heap.size + 1, 0, none⟩ (.int .i64 key4)).setCell ⟨w.heap.size + 1, 1, none⟩ (.string d4)).setCell ⟨w.heap.size + 1, 2, none⟩ (.int .i64 a4)).setCell ⟨w.heap.size + 1, 3, none⟩ (.int .i64 s4)).setCell ⟨w.heap.size + 1, 4, none⟩ (.bool dead4)).setCell ⟨w.heap.size + 1, 5, none⟩ (.int .i64 x4)).setCell ⟨w.heap.size + 1, 6, none⟩ (.int .i64 y4)).setCell ⟨w.heap.size + 1, 7, none⟩ (.string text4)).setCell ⟨w.heap.size + 1, 8, none⟩ (.bool held4)).cell? ⟨w.heap.size, 2, none⟩ = some (.int .i64 a3) := by simp [go_sem, k2]
  replace kf2 : (((((((((W4.setCell ⟨w.heap.size + 1, 0, none⟩ (.int .i64 key4)).setCell ⟨w.heap.size + 1, 1, none⟩ (.string d4)).setCell ⟨w.heap.size + 1, 2, none⟩ (.int .i64 a4)).setCell ⟨w.heap.size + 1, 3, none⟩ (.int .i64 s4)).setCell ⟨w.heap.size + 1, 4, none⟩ (.bool dead4)).setCell ⟨w.heap.size + 1, 5, none⟩ (.int .i64 x4)).setCell ⟨w.heap.size + 1, 6, none⟩ (.int .i64 y4)).setCell ⟨w.heap.size + 1, 7, none⟩ (.string text4)).setCell ⟨w.heap.size + 1, 8, none⟩ (.bool held4)).frozen? ⟨w.heap.size, 2, none⟩ = false := by simp [go_sem, kf2]
  replace k3 : (((((((((W4.setCell ⟨w.heap.size + 1, 0, none⟩ (.int .i64 key4)).setCell ⟨w.heap.size + 1, 1, none⟩ (.string d4)).setCell ⟨w.heap.size + 1, 2, none⟩ (.int .i64 a4)).setCell ⟨w.heap.size + 1, 3, none⟩ (.int .i64 s4)).setCell ⟨w.heap.size + 1, 4, none⟩ (.bool dead4)).setCell ⟨w.heap.size + 1, 5, none⟩ (.int .i64 x4)).setCell ⟨w.heap.size + 1, 6, none⟩ (.int .i64 y4)).setCell ⟨w.heap.size + 1, 7, none⟩ (.string text4)).setCell ⟨w.heap.size + 1, 8, none⟩ (.bool held4)).cell? ⟨w.heap.size, 3, none⟩ = some (.int .i64 s3) := by simp [go_sem, k3]
  replace kf3 : (((((((((W4.setCell ⟨w.heap.size + 1, 0, none⟩ (.int .i64 key4)).setCell ⟨w.heap.size + 1, 1, none⟩ (.string d4)).setCell ⟨w.heap.size + 1, 2, none⟩ (.int .i64 a4)).setCell ⟨w.heap.size + 1, 3, none⟩ (.int .i64 s4)).setCell ⟨w.heap.size + 1, 4, none⟩ (.bool dead4)).setCell ⟨w.heap.size + 1, 5, none⟩ (.int .i64 x4)).setCell ⟨w.heap.size + 1, 6, none⟩ (.int .i64 y4)).setCell ⟨w.heap.size + 1, 7, none⟩ (.string text4)).setCell ⟨w.heap.size + 1, 8, none⟩ (.bool held4)).frozen? ⟨w.heap.size, 3, none⟩ = false := by simp [go_sem, kf3]
  replace k4 : (((((((((W4.setCell ⟨w.heap.size + 1, 0, none⟩ (.int .i64 key4)).setCell ⟨w.heap.size + 1, 1, none⟩ (.string d4)).setCell ⟨w.heap.size + 1, 2, none⟩ (.int .i64 a4)).setCell ⟨w.heap.size + 1, 3, none⟩ (.int .i64 s4)).setCell ⟨w.heap.size + 1, 4, none⟩ (.bool dead4)).setCell ⟨w.heap.size + 1, 5, none⟩ (.int .i64 x4)).setCell ⟨w.heap.size + 1, 6, none⟩ (.int .i64 y4)).setCell ⟨w.heap.size + 1, 7, none⟩ (.string text4)).setCell ⟨w.heap.size + 1, 8, none⟩ (.bool held4)).cell? ⟨w.heap.size, 4, none⟩ = some (.bool dead3) := by simp [go_sem, k4]
  replace kf4 : (((((((((W4.setCell ⟨w.heap.size + 1, 0, none⟩ (.int .i64 key4)).setCell ⟨w.heap.size + 1, 1, none⟩ (.string d4)).setCell ⟨w.heap.size + 1, 2, none⟩ (.int .i64 a4)).setCell ⟨w.heap.size + 1, 3, none⟩ (.int .i64 s4)).setCell ⟨w.heap.size + 1, 4, none⟩ (.bool dead4)).setCell ⟨w.heap.size + 1, 5, none⟩ (.int .i64 x4)).setCell ⟨w.heap.size + 1, 6, none⟩ (.int .i64 y4)).setCell ⟨w.heap.size + 1, 7, none⟩ (.string text4)).setCell ⟨w.heap.size + 1, 8, none⟩ (.bool held4)).frozen? ⟨w.heap.size, 4, none⟩ = false := by simp [go_sem, kf4]
  replace k5 : (((((((((W4.setCell ⟨w.heap.size + 1, 0, none⟩ (.int .i64 key4)).setCell ⟨w.heap.size + 1, 1, none⟩ (.string d4)).setCell ⟨w.heap.size + 1, 2, none⟩ (.int .i64 a4)).setCell ⟨w.heap.size + 1, 3, none⟩ (.int .i64 s4)).setCell ⟨w.heap.size + 1, 4, none⟩ (.bool dead4)).setCell ⟨w.heap.size + 1, 5, none⟩ (.int .i64 x4)).setCell ⟨w.heap.size + 1, 6, none⟩ (.int .i64 y4)).setCell ⟨w.heap.size + 1, 7, none⟩ (.string text4)).setCell ⟨w.heap.size + 1, 8, none⟩ (.bool held4)).cell? ⟨w.heap.size, 5, none⟩ = some (.int .i64 x3) := by simp [go_sem, k5]
  replace kf5 : (((((((((W4.setCell ⟨w.heap.size + 1, 0, none⟩ (.int .i64 key4)).setCell ⟨w.heap.size + 1, 1, none⟩ (.string d4)).setCell ⟨w.heap.size + 1, 2, none⟩ (.int .i64 a4)).setCell ⟨w.heap.size + 1, 3, none⟩ (.int .i64 s4)).setCell ⟨w.heap.size + 1, 4, none⟩ (.bool dead4)).setCell ⟨w.heap.size + 1, 5, none⟩ (.int .i64 x4)).setCell ⟨w.heap.size + 1, 6, none⟩ (.int .i64 y4)).setCell ⟨w.heap.size + 1, 7, none⟩ (.string text4)).setCell ⟨w.heap.size + 1, 8, none⟩ (.bool held4)).frozen? ⟨w.heap.size, 5, none⟩ = false := by simp [go_sem, kf5]
  replace k6 : (((((((((W4.setCell ⟨w.heap.size + 1, 0, none⟩ (.int .i64 key4)).setCell ⟨w.heap.size + 1, 1, none⟩ (.string d4)).setCell ⟨w.heap.size + 1, 2, none⟩ (.int .i64 a4)).setCell ⟨w.heap.size + 1, 3, none⟩ (.int .i64 s4)).setCell ⟨w.heap.size + 1, 4, none⟩ (.bool dead4)).setCell ⟨w.heap.size + 1, 5, none⟩ (.int .i64 x4)).setCell ⟨w.heap.size + 1, 6, none⟩ (.int .i64 y4)).setCell ⟨w.heap.size + 1, 7, none⟩ (.string text4)).setCell ⟨w.heap.size + 1, 8, none⟩ (.bool held4)).cell? ⟨w.heap.size, 6, none⟩ = some (.int .i64 y3) := by simp [go_sem, k6]
  replace kf6 : (((((((((W4.setCell ⟨w.heap.size + 1, 0, none⟩ (.int .i64 key4)).setCell ⟨w.heap.size + 1, 1, none⟩ (.string d4)).setCell ⟨w.heap.size + 1, 2, none⟩ (.int .i64 a4)).setCell ⟨w.heap.size + 1, 3, none⟩ (.int .i64 s4)).setCell ⟨w.heap.size + 1, 4, none⟩ (.bool dead4)).setCell ⟨w.heap.size + 1, 5, none⟩ (.int .i64 x4)).setCell ⟨w.heap.size + 1, 6, none⟩ (.int .i64 y4)).setCell ⟨w.heap.size + 1, 7, none⟩ (.string text4)).setCell ⟨w.heap.size + 1, 8, none⟩ (.bool held4)).frozen? ⟨w.heap.size, 6, none⟩ = false := by simp [go_sem, kf6]
  replace k7 : (((((((((W4.setCell ⟨w.heap.size + 1, 0, none⟩ (.int .i64 key4)).setCell ⟨w.heap.size + 1, 1, none⟩ (.string d4)).setCell ⟨w.heap.size + 1, 2, none⟩ (.int .i64 a4)).setCell ⟨w.heap.size + 1, 3, none⟩ (.int .i64 s4)).setCell ⟨w.heap.size + 1, 4, none⟩ (.bool dead4)).setCell ⟨w.heap.size + 1, 5, none⟩ (.int .i64 x4)).setCell ⟨w.heap.size + 1, 6, none⟩ (.int .i64 y4)).setCell ⟨w.heap.size + 1, 7, none⟩ (.string text4)).setCell ⟨w.heap.size + 1, 8, none⟩ (.bool held4)).cell? ⟨w.heap.size, 7, none⟩ = some (.string text3) := by simp [go_sem, k7]
  replace kf7 : (((((((((W4.setCell ⟨w.heap.size + 1, 0, none⟩ (.int .i64 key4)).setCell ⟨w.heap.size + 1, 1, none⟩ (.string d4)).setCell ⟨w.heap.size + 1, 2, none⟩ (.int .i64 a4)).setCell ⟨w.heap.size + 1, 3, none⟩ (.int .i64 s4)).setCell ⟨w.heap.size + 1, 4, none⟩ (.bool dead4)).setCell ⟨w.heap.size + 1, 5, none⟩ (.int .i64 x4)).setCell ⟨w.heap.size + 1, 6, none⟩ (.int .i64 y4)).setCell ⟨w.heap.size + 1, 7, none⟩ (.string text4)).setCell ⟨w.heap.size + 1, 8, none⟩ (.bool held4)).frozen? ⟨w.heap.size, 7, none⟩ = false := by simp [go_sem, kf7]
  replace k8 : (((((((((W4.setCell ⟨w.heap.size + 1, 0, none⟩ (.int .i64 key4)).setCell ⟨w.heap.size + 1, 1, none⟩ (.string d4)).setCell ⟨w.heap.size + 1, 2, none⟩ (.int .i64 a4)).setCell ⟨w.heap.size + 1, 3, none⟩ (.int .i64 s4)).setCell ⟨w.heap.size + 1, 4, none⟩ (.bool dead4)).setCell ⟨w.heap.size + 1, 5, none⟩ (.int .i64 x4)).setCell ⟨w.heap.size + 1, 6, none⟩ (.int .i64 y4)).setCell ⟨w.heap.size + 1, 7, none⟩ (.string text4)).setCell ⟨w.heap.size + 1, 8, none⟩ (.bool held4)).cell? ⟨w.heap.size, 8, none⟩ = some (.bool held3) := by simp [go_sem, k8]
  replace kf8 : (((((((((W4.setCell ⟨w.heap.size + 1, 0, none⟩ (.int .i64 key4)).setCell ⟨w.heap.size + 1, 1, none⟩ (.string d4)).setCell ⟨w.heap.size + 1, 2, none⟩ (.int .i64 a4)).setCell ⟨w.heap.size + 1, 3, none⟩ (.int .i64 s4)).setCell ⟨w.heap.size + 1, 4, none⟩ (.bool dead4)).setCell ⟨w.heap.size + 1, 5, none⟩ (.int .i64 x4)).setCell ⟨w.heap.size + 1, 6, none⟩ (.int .i64 y4)).setCell ⟨w.heap.size + 1, 7, none⟩ (.string text4)).setCell ⟨w.heap.size + 1, 8, none⟩ (.bool held4)).frozen? ⟨w.heap.size, 8, none⟩ = false := by simp [go_sem, kf8]
  replace kz : w.heap.size < (((((((((W4.setCell ⟨w.heap.size + 1, 0, none⟩ (.int .i64 key4)).setCell ⟨w.heap.size + 1, 1, none⟩ (.string d4)).setCell ⟨w.heap.size + 1, 2, none⟩ (.int .i64 a4)).setCell ⟨w.heap.size + 1, 3, none⟩ (.int .i64 s4)).setCell ⟨w.heap.size + 1, 4, none⟩ (.bool dead4)).setCell ⟨w.heap.size + 1, 5, none⟩ (.int .i64 x4)).setCell ⟨w.heap.size + 1, 6, none⟩ (.int .i64 y4)).setCell ⟨w.heap.size + 1, 7, none⟩ (.string text4)).setCell ⟨w.heap.size + 1, 8, none⟩ (.bool held4)).heap.size := by simp <;> omega
  replace m0 : (((((((((W4.setCell ⟨w.heap.size + 1, 0, none⟩ (.int .i64 key4)).setCell ⟨w.heap.size + 1, 1, none⟩ (.string d4)).setCell ⟨w.heap.size + 1, 2, none⟩ (.int .i64 a4)).setCell ⟨w.heap.size + 1, 3, none⟩ (.int .i64 s4)).setCell ⟨w.heap.size + 1, 4, none⟩ (.bool dead4)).setCell ⟨w.heap.size + 1, 5, none⟩ (.int .i64 x4)).setCell ⟨w.heap.size + 1, 6, none⟩ (.int .i64 y4)).setCell ⟨w.heap.size + 1, 7, none⟩ (.string text4)).setCell ⟨w.heap.size + 1, 8, none⟩ (.bool held4)).cell? ⟨w.heap.size + 1, 0, none⟩ = some (.int .i64 key4) := by simp [go_sem, m0]
  replace mf0 : (((((((((W4.setCell ⟨w.heap.size + 1, 0, none⟩ (.int .i64 key4)).setCell ⟨w.heap.size + 1, 1, none⟩ (.string d4)).setCell ⟨w.heap.size + 1, 2, none⟩ (.int .i64 a4)).setCell ⟨w.heap.size + 1, 3, none⟩ (.int .i64 s4)).setCell ⟨w.heap.size + 1, 4, none⟩ (.bool dead4)).setCell ⟨w.heap.size + 1, 5, none⟩ (.int .i64 x4)).setCell ⟨w.heap.size + 1, 6, none⟩ (.int .i64 y4)).setCell ⟨w.heap.size + 1, 7, none⟩ (.string text4)).setCell ⟨w.heap.size + 1, 8, none⟩ (.bool held4)).frozen? ⟨w.heap.size + 1, 0, none⟩ = false := by simp [go_sem, mf0]
  replace m1 : (((((((((W4.setCell ⟨w.heap.size + 1, 0, none⟩ (.int .i64 key4)).setCell ⟨w.heap.size + 1, 1, none⟩ (.string d4)).setCell ⟨w.heap.size + 1, 2, none⟩ (.int .i64 a4)).setCell ⟨w.heap.size + 1, 3, none⟩ (.int .i64 s4)).setCell ⟨w.heap.size + 1, 4, none⟩ (.bool dead4)).setCell ⟨w.heap.size + 1, 5, none⟩ (.int .i64 x4)).setCell ⟨w.heap.size + 1, 6, none⟩ (.int .i64 y4)).setCell ⟨w.heap.size + 1, 7, none⟩ (.string text4)).setCell ⟨w.heap.size + 1, 8, none⟩ (.bool held4)).cell? ⟨w.heap.size + 1, 1, none⟩ = some (.string d4) := by simp [go_sem, m1]
  replace mf1 : (((((((((W4.setCell ⟨w.heap.size + 1, 0, none⟩ (.int .i64 key4)).setCell ⟨w.heap.size + 1, 1, none⟩ (.string d4)).setCell ⟨w.heap.size + 1, 2, none⟩ (.int .i64 a4)).setCell ⟨w.heap.size + 1, 3, none⟩ (.int .i64 s4)).setCell ⟨w.heap.size + 1, 4, none⟩ (.bool dead4)).setCell ⟨w.heap.size + 1, 5, none⟩ (.int .i64 x4)).setCell ⟨w.heap.size + 1, 6, none⟩ (.int .i64 y4)).setCell ⟨w.heap.size + 1, 7, none⟩ (.string text4)).setCell ⟨w.heap.size + 1, 8, none⟩ (.bool held4)).frozen? ⟨w.heap.size + 1, 1, none⟩ = false := by simp [go_sem, mf1]
  replace m2 : (((((((((W4.setCell ⟨w.heap.size + 1, 0, none⟩ (.int .i64 key4)).setCell ⟨w.heap.size + 1, 1, none⟩ (.string d4)).setCell ⟨w.heap.size + 1, 2, none⟩ (.int .i64 a4)).setCell ⟨w.heap.size + 1, 3, none⟩ (.int .i64 s4)).setCell ⟨w.heap.size + 1, 4, none⟩ (.bool dead4)).setCell ⟨w.heap.size + 1, 5, none⟩ (.int .i64 x4)).setCell ⟨w.heap.size + 1, 6, none⟩ (.int .i64 y4)).setCell ⟨w.heap.size + 1, 7, none⟩ (.string text4)).setCell ⟨w.heap.size + 1, 8, none⟩ (.bool held4)).cell? ⟨w.heap.size + 1, 2, none⟩ = some (.int .i64 a4) := by simp [go_sem, m2]
  replace mf2 : (((((((((W4.setCell ⟨w.heap.size + 1, 0, none⟩ (.int .i64 key4)).setCell ⟨w.heap.size + 1, 1, none⟩ (.string d4)).setCell ⟨w.heap.size + 1, 2, none⟩ (.int .i64 a4)).setCell ⟨w.heap.size + 1, 3, none⟩ (.int .i64 s4)).setCell ⟨w.heap.size + 1, 4, none⟩ (.bool dead4)).setCell ⟨w.heap.size + 1, 5, none⟩ (.int .i64 x4)).setCell ⟨w.heap.size + 1, 6, none⟩ (.int .i64 y4)).setCell ⟨w.heap.size + 1, 7, none⟩ (.string text4)).setCell ⟨w.heap.size + 1, 8, none⟩ (.bool held4)).frozen? ⟨w.heap.size + 1, 2, none⟩ = false := by simp [go_sem, mf2]
  replace m3 : (((((((((W4.setCell ⟨w.heap.size + 1, 0, none⟩ (.int .i64 key4)).setCell ⟨w.heap.size + 1, 1, none⟩ (.string d4)).setCell ⟨w.heap.size + 1, 2, none⟩ (.int .i64 a4)).setCell ⟨w.heap.size + 1, 3, none⟩ (.int .i64 s4)).setCell ⟨w.heap.size + 1, 4, none⟩ (.bool dead4)).setCell ⟨w.heap.size + 1, 5, none⟩ (.int .i64 x4)).setCell ⟨w.heap.size + 1, 6, none⟩ (.int .i64 y4)).setCell ⟨w.heap.size + 1, 7, none⟩ (.string text4)).setCell ⟨w.heap.size + 1, 8, none⟩ (.bool held4)).cell? ⟨w.heap.size + 1, 3, none⟩ = some (.int .i64 s4) := by simp [go_sem, m3]
  replace mf3 : (((((((((W4.setCell ⟨w.heap.size + 1, 0, none⟩ (.int .i64 key4)).setCell ⟨w.heap.size + 1, 1, none⟩ (.string d4)).setCell ⟨w.heap.size + 1, 2, none⟩ (.int .i64 a4)).setCell ⟨w.heap.size + 1, 3, none⟩ (.int .i64 s4)).setCell ⟨w.heap.size + 1, 4, none⟩ (.bool dead4)).setCell ⟨w.heap.size + 1, 5, none⟩ (.int .i64 x4)).setCell ⟨w.heap.size + 1, 6, none⟩ (.int .i64 y4)).setCell ⟨w.heap.size + 1, 7, none⟩ (.string text4)).setCell ⟨w.heap.size + 1, 8, none⟩ (.bool held4)).frozen? ⟨w.heap.size + 1, 3, none⟩ = false := by simp [go_sem, mf3]
  replace m4 : (((((((((W4.setCell ⟨w.heap.size + 1, 0, none⟩ (.int .i64 key4)).setCell ⟨w.heap.size + 1, 1, none⟩ (.string d4)).setCell ⟨w.heap.size + 1, 2, none⟩ (.int .i64 a4)).setCell ⟨w.heap.size + 1, 3, none⟩ (.int .i64 s4)).setCell ⟨w.heap.size + 1, 4, none⟩ (.bool dead4)).setCell ⟨w.heap.size + 1, 5, none⟩ (.int .i64 x4)).setCell ⟨w.heap.size + 1, 6, none⟩ (.int .i64 y4)).setCell ⟨w.heap.size + 1, 7, none⟩ (.string text4)).setCell ⟨w.heap.size + 1, 8, none⟩ (.bool held4)).cell? ⟨w.heap.size + 1, 4, none⟩ = some (.bool dead4) := by simp [go_sem, m4]
  replace mf4 : (((((((((W4.setCell ⟨w.heap.size + 1, 0, none⟩ (.int .i64 key4)).setCell ⟨w.heap.size + 1, 1, none⟩ (.string d4)).setCell ⟨w.heap.size + 1, 2, none⟩ (.int .i64 a4)).setCell ⟨w.heap.size + 1, 3, none⟩ (.int .i64 s4)).setCell ⟨w.heap.size + 1, 4, none⟩ (.bool dead4)).setCell ⟨w.heap.size + 1, 5, none⟩ (.int .i64 x4)).setCell ⟨w.heap.size + 1, 6, none⟩ (.int .i64 y4)).setCell ⟨w.heap.size + 1, 7, none⟩ (.string text4)).setCell ⟨w.heap.size + 1, 8, none⟩ (.bool held4)).frozen? ⟨w.heap.size + 1, 4, none⟩ = false := by simp [go_sem, mf4]
  replace m5 : (((((((((W4.setCell ⟨w.heap.size + 1, 0, none⟩ (.int .i64 key4)).setCell ⟨w.heap.size + 1, 1, none⟩ (.string d4)).setCell ⟨w.heap.size + 1, 2, none⟩ (.int .i64 a4)).setCell ⟨w.heap.size + 1, 3, none⟩ (.int .i64 s4)).setCell ⟨w.heap.size + 1, 4, none⟩ (.bool dead4)).setCell ⟨w.heap.size + 1, 5, none⟩ (.int .i64 x4)).setCell ⟨w.heap.size + 1, 6, none⟩ (.int .i64 y4)).setCell ⟨w.heap.size + 1, 7, none⟩ (.string text4)).setCell ⟨w.heap.size + 1, 8, none⟩ (.bool held4)).cell? ⟨w.heap.size + 1, 5, none⟩ = some (.int .i64 x4) := by simp [go_sem, m5]
  replace mf5 : (((((((((W4.setCell ⟨w.heap.size + 1, 0, none⟩ (.int .i64 key4)).setCell ⟨w.heap.size + 1, 1, none⟩ (.string d4)).setCell ⟨w.heap.size + 1, 2, none⟩ (.int .i64 a4)).setCell ⟨w.heap.size + 1, 3, none⟩ (.int .i64 s4)).setCell ⟨w.heap.size + 1, 4, none⟩ (.bool dead4)).setCell ⟨w.heap.size + 1, 5, none⟩ (.int .i64 x4)).setCell ⟨w.heap.size + 1, 6, none⟩ (.int .i64 y4)).setCell ⟨w.heap.size + 1, 7, none⟩ (.string text4)).setCell ⟨w.heap.size + 1, 8, none⟩ (.bool held4)).frozen? ⟨w.heap.size + 1, 5, none⟩ = false := by simp [go_sem, mf5]
  replace m6 : (((((((((W4.setCell ⟨w.heap.size + 1, 0, none⟩ (.int .i64 key4)).setCell ⟨w.heap.size + 1, 1, none⟩ (.string d4)).setCell ⟨w.heap.size + 1, 2, none⟩ (.int .i64 a4)).setCell ⟨w.heap.size + 1, 3, none⟩ (.int .i64 s4)).setCell ⟨w.heap.size + 1, 4, none⟩ (.bool dead4)).setCell ⟨w.heap.size + 1, 5, none⟩ (.int .i64 x4)).setCell ⟨w.heap.size + 1, 6, none⟩ (.int .i64 y4)).setCell ⟨w.heap.size + 1, 7, none⟩ (.string text4)).setCell ⟨w.heap.size + 1, 8, none⟩ (.bool held4)).cell? ⟨w.heap.size + 1, 6, none⟩ = some (.int .i64 y4) := by simp [go_sem, m6]
  replace mf6 : (((((((((W4.setCell ⟨w.heap.size + 1, 0, none⟩ (.int .i64 key4)).setCell ⟨w.heap.size + 1, 1, none⟩ (.string d4)).setCell ⟨w.heap.size + 1, 2, none⟩ (.int .i64 a4)).setCell ⟨w.heap.size + 1, 3, none⟩ (.int .i64 s4)).setCell ⟨w.heap.size + 1, 4, none⟩ (.bool dead4)).setCell ⟨w.heap.size + 1, 5, none⟩ (.int .i64 x4)).setCell ⟨w.heap.size + 1, 6, none⟩ (.int .i64 y4)).setCell ⟨w.heap.size + 1, 7, none⟩ (.string text4)).setCell ⟨w.heap.size + 1, 8, none⟩ (.bool held4)).frozen? ⟨w.heap.size + 1, 6, none⟩ = false := by simp [go_sem, mf6]
  replace m7 : (((((((((W4.setCell ⟨w.heap.size + 1, 0, none⟩ (.int .i64 key4)).setCell ⟨w.heap.size + 1, 1, none⟩ (.string d4)).setCell ⟨w.heap.size + 1, 2, none⟩ (.int .i64 a4)).setCell ⟨w.heap.size + 1, 3, none⟩ (.int .i64 s4)).setCell ⟨w.heap.size + 1, 4, none⟩ (.bool dead4)).setCell ⟨w.heap.size + 1, 5, none⟩ (.int .i64 x4)).setCell ⟨w.heap.size + 1, 6, none⟩ (.int .i64 y4)).setCell ⟨w.heap.size + 1, 7, none⟩ (.string text4)).setCell ⟨w.heap.size + 1, 8, none⟩ (.bool held4)).cell? ⟨w.heap.size + 1, 7, none⟩ = some (.string text4) := by simp [go_sem, m7]
  replace mf7 : (((((((((W4.setCell ⟨w.heap.size + 1, 0, none⟩ (.int .i64 key4)).setCell ⟨w.heap.size + 1, 1, none⟩ (.string d4)).setCell ⟨w.heap.size + 1, 2, none⟩ (.int .i64 a4)).setCell ⟨w.heap.size + 1, 3, none⟩ (.int .i64 s4)).setCell ⟨w.heap.size + 1, 4, none⟩ (.bool dead4)).setCell ⟨w.heap.size + 1, 5, none⟩ (.int .i64 x4)).setCell ⟨w.heap.size + 1, 6, none⟩ (.int .i64 y4)).setCell ⟨w.heap.size + 1, 7, none⟩ (.string text4)).setCell ⟨w.heap.size + 1, 8, none⟩ (.bool held4)).frozen? ⟨w.heap.size + 1, 7, none⟩ = false := by simp [go_sem, mf7]
  replace m8 : (((((((((W4.setCell ⟨w.heap.size + 1, 0, none⟩ (.int .i64 key4)).setCell ⟨w.heap.size + 1, 1, none⟩ (.string d4)).setCell ⟨w.heap.size + 1, 2, none⟩ (.int .i64 a4)).setCell ⟨w.heap.size + 1, 3, none⟩ (.int .i64 s4)).setCell ⟨w.heap.size + 1, 4, none⟩ (.bool dead4)).setCell ⟨w.heap.size + 1, 5, none⟩ (.int .i64 x4)).setCell ⟨w.heap.size + 1, 6, none⟩ (.int .i64 y4)).setCell ⟨w.heap.size + 1, 7, none⟩ (.string text4)).setCell ⟨w.heap.size + 1, 8, none⟩ (.bool held4)).cell? ⟨w.heap.size + 1, 8, none⟩ = some (.bool held4) := by simp [go_sem, m8]
  replace mf8 : (((((((((W4.setCell ⟨w.heap.size + 1, 0, none⟩ (.int .i64 key4)).setCell ⟨w.heap.size + 1, 1, none⟩ (.string d4)).setCell ⟨w.heap.size + 1, 2, none⟩ (.int .i64 a4)).setCell ⟨w.heap.size + 1, 3, none⟩ (.int .i64 s4)).setCell ⟨w.heap.size + 1, 4, none⟩ (.bool dead4)).setCell ⟨w.heap.size + 1, 5, none⟩ (.int .i64 x4)).setCell ⟨w.heap.size + 1, 6, none⟩ (.int .i64 y4)).setCell ⟨w.heap.size + 1, 7, none⟩ (.string text4)).setCell ⟨w.heap.size + 1, 8, none⟩ (.bool held4)).frozen? ⟨w.heap.size + 1, 8, none⟩ = false := by simp [go_sem, mf8]
  replace mz : w.heap.size + 1 < (((((((((W4.setCell ⟨w.heap.size + 1, 0, none⟩ (.int .i64 key4)).setCell ⟨w.heap.size + 1, 1, none⟩ (.string d4)).setCell ⟨w.heap.size + 1, 2, none⟩ (.int .i64 a4)).setCell ⟨w.heap.size + 1, 3, none⟩ (.int .i64 s4)).setCell ⟨w.heap.size + 1, 4, none⟩ (.bool dead4)).setCell ⟨w.heap.size + 1, 5, none⟩ (.int .i64 x4)).setCell ⟨w.heap.size + 1, 6, none⟩ (.int .i64 y4)).setCell ⟨w.heap.size + 1, 7, none⟩ (.string text4)).setCell ⟨w.heap.size + 1, 8, none⟩ (.bool held4)).heap.size := by simp <;> omega
  replace HB : Hid (Below w.heap.size w (((((((((W4.setCell ⟨w.heap.size + 1, 0, none⟩ (.int .i64 key4)).setCell ⟨w.heap.size + 1, 1, none⟩ (.string d4)).setCell ⟨w.heap.size + 1, 2, none⟩ (.int .i64 a4)).setCell ⟨w.heap.size + 1, 3, none⟩ (.int .i64 s4)).setCell ⟨w.heap.size + 1, 4, none⟩ (.bool dead4)).setCell ⟨w.heap.size + 1, 5, none⟩ (.int .i64 x4)).setCell ⟨w.heap.size + 1, 6, none⟩ (.int .i64 y4)).setCell ⟨w.heap.size + 1, 7, none⟩ (.string text4)).setCell ⟨w.heap.size + 1, 8, none⟩ (.bool held4))) := (((((((((HB.out.setCell (by simp) _).setCell (by simp) _).setCell (by simp) _).setCell (by simp) _).setCell (by simp) _).setCell (by simp) _).setCell (by simp) _).setCell (by simp) _).setCell (by simp) _)
  generalize (((((((((W4.setCell ⟨w.heap.size + 1, 0, none⟩ (.int .i64 key4)).setCell ⟨w.heap.size + 1, 1, none⟩ (.string d4)).setCell ⟨w.heap.size + 1, 2, none⟩ (.int .i64 a4)).setCell ⟨w.heap.size + 1, 3, none⟩ (.int .i64 s4)).setCell ⟨w.heap.size + 1, 4, none⟩ (.bool dead4)).setCell ⟨w.heap.size + 1, 5, none⟩ (.int .i64 x4)).setCell ⟨w.heap.size + 1, 6, none⟩ (.int .i64 y4)).setCell ⟨w.heap.size + 1, 7, none⟩ (.string text4)).setCell ⟨w.heap.size + 1, 8, none⟩ (.bool held4)) = W6 at *
  refine hK.out _ _ ?_
  clear hK K
  try simp only [Act.put, List.setIfInBounds_toArray, List.set_cons_zero, List.set_cons_succ]
  refine rest_done (by kernel_rfl) ?_
  clear HX1 HX2
  go_upto_region 2 with fail
  refine wp_region_held_drew (S := fun w' => w'.cell? ⟨w.heap.size, 0, none⟩ = some (.int .i64 key3) ∧ w'.cell? ⟨w.heap.size, 1, none⟩ = some (.string d3) ∧ w'.cell? ⟨w.heap.size, 2, none⟩ = some (.int .i64 a3) ∧ w'.cell? ⟨w.heap.size, 3, none⟩ = some (.int .i64 s3) ∧ w'.cell? ⟨w.heap.size, 4, none⟩ = some (.bool dead3) ∧ w'.cell? ⟨w.heap.size, 5, none⟩ = some (.int .i64 x3) ∧ w'.cell? ⟨w.heap.size, 6, none⟩ = some (.int .i64 y3) ∧ w'.cell? ⟨w.heap.size, 7, none⟩ = some (.string text3) ∧ w'.cell? ⟨w.heap.size, 8, none⟩ = some (.bool held3) ∧ w'.cell? ⟨w.heap.size + 1, 0, none⟩ = some (.int .i64 key4) ∧ w'.cell? ⟨w.heap.size + 1, 1, none⟩ = some (.string d4) ∧ w'.cell? ⟨w.heap.size + 1, 2, none⟩ = some (.int .i64 a4) ∧ w'.cell? ⟨w.heap.size + 1, 3, none⟩ = some (.int .i64 s4) ∧ w'.cell? ⟨w.heap.size + 1, 4, none⟩ = some (.bool dead4) ∧ w'.cell? ⟨w.heap.size + 1, 5, none⟩ = some (.int .i64 x4) ∧ w'.cell? ⟨w.heap.size + 1, 6, none⟩ = some (.int .i64 y4) ∧ w'.cell? ⟨w.heap.size + 1, 7, none⟩ = some (.string text4) ∧ w'.cell? ⟨w.heap.size + 1, 8, none⟩ = some (.bool held4)) (by kernel_rfl) ⟨k0, k1, k2, k3, k4, k5, k6, k7, k8, m0, m1, m2, m3, m4, m5, m6, m7, m8⟩ (fun hHeld => ?_)
  refine wpAnyH_ready (rs := [0]) (by kernel_rfl) (by simp) ?_
  refine AllReadyH.cons (o := { dst := some 9, op := Go.Op.call { callee := Go.Callee.value (Go.Operand.func 11), args := #[], argTypes := #[] }, type := 4, pos := "law.go:94", after := #[], guard := none }) rfl (fun K hK => ?_) AllReadyH.nil
  go_simp
  go_at_call 11
  refine (told_any _).mono ?_
  rintro e w5 ⟨rfl, hb⟩
  replace k0 := (hb.cell (p := ⟨w.heap.size, 0, none⟩) kz).trans k0
  replace kf0 := (hb.frozen (p := ⟨w.heap.size, 0, none⟩) kz).trans kf0
  replace k1 := (hb.cell (p := ⟨w.heap.size, 1, none⟩) kz).trans k1
  replace kf1 := (hb.frozen (p := ⟨w.heap.size, 1, none⟩) kz).trans kf1
  replace k2 := (hb.cell (p := ⟨w.heap.size, 2, none⟩) kz).trans k2
  replace kf2 := (hb.frozen (p := ⟨w.heap.size, 2, none⟩) kz).trans kf2
  replace k3 := (hb.cell (p := ⟨w.heap.size, 3, none⟩) kz).trans k3
  replace kf3 := (hb.frozen (p := ⟨w.heap.size, 3, none⟩) kz).trans kf3
  replace k4 := (hb.cell (p := ⟨w.heap.size, 4, none⟩) kz).trans k4
  replace kf4 := (hb.frozen (p := ⟨w.heap.size, 4, none⟩) kz).trans kf4
  replace k5 := (hb.cell (p := ⟨w.heap.size, 5, none⟩) kz).trans k5
  replace kf5 := (hb.frozen (p := ⟨w.heap.size, 5, none⟩) kz).trans kf5
  replace k6 := (hb.cell (p := ⟨w.heap.size, 6, none⟩) kz).trans k6
  replace kf6 := (hb.frozen (p := ⟨w.heap.size, 6, none⟩) kz).trans kf6
  replace k7 := (hb.cell (p := ⟨w.heap.size, 7, none⟩) kz).trans k7
  replace kf7 := (hb.frozen (p := ⟨w.heap.size, 7, none⟩) kz).trans kf7
  replace k8 := (hb.cell (p := ⟨w.heap.size, 8, none⟩) kz).trans k8
  replace kf8 := (hb.frozen (p := ⟨w.heap.size, 8, none⟩) kz).trans kf8
  replace kz := Nat.lt_of_lt_of_le kz hb.size
  replace m0 := (hb.cell (p := ⟨w.heap.size + 1, 0, none⟩) mz).trans m0
  replace mf0 := (hb.frozen (p := ⟨w.heap.size + 1, 0, none⟩) mz).trans mf0
  replace m1 := (hb.cell (p := ⟨w.heap.size + 1, 1, none⟩) mz).trans m1
  replace mf1 := (hb.frozen (p := ⟨w.heap.size + 1, 1, none⟩) mz).trans mf1
  replace m2 := (hb.cell (p := ⟨w.heap.size + 1, 2, none⟩) mz).trans m2
  replace mf2 := (hb.frozen (p := ⟨w.heap.size + 1, 2, none⟩) mz).trans mf2
  replace m3 := (hb.cell (p := ⟨w.heap.size + 1, 3, none⟩) mz).trans m3
  replace mf3 := (hb.frozen (p := ⟨w.heap.size + 1, 3, none⟩) mz).trans mf3
  replace m4 := (hb.cell (p := ⟨w.heap.size + 1, 4, none⟩) mz).trans m4
  replace mf4 := (hb.frozen (p := ⟨w.heap.size + 1, 4, none⟩) mz).trans mf4
  replace m5 := (hb.cell (p := ⟨w.heap.size + 1, 5, none⟩) mz).trans m5
  replace mf5 := (hb.frozen (p := ⟨w.heap.size + 1, 5, none⟩) mz).trans mf5
  replace m6 := (hb.cell (p := ⟨w.heap.size + 1, 6, none⟩) mz).trans m6
  replace mf6 := (hb.frozen (p := ⟨w.heap.size + 1, 6, none⟩) mz).trans mf6
  replace m7 := (hb.cell (p := ⟨w.heap.size + 1, 7, none⟩) mz).trans m7
  replace mf7 := (hb.frozen (p := ⟨w.heap.size + 1, 7, none⟩) mz).trans mf7
  replace m8 := (hb.cell (p := ⟨w.heap.size + 1, 8, none⟩) mz).trans m8
  replace mf8 := (hb.frozen (p := ⟨w.heap.size + 1, 8, none⟩) mz).trans mf8
  replace mz := Nat.lt_of_lt_of_le mz hb.size
  replace HB := Lib.hid (below_via HB.out hb HB.out.size ⟨rfl, rfl, rfl, rfl⟩)
  clear hb
  refine hK.out _ _ ⟨k0, k1, k2, k3, k4, k5, k6, k7, k8, m0, m1, m2, m3, m4, m5, m6, m7, m8⟩ (fun hHeld => ?_)
  clear hK K
  try simp only [Act.put, List.setIfInBounds_toArray, List.set_cons_zero, List.set_cons_succ]
  refine wpAnyH_take (i := 1) (oi := { dst := some 10, op := Go.Op.move (Go.Operand.tmp 9), type := 4, pos := "law.go:94", after := #[{ on := 0, ground := Go.Ground.data }, { on := 0, ground := Go.Ground.chain }], guard := none }) (v := ?_) rfl (by kernel_rfl) (by kernel_rfl) (by kernel_rfl) (fun _ _ _ h => h) (Or.inl ⟨rfl, ?_⟩) (by assumption) ?_
  rotate_left
  · intro wz hSw; (try dsimp only at hSw); go_simp; try (with_reducible rfl)
  try simp only [Act.put, List.setIfInBounds_toArray, List.set_cons_zero, List.set_cons_succ]
  refine wpAnyH_take (i := 2) (oi := { dst := some 11, op := Go.Op.load 35 (Go.Operand.tmp 2), type := 35, pos := "law.go:94", after := #[{ on := 1, ground := Go.Ground.guard }], guard := some (1, true) }) (v := ?_) rfl (by kernel_rfl) (by kernel_rfl) (by kernel_rfl) (fun _ _ _ h => h) (Or.inl ⟨rfl, ?_⟩) (by assumption) ?_
  rotate_left
  · intro wz hSw; (try dsimp only at hSw); go_simp; try (with_reducible rfl)
  try simp only [Act.put, List.setIfInBounds_toArray, List.set_cons_zero, List.set_cons_succ]
  refine wpAnyH_take (i := 5) (oi := { dst := some 14, op := Go.Op.load 35 (Go.Operand.tmp 3), type := 35, pos := "law.go:94", after := #[{ on := 1, ground := Go.Ground.guard }], guard := some (1, true) }) (v := ?_) rfl (by kernel_rfl) (by kernel_rfl) (by kernel_rfl) (fun _ _ _ h => h) (Or.inl ⟨rfl, ?_⟩) (by assumption) ?_
  rotate_left
  · intro wz hSw; (try dsimp only at hSw); go_simp; try (with_reducible rfl)
  try simp only [Act.put, List.setIfInBounds_toArray, List.set_cons_zero, List.set_cons_succ]
  refine wpAnyH_take (i := 9) (oi := { dst := some 18, op := Go.Op.load 35 (Go.Operand.tmp 2), type := 35, pos := "law.go:94", after := #[{ on := 1, ground := Go.Ground.guard }], guard := some (1, true) }) (v := ?_) rfl (by kernel_rfl) (by kernel_rfl) (by kernel_rfl) (fun _ _ _ h => h) (Or.inl ⟨rfl, ?_⟩) (by assumption) ?_
  rotate_left
  · intro wz hSw; (try dsimp only at hSw); go_simp; try (with_reducible rfl)
  try simp only [Act.put, List.setIfInBounds_toArray, List.set_cons_zero, List.set_cons_succ]
  refine wpAnyH_take (i := 10) (oi := { dst := some 19, op := Go.Op.load 35 (Go.Operand.tmp 3), type := 35, pos := "law.go:94", after := #[{ on := 1, ground := Go.Ground.guard }], guard := some (1, true) }) (v := ?_) rfl (by kernel_rfl) (by kernel_rfl) (by kernel_rfl) (fun _ _ _ h => h) (Or.inl ⟨rfl, ?_⟩) (by assumption) ?_
  rotate_left
  · intro wz hSw; (try dsimp only at hSw); go_simp; try (with_reducible rfl)
  try simp only [Act.put, List.setIfInBounds_toArray, List.set_cons_zero, List.set_cons_succ]
  refine wpAnyH_take (i := 11) (oi := { dst := some 20, op := Go.Op.binOp Go.BinOp.eql 35 (Go.Operand.tmp 18) (Go.Operand.tmp 19) 35, type := 4, pos := "law.go:94", after := #[{ on := 9, ground := Go.Ground.data }, { on := 10, ground := Go.Ground.data }, { on := 1, ground := Go.Ground.guard }], guard := some (1, true) }) (v := ?_) rfl (by kernel_rfl) (by kernel_rfl) (by kernel_rfl) (fun _ _ _ h => h) (Or.inl ⟨rfl, ?_⟩) (by assumption) ?_
  rotate_left
  · intro wz hSw; (try dsimp only at hSw); go_simp; try (with_reducible rfl)
  try simp only [Act.put, List.setIfInBounds_toArray, List.set_cons_zero, List.set_cons_succ]
  refine wpAnyH_ready (rs := [3]) (by kernel_rfl) (by simp) ?_
  refine AllReadyH.cons (o := { dst := some 12, op := Go.Op.call { callee := Go.Callee.value (Go.Operand.func 15), args := #[Go.Operand.tmp 11], argTypes := #[35] }, type := 40, pos := "law.go:94", after := #[{ on := 2, ground := Go.Ground.data }, { on := 1, ground := Go.Ground.chain }, { on := 1, ground := Go.Ground.guard }], guard := some (1, true) }) rfl (fun K hK => ?_) AllReadyH.nil
  go_simp
  go_at_call 15
  refine (HT1.out _).mono ?_
  rintro e w5 ⟨rfl, hb⟩
  replace k0 := (hb.cell (p := ⟨w.heap.size, 0, none⟩) kz).trans k0
  replace kf0 := (hb.frozen (p := ⟨w.heap.size, 0, none⟩) kz).trans kf0
  replace k1 := (hb.cell (p := ⟨w.heap.size, 1, none⟩) kz).trans k1
  replace kf1 := (hb.frozen (p := ⟨w.heap.size, 1, none⟩) kz).trans kf1
  replace k2 := (hb.cell (p := ⟨w.heap.size, 2, none⟩) kz).trans k2
  replace kf2 := (hb.frozen (p := ⟨w.heap.size, 2, none⟩) kz).trans kf2
  replace k3 := (hb.cell (p := ⟨w.heap.size, 3, none⟩) kz).trans k3
  replace kf3 := (hb.frozen (p := ⟨w.heap.size, 3, none⟩) kz).trans kf3
  replace k4 := (hb.cell (p := ⟨w.heap.size, 4, none⟩) kz).trans k4
  replace kf4 := (hb.frozen (p := ⟨w.heap.size, 4, none⟩) kz).trans kf4
  replace k5 := (hb.cell (p := ⟨w.heap.size, 5, none⟩) kz).trans k5
  replace kf5 := (hb.frozen (p := ⟨w.heap.size, 5, none⟩) kz).trans kf5
  replace k6 := (hb.cell (p := ⟨w.heap.size, 6, none⟩) kz).trans k6
  replace kf6 := (hb.frozen (p := ⟨w.heap.size, 6, none⟩) kz).trans kf6
  replace k7 := (hb.cell (p := ⟨w.heap.size, 7, none⟩) kz).trans k7
  replace kf7 := (hb.frozen (p := ⟨w.heap.size, 7, none⟩) kz).trans kf7
  replace k8 := (hb.cell (p := ⟨w.heap.size, 8, none⟩) kz).trans k8
  replace kf8 := (hb.frozen (p := ⟨w.heap.size, 8, none⟩) kz).trans kf8
  replace kz := Nat.lt_of_lt_of_le kz hb.size
  replace m0 := (hb.cell (p := ⟨w.heap.size + 1, 0, none⟩) mz).trans m0
  replace mf0 := (hb.frozen (p := ⟨w.heap.size + 1, 0, none⟩) mz).trans mf0
  replace m1 := (hb.cell (p := ⟨w.heap.size + 1, 1, none⟩) mz).trans m1
  replace mf1 := (hb.frozen (p := ⟨w.heap.size + 1, 1, none⟩) mz).trans mf1
  replace m2 := (hb.cell (p := ⟨w.heap.size + 1, 2, none⟩) mz).trans m2
  replace mf2 := (hb.frozen (p := ⟨w.heap.size + 1, 2, none⟩) mz).trans mf2
  replace m3 := (hb.cell (p := ⟨w.heap.size + 1, 3, none⟩) mz).trans m3
  replace mf3 := (hb.frozen (p := ⟨w.heap.size + 1, 3, none⟩) mz).trans mf3
  replace m4 := (hb.cell (p := ⟨w.heap.size + 1, 4, none⟩) mz).trans m4
  replace mf4 := (hb.frozen (p := ⟨w.heap.size + 1, 4, none⟩) mz).trans mf4
  replace m5 := (hb.cell (p := ⟨w.heap.size + 1, 5, none⟩) mz).trans m5
  replace mf5 := (hb.frozen (p := ⟨w.heap.size + 1, 5, none⟩) mz).trans mf5
  replace m6 := (hb.cell (p := ⟨w.heap.size + 1, 6, none⟩) mz).trans m6
  replace mf6 := (hb.frozen (p := ⟨w.heap.size + 1, 6, none⟩) mz).trans mf6
  replace m7 := (hb.cell (p := ⟨w.heap.size + 1, 7, none⟩) mz).trans m7
  replace mf7 := (hb.frozen (p := ⟨w.heap.size + 1, 7, none⟩) mz).trans mf7
  replace m8 := (hb.cell (p := ⟨w.heap.size + 1, 8, none⟩) mz).trans m8
  replace mf8 := (hb.frozen (p := ⟨w.heap.size + 1, 8, none⟩) mz).trans mf8
  replace mz := Nat.lt_of_lt_of_le mz hb.size
  replace HB := Lib.hid (below_via HB.out hb HB.out.size ⟨rfl, rfl, rfl, rfl⟩)
  clear hb
  refine hK.out _ _ ⟨k0, k1, k2, k3, k4, k5, k6, k7, k8, m0, m1, m2, m3, m4, m5, m6, m7, m8⟩ (fun hHeld => ?_)
  clear hK K
  try simp only [Act.put, List.setIfInBounds_toArray, List.set_cons_zero, List.set_cons_succ]
  refine wpAnyH_ready (rs := [4]) (by kernel_rfl) (by simp) ?_
  refine AllReadyH.cons (o := { dst := some 13, op := Go.Op.call { callee := Go.Callee.value (Go.Operand.func 21), args := #[Go.Operand.const (Go.Value.slice none 0 0), Go.Operand.tmp 12], argTypes := #[47, 40] }, type := 47, pos := "law.go:94", after := #[{ on := 3, ground := Go.Ground.data }, { on := 3, ground := Go.Ground.chain }, { on := 1, ground := Go.Ground.guard }], guard := some (1, true) }) rfl (fun K hK => ?_) AllReadyH.nil
  go_simp
  go_at_call 21
  refine (HP1.out _).mono ?_
  rintro e w5 ⟨A1, c1, rfl, ho, hb⟩
  replace k0 := (hb.cell (p := ⟨w.heap.size, 0, none⟩) kz).trans k0
  replace kf0 := (hb.frozen (p := ⟨w.heap.size, 0, none⟩) kz).trans kf0
  replace k1 := (hb.cell (p := ⟨w.heap.size, 1, none⟩) kz).trans k1
  replace kf1 := (hb.frozen (p := ⟨w.heap.size, 1, none⟩) kz).trans kf1
  replace k2 := (hb.cell (p := ⟨w.heap.size, 2, none⟩) kz).trans k2
  replace kf2 := (hb.frozen (p := ⟨w.heap.size, 2, none⟩) kz).trans kf2
  replace k3 := (hb.cell (p := ⟨w.heap.size, 3, none⟩) kz).trans k3
  replace kf3 := (hb.frozen (p := ⟨w.heap.size, 3, none⟩) kz).trans kf3
  replace k4 := (hb.cell (p := ⟨w.heap.size, 4, none⟩) kz).trans k4
  replace kf4 := (hb.frozen (p := ⟨w.heap.size, 4, none⟩) kz).trans kf4
  replace k5 := (hb.cell (p := ⟨w.heap.size, 5, none⟩) kz).trans k5
  replace kf5 := (hb.frozen (p := ⟨w.heap.size, 5, none⟩) kz).trans kf5
  replace k6 := (hb.cell (p := ⟨w.heap.size, 6, none⟩) kz).trans k6
  replace kf6 := (hb.frozen (p := ⟨w.heap.size, 6, none⟩) kz).trans kf6
  replace k7 := (hb.cell (p := ⟨w.heap.size, 7, none⟩) kz).trans k7
  replace kf7 := (hb.frozen (p := ⟨w.heap.size, 7, none⟩) kz).trans kf7
  replace k8 := (hb.cell (p := ⟨w.heap.size, 8, none⟩) kz).trans k8
  replace kf8 := (hb.frozen (p := ⟨w.heap.size, 8, none⟩) kz).trans kf8
  replace kz := Nat.lt_of_lt_of_le kz hb.size
  replace m0 := (hb.cell (p := ⟨w.heap.size + 1, 0, none⟩) mz).trans m0
  replace mf0 := (hb.frozen (p := ⟨w.heap.size + 1, 0, none⟩) mz).trans mf0
  replace m1 := (hb.cell (p := ⟨w.heap.size + 1, 1, none⟩) mz).trans m1
  replace mf1 := (hb.frozen (p := ⟨w.heap.size + 1, 1, none⟩) mz).trans mf1
  replace m2 := (hb.cell (p := ⟨w.heap.size + 1, 2, none⟩) mz).trans m2
  replace mf2 := (hb.frozen (p := ⟨w.heap.size + 1, 2, none⟩) mz).trans mf2
  replace m3 := (hb.cell (p := ⟨w.heap.size + 1, 3, none⟩) mz).trans m3
  replace mf3 := (hb.frozen (p := ⟨w.heap.size + 1, 3, none⟩) mz).trans mf3
  replace m4 := (hb.cell (p := ⟨w.heap.size + 1, 4, none⟩) mz).trans m4
  replace mf4 := (hb.frozen (p := ⟨w.heap.size + 1, 4, none⟩) mz).trans mf4
  replace m5 := (hb.cell (p := ⟨w.heap.size + 1, 5, none⟩) mz).trans m5
  replace mf5 := (hb.frozen (p := ⟨w.heap.size + 1, 5, none⟩) mz).trans mf5
  replace m6 := (hb.cell (p := ⟨w.heap.size + 1, 6, none⟩) mz).trans m6
  replace mf6 := (hb.frozen (p := ⟨w.heap.size + 1, 6, none⟩) mz).trans mf6
  replace m7 := (hb.cell (p := ⟨w.heap.size + 1, 7, none⟩) mz).trans m7
  replace mf7 := (hb.frozen (p := ⟨w.heap.size + 1, 7, none⟩) mz).trans mf7
  replace m8 := (hb.cell (p := ⟨w.heap.size + 1, 8, none⟩) mz).trans m8
  replace mf8 := (hb.frozen (p := ⟨w.heap.size + 1, 8, none⟩) mz).trans mf8
  replace mz := Nat.lt_of_lt_of_le mz hb.size
  obtain ⟨g1, hz, _, _, _⟩ := own_bytes ho
  have HZ1 := Lib.hid hz
  clear ho hz
  replace HB := Lib.hid (below_via HB.out hb HB.out.size ⟨rfl, rfl, rfl, rfl⟩)
  clear hb
  refine hK.out _ _ ⟨k0, k1, k2, k3, k4, k5, k6, k7, k8, m0, m1, m2, m3, m4, m5, m6, m7, m8⟩ (fun hHeld => ?_)
  clear hK K
  try simp only [Act.put, List.setIfInBounds_toArray, List.set_cons_zero, List.set_cons_succ]
  refine wpAnyH_ready (rs := [6]) (by kernel_rfl) (by simp) ?_
  refine AllReadyH.cons (o := { dst := some 15, op := Go.Op.call { callee := Go.Callee.value (Go.Operand.func 15), args := #[Go.Operand.tmp 14], argTypes := #[35] }, type := 40, pos := "law.go:94", after := #[{ on := 5, ground := Go.Ground.data }, { on := 4, ground := Go.Ground.chain }, { on := 1, ground := Go.Ground.guard }], guard := some (1, true) }) rfl (fun K hK => ?_) AllReadyH.nil
  go_simp
  go_at_call 15
  refine (HT2.out _).mono ?_
  rintro e w5 ⟨rfl, hb⟩
  replace k0 := (hb.cell (p := ⟨w.heap.size, 0, none⟩) kz).trans k0
  replace kf0 := (hb.frozen (p := ⟨w.heap.size, 0, none⟩) kz).trans kf0
  replace k1 := (hb.cell (p := ⟨w.heap.size, 1, none⟩) kz).trans k1
  replace kf1 := (hb.frozen (p := ⟨w.heap.size, 1, none⟩) kz).trans kf1
  replace k2 := (hb.cell (p := ⟨w.heap.size, 2, none⟩) kz).trans k2
  replace kf2 := (hb.frozen (p := ⟨w.heap.size, 2, none⟩) kz).trans kf2
  replace k3 := (hb.cell (p := ⟨w.heap.size, 3, none⟩) kz).trans k3
  replace kf3 := (hb.frozen (p := ⟨w.heap.size, 3, none⟩) kz).trans kf3
  replace k4 := (hb.cell (p := ⟨w.heap.size, 4, none⟩) kz).trans k4
  replace kf4 := (hb.frozen (p := ⟨w.heap.size, 4, none⟩) kz).trans kf4
  replace k5 := (hb.cell (p := ⟨w.heap.size, 5, none⟩) kz).trans k5
  replace kf5 := (hb.frozen (p := ⟨w.heap.size, 5, none⟩) kz).trans kf5
  replace k6 := (hb.cell (p := ⟨w.heap.size, 6, none⟩) kz).trans k6
  replace kf6 := (hb.frozen (p := ⟨w.heap.size, 6, none⟩) kz).trans kf6
  replace k7 := (hb.cell (p := ⟨w.heap.size, 7, none⟩) kz).trans k7
  replace kf7 := (hb.frozen (p := ⟨w.heap.size, 7, none⟩) kz).trans kf7
  replace k8 := (hb.cell (p := ⟨w.heap.size, 8, none⟩) kz).trans k8
  replace kf8 := (hb.frozen (p := ⟨w.heap.size, 8, none⟩) kz).trans kf8
  replace kz := Nat.lt_of_lt_of_le kz hb.size
  replace m0 := (hb.cell (p := ⟨w.heap.size + 1, 0, none⟩) mz).trans m0
  replace mf0 := (hb.frozen (p := ⟨w.heap.size + 1, 0, none⟩) mz).trans mf0
  replace m1 := (hb.cell (p := ⟨w.heap.size + 1, 1, none⟩) mz).trans m1
  replace mf1 := (hb.frozen (p := ⟨w.heap.size + 1, 1, none⟩) mz).trans mf1
  replace m2 := (hb.cell (p := ⟨w.heap.size + 1, 2, none⟩) mz).trans m2
  replace mf2 := (hb.frozen (p := ⟨w.heap.size + 1, 2, none⟩) mz).trans mf2
  replace m3 := (hb.cell (p := ⟨w.heap.size + 1, 3, none⟩) mz).trans m3
  replace mf3 := (hb.frozen (p := ⟨w.heap.size + 1, 3, none⟩) mz).trans mf3
  replace m4 := (hb.cell (p := ⟨w.heap.size + 1, 4, none⟩) mz).trans m4
  replace mf4 := (hb.frozen (p := ⟨w.heap.size + 1, 4, none⟩) mz).trans mf4
  replace m5 := (hb.cell (p := ⟨w.heap.size + 1, 5, none⟩) mz).trans m5
  replace mf5 := (hb.frozen (p := ⟨w.heap.size + 1, 5, none⟩) mz).trans mf5
  replace m6 := (hb.cell (p := ⟨w.heap.size + 1, 6, none⟩) mz).trans m6
  replace mf6 := (hb.frozen (p := ⟨w.heap.size + 1, 6, none⟩) mz).trans mf6
  replace m7 := (hb.cell (p := ⟨w.heap.size + 1, 7, none⟩) mz).trans m7
  replace mf7 := (hb.frozen (p := ⟨w.heap.size + 1, 7, none⟩) mz).trans mf7
  replace m8 := (hb.cell (p := ⟨w.heap.size + 1, 8, none⟩) mz).trans m8
  replace mf8 := (hb.frozen (p := ⟨w.heap.size + 1, 8, none⟩) mz).trans mf8
  replace mz := Nat.lt_of_lt_of_le mz hb.size
  replace HZ1 := Lib.hid (HZ1.out.keep (by exact hb))
  replace HB := Lib.hid (below_via HB.out hb HB.out.size ⟨rfl, rfl, rfl, rfl⟩)
  clear hb
  refine hK.out _ _ ⟨k0, k1, k2, k3, k4, k5, k6, k7, k8, m0, m1, m2, m3, m4, m5, m6, m7, m8⟩ (fun hHeld => ?_)
  clear hK K
  try simp only [Act.put, List.setIfInBounds_toArray, List.set_cons_zero, List.set_cons_succ]
  refine wpAnyH_ready (rs := [7]) (by kernel_rfl) (by simp) ?_
  refine AllReadyH.cons (o := { dst := some 16, op := Go.Op.call { callee := Go.Callee.value (Go.Operand.func 21), args := #[Go.Operand.const (Go.Value.slice none 0 0), Go.Operand.tmp 15], argTypes := #[47, 40] }, type := 47, pos := "law.go:94", after := #[{ on := 6, ground := Go.Ground.data }, { on := 6, ground := Go.Ground.chain }, { on := 1, ground := Go.Ground.guard }], guard := some (1, true) }) rfl (fun K hK => ?_) AllReadyH.nil
  go_simp
  go_at_call 21
  refine (HP2.out _).mono ?_
  rintro e w5 ⟨A2, c2, rfl, ho, hb⟩
  replace k0 := (hb.cell (p := ⟨w.heap.size, 0, none⟩) kz).trans k0
  replace kf0 := (hb.frozen (p := ⟨w.heap.size, 0, none⟩) kz).trans kf0
  replace k1 := (hb.cell (p := ⟨w.heap.size, 1, none⟩) kz).trans k1
  replace kf1 := (hb.frozen (p := ⟨w.heap.size, 1, none⟩) kz).trans kf1
  replace k2 := (hb.cell (p := ⟨w.heap.size, 2, none⟩) kz).trans k2
  replace kf2 := (hb.frozen (p := ⟨w.heap.size, 2, none⟩) kz).trans kf2
  replace k3 := (hb.cell (p := ⟨w.heap.size, 3, none⟩) kz).trans k3
  replace kf3 := (hb.frozen (p := ⟨w.heap.size, 3, none⟩) kz).trans kf3
  replace k4 := (hb.cell (p := ⟨w.heap.size, 4, none⟩) kz).trans k4
  replace kf4 := (hb.frozen (p := ⟨w.heap.size, 4, none⟩) kz).trans kf4
  replace k5 := (hb.cell (p := ⟨w.heap.size, 5, none⟩) kz).trans k5
  replace kf5 := (hb.frozen (p := ⟨w.heap.size, 5, none⟩) kz).trans kf5
  replace k6 := (hb.cell (p := ⟨w.heap.size, 6, none⟩) kz).trans k6
  replace kf6 := (hb.frozen (p := ⟨w.heap.size, 6, none⟩) kz).trans kf6
  replace k7 := (hb.cell (p := ⟨w.heap.size, 7, none⟩) kz).trans k7
  replace kf7 := (hb.frozen (p := ⟨w.heap.size, 7, none⟩) kz).trans kf7
  replace k8 := (hb.cell (p := ⟨w.heap.size, 8, none⟩) kz).trans k8
  replace kf8 := (hb.frozen (p := ⟨w.heap.size, 8, none⟩) kz).trans kf8
  replace kz := Nat.lt_of_lt_of_le kz hb.size
  replace m0 := (hb.cell (p := ⟨w.heap.size + 1, 0, none⟩) mz).trans m0
  replace mf0 := (hb.frozen (p := ⟨w.heap.size + 1, 0, none⟩) mz).trans mf0
  replace m1 := (hb.cell (p := ⟨w.heap.size + 1, 1, none⟩) mz).trans m1
  replace mf1 := (hb.frozen (p := ⟨w.heap.size + 1, 1, none⟩) mz).trans mf1
  replace m2 := (hb.cell (p := ⟨w.heap.size + 1, 2, none⟩) mz).trans m2
  replace mf2 := (hb.frozen (p := ⟨w.heap.size + 1, 2, none⟩) mz).trans mf2
  replace m3 := (hb.cell (p := ⟨w.heap.size + 1, 3, none⟩) mz).trans m3
  replace mf3 := (hb.frozen (p := ⟨w.heap.size + 1, 3, none⟩) mz).trans mf3
  replace m4 := (hb.cell (p := ⟨w.heap.size + 1, 4, none⟩) mz).trans m4
  replace mf4 := (hb.frozen (p := ⟨w.heap.size + 1, 4, none⟩) mz).trans mf4
  replace m5 := (hb.cell (p := ⟨w.heap.size + 1, 5, none⟩) mz).trans m5
  replace mf5 := (hb.frozen (p := ⟨w.heap.size + 1, 5, none⟩) mz).trans mf5
  replace m6 := (hb.cell (p := ⟨w.heap.size + 1, 6, none⟩) mz).trans m6
  replace mf6 := (hb.frozen (p := ⟨w.heap.size + 1, 6, none⟩) mz).trans mf6
  replace m7 := (hb.cell (p := ⟨w.heap.size + 1, 7, none⟩) mz).trans m7
  replace mf7 := (hb.frozen (p := ⟨w.heap.size + 1, 7, none⟩) mz).trans mf7
  replace m8 := (hb.cell (p := ⟨w.heap.size + 1, 8, none⟩) mz).trans m8
  replace mf8 := (hb.frozen (p := ⟨w.heap.size + 1, 8, none⟩) mz).trans mf8
  replace mz := Nat.lt_of_lt_of_le mz hb.size
  replace HZ1 := Lib.hid (HZ1.out.keep (by exact hb))
  obtain ⟨g2, hz, _, _, _⟩ := own_bytes ho
  have HZ2 := Lib.hid hz
  clear ho hz
  replace HB := Lib.hid (below_via HB.out hb HB.out.size ⟨rfl, rfl, rfl, rfl⟩)
  clear hb
  refine hK.out _ _ ⟨k0, k1, k2, k3, k4, k5, k6, k7, k8, m0, m1, m2, m3, m4, m5, m6, m7, m8⟩ (fun hHeld => ?_)
  clear hK K
  try simp only [Act.put, List.setIfInBounds_toArray, List.set_cons_zero, List.set_cons_succ]
  refine wpAnyH_ready (rs := [8]) (by kernel_rfl) (by simp) ?_
  refine AllReadyH.cons (o := { dst := some 17, op := Go.Op.call { callee := Go.Callee.value (Go.Operand.func 20), args := #[Go.Operand.tmp 13, Go.Operand.tmp 16], argTypes := #[47, 47] }, type := 4, pos := "law.go:94", after := #[{ on := 4, ground := Go.Ground.data }, { on := 7, ground := Go.Ground.data }, { on := 7, ground := Go.Ground.chain }, { on := 1, ground := Go.Ground.guard }], guard := some (1, true) }) rfl (fun K hK => ?_) AllReadyH.nil
  go_simp
  go_at_call 20
  refine (same_any _ _ _ _ _ _ g1 g2 P1 P2 _ HZ1.out HZ2.out).mono ?_
  rw [HQ.out]
  rintro e w9 ⟨rfl, rfl⟩
  clear HZ1 HZ2 HQ
  refine hK.out _ _ ⟨k0, k1, k2, k3, k4, k5, k6, k7, k8, m0, m1, m2, m3, m4, m5, m6, m7, m8⟩ (fun hHeld => ?_)
  clear hK K
  try simp only [Act.put, List.setIfInBounds_toArray, List.set_cons_zero, List.set_cons_succ]
  refine wpAnyH_take (i := 12) (oi := { dst := some 21, op := Go.Op.binOp Go.BinOp.eql 4 (Go.Operand.tmp 17) (Go.Operand.tmp 20) 4, type := 4, pos := "law.go:94", after := #[{ on := 8, ground := Go.Ground.data }, { on := 11, ground := Go.Ground.data }, { on := 1, ground := Go.Ground.guard }], guard := some (1, true) }) (v := ?_) rfl (by kernel_rfl) (by kernel_rfl) (by kernel_rfl) (fun _ _ _ h => h) (Or.inl ⟨rfl, ?_⟩) (by assumption) ?_
  rotate_left
  · intro wz hSw; (try dsimp only at hSw); go_simp; try (with_reducible rfl)
  try simp only [Act.put, List.setIfInBounds_toArray, List.set_cons_zero, List.set_cons_succ]
  refine wpAnyH_take (i := 13) (oi := { dst := some 22, op := Go.Op.pick (Go.Operand.tmp 10) (Go.Operand.tmp 21) (Go.Operand.const (Go.Value.bool false)), type := 4, pos := "law.go:94", after := #[{ on := 1, ground := Go.Ground.data }, { on := 12, ground := Go.Ground.data }], guard := none }) (v := ?_) rfl (by kernel_rfl) (by kernel_rfl) (by kernel_rfl) (fun _ _ _ h => h) (Or.inl ⟨rfl, ?_⟩) (by assumption) ?_
  rotate_left
  · intro wz hSw; (try dsimp only at hSw); go_simp; try (with_reducible rfl)
  try simp only [Act.put, List.setIfInBounds_toArray, List.set_cons_zero, List.set_cons_succ]
  refine wpAnyH_take (i := 14) (oi := { dst := some 23, op := Go.Op.move (Go.Operand.tmp 22), type := 4, pos := "law.go:94", after := #[{ on := 13, ground := Go.Ground.data }, { on := 8, ground := Go.Ground.chain }], guard := none }) (v := ?_) rfl (by kernel_rfl) (by kernel_rfl) (by kernel_rfl) (fun _ _ _ h => h) (Or.inl ⟨rfl, ?_⟩) (by assumption) ?_
  rotate_left
  · intro wz hSw; (try dsimp only at hSw); go_simp; try (with_reducible rfl)
  try simp only [Act.put, List.setIfInBounds_toArray, List.set_cons_zero, List.set_cons_succ]
  refine wpAnyH_take (i := 15) (oi := { dst := some 24, op := Go.Op.load 35 (Go.Operand.tmp 2), type := 35, pos := "law.go:94", after := #[{ on := 14, ground := Go.Ground.guard }], guard := some (14, true) }) (v := ?_) rfl (by kernel_rfl) (by kernel_rfl) (by kernel_rfl) (fun _ _ _ h => h) (Or.inl ⟨rfl, ?_⟩) (by assumption) ?_
  rotate_left
  · intro wz hSw; (try dsimp only at hSw); go_simp; try (with_reducible rfl)
  try simp only [Act.put, List.setIfInBounds_toArray, List.set_cons_zero, List.set_cons_succ]
  refine wpAnyH_take (i := 17) (oi := { dst := some 26, op := Go.Op.load 35 (Go.Operand.tmp 3), type := 35, pos := "law.go:94", after := #[{ on := 14, ground := Go.Ground.guard }], guard := some (14, true) }) (v := ?_) rfl (by kernel_rfl) (by kernel_rfl) (by kernel_rfl) (fun _ _ _ h => h) (Or.inl ⟨rfl, ?_⟩) (by assumption) ?_
  rotate_left
  · intro wz hSw; (try dsimp only at hSw); go_simp; try (with_reducible rfl)
  try simp only [Act.put, List.setIfInBounds_toArray, List.set_cons_zero, List.set_cons_succ]
  refine wpAnyH_take (i := 20) (oi := { dst := some 29, op := Go.Op.load 35 (Go.Operand.tmp 2), type := 35, pos := "law.go:94", after := #[{ on := 14, ground := Go.Ground.guard }], guard := some (14, true) }) (v := ?_) rfl (by kernel_rfl) (by kernel_rfl) (by kernel_rfl) (fun _ _ _ h => h) (Or.inl ⟨rfl, ?_⟩) (by assumption) ?_
  rotate_left
  · intro wz hSw; (try dsimp only at hSw); go_simp; try (with_reducible rfl)
  try simp only [Act.put, List.setIfInBounds_toArray, List.set_cons_zero, List.set_cons_succ]
  refine wpAnyH_take (i := 21) (oi := { dst := some 30, op := Go.Op.load 35 (Go.Operand.tmp 3), type := 35, pos := "law.go:94", after := #[{ on := 14, ground := Go.Ground.guard }], guard := some (14, true) }) (v := ?_) rfl (by kernel_rfl) (by kernel_rfl) (by kernel_rfl) (fun _ _ _ h => h) (Or.inl ⟨rfl, ?_⟩) (by assumption) ?_
  rotate_left
  · intro wz hSw; (try dsimp only at hSw); go_simp; try (with_reducible rfl)
  try simp only [Act.put, List.setIfInBounds_toArray, List.set_cons_zero, List.set_cons_succ]
  refine wpAnyH_take (i := 22) (oi := { dst := some 31, op := Go.Op.binOp Go.BinOp.eql 35 (Go.Operand.tmp 29) (Go.Operand.tmp 30) 35, type := 4, pos := "law.go:94", after := #[{ on := 20, ground := Go.Ground.data }, { on := 21, ground := Go.Ground.data }, { on := 14, ground := Go.Ground.guard }], guard := some (14, true) }) (v := ?_) rfl (by kernel_rfl) (by kernel_rfl) (by kernel_rfl) (fun _ _ _ h => h) (Or.inl ⟨rfl, ?_⟩) (by assumption) ?_
  rotate_left
  · intro wz hSw; (try dsimp only at hSw); go_simp; try (with_reducible rfl)
  try simp only [Act.put, List.setIfInBounds_toArray, List.set_cons_zero, List.set_cons_succ]
  refine wpAnyH_ready (rs := [16]) (by kernel_rfl) (by simp) ?_
  refine AllReadyH.cons (o := { dst := some 25, op := Go.Op.call { callee := Go.Callee.value (Go.Operand.func 15), args := #[Go.Operand.tmp 24], argTypes := #[35] }, type := 40, pos := "law.go:94", after := #[{ on := 15, ground := Go.Ground.data }, { on := 14, ground := Go.Ground.chain }, { on := 14, ground := Go.Ground.guard }], guard := some (14, true) }) rfl (fun K hK => ?_) AllReadyH.nil
  go_simp
  go_at_call 15
  refine (HT1.out _).mono ?_
  rintro e w5 ⟨rfl, hb⟩
  replace k0 := (hb.cell (p := ⟨w.heap.size, 0, none⟩) kz).trans k0
  replace kf0 := (hb.frozen (p := ⟨w.heap.size, 0, none⟩) kz).trans kf0
  replace k1 := (hb.cell (p := ⟨w.heap.size, 1, none⟩) kz).trans k1
  replace kf1 := (hb.frozen (p := ⟨w.heap.size, 1, none⟩) kz).trans kf1
  replace k2 := (hb.cell (p := ⟨w.heap.size, 2, none⟩) kz).trans k2
  replace kf2 := (hb.frozen (p := ⟨w.heap.size, 2, none⟩) kz).trans kf2
  replace k3 := (hb.cell (p := ⟨w.heap.size, 3, none⟩) kz).trans k3
  replace kf3 := (hb.frozen (p := ⟨w.heap.size, 3, none⟩) kz).trans kf3
  replace k4 := (hb.cell (p := ⟨w.heap.size, 4, none⟩) kz).trans k4
  replace kf4 := (hb.frozen (p := ⟨w.heap.size, 4, none⟩) kz).trans kf4
  replace k5 := (hb.cell (p := ⟨w.heap.size, 5, none⟩) kz).trans k5
  replace kf5 := (hb.frozen (p := ⟨w.heap.size, 5, none⟩) kz).trans kf5
  replace k6 := (hb.cell (p := ⟨w.heap.size, 6, none⟩) kz).trans k6
  replace kf6 := (hb.frozen (p := ⟨w.heap.size, 6, none⟩) kz).trans kf6
  replace k7 := (hb.cell (p := ⟨w.heap.size, 7, none⟩) kz).trans k7
  replace kf7 := (hb.frozen (p := ⟨w.heap.size, 7, none⟩) kz).trans kf7
  replace k8 := (hb.cell (p := ⟨w.heap.size, 8, none⟩) kz).trans k8
  replace kf8 := (hb.frozen (p := ⟨w.heap.size, 8, none⟩) kz).trans kf8
  replace kz := Nat.lt_of_lt_of_le kz hb.size
  replace m0 := (hb.cell (p := ⟨w.heap.size + 1, 0, none⟩) mz).trans m0
  replace mf0 := (hb.frozen (p := ⟨w.heap.size + 1, 0, none⟩) mz).trans mf0
  replace m1 := (hb.cell (p := ⟨w.heap.size + 1, 1, none⟩) mz).trans m1
  replace mf1 := (hb.frozen (p := ⟨w.heap.size + 1, 1, none⟩) mz).trans mf1
  replace m2 := (hb.cell (p := ⟨w.heap.size + 1, 2, none⟩) mz).trans m2
  replace mf2 := (hb.frozen (p := ⟨w.heap.size + 1, 2, none⟩) mz).trans mf2
  replace m3 := (hb.cell (p := ⟨w.heap.size + 1, 3, none⟩) mz).trans m3
  replace mf3 := (hb.frozen (p := ⟨w.heap.size + 1, 3, none⟩) mz).trans mf3
  replace m4 := (hb.cell (p := ⟨w.heap.size + 1, 4, none⟩) mz).trans m4
  replace mf4 := (hb.frozen (p := ⟨w.heap.size + 1, 4, none⟩) mz).trans mf4
  replace m5 := (hb.cell (p := ⟨w.heap.size + 1, 5, none⟩) mz).trans m5
  replace mf5 := (hb.frozen (p := ⟨w.heap.size + 1, 5, none⟩) mz).trans mf5
  replace m6 := (hb.cell (p := ⟨w.heap.size + 1, 6, none⟩) mz).trans m6
  replace mf6 := (hb.frozen (p := ⟨w.heap.size + 1, 6, none⟩) mz).trans mf6
  replace m7 := (hb.cell (p := ⟨w.heap.size + 1, 7, none⟩) mz).trans m7
  replace mf7 := (hb.frozen (p := ⟨w.heap.size + 1, 7, none⟩) mz).trans mf7
  replace m8 := (hb.cell (p := ⟨w.heap.size + 1, 8, none⟩) mz).trans m8
  replace mf8 := (hb.frozen (p := ⟨w.heap.size + 1, 8, none⟩) mz).trans mf8
  replace mz := Nat.lt_of_lt_of_le mz hb.size
  replace HB := Lib.hid (below_via HB.out hb HB.out.size ⟨rfl, rfl, rfl, rfl⟩)
  clear hb
  refine hK.out _ _ ⟨k0, k1, k2, k3, k4, k5, k6, k7, k8, m0, m1, m2, m3, m4, m5, m6, m7, m8⟩ (fun hHeld => ?_)
  clear hK K
  try simp only [Act.put, List.setIfInBounds_toArray, List.set_cons_zero, List.set_cons_succ]
  refine wpAnyH_ready (rs := [18]) (by kernel_rfl) (by simp) ?_
  refine AllReadyH.cons (o := { dst := some 27, op := Go.Op.call { callee := Go.Callee.value (Go.Operand.func 15), args := #[Go.Operand.tmp 26], argTypes := #[35] }, type := 40, pos := "law.go:94", after := #[{ on := 17, ground := Go.Ground.data }, { on := 16, ground := Go.Ground.chain }, { on := 14, ground := Go.Ground.guard }], guard := some (14, true) }) rfl (fun K hK => ?_) AllReadyH.nil
  go_simp
  go_at_call 15
  refine (HT2.out _).mono ?_
  rintro e w5 ⟨rfl, hb⟩
  replace k0 := (hb.cell (p := ⟨w.heap.size, 0, none⟩) kz).trans k0
  replace kf0 := (hb.frozen (p := ⟨w.heap.size, 0, none⟩) kz).trans kf0
  replace k1 := (hb.cell (p := ⟨w.heap.size, 1, none⟩) kz).trans k1
  replace kf1 := (hb.frozen (p := ⟨w.heap.size, 1, none⟩) kz).trans kf1
  replace k2 := (hb.cell (p := ⟨w.heap.size, 2, none⟩) kz).trans k2
  replace kf2 := (hb.frozen (p := ⟨w.heap.size, 2, none⟩) kz).trans kf2
  replace k3 := (hb.cell (p := ⟨w.heap.size, 3, none⟩) kz).trans k3
  replace kf3 := (hb.frozen (p := ⟨w.heap.size, 3, none⟩) kz).trans kf3
  replace k4 := (hb.cell (p := ⟨w.heap.size, 4, none⟩) kz).trans k4
  replace kf4 := (hb.frozen (p := ⟨w.heap.size, 4, none⟩) kz).trans kf4
  replace k5 := (hb.cell (p := ⟨w.heap.size, 5, none⟩) kz).trans k5
  replace kf5 := (hb.frozen (p := ⟨w.heap.size, 5, none⟩) kz).trans kf5
  replace k6 := (hb.cell (p := ⟨w.heap.size, 6, none⟩) kz).trans k6
  replace kf6 := (hb.frozen (p := ⟨w.heap.size, 6, none⟩) kz).trans kf6
  replace k7 := (hb.cell (p := ⟨w.heap.size, 7, none⟩) kz).trans k7
  replace kf7 := (hb.frozen (p := ⟨w.heap.size, 7, none⟩) kz).trans kf7
  replace k8 := (hb.cell (p := ⟨w.heap.size, 8, none⟩) kz).trans k8
  replace kf8 := (hb.frozen (p := ⟨w.heap.size, 8, none⟩) kz).trans kf8
  replace kz := Nat.lt_of_lt_of_le kz hb.size
  replace m0 := (hb.cell (p := ⟨w.heap.size + 1, 0, none⟩) mz).trans m0
  replace mf0 := (hb.frozen (p := ⟨w.heap.size + 1, 0, none⟩) mz).trans mf0
  replace m1 := (hb.cell (p := ⟨w.heap.size + 1, 1, none⟩) mz).trans m1
  replace mf1 := (hb.frozen (p := ⟨w.heap.size + 1, 1, none⟩) mz).trans mf1
  replace m2 := (hb.cell (p := ⟨w.heap.size + 1, 2, none⟩) mz).trans m2
  replace mf2 := (hb.frozen (p := ⟨w.heap.size + 1, 2, none⟩) mz).trans mf2
  replace m3 := (hb.cell (p := ⟨w.heap.size + 1, 3, none⟩) mz).trans m3
  replace mf3 := (hb.frozen (p := ⟨w.heap.size + 1, 3, none⟩) mz).trans mf3
  replace m4 := (hb.cell (p := ⟨w.heap.size + 1, 4, none⟩) mz).trans m4
  replace mf4 := (hb.frozen (p := ⟨w.heap.size + 1, 4, none⟩) mz).trans mf4
  replace m5 := (hb.cell (p := ⟨w.heap.size + 1, 5, none⟩) mz).trans m5
  replace mf5 := (hb.frozen (p := ⟨w.heap.size + 1, 5, none⟩) mz).trans mf5
  replace m6 := (hb.cell (p := ⟨w.heap.size + 1, 6, none⟩) mz).trans m6
  replace mf6 := (hb.frozen (p := ⟨w.heap.size + 1, 6, none⟩) mz).trans mf6
  replace m7 := (hb.cell (p := ⟨w.heap.size + 1, 7, none⟩) mz).trans m7
  replace mf7 := (hb.frozen (p := ⟨w.heap.size + 1, 7, none⟩) mz).trans mf7
  replace m8 := (hb.cell (p := ⟨w.heap.size + 1, 8, none⟩) mz).trans m8
  replace mf8 := (hb.frozen (p := ⟨w.heap.size + 1, 8, none⟩) mz).trans mf8
  replace mz := Nat.lt_of_lt_of_le mz hb.size
  replace HB := Lib.hid (below_via HB.out hb HB.out.size ⟨rfl, rfl, rfl, rfl⟩)
  clear hb
  refine hK.out _ _ ⟨k0, k1, k2, k3, k4, k5, k6, k7, k8, m0, m1, m2, m3, m4, m5, m6, m7, m8⟩ (fun hHeld => ?_)
  clear hK K
  try simp only [Act.put, List.setIfInBounds_toArray, List.set_cons_zero, List.set_cons_succ]
  refine wpAnyH_take (i := 19) (oi := { dst := some 28, op := Go.Op.binOp Go.BinOp.eql 40 (Go.Operand.tmp 25) (Go.Operand.tmp 27) 40, type := 4, pos := "law.go:94", after := #[{ on := 16, ground := Go.Ground.data }, { on := 18, ground := Go.Ground.data }, { on := 14, ground := Go.Ground.guard }], guard := some (14, true) }) (v := ?_) rfl (by kernel_rfl) (by kernel_rfl) (by kernel_rfl) (fun _ _ _ h => h) (Or.inl ⟨rfl, ?_⟩) (by assumption) ?_
  rotate_left
  · intro wz hSw; (try dsimp only at hSw); go_simp; try (with_reducible rfl)
  try simp only [Act.put, List.setIfInBounds_toArray, List.set_cons_zero, List.set_cons_succ]
  refine wpAnyH_take (i := 23) (oi := { dst := some 32, op := Go.Op.binOp Go.BinOp.eql 4 (Go.Operand.tmp 28) (Go.Operand.tmp 31) 4, type := 4, pos := "law.go:94", after := #[{ on := 19, ground := Go.Ground.data }, { on := 22, ground := Go.Ground.data }, { on := 14, ground := Go.Ground.guard }], guard := some (14, true) }) (v := ?_) rfl (by kernel_rfl) (by kernel_rfl) (by kernel_rfl) (fun _ _ _ h => h) (Or.inl ⟨rfl, ?_⟩) (by assumption) ?_
  rotate_left
  · intro wz hSw; (try dsimp only at hSw); go_simp; try (with_reducible rfl)
  try simp only [Act.put, List.setIfInBounds_toArray, List.set_cons_zero, List.set_cons_succ]
  refine wpAnyH_take (i := 24) (oi := { dst := some 33, op := Go.Op.pick (Go.Operand.tmp 23) (Go.Operand.tmp 32) (Go.Operand.const (Go.Value.bool false)), type := 4, pos := "law.go:94", after := #[{ on := 14, ground := Go.Ground.data }, { on := 23, ground := Go.Ground.data }], guard := none }) (v := ?_) rfl (by kernel_rfl) (by kernel_rfl) (by kernel_rfl) (fun _ _ _ h => h) (Or.inl ⟨rfl, ?_⟩) (by assumption) ?_
  rotate_left
  · intro wz hSw; (try dsimp only at hSw); go_simp; try (with_reducible rfl)
  try simp only [Act.put, List.setIfInBounds_toArray, List.set_cons_zero, List.set_cons_succ]
  refine wpAnyH_take (i := 25) (oi := { dst := some 4, op := Go.Op.assign (Go.Operand.tmp 33), type := 4, pos := "law.go:94", after := #[{ on := 24, ground := Go.Ground.data }, { on := 18, ground := Go.Ground.chain }, { on := 0, ground := Go.Ground.phase }, { on := 1, ground := Go.Ground.phase }, { on := 2, ground := Go.Ground.phase }, { on := 3, ground := Go.Ground.phase }, { on := 4, ground := Go.Ground.phase }, { on := 5, ground := Go.Ground.phase }, { on := 6, ground := Go.Ground.phase }, { on := 7, ground := Go.Ground.phase }, { on := 8, ground := Go.Ground.phase }, { on := 9, ground := Go.Ground.phase }, { on := 10, ground := Go.Ground.phase }, { on := 11, ground := Go.Ground.phase }, { on := 12, ground := Go.Ground.phase }, { on := 13, ground := Go.Ground.phase }, { on := 14, ground := Go.Ground.phase }, { on := 15, ground := Go.Ground.phase }, { on := 16, ground := Go.Ground.phase }, { on := 17, ground := Go.Ground.phase }, { on := 18, ground := Go.Ground.phase }, { on := 19, ground := Go.Ground.phase }, { on := 20, ground := Go.Ground.phase }, { on := 21, ground := Go.Ground.phase }, { on := 22, ground := Go.Ground.phase }, { on := 23, ground := Go.Ground.phase }, { on := 24, ground := Go.Ground.phase }], guard := none }) (v := ?_) rfl (by kernel_rfl) (by kernel_rfl) (by kernel_rfl) (fun _ _ _ h => h) (Or.inl ⟨rfl, ?_⟩) (by assumption) ?_
  rotate_left
  · intro wz hSw; (try dsimp only at hSw); go_simp; try (with_reducible rfl)
  try simp only [Act.put, List.setIfInBounds_toArray, List.set_cons_zero, List.set_cons_succ]
  refine wpAnyH_done (by kernel_rfl) ?_ _
  go_wp2
  go_ret
  exact ⟨rfl, HB.out⟩
theorem itemOnce_walk (i j : Itm) (w : World) : Calls Try.prog 7 #[refV i, refV j] w fun e w' => e = .returned (.bool true) ∧ Below w.heap.size w w' :=
  itemOnce_core i j (fixI i) (fixI j) (fix_right i) (fix_right j) (fun w => fixRef_any i w) (fun w => fixRef_any j w) w
end Go.Proofs.Ytophhjknbanafaa
