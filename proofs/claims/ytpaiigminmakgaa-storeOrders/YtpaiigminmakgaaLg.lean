/- Of layer 7's law and the document's answer: a place as the program has it, an item without its text, a place that may be. -/
import Derived.Test.YtpaiigminmakgaaLn
namespace Go.Proofs.Ytpaiigminmakgaa
open Go.RowKit

/-- An item as the document's answer has it. -/
def refV (i : Itm) : Value := .agg #[.int .i64 i.key, .string i.ver.id, .int .i64 i.ver.seq, .int .i64 i.ver.stamp, .bool i.dead, .int .i64 i.x, .int .i64 i.y, .string i.text, .bool i.held]
def stubI (i : Itm) : Itm := { i with text := ⟨#[]⟩, held := false }

set_option maxRecDepth 100000 in
set_option maxHeartbeats 1000000 in
theorem lawSpot_any (x y : Int) (w : World) : Calls Try.prog 43 #[.agg #[.int .i64 x, .int .i64 y]] w fun e w' => e = .returned (.complex .f64 (fl x) (fl y)) ∧ Below w.heap.size w w' := by
  have hc : ∀ (n : Int) w, (convert 3 109 (.int .i64 n)).run Try.prog w = .ok (.float .f64 (fl n)) w := fun n w => run_convert_int_float w 3 109 .i64 .f64 n (by kernel_rfl) Try.underlying109
  generalize fl = g at *
  go_enter Try.func43, Try.ntmps43
  go_wp2
  go_ret
  exact ⟨rfl, (Below.refl _ _).alloc (Nat.le_refl _) _⟩


/-- A part of a place that may be, out of any number. -/
def spotF (n : Int) : Int := n % 18446744073709551616 % 2001 - 1000
theorem spot_wrap (n : Int) : wrap64 (wrap64 ((IntKind.u64.wrap n).tmod 2001) - 1000) = spotF n := by
  have h0 : IntKind.u64.wrap n = n % 18446744073709551616 := rfl
  unfold spotF
  rw [h0, Int.tmod_eq_emod_of_nonneg (by omega)]
  rw [IntWalk.wrap64_in (_ % 2001) (by omega), IntWalk.wrap64_in _ (by omega)]
theorem spotF_in (n : Int) : -1000 ≤ spotF n ∧ spotF n ≤ 1000 := by unfold spotF; omega

set_option maxRecDepth 100000 in
set_option maxHeartbeats 1000000 in
theorem refSpot_any (x y : Int) (w : World) : Calls Try.prog 37 #[.agg #[.int .i64 x, .int .i64 y]] w fun e w' => e = .returned (.agg #[.int .i64 (spotF x), .int .i64 (spotF y)]) ∧ Below w.heap.size w w' := by
  have h2 : ∀ n : Int, wrap64 (wrap64 ((IntKind.u64.wrap n).tmod 2001) - 1000) = spotF n := spot_wrap
  go_enter Try.func37, Try.ntmps37
  go_wp2
  simp only [h2]
  refine bodyPost_ret (v := .agg #[.int .i64 (spotF x), .int .i64 (spotF y)]) ?_ rfl ?_
  · simp [results, Try.results37, go_sem]
  · exact ⟨rfl, ((Below.refl _ _).alloc (Nat.le_refl _) _).alloc (by simp) _⟩

set_option maxRecDepth 100000 in
set_option maxHeartbeats 1000000 in
theorem to_any (i : Itm) (w : World) : Calls Try.prog 17 #[refV i] w fun e w' => e = .returned (itmV i) ∧ Below w.heap.size w w' := by
  obtain ⟨key, ⟨d, a, s⟩, dead, x, y, text, held⟩ := i
  have HS := Lib.hid (lawSpot_any x y)
  have HV := Lib.hid (ver_raw d a s)
  unfold itmV refV
  simp only
  generalize fl x = fx at *
  generalize fl y = fy at *
  have hst := store_complex
  go_enter Try.func17, Try.ntmps17
  go_wp2_with fail
  have k0 : ((w.alloc (.cells #[.int .i64 key, .string d, .int .i64 a, .int .i64 s, .bool dead, .int .i64 x, .int .i64 y, .string text, .bool held] 28)).alloc (.cells #[.int .i64 0, .string ⟨#[]⟩, .int .i64 0, .int .i64 0, .bool false, .complex .f64 0 0, .string ⟨#[]⟩, .bool false] 46)).cell? ⟨w.heap.size, 0, none⟩ = some (.int .i64 key) := by simp [go_sem]
  have k1 : ((w.alloc (.cells #[.int .i64 key, .string d, .int .i64 a, .int .i64 s, .bool dead, .int .i64 x, .int .i64 y, .string text, .bool held] 28)).alloc (.cells #[.int .i64 0, .string ⟨#[]⟩, .int .i64 0, .int .i64 0, .bool false, .complex .f64 0 0, .string ⟨#[]⟩, .bool false] 46)).cell? ⟨w.heap.size, 1, none⟩ = some (.string d) := by simp [go_sem]
  have k2 : ((w.alloc (.cells #[.int .i64 key, .string d, .int .i64 a, .int .i64 s, .bool dead, .int .i64 x, .int .i64 y, .string text, .bool held] 28)).alloc (.cells #[.int .i64 0, .string ⟨#[]⟩, .int .i64 0, .int .i64 0, .bool false, .complex .f64 0 0, .string ⟨#[]⟩, .bool false] 46)).cell? ⟨w.heap.size, 2, none⟩ = some (.int .i64 a) := by simp [go_sem]
  have k3 : ((w.alloc (.cells #[.int .i64 key, .string d, .int .i64 a, .int .i64 s, .bool dead, .int .i64 x, .int .i64 y, .string text, .bool held] 28)).alloc (.cells #[.int .i64 0, .string ⟨#[]⟩, .int .i64 0, .int .i64 0, .bool false, .complex .f64 0 0, .string ⟨#[]⟩, .bool false] 46)).cell? ⟨w.heap.size, 3, none⟩ = some (.int .i64 s) := by simp [go_sem]
  have k4 : ((w.alloc (.cells #[.int .i64 key, .string d, .int .i64 a, .int .i64 s, .bool dead, .int .i64 x, .int .i64 y, .string text, .bool held] 28)).alloc (.cells #[.int .i64 0, .string ⟨#[]⟩, .int .i64 0, .int .i64 0, .bool false, .complex .f64 0 0, .string ⟨#[]⟩, .bool false] 46)).cell? ⟨w.heap.size, 4, none⟩ = some (.bool dead) := by simp [go_sem]
  have k5 : ((w.alloc (.cells #[.int .i64 key, .string d, .int .i64 a, .int .i64 s, .bool dead, .int .i64 x, .int .i64 y, .string text, .bool held] 28)).alloc (.cells #[.int .i64 0, .string ⟨#[]⟩, .int .i64 0, .int .i64 0, .bool false, .complex .f64 0 0, .string ⟨#[]⟩, .bool false] 46)).cell? ⟨w.heap.size, 5, none⟩ = some (.int .i64 x) := by simp [go_sem]
  have k6 : ((w.alloc (.cells #[.int .i64 key, .string d, .int .i64 a, .int .i64 s, .bool dead, .int .i64 x, .int .i64 y, .string text, .bool held] 28)).alloc (.cells #[.int .i64 0, .string ⟨#[]⟩, .int .i64 0, .int .i64 0, .bool false, .complex .f64 0 0, .string ⟨#[]⟩, .bool false] 46)).cell? ⟨w.heap.size, 6, none⟩ = some (.int .i64 y) := by simp [go_sem]
  have k7 : ((w.alloc (.cells #[.int .i64 key, .string d, .int .i64 a, .int .i64 s, .bool dead, .int .i64 x, .int .i64 y, .string text, .bool held] 28)).alloc (.cells #[.int .i64 0, .string ⟨#[]⟩, .int .i64 0, .int .i64 0, .bool false, .complex .f64 0 0, .string ⟨#[]⟩, .bool false] 46)).cell? ⟨w.heap.size, 7, none⟩ = some (.string text) := by simp [go_sem]
  have k8 : ((w.alloc (.cells #[.int .i64 key, .string d, .int .i64 a, .int .i64 s, .bool dead, .int .i64 x, .int .i64 y, .string text, .bool held] 28)).alloc (.cells #[.int .i64 0, .string ⟨#[]⟩, .int .i64 0, .int .i64 0, .bool false, .complex .f64 0 0, .string ⟨#[]⟩, .bool false] 46)).cell? ⟨w.heap.size, 8, none⟩ = some (.bool held) := by simp [go_sem]
  have z0 : ((w.alloc (.cells #[.int .i64 key, .string d, .int .i64 a, .int .i64 s, .bool dead, .int .i64 x, .int .i64 y, .string text, .bool held] 28)).alloc (.cells #[.int .i64 0, .string ⟨#[]⟩, .int .i64 0, .int .i64 0, .bool false, .complex .f64 0 0, .string ⟨#[]⟩, .bool false] 46)).cell? ⟨w.heap.size + 1, 0, none⟩ = some (.int .i64 0) := by simp [go_sem]
  have y0 : ((w.alloc (.cells #[.int .i64 key, .string d, .int .i64 a, .int .i64 s, .bool dead, .int .i64 x, .int .i64 y, .string text, .bool held] 28)).alloc (.cells #[.int .i64 0, .string ⟨#[]⟩, .int .i64 0, .int .i64 0, .bool false, .complex .f64 0 0, .string ⟨#[]⟩, .bool false] 46)).frozen? ⟨w.heap.size + 1, 0, none⟩ = false := by simp [go_sem]
  have z1 : ((w.alloc (.cells #[.int .i64 key, .string d, .int .i64 a, .int .i64 s, .bool dead, .int .i64 x, .int .i64 y, .string text, .bool held] 28)).alloc (.cells #[.int .i64 0, .string ⟨#[]⟩, .int .i64 0, .int .i64 0, .bool false, .complex .f64 0 0, .string ⟨#[]⟩, .bool false] 46)).cell? ⟨w.heap.size + 1, 1, none⟩ = some (.string ⟨#[]⟩) := by simp [go_sem]
  have y1 : ((w.alloc (.cells #[.int .i64 key, .string d, .int .i64 a, .int .i64 s, .bool dead, .int .i64 x, .int .i64 y, .string text, .bool held] 28)).alloc (.cells #[.int .i64 0, .string ⟨#[]⟩, .int .i64 0, .int .i64 0, .bool false, .complex .f64 0 0, .string ⟨#[]⟩, .bool false] 46)).frozen? ⟨w.heap.size + 1, 1, none⟩ = false := by simp [go_sem]
  have z2 : ((w.alloc (.cells #[.int .i64 key, .string d, .int .i64 a, .int .i64 s, .bool dead, .int .i64 x, .int .i64 y, .string text, .bool held] 28)).alloc (.cells #[.int .i64 0, .string ⟨#[]⟩, .int .i64 0, .int .i64 0, .bool false, .complex .f64 0 0, .string ⟨#[]⟩, .bool false] 46)).cell? ⟨w.heap.size + 1, 2, none⟩ = some (.int .i64 0) := by simp [go_sem]
  have y2 : ((w.alloc (.cells #[.int .i64 key, .string d, .int .i64 a, .int .i64 s, .bool dead, .int .i64 x, .int .i64 y, .string text, .bool held] 28)).alloc (.cells #[.int .i64 0, .string ⟨#[]⟩, .int .i64 0, .int .i64 0, .bool false, .complex .f64 0 0, .string ⟨#[]⟩, .bool false] 46)).frozen? ⟨w.heap.size + 1, 2, none⟩ = false := by simp [go_sem]
  have z3 : ((w.alloc (.cells #[.int .i64 key, .string d, .int .i64 a, .int .i64 s, .bool dead, .int .i64 x, .int .i64 y, .string text, .bool held] 28)).alloc (.cells #[.int .i64 0, .string ⟨#[]⟩, .int .i64 0, .int .i64 0, .bool false, .complex .f64 0 0, .string ⟨#[]⟩, .bool false] 46)).cell? ⟨w.heap.size + 1, 3, none⟩ = some (.int .i64 0) := by simp [go_sem]
  have y3 : ((w.alloc (.cells #[.int .i64 key, .string d, .int .i64 a, .int .i64 s, .bool dead, .int .i64 x, .int .i64 y, .string text, .bool held] 28)).alloc (.cells #[.int .i64 0, .string ⟨#[]⟩, .int .i64 0, .int .i64 0, .bool false, .complex .f64 0 0, .string ⟨#[]⟩, .bool false] 46)).frozen? ⟨w.heap.size + 1, 3, none⟩ = false := by simp [go_sem]
  have z4 : ((w.alloc (.cells #[.int .i64 key, .string d, .int .i64 a, .int .i64 s, .bool dead, .int .i64 x, .int .i64 y, .string text, .bool held] 28)).alloc (.cells #[.int .i64 0, .string ⟨#[]⟩, .int .i64 0, .int .i64 0, .bool false, .complex .f64 0 0, .string ⟨#[]⟩, .bool false] 46)).cell? ⟨w.heap.size + 1, 4, none⟩ = some (.bool false) := by simp [go_sem]
  have y4 : ((w.alloc (.cells #[.int .i64 key, .string d, .int .i64 a, .int .i64 s, .bool dead, .int .i64 x, .int .i64 y, .string text, .bool held] 28)).alloc (.cells #[.int .i64 0, .string ⟨#[]⟩, .int .i64 0, .int .i64 0, .bool false, .complex .f64 0 0, .string ⟨#[]⟩, .bool false] 46)).frozen? ⟨w.heap.size + 1, 4, none⟩ = false := by simp [go_sem]
  have z5 : ((w.alloc (.cells #[.int .i64 key, .string d, .int .i64 a, .int .i64 s, .bool dead, .int .i64 x, .int .i64 y, .string text, .bool held] 28)).alloc (.cells #[.int .i64 0, .string ⟨#[]⟩, .int .i64 0, .int .i64 0, .bool false, .complex .f64 0 0, .string ⟨#[]⟩, .bool false] 46)).cell? ⟨w.heap.size + 1, 5, none⟩ = some (.complex .f64 0 0) := by simp [go_sem]
  have y5 : ((w.alloc (.cells #[.int .i64 key, .string d, .int .i64 a, .int .i64 s, .bool dead, .int .i64 x, .int .i64 y, .string text, .bool held] 28)).alloc (.cells #[.int .i64 0, .string ⟨#[]⟩, .int .i64 0, .int .i64 0, .bool false, .complex .f64 0 0, .string ⟨#[]⟩, .bool false] 46)).frozen? ⟨w.heap.size + 1, 5, none⟩ = false := by simp [go_sem]
  have z6 : ((w.alloc (.cells #[.int .i64 key, .string d, .int .i64 a, .int .i64 s, .bool dead, .int .i64 x, .int .i64 y, .string text, .bool held] 28)).alloc (.cells #[.int .i64 0, .string ⟨#[]⟩, .int .i64 0, .int .i64 0, .bool false, .complex .f64 0 0, .string ⟨#[]⟩, .bool false] 46)).cell? ⟨w.heap.size + 1, 6, none⟩ = some (.string ⟨#[]⟩) := by simp [go_sem]
  have y6 : ((w.alloc (.cells #[.int .i64 key, .string d, .int .i64 a, .int .i64 s, .bool dead, .int .i64 x, .int .i64 y, .string text, .bool held] 28)).alloc (.cells #[.int .i64 0, .string ⟨#[]⟩, .int .i64 0, .int .i64 0, .bool false, .complex .f64 0 0, .string ⟨#[]⟩, .bool false] 46)).frozen? ⟨w.heap.size + 1, 6, none⟩ = false := by simp [go_sem]
  have z7 : ((w.alloc (.cells #[.int .i64 key, .string d, .int .i64 a, .int .i64 s, .bool dead, .int .i64 x, .int .i64 y, .string text, .bool held] 28)).alloc (.cells #[.int .i64 0, .string ⟨#[]⟩, .int .i64 0, .int .i64 0, .bool false, .complex .f64 0 0, .string ⟨#[]⟩, .bool false] 46)).cell? ⟨w.heap.size + 1, 7, none⟩ = some (.bool false) := by simp [go_sem]
  have y7 : ((w.alloc (.cells #[.int .i64 key, .string d, .int .i64 a, .int .i64 s, .bool dead, .int .i64 x, .int .i64 y, .string text, .bool held] 28)).alloc (.cells #[.int .i64 0, .string ⟨#[]⟩, .int .i64 0, .int .i64 0, .bool false, .complex .f64 0 0, .string ⟨#[]⟩, .bool false] 46)).frozen? ⟨w.heap.size + 1, 7, none⟩ = false := by simp [go_sem]
  have hz0 : w.heap.size < ((w.alloc (.cells #[.int .i64 key, .string d, .int .i64 a, .int .i64 s, .bool dead, .int .i64 x, .int .i64 y, .string text, .bool held] 28)).alloc (.cells #[.int .i64 0, .string ⟨#[]⟩, .int .i64 0, .int .i64 0, .bool false, .complex .f64 0 0, .string ⟨#[]⟩, .bool false] 46)).heap.size := by simp <;> omega
  have hz1 : w.heap.size + 1 < ((w.alloc (.cells #[.int .i64 key, .string d, .int .i64 a, .int .i64 s, .bool dead, .int .i64 x, .int .i64 y, .string text, .bool held] 28)).alloc (.cells #[.int .i64 0, .string ⟨#[]⟩, .int .i64 0, .int .i64 0, .bool false, .complex .f64 0 0, .string ⟨#[]⟩, .bool false] 46)).heap.size := by simp
  have HB : Hid (Below w.heap.size w ((w.alloc (.cells #[.int .i64 key, .string d, .int .i64 a, .int .i64 s, .bool dead, .int .i64 x, .int .i64 y, .string text, .bool held] 28)).alloc (.cells #[.int .i64 0, .string ⟨#[]⟩, .int .i64 0, .int .i64 0, .bool false, .complex .f64 0 0, .string ⟨#[]⟩, .bool false] 46))) := ((Below.refl _ _).alloc (Nat.le_refl _) _).alloc (by simp) _
  generalize ((w.alloc (.cells #[.int .i64 key, .string d, .int .i64 a, .int .i64 s, .bool dead, .int .i64 x, .int .i64 y, .string text, .bool held] 28)).alloc (.cells #[.int .i64 0, .string ⟨#[]⟩, .int .i64 0, .int .i64 0, .bool false, .complex .f64 0 0, .string ⟨#[]⟩, .bool false] 46)) = W at *
  refine wp_region_held_drew (S := fun w' => w'.cell? ⟨w.heap.size, 0, none⟩ = some (.int .i64 key) ∧ w'.cell? ⟨w.heap.size, 1, none⟩ = some (.string d) ∧ w'.cell? ⟨w.heap.size, 2, none⟩ = some (.int .i64 a) ∧ w'.cell? ⟨w.heap.size, 3, none⟩ = some (.int .i64 s) ∧ w'.cell? ⟨w.heap.size, 4, none⟩ = some (.bool dead) ∧ w'.cell? ⟨w.heap.size, 5, none⟩ = some (.int .i64 x) ∧ w'.cell? ⟨w.heap.size, 6, none⟩ = some (.int .i64 y) ∧ w'.cell? ⟨w.heap.size, 7, none⟩ = some (.string text) ∧ w'.cell? ⟨w.heap.size, 8, none⟩ = some (.bool held)) (by kernel_rfl) ⟨k0, k1, k2, k3, k4, k5, k6, k7, k8⟩ (fun hHeld => ?_)
  refine wpAnyH_take (i := 0) (oi := { dst := some 3, op := Go.Op.fieldAddr 28 (Go.Operand.tmp 1) 0, type := 0, pos := "law.go:21", after := #[], guard := none }) (v := ?_) rfl (by kernel_rfl) (by kernel_rfl) (by kernel_rfl) (fun _ _ _ h => h) (Or.inl ⟨rfl, ?_⟩) (by assumption) ?_
  rotate_left
  · intro wz hSw; (try dsimp only at hSw); go_simp; try (with_reducible rfl)
  try simp only [Act.put, List.setIfInBounds_toArray, List.set_cons_zero, List.set_cons_succ]
  refine wpAnyH_take (i := 1) (oi := { dst := some 4, op := Go.Op.load 3 (Go.Operand.tmp 3), type := 3, pos := "law.go:21", after := #[{ on := 0, ground := Go.Ground.data }], guard := none }) (v := ?_) rfl (by kernel_rfl) (by kernel_rfl) (by kernel_rfl) (fun _ _ _ h => h) (Or.inl ⟨rfl, ?_⟩) (by assumption) ?_
  rotate_left
  · intro wz hSw; (try dsimp only at hSw); go_simp; try (with_reducible rfl)
  try simp only [Act.put, List.setIfInBounds_toArray, List.set_cons_zero, List.set_cons_succ]
  refine wpAnyH_take (i := 2) (oi := { dst := some 5, op := Go.Op.fieldAddr 28 (Go.Operand.tmp 1) 1, type := 0, pos := "law.go:21", after := #[], guard := none }) (v := ?_) rfl (by kernel_rfl) (by kernel_rfl) (by kernel_rfl) (fun _ _ _ h => h) (Or.inl ⟨rfl, ?_⟩) (by assumption) ?_
  rotate_left
  · intro wz hSw; (try dsimp only at hSw); go_simp; try (with_reducible rfl)
  try simp only [Act.put, List.setIfInBounds_toArray, List.set_cons_zero, List.set_cons_succ]
  refine wpAnyH_take (i := 3) (oi := { dst := some 6, op := Go.Op.load 26 (Go.Operand.tmp 5), type := 26, pos := "law.go:21", after := #[{ on := 2, ground := Go.Ground.data }], guard := none }) (v := ?_) rfl (by kernel_rfl) (by kernel_rfl) (by kernel_rfl) (fun _ _ _ h => h) (Or.inl ⟨rfl, ?_⟩) (by assumption) ?_
  rotate_left
  · intro wz hSw; (try dsimp only at hSw); go_simp; try (with_reducible rfl)
  try simp only [Act.put, List.setIfInBounds_toArray, List.set_cons_zero, List.set_cons_succ]
  refine wpAnyH_take (i := 5) (oi := { dst := some 8, op := Go.Op.fieldAddr 28 (Go.Operand.tmp 1) 2, type := 0, pos := "law.go:21", after := #[], guard := none }) (v := ?_) rfl (by kernel_rfl) (by kernel_rfl) (by kernel_rfl) (fun _ _ _ h => h) (Or.inl ⟨rfl, ?_⟩) (by assumption) ?_
  rotate_left
  · intro wz hSw; (try dsimp only at hSw); go_simp; try (with_reducible rfl)
  try simp only [Act.put, List.setIfInBounds_toArray, List.set_cons_zero, List.set_cons_succ]
  refine wpAnyH_take (i := 6) (oi := { dst := some 9, op := Go.Op.load 4 (Go.Operand.tmp 8), type := 4, pos := "law.go:21", after := #[{ on := 5, ground := Go.Ground.data }], guard := none }) (v := ?_) rfl (by kernel_rfl) (by kernel_rfl) (by kernel_rfl) (fun _ _ _ h => h) (Or.inl ⟨rfl, ?_⟩) (by assumption) ?_
  rotate_left
  · intro wz hSw; (try dsimp only at hSw); go_simp; try (with_reducible rfl)
  try simp only [Act.put, List.setIfInBounds_toArray, List.set_cons_zero, List.set_cons_succ]
  refine wpAnyH_take (i := 7) (oi := { dst := some 10, op := Go.Op.fieldAddr 28 (Go.Operand.tmp 1) 3, type := 0, pos := "law.go:21", after := #[], guard := none }) (v := ?_) rfl (by kernel_rfl) (by kernel_rfl) (by kernel_rfl) (fun _ _ _ h => h) (Or.inl ⟨rfl, ?_⟩) (by assumption) ?_
  rotate_left
  · intro wz hSw; (try dsimp only at hSw); go_simp; try (with_reducible rfl)
  try simp only [Act.put, List.setIfInBounds_toArray, List.set_cons_zero, List.set_cons_succ]
  refine wpAnyH_take (i := 8) (oi := { dst := some 11, op := Go.Op.load 24 (Go.Operand.tmp 10), type := 24, pos := "law.go:21", after := #[{ on := 7, ground := Go.Ground.data }], guard := none }) (v := ?_) rfl (by kernel_rfl) (by kernel_rfl) (by kernel_rfl) (fun _ _ _ h => h) (Or.inl ⟨rfl, ?_⟩) (by assumption) ?_
  rotate_left
  · intro wz hSw; (try dsimp only at hSw); go_simp; try (with_reducible rfl)
  try simp only [Act.put, List.setIfInBounds_toArray, List.set_cons_zero, List.set_cons_succ]
  refine wpAnyH_take (i := 10) (oi := { dst := some 13, op := Go.Op.fieldAddr 28 (Go.Operand.tmp 1) 4, type := 0, pos := "law.go:21", after := #[], guard := none }) (v := ?_) rfl (by kernel_rfl) (by kernel_rfl) (by kernel_rfl) (fun _ _ _ h => h) (Or.inl ⟨rfl, ?_⟩) (by assumption) ?_
  rotate_left
  · intro wz hSw; (try dsimp only at hSw); go_simp; try (with_reducible rfl)
  try simp only [Act.put, List.setIfInBounds_toArray, List.set_cons_zero, List.set_cons_succ]
  refine wpAnyH_take (i := 11) (oi := { dst := some 14, op := Go.Op.load 9 (Go.Operand.tmp 13), type := 9, pos := "law.go:21", after := #[{ on := 10, ground := Go.Ground.data }], guard := none }) (v := ?_) rfl (by kernel_rfl) (by kernel_rfl) (by kernel_rfl) (fun _ _ _ h => h) (Or.inl ⟨rfl, ?_⟩) (by assumption) ?_
  rotate_left
  · intro wz hSw; (try dsimp only at hSw); go_simp; try (with_reducible rfl)
  try simp only [Act.put, List.setIfInBounds_toArray, List.set_cons_zero, List.set_cons_succ]
  refine wpAnyH_take (i := 12) (oi := { dst := some 15, op := Go.Op.fieldAddr 28 (Go.Operand.tmp 1) 5, type := 0, pos := "law.go:21", after := #[], guard := none }) (v := ?_) rfl (by kernel_rfl) (by kernel_rfl) (by kernel_rfl) (fun _ _ _ h => h) (Or.inl ⟨rfl, ?_⟩) (by assumption) ?_
  rotate_left
  · intro wz hSw; (try dsimp only at hSw); go_simp; try (with_reducible rfl)
  try simp only [Act.put, List.setIfInBounds_toArray, List.set_cons_zero, List.set_cons_succ]
  refine wpAnyH_take (i := 13) (oi := { dst := some 16, op := Go.Op.load 4 (Go.Operand.tmp 15), type := 4, pos := "law.go:21", after := #[{ on := 12, ground := Go.Ground.data }], guard := none }) (v := ?_) rfl (by kernel_rfl) (by kernel_rfl) (by kernel_rfl) (fun _ _ _ h => h) (Or.inl ⟨rfl, ?_⟩) (by assumption) ?_
  rotate_left
  · intro wz hSw; (try dsimp only at hSw); go_simp; try (with_reducible rfl)
  try simp only [Act.put, List.setIfInBounds_toArray, List.set_cons_zero, List.set_cons_succ]
  refine wpAnyH_ready (rs := [4]) (by kernel_rfl) (by simp) ?_
  refine AllReadyH.cons (o := { dst := some 7, op := Go.Op.call { callee := Go.Callee.value (Go.Operand.func 42), args := #[Go.Operand.tmp 6], argTypes := #[26] }, type := 43, pos := "law.go:21", after := #[{ on := 3, ground := Go.Ground.data }], guard := none }) rfl (fun K hK => ?_) AllReadyH.nil
  go_simp
  go_at_call 42
  refine (HV.out _).mono ?_
  rintro e w1 ⟨rfl, hb⟩
  replace k0 := (hb.cell (p := ⟨w.heap.size, 0, none⟩) hz0).trans k0
  replace k1 := (hb.cell (p := ⟨w.heap.size, 1, none⟩) hz0).trans k1
  replace k2 := (hb.cell (p := ⟨w.heap.size, 2, none⟩) hz0).trans k2
  replace k3 := (hb.cell (p := ⟨w.heap.size, 3, none⟩) hz0).trans k3
  replace k4 := (hb.cell (p := ⟨w.heap.size, 4, none⟩) hz0).trans k4
  replace k5 := (hb.cell (p := ⟨w.heap.size, 5, none⟩) hz0).trans k5
  replace k6 := (hb.cell (p := ⟨w.heap.size, 6, none⟩) hz0).trans k6
  replace k7 := (hb.cell (p := ⟨w.heap.size, 7, none⟩) hz0).trans k7
  replace k8 := (hb.cell (p := ⟨w.heap.size, 8, none⟩) hz0).trans k8
  replace z0 := (hb.cell (p := ⟨w.heap.size + 1, 0, none⟩) hz1).trans z0
  replace y0 := (hb.frozen (p := ⟨w.heap.size + 1, 0, none⟩) hz1).trans y0
  replace z1 := (hb.cell (p := ⟨w.heap.size + 1, 1, none⟩) hz1).trans z1
  replace y1 := (hb.frozen (p := ⟨w.heap.size + 1, 1, none⟩) hz1).trans y1
  replace z2 := (hb.cell (p := ⟨w.heap.size + 1, 2, none⟩) hz1).trans z2
  replace y2 := (hb.frozen (p := ⟨w.heap.size + 1, 2, none⟩) hz1).trans y2
  replace z3 := (hb.cell (p := ⟨w.heap.size + 1, 3, none⟩) hz1).trans z3
  replace y3 := (hb.frozen (p := ⟨w.heap.size + 1, 3, none⟩) hz1).trans y3
  replace z4 := (hb.cell (p := ⟨w.heap.size + 1, 4, none⟩) hz1).trans z4
  replace y4 := (hb.frozen (p := ⟨w.heap.size + 1, 4, none⟩) hz1).trans y4
  replace z5 := (hb.cell (p := ⟨w.heap.size + 1, 5, none⟩) hz1).trans z5
  replace y5 := (hb.frozen (p := ⟨w.heap.size + 1, 5, none⟩) hz1).trans y5
  replace z6 := (hb.cell (p := ⟨w.heap.size + 1, 6, none⟩) hz1).trans z6
  replace y6 := (hb.frozen (p := ⟨w.heap.size + 1, 6, none⟩) hz1).trans y6
  replace z7 := (hb.cell (p := ⟨w.heap.size + 1, 7, none⟩) hz1).trans z7
  replace y7 := (hb.frozen (p := ⟨w.heap.size + 1, 7, none⟩) hz1).trans y7
  replace hz0 := Nat.lt_of_lt_of_le hz0 hb.size
  replace hz1 := Nat.lt_of_lt_of_le hz1 hb.size
  replace HB := Lib.hid (below_via HB.out hb HB.out.size ⟨rfl, rfl, rfl, rfl⟩)
  clear hb
  refine hK.out _ _ ⟨k0, k1, k2, k3, k4, k5, k6, k7, k8⟩ (fun hHeld => ?_)
  clear hK K
  try simp only [Act.put, List.setIfInBounds_toArray, List.set_cons_zero, List.set_cons_succ]
  refine wpAnyH_ready (rs := [9]) (by kernel_rfl) (by simp) ?_
  refine AllReadyH.cons (o := { dst := some 12, op := Go.Op.call { callee := Go.Callee.value (Go.Operand.func 43), args := #[Go.Operand.tmp 11], argTypes := #[24] }, type := 44, pos := "law.go:21", after := #[{ on := 8, ground := Go.Ground.data }, { on := 4, ground := Go.Ground.chain }], guard := none }) rfl (fun K hK => ?_) AllReadyH.nil
  go_simp
  go_at_call 43
  refine (HS.out _).mono ?_
  rintro e w1 ⟨rfl, hb⟩
  replace k0 := (hb.cell (p := ⟨w.heap.size, 0, none⟩) hz0).trans k0
  replace k1 := (hb.cell (p := ⟨w.heap.size, 1, none⟩) hz0).trans k1
  replace k2 := (hb.cell (p := ⟨w.heap.size, 2, none⟩) hz0).trans k2
  replace k3 := (hb.cell (p := ⟨w.heap.size, 3, none⟩) hz0).trans k3
  replace k4 := (hb.cell (p := ⟨w.heap.size, 4, none⟩) hz0).trans k4
  replace k5 := (hb.cell (p := ⟨w.heap.size, 5, none⟩) hz0).trans k5
  replace k6 := (hb.cell (p := ⟨w.heap.size, 6, none⟩) hz0).trans k6
  replace k7 := (hb.cell (p := ⟨w.heap.size, 7, none⟩) hz0).trans k7
  replace k8 := (hb.cell (p := ⟨w.heap.size, 8, none⟩) hz0).trans k8
  replace z0 := (hb.cell (p := ⟨w.heap.size + 1, 0, none⟩) hz1).trans z0
  replace y0 := (hb.frozen (p := ⟨w.heap.size + 1, 0, none⟩) hz1).trans y0
  replace z1 := (hb.cell (p := ⟨w.heap.size + 1, 1, none⟩) hz1).trans z1
  replace y1 := (hb.frozen (p := ⟨w.heap.size + 1, 1, none⟩) hz1).trans y1
  replace z2 := (hb.cell (p := ⟨w.heap.size + 1, 2, none⟩) hz1).trans z2
  replace y2 := (hb.frozen (p := ⟨w.heap.size + 1, 2, none⟩) hz1).trans y2
  replace z3 := (hb.cell (p := ⟨w.heap.size + 1, 3, none⟩) hz1).trans z3
  replace y3 := (hb.frozen (p := ⟨w.heap.size + 1, 3, none⟩) hz1).trans y3
  replace z4 := (hb.cell (p := ⟨w.heap.size + 1, 4, none⟩) hz1).trans z4
  replace y4 := (hb.frozen (p := ⟨w.heap.size + 1, 4, none⟩) hz1).trans y4
  replace z5 := (hb.cell (p := ⟨w.heap.size + 1, 5, none⟩) hz1).trans z5
  replace y5 := (hb.frozen (p := ⟨w.heap.size + 1, 5, none⟩) hz1).trans y5
  replace z6 := (hb.cell (p := ⟨w.heap.size + 1, 6, none⟩) hz1).trans z6
  replace y6 := (hb.frozen (p := ⟨w.heap.size + 1, 6, none⟩) hz1).trans y6
  replace z7 := (hb.cell (p := ⟨w.heap.size + 1, 7, none⟩) hz1).trans z7
  replace y7 := (hb.frozen (p := ⟨w.heap.size + 1, 7, none⟩) hz1).trans y7
  replace hz0 := Nat.lt_of_lt_of_le hz0 hb.size
  replace hz1 := Nat.lt_of_lt_of_le hz1 hb.size
  replace HB := Lib.hid (below_via HB.out hb HB.out.size ⟨rfl, rfl, rfl, rfl⟩)
  clear hb
  refine hK.out _ _ ⟨k0, k1, k2, k3, k4, k5, k6, k7, k8⟩ (fun hHeld => ?_)
  clear hK K
  try simp only [Act.put, List.setIfInBounds_toArray, List.set_cons_zero, List.set_cons_succ]
  refine wpAnyH_take (i := 14) (oi := { dst := some 17, op := Go.Op.build 46 #[(0, Go.Operand.tmp 4), (1, Go.Operand.tmp 7), (2, Go.Operand.tmp 9), (3, Go.Operand.tmp 12), (4, Go.Operand.tmp 14), (5, Go.Operand.tmp 16)], type := 46, pos := "law.go:21", after := #[{ on := 1, ground := Go.Ground.data }, { on := 4, ground := Go.Ground.data }, { on := 6, ground := Go.Ground.data }, { on := 9, ground := Go.Ground.data }, { on := 11, ground := Go.Ground.data }, { on := 13, ground := Go.Ground.data }], guard := none }) (v := ?_) rfl (by kernel_rfl) (by kernel_rfl) (by kernel_rfl) (fun _ _ _ h => h) (Or.inl ⟨rfl, ?_⟩) (by assumption) ?_
  rotate_left
  · intro wz hSw; (try dsimp only at hSw); go_simp; try (with_reducible rfl)
  try simp only [Act.put, List.setIfInBounds_toArray, List.set_cons_zero, List.set_cons_succ]
  refine wpAnyH_ready (rs := [15]) (by kernel_rfl) (by simp) ?_
  refine AllReadyH.cons (o := { dst := none, op := Go.Op.store 46 (Go.Operand.tmp 2) (Go.Operand.tmp 17), type := 0, pos := "law.go:21", after := #[{ on := 14, ground := Go.Ground.data }, { on := 9, ground := Go.Ground.chain }, { on := 0, ground := Go.Ground.phase }, { on := 1, ground := Go.Ground.phase }, { on := 2, ground := Go.Ground.phase }, { on := 3, ground := Go.Ground.phase }, { on := 4, ground := Go.Ground.phase }, { on := 5, ground := Go.Ground.phase }, { on := 6, ground := Go.Ground.phase }, { on := 7, ground := Go.Ground.phase }, { on := 8, ground := Go.Ground.phase }, { on := 9, ground := Go.Ground.phase }, { on := 10, ground := Go.Ground.phase }, { on := 11, ground := Go.Ground.phase }, { on := 12, ground := Go.Ground.phase }, { on := 13, ground := Go.Ground.phase }, { on := 14, ground := Go.Ground.phase }], guard := none }) rfl (fun K hK => ?_) AllReadyH.nil
  go_simp
  replace k0 : ((((((((w1.setCell ⟨w.heap.size + 1, 0, none⟩ (.int .i64 key)).setCell ⟨w.heap.size + 1, 1, none⟩ (.string d)).setCell ⟨w.heap.size + 1, 2, none⟩ (.int .i64 a)).setCell ⟨w.heap.size + 1, 3, none⟩ (.int .i64 s)).setCell ⟨w.heap.size + 1, 4, none⟩ (.bool dead)).setCell ⟨w.heap.size + 1, 5, none⟩ (.complex .f64 fx fy)).setCell ⟨w.heap.size + 1, 6, none⟩ (.string text)).setCell ⟨w.heap.size + 1, 7, none⟩ (.bool held)).cell? ⟨w.heap.size, 0, none⟩ = some (.int .i64 key) := by simp [go_sem, k0]
  replace k1 : ((((((((w1.setCell ⟨w.heap.size + 1, 0, none⟩ (.int .i64 key)).setCell ⟨w.heap.size + 1, 1, none⟩ (.string d)).setCell ⟨w.heap.size + 1, 2, none⟩ (.int .i64 a)).setCell ⟨w.heap.size + 1, 3, none⟩ (.int .i64 s)).setCell ⟨w.heap.size + 1, 4, none⟩ (.bool dead)).setCell ⟨w.heap.size + 1, 5, none⟩ (.complex .f64 fx fy)).setCell ⟨w.heap.size + 1, 6, none⟩ (.string text)).setCell ⟨w.heap.size + 1, 7, none⟩ (.bool held)).cell? ⟨w.heap.size, 1, none⟩ = some (.string d) := by simp [go_sem, k1]
  replace k2 : ((((((((w1.setCell ⟨w.heap.size + 1, 0, none⟩ (.int .i64 key)).setCell ⟨w.heap.size + 1, 1, none⟩ (.string d)).setCell ⟨w.heap.size + 1, 2, none⟩ (.int .i64 a)).setCell ⟨w.heap.size + 1, 3, none⟩ (.int .i64 s)).setCell ⟨w.heap.size + 1, 4, none⟩ (.bool dead)).setCell ⟨w.heap.size + 1, 5, none⟩ (.complex .f64 fx fy)).setCell ⟨w.heap.size + 1, 6, none⟩ (.string text)).setCell ⟨w.heap.size + 1, 7, none⟩ (.bool held)).cell? ⟨w.heap.size, 2, none⟩ = some (.int .i64 a) := by simp [go_sem, k2]
  replace k3 : ((((((((w1.setCell ⟨w.heap.size + 1, 0, none⟩ (.int .i64 key)).setCell ⟨w.heap.size + 1, 1, none⟩ (.string d)).setCell ⟨w.heap.size + 1, 2, none⟩ (.int .i64 a)).setCell ⟨w.heap.size + 1, 3, none⟩ (.int .i64 s)).setCell ⟨w.heap.size + 1, 4, none⟩ (.bool dead)).setCell ⟨w.heap.size + 1, 5, none⟩ (.complex .f64 fx fy)).setCell ⟨w.heap.size + 1, 6, none⟩ (.string text)).setCell ⟨w.heap.size + 1, 7, none⟩ (.bool held)).cell? ⟨w.heap.size, 3, none⟩ = some (.int .i64 s) := by simp [go_sem, k3]
  replace k4 : ((((((((w1.setCell ⟨w.heap.size + 1, 0, none⟩ (.int .i64 key)).setCell ⟨w.heap.size + 1, 1, none⟩ (.string d)).setCell ⟨w.heap.size + 1, 2, none⟩ (.int .i64 a)).setCell ⟨w.heap.size + 1, 3, none⟩ (.int .i64 s)).setCell ⟨w.heap.size + 1, 4, none⟩ (.bool dead)).setCell ⟨w.heap.size + 1, 5, none⟩ (.complex .f64 fx fy)).setCell ⟨w.heap.size + 1, 6, none⟩ (.string text)).setCell ⟨w.heap.size + 1, 7, none⟩ (.bool held)).cell? ⟨w.heap.size, 4, none⟩ = some (.bool dead) := by simp [go_sem, k4]
  replace k5 : ((((((((w1.setCell ⟨w.heap.size + 1, 0, none⟩ (.int .i64 key)).setCell ⟨w.heap.size + 1, 1, none⟩ (.string d)).setCell ⟨w.heap.size + 1, 2, none⟩ (.int .i64 a)).setCell ⟨w.heap.size + 1, 3, none⟩ (.int .i64 s)).setCell ⟨w.heap.size + 1, 4, none⟩ (.bool dead)).setCell ⟨w.heap.size + 1, 5, none⟩ (.complex .f64 fx fy)).setCell ⟨w.heap.size + 1, 6, none⟩ (.string text)).setCell ⟨w.heap.size + 1, 7, none⟩ (.bool held)).cell? ⟨w.heap.size, 5, none⟩ = some (.int .i64 x) := by simp [go_sem, k5]
  replace k6 : ((((((((w1.setCell ⟨w.heap.size + 1, 0, none⟩ (.int .i64 key)).setCell ⟨w.heap.size + 1, 1, none⟩ (.string d)).setCell ⟨w.heap.size + 1, 2, none⟩ (.int .i64 a)).setCell ⟨w.heap.size + 1, 3, none⟩ (.int .i64 s)).setCell ⟨w.heap.size + 1, 4, none⟩ (.bool dead)).setCell ⟨w.heap.size + 1, 5, none⟩ (.complex .f64 fx fy)).setCell ⟨w.heap.size + 1, 6, none⟩ (.string text)).setCell ⟨w.heap.size + 1, 7, none⟩ (.bool held)).cell? ⟨w.heap.size, 6, none⟩ = some (.int .i64 y) := by simp [go_sem, k6]
  replace k7 : ((((((((w1.setCell ⟨w.heap.size + 1, 0, none⟩ (.int .i64 key)).setCell ⟨w.heap.size + 1, 1, none⟩ (.string d)).setCell ⟨w.heap.size + 1, 2, none⟩ (.int .i64 a)).setCell ⟨w.heap.size + 1, 3, none⟩ (.int .i64 s)).setCell ⟨w.heap.size + 1, 4, none⟩ (.bool dead)).setCell ⟨w.heap.size + 1, 5, none⟩ (.complex .f64 fx fy)).setCell ⟨w.heap.size + 1, 6, none⟩ (.string text)).setCell ⟨w.heap.size + 1, 7, none⟩ (.bool held)).cell? ⟨w.heap.size, 7, none⟩ = some (.string text) := by simp [go_sem, k7]
  replace k8 : ((((((((w1.setCell ⟨w.heap.size + 1, 0, none⟩ (.int .i64 key)).setCell ⟨w.heap.size + 1, 1, none⟩ (.string d)).setCell ⟨w.heap.size + 1, 2, none⟩ (.int .i64 a)).setCell ⟨w.heap.size + 1, 3, none⟩ (.int .i64 s)).setCell ⟨w.heap.size + 1, 4, none⟩ (.bool dead)).setCell ⟨w.heap.size + 1, 5, none⟩ (.complex .f64 fx fy)).setCell ⟨w.heap.size + 1, 6, none⟩ (.string text)).setCell ⟨w.heap.size + 1, 7, none⟩ (.bool held)).cell? ⟨w.heap.size, 8, none⟩ = some (.bool held) := by simp [go_sem, k8]
  have HB8 : Hid (Below w.heap.size w ((((((((w1.setCell ⟨w.heap.size + 1, 0, none⟩ (.int .i64 key)).setCell ⟨w.heap.size + 1, 1, none⟩ (.string d)).setCell ⟨w.heap.size + 1, 2, none⟩ (.int .i64 a)).setCell ⟨w.heap.size + 1, 3, none⟩ (.int .i64 s)).setCell ⟨w.heap.size + 1, 4, none⟩ (.bool dead)).setCell ⟨w.heap.size + 1, 5, none⟩ (.complex .f64 fx fy)).setCell ⟨w.heap.size + 1, 6, none⟩ (.string text)).setCell ⟨w.heap.size + 1, 7, none⟩ (.bool held))) := ((((((((HB.out.setCell (by simp) _).setCell (by simp) _).setCell (by simp) _).setCell (by simp) _).setCell (by simp) _).setCell (by simp) _).setCell (by simp) _).setCell (by simp) _)
  have u0 : ((((((((w1.setCell ⟨w.heap.size + 1, 0, none⟩ (.int .i64 key)).setCell ⟨w.heap.size + 1, 1, none⟩ (.string d)).setCell ⟨w.heap.size + 1, 2, none⟩ (.int .i64 a)).setCell ⟨w.heap.size + 1, 3, none⟩ (.int .i64 s)).setCell ⟨w.heap.size + 1, 4, none⟩ (.bool dead)).setCell ⟨w.heap.size + 1, 5, none⟩ (.complex .f64 fx fy)).setCell ⟨w.heap.size + 1, 6, none⟩ (.string text)).setCell ⟨w.heap.size + 1, 7, none⟩ (.bool held)).cell? ⟨w.heap.size + 1, 0, none⟩ = some (.int .i64 key) := by simp [go_sem, z0]
  have u1 : ((((((((w1.setCell ⟨w.heap.size + 1, 0, none⟩ (.int .i64 key)).setCell ⟨w.heap.size + 1, 1, none⟩ (.string d)).setCell ⟨w.heap.size + 1, 2, none⟩ (.int .i64 a)).setCell ⟨w.heap.size + 1, 3, none⟩ (.int .i64 s)).setCell ⟨w.heap.size + 1, 4, none⟩ (.bool dead)).setCell ⟨w.heap.size + 1, 5, none⟩ (.complex .f64 fx fy)).setCell ⟨w.heap.size + 1, 6, none⟩ (.string text)).setCell ⟨w.heap.size + 1, 7, none⟩ (.bool held)).cell? ⟨w.heap.size + 1, 1, none⟩ = some (.string d) := by simp [go_sem, z1]
  have u2 : ((((((((w1.setCell ⟨w.heap.size + 1, 0, none⟩ (.int .i64 key)).setCell ⟨w.heap.size + 1, 1, none⟩ (.string d)).setCell ⟨w.heap.size + 1, 2, none⟩ (.int .i64 a)).setCell ⟨w.heap.size + 1, 3, none⟩ (.int .i64 s)).setCell ⟨w.heap.size + 1, 4, none⟩ (.bool dead)).setCell ⟨w.heap.size + 1, 5, none⟩ (.complex .f64 fx fy)).setCell ⟨w.heap.size + 1, 6, none⟩ (.string text)).setCell ⟨w.heap.size + 1, 7, none⟩ (.bool held)).cell? ⟨w.heap.size + 1, 2, none⟩ = some (.int .i64 a) := by simp [go_sem, z2]
  have u3 : ((((((((w1.setCell ⟨w.heap.size + 1, 0, none⟩ (.int .i64 key)).setCell ⟨w.heap.size + 1, 1, none⟩ (.string d)).setCell ⟨w.heap.size + 1, 2, none⟩ (.int .i64 a)).setCell ⟨w.heap.size + 1, 3, none⟩ (.int .i64 s)).setCell ⟨w.heap.size + 1, 4, none⟩ (.bool dead)).setCell ⟨w.heap.size + 1, 5, none⟩ (.complex .f64 fx fy)).setCell ⟨w.heap.size + 1, 6, none⟩ (.string text)).setCell ⟨w.heap.size + 1, 7, none⟩ (.bool held)).cell? ⟨w.heap.size + 1, 3, none⟩ = some (.int .i64 s) := by simp [go_sem, z3]
  have u4 : ((((((((w1.setCell ⟨w.heap.size + 1, 0, none⟩ (.int .i64 key)).setCell ⟨w.heap.size + 1, 1, none⟩ (.string d)).setCell ⟨w.heap.size + 1, 2, none⟩ (.int .i64 a)).setCell ⟨w.heap.size + 1, 3, none⟩ (.int .i64 s)).setCell ⟨w.heap.size + 1, 4, none⟩ (.bool dead)).setCell ⟨w.heap.size + 1, 5, none⟩ (.complex .f64 fx fy)).setCell ⟨w.heap.size + 1, 6, none⟩ (.string text)).setCell ⟨w.heap.size + 1, 7, none⟩ (.bool held)).cell? ⟨w.heap.size + 1, 4, none⟩ = some (.bool dead) := by simp [go_sem, z4]
  have u5 : ((((((((w1.setCell ⟨w.heap.size + 1, 0, none⟩ (.int .i64 key)).setCell ⟨w.heap.size + 1, 1, none⟩ (.string d)).setCell ⟨w.heap.size + 1, 2, none⟩ (.int .i64 a)).setCell ⟨w.heap.size + 1, 3, none⟩ (.int .i64 s)).setCell ⟨w.heap.size + 1, 4, none⟩ (.bool dead)).setCell ⟨w.heap.size + 1, 5, none⟩ (.complex .f64 fx fy)).setCell ⟨w.heap.size + 1, 6, none⟩ (.string text)).setCell ⟨w.heap.size + 1, 7, none⟩ (.bool held)).cell? ⟨w.heap.size + 1, 5, none⟩ = some (.complex .f64 fx fy) := by simp [go_sem, z5]
  have u6 : ((((((((w1.setCell ⟨w.heap.size + 1, 0, none⟩ (.int .i64 key)).setCell ⟨w.heap.size + 1, 1, none⟩ (.string d)).setCell ⟨w.heap.size + 1, 2, none⟩ (.int .i64 a)).setCell ⟨w.heap.size + 1, 3, none⟩ (.int .i64 s)).setCell ⟨w.heap.size + 1, 4, none⟩ (.bool dead)).setCell ⟨w.heap.size + 1, 5, none⟩ (.complex .f64 fx fy)).setCell ⟨w.heap.size + 1, 6, none⟩ (.string text)).setCell ⟨w.heap.size + 1, 7, none⟩ (.bool held)).cell? ⟨w.heap.size + 1, 6, none⟩ = some (.string text) := by simp [go_sem, z6]
  have u7 : ((((((((w1.setCell ⟨w.heap.size + 1, 0, none⟩ (.int .i64 key)).setCell ⟨w.heap.size + 1, 1, none⟩ (.string d)).setCell ⟨w.heap.size + 1, 2, none⟩ (.int .i64 a)).setCell ⟨w.heap.size + 1, 3, none⟩ (.int .i64 s)).setCell ⟨w.heap.size + 1, 4, none⟩ (.bool dead)).setCell ⟨w.heap.size + 1, 5, none⟩ (.complex .f64 fx fy)).setCell ⟨w.heap.size + 1, 6, none⟩ (.string text)).setCell ⟨w.heap.size + 1, 7, none⟩ (.bool held)).cell? ⟨w.heap.size + 1, 7, none⟩ = some (.bool held) := by simp [go_sem, z7]
  clear z0 y0 z1 y1 z2 y2 z3 y3 z4 y4 z5 y5 z6 y6 z7 y7
  clear HB hz0 hz1
  generalize ((((((((w1.setCell ⟨w.heap.size + 1, 0, none⟩ (.int .i64 key)).setCell ⟨w.heap.size + 1, 1, none⟩ (.string d)).setCell ⟨w.heap.size + 1, 2, none⟩ (.int .i64 a)).setCell ⟨w.heap.size + 1, 3, none⟩ (.int .i64 s)).setCell ⟨w.heap.size + 1, 4, none⟩ (.bool dead)).setCell ⟨w.heap.size + 1, 5, none⟩ (.complex .f64 fx fy)).setCell ⟨w.heap.size + 1, 6, none⟩ (.string text)).setCell ⟨w.heap.size + 1, 7, none⟩ (.bool held)) = W9 at *
  refine hK.out _ _ ⟨k0, k1, k2, k3, k4, k5, k6, k7, k8⟩ (fun hHeld => ?_)
  clear hK K
  try simp only [Act.put, List.setIfInBounds_toArray, List.set_cons_zero, List.set_cons_succ]
  refine wpAnyH_done (by kernel_rfl) ?_ _
  go_wp2
  refine bodyPost_ret (v := .agg #[.int .i64 key, .string d, .int .i64 a, .int .i64 s, .bool dead, .complex .f64 fx fy, .string text, .bool held]) ?_ rfl ?_
  · simp [results, Try.results17, go_sem, u0, u1, u2, u3, u4, u5, u6, u7]
  · exact ⟨rfl, HB8.out⟩

end Go.Proofs.Ytpaiigminmakgaa
