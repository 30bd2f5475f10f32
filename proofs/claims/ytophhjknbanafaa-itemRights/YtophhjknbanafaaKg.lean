/- ItemRights, walked. -/
import Derived.Test.YtophhjknbanafaaKf
namespace Go.Proofs.Ytophhjknbanafaa
open Go.RowKit

theorem seven {w : World} : BytesAt (w.alloc (.cells #[.int .u8 7] 5)) w.heap.size (some ⟨w.heap.size, 0, none⟩) 1 [7] := one_byte (by decide) (heap_alloc_new w _)

set_option maxRecDepth 100000 in
set_option maxHeartbeats 8000000 in
theorem itemRights_walk (i : Itm) (w : World) : Calls Try.prog 4 #[refV i] w fun e w' => e = .returned (.bool true) ∧ Below w.heap.size w w' := by
  have HN := Lib.hid (near_any i.x i.y)
  rcases hn : nearF i.x i.y with _ | _
  · obtain ⟨key, ⟨d, a, s⟩, dead, x, y, text, held⟩ := i
    simp only at HN hn
    rw [hn] at HN
    unfold refV
    simp only
    go_enter Try.func4, Try.ntmps4
    go_wp2_with fail
    refine (HN.out _).mono ?_
    rintro e w1 ⟨rfl, hb⟩
    have HB : Hid (Below w.heap.size w w1) := ((Below.refl _ _).alloc (Nat.le_refl _) _).trans (hb.mono (by simp))
    clear hb HN
    go_wp2_with fail
    refine (told_any _).mono ?_
    rintro e w2 ⟨rfl, hb⟩
    replace HB := Lib.hid (HB.out.trans (hb.mono HB.out.size))
    clear hb
    go_wp2
    go_ret
    exact ⟨rfl, HB.out⟩
  have sm := near_small hn
  have ss : (stubI i).x.natAbs < 2 ^ 53 ∧ (stubI i).y.natAbs < 2 ^ 53 := sm
  have HT := Lib.hid (to_any i)
  have HR := Lib.hid (itemRight_any i sm.1 sm.2)
  have HR2 := Lib.hid (refRight_any i)
  have HS := Lib.hid (itemStub_any i)
  have HS2 := Lib.hid (refStub_any i)
  have HF := Lib.hid (from_any (stubI i) ss.1 ss.2)
  have HE := eql_ref (stubI i) (stubI i)
  rw [eqI_same] at HE
  have HP := Lib.hid (itemPut_any (i := i) · · · [7] · · (by decide) sm.1 sm.2)
  have HP2 := Lib.hid (refItemPut_any (i := i) · · · [7] · · (by decide))
  rw [hn] at HN
  generalize rightI i = R at *
  generalize putItm [7] i = P at *
  clear sm ss hn
  obtain ⟨key, ⟨d, a, s⟩, dead, x, y, text, held⟩ := i
  unfold refV itmV stubI at *
  simp only at HN HT HR HR2 HS HS2 HF HE HP HP2 ⊢
  generalize fl x = fx at *
  generalize fl y = fy at *
  go_enter Try.func4, Try.ntmps4
  go_wp2_with fail
  refine (HN.out _).mono ?_
  rintro e w1 ⟨rfl, hb⟩
  have k0 : (w.alloc (.cells #[.int .i64 key, .string d, .int .i64 a, .int .i64 s, .bool dead, .int .i64 x, .int .i64 y, .string text, .bool held] 35)).cell? ⟨w.heap.size, 0, none⟩ = some (.int .i64 key) := by simp [go_sem]
  have kf0 : (w.alloc (.cells #[.int .i64 key, .string d, .int .i64 a, .int .i64 s, .bool dead, .int .i64 x, .int .i64 y, .string text, .bool held] 35)).frozen? ⟨w.heap.size, 0, none⟩ = false := by simp [go_sem]
  have k1 : (w.alloc (.cells #[.int .i64 key, .string d, .int .i64 a, .int .i64 s, .bool dead, .int .i64 x, .int .i64 y, .string text, .bool held] 35)).cell? ⟨w.heap.size, 1, none⟩ = some (.string d) := by simp [go_sem]
  have kf1 : (w.alloc (.cells #[.int .i64 key, .string d, .int .i64 a, .int .i64 s, .bool dead, .int .i64 x, .int .i64 y, .string text, .bool held] 35)).frozen? ⟨w.heap.size, 1, none⟩ = false := by simp [go_sem]
  have k2 : (w.alloc (.cells #[.int .i64 key, .string d, .int .i64 a, .int .i64 s, .bool dead, .int .i64 x, .int .i64 y, .string text, .bool held] 35)).cell? ⟨w.heap.size, 2, none⟩ = some (.int .i64 a) := by simp [go_sem]
  have kf2 : (w.alloc (.cells #[.int .i64 key, .string d, .int .i64 a, .int .i64 s, .bool dead, .int .i64 x, .int .i64 y, .string text, .bool held] 35)).frozen? ⟨w.heap.size, 2, none⟩ = false := by simp [go_sem]
  have k3 : (w.alloc (.cells #[.int .i64 key, .string d, .int .i64 a, .int .i64 s, .bool dead, .int .i64 x, .int .i64 y, .string text, .bool held] 35)).cell? ⟨w.heap.size, 3, none⟩ = some (.int .i64 s) := by simp [go_sem]
  have kf3 : (w.alloc (.cells #[.int .i64 key, .string d, .int .i64 a, .int .i64 s, .bool dead, .int .i64 x, .int .i64 y, .string text, .bool held] 35)).frozen? ⟨w.heap.size, 3, none⟩ = false := by simp [go_sem]
  have k4 : (w.alloc (.cells #[.int .i64 key, .string d, .int .i64 a, .int .i64 s, .bool dead, .int .i64 x, .int .i64 y, .string text, .bool held] 35)).cell? ⟨w.heap.size, 4, none⟩ = some (.bool dead) := by simp [go_sem]
  have kf4 : (w.alloc (.cells #[.int .i64 key, .string d, .int .i64 a, .int .i64 s, .bool dead, .int .i64 x, .int .i64 y, .string text, .bool held] 35)).frozen? ⟨w.heap.size, 4, none⟩ = false := by simp [go_sem]
  have k5 : (w.alloc (.cells #[.int .i64 key, .string d, .int .i64 a, .int .i64 s, .bool dead, .int .i64 x, .int .i64 y, .string text, .bool held] 35)).cell? ⟨w.heap.size, 5, none⟩ = some (.int .i64 x) := by simp [go_sem]
  have kf5 : (w.alloc (.cells #[.int .i64 key, .string d, .int .i64 a, .int .i64 s, .bool dead, .int .i64 x, .int .i64 y, .string text, .bool held] 35)).frozen? ⟨w.heap.size, 5, none⟩ = false := by simp [go_sem]
  have k6 : (w.alloc (.cells #[.int .i64 key, .string d, .int .i64 a, .int .i64 s, .bool dead, .int .i64 x, .int .i64 y, .string text, .bool held] 35)).cell? ⟨w.heap.size, 6, none⟩ = some (.int .i64 y) := by simp [go_sem]
  have kf6 : (w.alloc (.cells #[.int .i64 key, .string d, .int .i64 a, .int .i64 s, .bool dead, .int .i64 x, .int .i64 y, .string text, .bool held] 35)).frozen? ⟨w.heap.size, 6, none⟩ = false := by simp [go_sem]
  have k7 : (w.alloc (.cells #[.int .i64 key, .string d, .int .i64 a, .int .i64 s, .bool dead, .int .i64 x, .int .i64 y, .string text, .bool held] 35)).cell? ⟨w.heap.size, 7, none⟩ = some (.string text) := by simp [go_sem]
  have kf7 : (w.alloc (.cells #[.int .i64 key, .string d, .int .i64 a, .int .i64 s, .bool dead, .int .i64 x, .int .i64 y, .string text, .bool held] 35)).frozen? ⟨w.heap.size, 7, none⟩ = false := by simp [go_sem]
  have k8 : (w.alloc (.cells #[.int .i64 key, .string d, .int .i64 a, .int .i64 s, .bool dead, .int .i64 x, .int .i64 y, .string text, .bool held] 35)).cell? ⟨w.heap.size, 8, none⟩ = some (.bool held) := by simp [go_sem]
  have kf8 : (w.alloc (.cells #[.int .i64 key, .string d, .int .i64 a, .int .i64 s, .bool dead, .int .i64 x, .int .i64 y, .string text, .bool held] 35)).frozen? ⟨w.heap.size, 8, none⟩ = false := by simp [go_sem]
  have kz : w.heap.size < (w.alloc (.cells #[.int .i64 key, .string d, .int .i64 a, .int .i64 s, .bool dead, .int .i64 x, .int .i64 y, .string text, .bool held] 35)).heap.size := by simp <;> omega
  replace k0 := (hb.cell (p := ⟨w.heap.size, 0, none⟩) kz).trans k0
  replace kf0 := (hb.frozen (p := ⟨w.heap.size, 0, none⟩) kz).trans kf0
  replace k1 := (hb.cell (p := ⟨w.heap.size, 1, none⟩) kz).trans k1
  replace kf1 := (hb.frozen (p := ⟨w.heap.size, 1, none⟩) kz).trans kf1
  replace k2 := (hb.cell (p := ⟨w.heap.size, 2, none⟩) kz).trans k2
  replace kf2 := (hb.frozen (p := ⟨w.heap.size, 2, none⟩) kz).trans kf2
  replace k3 := (hb.cell (p := ⟨w.heap.size, 3, none⟩) kz).trans k3
  replace kf3 := (hb.frozen (p := ⟨w.heap.size, 3, none⟩) kz).trans kf3
  replace k4 := (hb.cell (p := ⟨w.heap.size, 4, none⟩) kz).trans k4
  replace kf4 := (hb.frozen (p := ⟨w.heap.size, 4, none⟩) kz).trans kf4
  replace k5 := (hb.cell (p := ⟨w.heap.size, 5, none⟩) kz).trans k5
  replace kf5 := (hb.frozen (p := ⟨w.heap.size, 5, none⟩) kz).trans kf5
  replace k6 := (hb.cell (p := ⟨w.heap.size, 6, none⟩) kz).trans k6
  replace kf6 := (hb.frozen (p := ⟨w.heap.size, 6, none⟩) kz).trans kf6
  replace k7 := (hb.cell (p := ⟨w.heap.size, 7, none⟩) kz).trans k7
  replace kf7 := (hb.frozen (p := ⟨w.heap.size, 7, none⟩) kz).trans kf7
  replace k8 := (hb.cell (p := ⟨w.heap.size, 8, none⟩) kz).trans k8
  replace kf8 := (hb.frozen (p := ⟨w.heap.size, 8, none⟩) kz).trans kf8
  replace kz := Nat.lt_of_lt_of_le kz hb.size
  have HB : Hid (Below w.heap.size w w1) := ((Below.refl _ _).alloc (Nat.le_refl _) _).trans (hb.mono (by simp))
  clear hb HN
  by_cases ht : 300 < text.size
  · have ht' : (300 : Int) < text.size := by omega
    go_wp2_with fail
    refine (told_any _).mono ?_
    rintro e w2 ⟨rfl, hb⟩
    replace HB := Lib.hid (HB.out.trans (hb.mono HB.out.size))
    clear hb
    go_wp2
    go_ret
    exact ⟨rfl, HB.out⟩
  have ht' : decide ((300 : Int) < text.size) = false := by simp; omega
  clear ht
  go_upto_region 3 with fail
  clear ht'
  refine wp_region_held_drew (S := fun w' => w'.cell? ⟨w.heap.size, 0, none⟩ = some (.int .i64 key) ∧ w'.cell? ⟨w.heap.size, 1, none⟩ = some (.string d) ∧ w'.cell? ⟨w.heap.size, 2, none⟩ = some (.int .i64 a) ∧ w'.cell? ⟨w.heap.size, 3, none⟩ = some (.int .i64 s) ∧ w'.cell? ⟨w.heap.size, 4, none⟩ = some (.bool dead) ∧ w'.cell? ⟨w.heap.size, 5, none⟩ = some (.int .i64 x) ∧ w'.cell? ⟨w.heap.size, 6, none⟩ = some (.int .i64 y) ∧ w'.cell? ⟨w.heap.size, 7, none⟩ = some (.string text) ∧ w'.cell? ⟨w.heap.size, 8, none⟩ = some (.bool held)) (by kernel_rfl) ⟨k0, k1, k2, k3, k4, k5, k6, k7, k8⟩ (fun hHeld => ?_)
  refine wpAnyH_ready (rs := [0]) (by kernel_rfl) (by simp) ?_
  refine (AllReadyH.cons (o := { dst := some 14, op := Go.Op.call { callee := Go.Callee.value (Go.Operand.func 11), args := #[], argTypes := #[] }, type := 4, pos := "law.go:55", after := #[], guard := none }) rfl (fun K hK => ?_) AllReadyH.nil)
  go_simp
  go_at_call 11
  refine (told_any _).mono ?_
  rintro e v3 ⟨rfl, hb⟩
  replace k0 := (hb.cell (p := ⟨w.heap.size, 0, none⟩) kz).trans k0
  replace kf0 := (hb.frozen (p := ⟨w.heap.size, 0, none⟩) kz).trans kf0
  replace k1 := (hb.cell (p := ⟨w.heap.size, 1, none⟩) kz).trans k1
  replace kf1 := (hb.frozen (p := ⟨w.heap.size, 1, none⟩) kz).trans kf1
  replace k2 := (hb.cell (p := ⟨w.heap.size, 2, none⟩) kz).trans k2
  replace kf2 := (hb.frozen (p := ⟨w.heap.size, 2, none⟩) kz).trans kf2
  replace k3 := (hb.cell (p := ⟨w.heap.size, 3, none⟩) kz).trans k3
  replace kf3 := (hb.frozen (p := ⟨w.heap.size, 3, none⟩) kz).trans kf3
  replace k4 := (hb.cell (p := ⟨w.heap.size, 4, none⟩) kz).trans k4
  replace kf4 := (hb.frozen (p := ⟨w.heap.size, 4, none⟩) kz).trans kf4
  replace k5 := (hb.cell (p := ⟨w.heap.size, 5, none⟩) kz).trans k5
  replace kf5 := (hb.frozen (p := ⟨w.heap.size, 5, none⟩) kz).trans kf5
  replace k6 := (hb.cell (p := ⟨w.heap.size, 6, none⟩) kz).trans k6
  replace kf6 := (hb.frozen (p := ⟨w.heap.size, 6, none⟩) kz).trans kf6
  replace k7 := (hb.cell (p := ⟨w.heap.size, 7, none⟩) kz).trans k7
  replace kf7 := (hb.frozen (p := ⟨w.heap.size, 7, none⟩) kz).trans kf7
  replace k8 := (hb.cell (p := ⟨w.heap.size, 8, none⟩) kz).trans k8
  replace kf8 := (hb.frozen (p := ⟨w.heap.size, 8, none⟩) kz).trans kf8
  replace kz := Nat.lt_of_lt_of_le kz hb.size
  replace HB := Lib.hid (below_via HB.out hb HB.out.size ⟨rfl, rfl, rfl, rfl⟩)
  clear hb
  refine hK.out _ _ ⟨k0, k1, k2, k3, k4, k5, k6, k7, k8⟩ (fun hHeld => ?_)
  clear hK K
  try simp only [Act.put, List.setIfInBounds_toArray, List.set_cons_zero, List.set_cons_succ]
  refine wpAnyH_take (i := 1) (oi := { dst := some 15, op := Go.Op.move (Go.Operand.tmp 14), type := 4, pos := "law.go:55", after := #[{ on := 0, ground := Go.Ground.data }, { on := 0, ground := Go.Ground.chain }], guard := none }) (v := ?_) rfl (by kernel_rfl) (by kernel_rfl) (by kernel_rfl) (fun _ _ _ h => h) (Or.inl ⟨rfl, ?_⟩) (by assumption) ?_
  rotate_left
  · intro wz hSw; (try dsimp only at hSw); go_simp; try (with_reducible rfl)
  try simp only [Act.put, List.setIfInBounds_toArray, List.set_cons_zero, List.set_cons_succ]
  refine wpAnyH_take (i := 2) (oi := { dst := some 16, op := Go.Op.load 35 (Go.Operand.tmp 1), type := 35, pos := "law.go:55", after := #[{ on := 1, ground := Go.Ground.guard }], guard := some (1, true) }) (v := ?_) rfl (by kernel_rfl) (by kernel_rfl) (by kernel_rfl) (fun _ _ _ h => h) (Or.inl ⟨rfl, ?_⟩) (by assumption) ?_
  rotate_left
  · intro wz hSw; (try dsimp only at hSw); go_simp; try (with_reducible rfl)
  try simp only [Act.put, List.setIfInBounds_toArray, List.set_cons_zero, List.set_cons_succ]
  refine wpAnyH_take (i := 5) (oi := { dst := some 19, op := Go.Op.load 35 (Go.Operand.tmp 1), type := 35, pos := "law.go:55", after := #[{ on := 1, ground := Go.Ground.guard }], guard := some (1, true) }) (v := ?_) rfl (by kernel_rfl) (by kernel_rfl) (by kernel_rfl) (fun _ _ _ h => h) (Or.inl ⟨rfl, ?_⟩) (by assumption) ?_
  rotate_left
  · intro wz hSw; (try dsimp only at hSw); go_simp; try (with_reducible rfl)
  try simp only [Act.put, List.setIfInBounds_toArray, List.set_cons_zero, List.set_cons_succ]
  refine wpAnyH_ready (rs := [3]) (by kernel_rfl) (by simp) ?_
  refine (AllReadyH.cons (o := { dst := some 17, op := Go.Op.call { callee := Go.Callee.value (Go.Operand.func 15), args := #[Go.Operand.tmp 16], argTypes := #[35] }, type := 40, pos := "law.go:55", after := #[{ on := 2, ground := Go.Ground.data }, { on := 1, ground := Go.Ground.chain }, { on := 1, ground := Go.Ground.guard }], guard := some (1, true) }) rfl (fun K hK => ?_) AllReadyH.nil)
  go_simp
  go_at_call 15
  refine (HT.out _).mono ?_
  rintro e v4 ⟨rfl, hb⟩
  replace k0 := (hb.cell (p := ⟨w.heap.size, 0, none⟩) kz).trans k0
  replace kf0 := (hb.frozen (p := ⟨w.heap.size, 0, none⟩) kz).trans kf0
  replace k1 := (hb.cell (p := ⟨w.heap.size, 1, none⟩) kz).trans k1
  replace kf1 := (hb.frozen (p := ⟨w.heap.size, 1, none⟩) kz).trans kf1
  replace k2 := (hb.cell (p := ⟨w.heap.size, 2, none⟩) kz).trans k2
  replace kf2 := (hb.frozen (p := ⟨w.heap.size, 2, none⟩) kz).trans kf2
  replace k3 := (hb.cell (p := ⟨w.heap.size, 3, none⟩) kz).trans k3
  replace kf3 := (hb.frozen (p := ⟨w.heap.size, 3, none⟩) kz).trans kf3
  replace k4 := (hb.cell (p := ⟨w.heap.size, 4, none⟩) kz).trans k4
  replace kf4 := (hb.frozen (p := ⟨w.heap.size, 4, none⟩) kz).trans kf4
  replace k5 := (hb.cell (p := ⟨w.heap.size, 5, none⟩) kz).trans k5
  replace kf5 := (hb.frozen (p := ⟨w.heap.size, 5, none⟩) kz).trans kf5
  replace k6 := (hb.cell (p := ⟨w.heap.size, 6, none⟩) kz).trans k6
  replace kf6 := (hb.frozen (p := ⟨w.heap.size, 6, none⟩) kz).trans kf6
  replace k7 := (hb.cell (p := ⟨w.heap.size, 7, none⟩) kz).trans k7
  replace kf7 := (hb.frozen (p := ⟨w.heap.size, 7, none⟩) kz).trans kf7
  replace k8 := (hb.cell (p := ⟨w.heap.size, 8, none⟩) kz).trans k8
  replace kf8 := (hb.frozen (p := ⟨w.heap.size, 8, none⟩) kz).trans kf8
  replace kz := Nat.lt_of_lt_of_le kz hb.size
  replace HB := Lib.hid (below_via HB.out hb HB.out.size ⟨rfl, rfl, rfl, rfl⟩)
  clear hb
  refine hK.out _ _ ⟨k0, k1, k2, k3, k4, k5, k6, k7, k8⟩ (fun hHeld => ?_)
  clear hK K
  try simp only [Act.put, List.setIfInBounds_toArray, List.set_cons_zero, List.set_cons_succ]
  refine wpAnyH_ready (rs := [4]) (by kernel_rfl) (by simp) ?_
  refine (AllReadyH.cons (o := { dst := some 18, op := Go.Op.call { callee := Go.Callee.value (Go.Operand.func 14), args := #[Go.Operand.tmp 17], argTypes := #[40] }, type := 4, pos := "law.go:55", after := #[{ on := 3, ground := Go.Ground.data }, { on := 3, ground := Go.Ground.chain }, { on := 1, ground := Go.Ground.guard }], guard := some (1, true) }) rfl (fun K hK => ?_) AllReadyH.nil)
  go_simp
  go_at_call 14
  refine (HR.out _).mono ?_
  rintro e v5 ⟨rfl, hb⟩
  replace k0 := (hb.cell (p := ⟨w.heap.size, 0, none⟩) kz).trans k0
  replace kf0 := (hb.frozen (p := ⟨w.heap.size, 0, none⟩) kz).trans kf0
  replace k1 := (hb.cell (p := ⟨w.heap.size, 1, none⟩) kz).trans k1
  replace kf1 := (hb.frozen (p := ⟨w.heap.size, 1, none⟩) kz).trans kf1
  replace k2 := (hb.cell (p := ⟨w.heap.size, 2, none⟩) kz).trans k2
  replace kf2 := (hb.frozen (p := ⟨w.heap.size, 2, none⟩) kz).trans kf2
  replace k3 := (hb.cell (p := ⟨w.heap.size, 3, none⟩) kz).trans k3
  replace kf3 := (hb.frozen (p := ⟨w.heap.size, 3, none⟩) kz).trans kf3
  replace k4 := (hb.cell (p := ⟨w.heap.size, 4, none⟩) kz).trans k4
  replace kf4 := (hb.frozen (p := ⟨w.heap.size, 4, none⟩) kz).trans kf4
  replace k5 := (hb.cell (p := ⟨w.heap.size, 5, none⟩) kz).trans k5
  replace kf5 := (hb.frozen (p := ⟨w.heap.size, 5, none⟩) kz).trans kf5
  replace k6 := (hb.cell (p := ⟨w.heap.size, 6, none⟩) kz).trans k6
  replace kf6 := (hb.frozen (p := ⟨w.heap.size, 6, none⟩) kz).trans kf6
  replace k7 := (hb.cell (p := ⟨w.heap.size, 7, none⟩) kz).trans k7
  replace kf7 := (hb.frozen (p := ⟨w.heap.size, 7, none⟩) kz).trans kf7
  replace k8 := (hb.cell (p := ⟨w.heap.size, 8, none⟩) kz).trans k8
  replace kf8 := (hb.frozen (p := ⟨w.heap.size, 8, none⟩) kz).trans kf8
  replace kz := Nat.lt_of_lt_of_le kz hb.size
  replace HB := Lib.hid (below_via HB.out hb HB.out.size ⟨rfl, rfl, rfl, rfl⟩)
  clear hb
  refine hK.out _ _ ⟨k0, k1, k2, k3, k4, k5, k6, k7, k8⟩ (fun hHeld => ?_)
  clear hK K
  try simp only [Act.put, List.setIfInBounds_toArray, List.set_cons_zero, List.set_cons_succ]
  refine wpAnyH_ready (rs := [6]) (by kernel_rfl) (by simp) ?_
  refine (AllReadyH.cons (o := { dst := some 20, op := Go.Op.call { callee := Go.Callee.value (Go.Operand.func 16), args := #[Go.Operand.tmp 19], argTypes := #[35] }, type := 4, pos := "law.go:55", after := #[{ on := 5, ground := Go.Ground.data }, { on := 4, ground := Go.Ground.chain }, { on := 1, ground := Go.Ground.guard }], guard := some (1, true) }) rfl (fun K hK => ?_) AllReadyH.nil)
  go_simp
  go_at_call 16
  refine (HR2.out _).mono ?_
  rintro e v6 ⟨rfl, hb⟩
  replace k0 := (hb.cell (p := ⟨w.heap.size, 0, none⟩) kz).trans k0
  replace kf0 := (hb.frozen (p := ⟨w.heap.size, 0, none⟩) kz).trans kf0
  replace k1 := (hb.cell (p := ⟨w.heap.size, 1, none⟩) kz).trans k1
  replace kf1 := (hb.frozen (p := ⟨w.heap.size, 1, none⟩) kz).trans kf1
  replace k2 := (hb.cell (p := ⟨w.heap.size, 2, none⟩) kz).trans k2
  replace kf2 := (hb.frozen (p := ⟨w.heap.size, 2, none⟩) kz).trans kf2
  replace k3 := (hb.cell (p := ⟨w.heap.size, 3, none⟩) kz).trans k3
  replace kf3 := (hb.frozen (p := ⟨w.heap.size, 3, none⟩) kz).trans kf3
  replace k4 := (hb.cell (p := ⟨w.heap.size, 4, none⟩) kz).trans k4
  replace kf4 := (hb.frozen (p := ⟨w.heap.size, 4, none⟩) kz).trans kf4
  replace k5 := (hb.cell (p := ⟨w.heap.size, 5, none⟩) kz).trans k5
  replace kf5 := (hb.frozen (p := ⟨w.heap.size, 5, none⟩) kz).trans kf5
  replace k6 := (hb.cell (p := ⟨w.heap.size, 6, none⟩) kz).trans k6
  replace kf6 := (hb.frozen (p := ⟨w.heap.size, 6, none⟩) kz).trans kf6
  replace k7 := (hb.cell (p := ⟨w.heap.size, 7, none⟩) kz).trans k7
  replace kf7 := (hb.frozen (p := ⟨w.heap.size, 7, none⟩) kz).trans kf7
  replace k8 := (hb.cell (p := ⟨w.heap.size, 8, none⟩) kz).trans k8
  replace kf8 := (hb.frozen (p := ⟨w.heap.size, 8, none⟩) kz).trans kf8
  replace kz := Nat.lt_of_lt_of_le kz hb.size
  replace HB := Lib.hid (below_via HB.out hb HB.out.size ⟨rfl, rfl, rfl, rfl⟩)
  clear hb
  refine hK.out _ _ ⟨k0, k1, k2, k3, k4, k5, k6, k7, k8⟩ (fun hHeld => ?_)
  clear hK K
  try simp only [Act.put, List.setIfInBounds_toArray, List.set_cons_zero, List.set_cons_succ]
  refine wpAnyH_take (i := 7) (oi := { dst := some 21, op := Go.Op.binOp Go.BinOp.eql 4 (Go.Operand.tmp 18) (Go.Operand.tmp 20) 4, type := 4, pos := "law.go:55", after := #[{ on := 4, ground := Go.Ground.data }, { on := 6, ground := Go.Ground.data }, { on := 1, ground := Go.Ground.guard }], guard := some (1, true) }) (v := ?_) rfl (by kernel_rfl) (by kernel_rfl) (by kernel_rfl) (fun _ _ _ h => h) (Or.inl ⟨rfl, ?_⟩) (by assumption) ?_
  rotate_left
  · intro wz hSw; (try dsimp only at hSw); go_simp; try (with_reducible rfl)
  try simp only [Act.put, List.setIfInBounds_toArray, List.set_cons_zero, List.set_cons_succ]
  refine wpAnyH_take (i := 8) (oi := { dst := some 22, op := Go.Op.pick (Go.Operand.tmp 15) (Go.Operand.tmp 21) (Go.Operand.const (Go.Value.bool false)), type := 4, pos := "law.go:55", after := #[{ on := 1, ground := Go.Ground.data }, { on := 7, ground := Go.Ground.data }], guard := none }) (v := ?_) rfl (by kernel_rfl) (by kernel_rfl) (by kernel_rfl) (fun _ _ _ h => h) (Or.inl ⟨rfl, ?_⟩) (by assumption) ?_
  rotate_left
  · intro wz hSw; (try dsimp only at hSw); go_simp; try (with_reducible rfl)
  try simp only [Act.put, List.setIfInBounds_toArray, List.set_cons_zero, List.set_cons_succ]
  refine wpAnyH_take (i := 9) (oi := { dst := some 23, op := Go.Op.move (Go.Operand.tmp 22), type := 4, pos := "law.go:55", after := #[{ on := 8, ground := Go.Ground.data }, { on := 6, ground := Go.Ground.chain }], guard := none }) (v := ?_) rfl (by kernel_rfl) (by kernel_rfl) (by kernel_rfl) (fun _ _ _ h => h) (Or.inl ⟨rfl, ?_⟩) (by assumption) ?_
  rotate_left
  · intro wz hSw; (try dsimp only at hSw); go_simp; try (with_reducible rfl)
  try simp only [Act.put, List.setIfInBounds_toArray, List.set_cons_zero, List.set_cons_succ]
  refine wpAnyH_take (i := 10) (oi := { dst := some 24, op := Go.Op.load 35 (Go.Operand.tmp 1), type := 35, pos := "law.go:55", after := #[{ on := 9, ground := Go.Ground.guard }], guard := some (9, true) }) (v := ?_) rfl (by kernel_rfl) (by kernel_rfl) (by kernel_rfl) (fun _ _ _ h => h) (Or.inl ⟨rfl, ?_⟩) (by assumption) ?_
  rotate_left
  · intro wz hSw; (try dsimp only at hSw); go_simp; try (with_reducible rfl)
  try simp only [Act.put, List.setIfInBounds_toArray, List.set_cons_zero, List.set_cons_succ]
  refine wpAnyH_take (i := 14) (oi := { dst := some 28, op := Go.Op.load 35 (Go.Operand.tmp 1), type := 35, pos := "law.go:55", after := #[{ on := 9, ground := Go.Ground.guard }], guard := some (9, true) }) (v := ?_) rfl (by kernel_rfl) (by kernel_rfl) (by kernel_rfl) (fun _ _ _ h => h) (Or.inl ⟨rfl, ?_⟩) (by assumption) ?_
  rotate_left
  · intro wz hSw; (try dsimp only at hSw); go_simp; try (with_reducible rfl)
  try simp only [Act.put, List.setIfInBounds_toArray, List.set_cons_zero, List.set_cons_succ]
  refine wpAnyH_ready (rs := [11]) (by kernel_rfl) (by simp) ?_
  refine (AllReadyH.cons (o := { dst := some 25, op := Go.Op.call { callee := Go.Callee.value (Go.Operand.func 15), args := #[Go.Operand.tmp 24], argTypes := #[35] }, type := 40, pos := "law.go:55", after := #[{ on := 10, ground := Go.Ground.data }, { on := 9, ground := Go.Ground.chain }, { on := 9, ground := Go.Ground.guard }], guard := some (9, true) }) rfl (fun K hK => ?_) AllReadyH.nil)
  go_simp
  go_at_call 15
  refine (HT.out _).mono ?_
  rintro e v7 ⟨rfl, hb⟩
  replace k0 := (hb.cell (p := ⟨w.heap.size, 0, none⟩) kz).trans k0
  replace kf0 := (hb.frozen (p := ⟨w.heap.size, 0, none⟩) kz).trans kf0
  replace k1 := (hb.cell (p := ⟨w.heap.size, 1, none⟩) kz).trans k1
  replace kf1 := (hb.frozen (p := ⟨w.heap.size, 1, none⟩) kz).trans kf1
  replace k2 := (hb.cell (p := ⟨w.heap.size, 2, none⟩) kz).trans k2
  replace kf2 := (hb.frozen (p := ⟨w.heap.size, 2, none⟩) kz).trans kf2
  replace k3 := (hb.cell (p := ⟨w.heap.size, 3, none⟩) kz).trans k3
  replace kf3 := (hb.frozen (p := ⟨w.heap.size, 3, none⟩) kz).trans kf3
  replace k4 := (hb.cell (p := ⟨w.heap.size, 4, none⟩) kz).trans k4
  replace kf4 := (hb.frozen (p := ⟨w.heap.size, 4, none⟩) kz).trans kf4
  replace k5 := (hb.cell (p := ⟨w.heap.size, 5, none⟩) kz).trans k5
  replace kf5 := (hb.frozen (p := ⟨w.heap.size, 5, none⟩) kz).trans kf5
  replace k6 := (hb.cell (p := ⟨w.heap.size, 6, none⟩) kz).trans k6
  replace kf6 := (hb.frozen (p := ⟨w.heap.size, 6, none⟩) kz).trans kf6
  replace k7 := (hb.cell (p := ⟨w.heap.size, 7, none⟩) kz).trans k7
  replace kf7 := (hb.frozen (p := ⟨w.heap.size, 7, none⟩) kz).trans kf7
  replace k8 := (hb.cell (p := ⟨w.heap.size, 8, none⟩) kz).trans k8
  replace kf8 := (hb.frozen (p := ⟨w.heap.size, 8, none⟩) kz).trans kf8
  replace kz := Nat.lt_of_lt_of_le kz hb.size
  replace HB := Lib.hid (below_via HB.out hb HB.out.size ⟨rfl, rfl, rfl, rfl⟩)
  clear hb
  refine hK.out _ _ ⟨k0, k1, k2, k3, k4, k5, k6, k7, k8⟩ (fun hHeld => ?_)
  clear hK K
  try simp only [Act.put, List.setIfInBounds_toArray, List.set_cons_zero, List.set_cons_succ]
  refine wpAnyH_ready (rs := [12]) (by kernel_rfl) (by simp) ?_
  refine (AllReadyH.cons (o := { dst := some 26, op := Go.Op.call { callee := Go.Callee.value (Go.Operand.func 18), args := #[Go.Operand.tmp 25], argTypes := #[40] }, type := 40, pos := "law.go:55", after := #[{ on := 11, ground := Go.Ground.data }, { on := 11, ground := Go.Ground.chain }, { on := 9, ground := Go.Ground.guard }], guard := some (9, true) }) rfl (fun K hK => ?_) AllReadyH.nil)
  go_simp
  go_at_call 18
  refine (HS.out _).mono ?_
  rintro e v8 ⟨rfl, hb⟩
  replace k0 := (hb.cell (p := ⟨w.heap.size, 0, none⟩) kz).trans k0
  replace kf0 := (hb.frozen (p := ⟨w.heap.size, 0, none⟩) kz).trans kf0
  replace k1 := (hb.cell (p := ⟨w.heap.size, 1, none⟩) kz).trans k1
  replace kf1 := (hb.frozen (p := ⟨w.heap.size, 1, none⟩) kz).trans kf1
  replace k2 := (hb.cell (p := ⟨w.heap.size, 2, none⟩) kz).trans k2
  replace kf2 := (hb.frozen (p := ⟨w.heap.size, 2, none⟩) kz).trans kf2
  replace k3 := (hb.cell (p := ⟨w.heap.size, 3, none⟩) kz).trans k3
  replace kf3 := (hb.frozen (p := ⟨w.heap.size, 3, none⟩) kz).trans kf3
  replace k4 := (hb.cell (p := ⟨w.heap.size, 4, none⟩) kz).trans k4
  replace kf4 := (hb.frozen (p := ⟨w.heap.size, 4, none⟩) kz).trans kf4
  replace k5 := (hb.cell (p := ⟨w.heap.size, 5, none⟩) kz).trans k5
  replace kf5 := (hb.frozen (p := ⟨w.heap.size, 5, none⟩) kz).trans kf5
  replace k6 := (hb.cell (p := ⟨w.heap.size, 6, none⟩) kz).trans k6
  replace kf6 := (hb.frozen (p := ⟨w.heap.size, 6, none⟩) kz).trans kf6
  replace k7 := (hb.cell (p := ⟨w.heap.size, 7, none⟩) kz).trans k7
  replace kf7 := (hb.frozen (p := ⟨w.heap.size, 7, none⟩) kz).trans kf7
  replace k8 := (hb.cell (p := ⟨w.heap.size, 8, none⟩) kz).trans k8
  replace kf8 := (hb.frozen (p := ⟨w.heap.size, 8, none⟩) kz).trans kf8
  replace kz := Nat.lt_of_lt_of_le kz hb.size
  replace HB := Lib.hid (below_via HB.out hb HB.out.size ⟨rfl, rfl, rfl, rfl⟩)
  clear hb
  refine hK.out _ _ ⟨k0, k1, k2, k3, k4, k5, k6, k7, k8⟩ (fun hHeld => ?_)
  clear hK K
  try simp only [Act.put, List.setIfInBounds_toArray, List.set_cons_zero, List.set_cons_succ]
  refine wpAnyH_ready (rs := [13]) (by kernel_rfl) (by simp) ?_
  refine (AllReadyH.cons (o := { dst := some 27, op := Go.Op.call { callee := Go.Callee.value (Go.Operand.func 17), args := #[Go.Operand.tmp 26], argTypes := #[40] }, type := 35, pos := "law.go:55", after := #[{ on := 12, ground := Go.Ground.data }, { on := 12, ground := Go.Ground.chain }, { on := 9, ground := Go.Ground.guard }], guard := some (9, true) }) rfl (fun K hK => ?_) AllReadyH.nil)
  go_simp
  go_at_call 17
  refine (HF.out _).mono ?_
  rintro e v9 ⟨rfl, hb⟩
  replace k0 := (hb.cell (p := ⟨w.heap.size, 0, none⟩) kz).trans k0
  replace kf0 := (hb.frozen (p := ⟨w.heap.size, 0, none⟩) kz).trans kf0
  replace k1 := (hb.cell (p := ⟨w.heap.size, 1, none⟩) kz).trans k1
  replace kf1 := (hb.frozen (p := ⟨w.heap.size, 1, none⟩) kz).trans kf1
  replace k2 := (hb.cell (p := ⟨w.heap.size, 2, none⟩) kz).trans k2
  replace kf2 := (hb.frozen (p := ⟨w.heap.size, 2, none⟩) kz).trans kf2
  replace k3 := (hb.cell (p := ⟨w.heap.size, 3, none⟩) kz).trans k3
  replace kf3 := (hb.frozen (p := ⟨w.heap.size, 3, none⟩) kz).trans kf3
  replace k4 := (hb.cell (p := ⟨w.heap.size, 4, none⟩) kz).trans k4
  replace kf4 := (hb.frozen (p := ⟨w.heap.size, 4, none⟩) kz).trans kf4
  replace k5 := (hb.cell (p := ⟨w.heap.size, 5, none⟩) kz).trans k5
  replace kf5 := (hb.frozen (p := ⟨w.heap.size, 5, none⟩) kz).trans kf5
  replace k6 := (hb.cell (p := ⟨w.heap.size, 6, none⟩) kz).trans k6
  replace kf6 := (hb.frozen (p := ⟨w.heap.size, 6, none⟩) kz).trans kf6
  replace k7 := (hb.cell (p := ⟨w.heap.size, 7, none⟩) kz).trans k7
  replace kf7 := (hb.frozen (p := ⟨w.heap.size, 7, none⟩) kz).trans kf7
  replace k8 := (hb.cell (p := ⟨w.heap.size, 8, none⟩) kz).trans k8
  replace kf8 := (hb.frozen (p := ⟨w.heap.size, 8, none⟩) kz).trans kf8
  replace kz := Nat.lt_of_lt_of_le kz hb.size
  replace HB := Lib.hid (below_via HB.out hb HB.out.size ⟨rfl, rfl, rfl, rfl⟩)
  clear hb
  refine hK.out _ _ ⟨k0, k1, k2, k3, k4, k5, k6, k7, k8⟩ (fun hHeld => ?_)
  clear hK K
  try simp only [Act.put, List.setIfInBounds_toArray, List.set_cons_zero, List.set_cons_succ]
  refine wpAnyH_ready (rs := [15]) (by kernel_rfl) (by simp) ?_
  refine (AllReadyH.cons (o := { dst := some 29, op := Go.Op.call { callee := Go.Callee.value (Go.Operand.func 19), args := #[Go.Operand.tmp 28], argTypes := #[35] }, type := 35, pos := "law.go:55", after := #[{ on := 14, ground := Go.Ground.data }, { on := 13, ground := Go.Ground.chain }, { on := 9, ground := Go.Ground.guard }], guard := some (9, true) }) rfl (fun K hK => ?_) AllReadyH.nil)
  go_simp
  go_at_call 19
  refine (HS2.out _).mono ?_
  rintro e v10 ⟨rfl, hb⟩
  replace k0 := (hb.cell (p := ⟨w.heap.size, 0, none⟩) kz).trans k0
  replace kf0 := (hb.frozen (p := ⟨w.heap.size, 0, none⟩) kz).trans kf0
  replace k1 := (hb.cell (p := ⟨w.heap.size, 1, none⟩) kz).trans k1
  replace kf1 := (hb.frozen (p := ⟨w.heap.size, 1, none⟩) kz).trans kf1
  replace k2 := (hb.cell (p := ⟨w.heap.size, 2, none⟩) kz).trans k2
  replace kf2 := (hb.frozen (p := ⟨w.heap.size, 2, none⟩) kz).trans kf2
  replace k3 := (hb.cell (p := ⟨w.heap.size, 3, none⟩) kz).trans k3
  replace kf3 := (hb.frozen (p := ⟨w.heap.size, 3, none⟩) kz).trans kf3
  replace k4 := (hb.cell (p := ⟨w.heap.size, 4, none⟩) kz).trans k4
  replace kf4 := (hb.frozen (p := ⟨w.heap.size, 4, none⟩) kz).trans kf4
  replace k5 := (hb.cell (p := ⟨w.heap.size, 5, none⟩) kz).trans k5
  replace kf5 := (hb.frozen (p := ⟨w.heap.size, 5, none⟩) kz).trans kf5
  replace k6 := (hb.cell (p := ⟨w.heap.size, 6, none⟩) kz).trans k6
  replace kf6 := (hb.frozen (p := ⟨w.heap.size, 6, none⟩) kz).trans kf6
  replace k7 := (hb.cell (p := ⟨w.heap.size, 7, none⟩) kz).trans k7
  replace kf7 := (hb.frozen (p := ⟨w.heap.size, 7, none⟩) kz).trans kf7
  replace k8 := (hb.cell (p := ⟨w.heap.size, 8, none⟩) kz).trans k8
  replace kf8 := (hb.frozen (p := ⟨w.heap.size, 8, none⟩) kz).trans kf8
  replace kz := Nat.lt_of_lt_of_le kz hb.size
  replace HB := Lib.hid (below_via HB.out hb HB.out.size ⟨rfl, rfl, rfl, rfl⟩)
  clear hb
  refine hK.out _ _ ⟨k0, k1, k2, k3, k4, k5, k6, k7, k8⟩ (fun hHeld => ?_)
  clear hK K
  try simp only [Act.put, List.setIfInBounds_toArray, List.set_cons_zero, List.set_cons_succ]
  refine wpAnyH_take (i := 16) (oi := { dst := some 30, op := Go.Op.binOp Go.BinOp.eql 35 (Go.Operand.tmp 27) (Go.Operand.tmp 29) 35, type := 4, pos := "law.go:55", after := #[{ on := 13, ground := Go.Ground.data }, { on := 15, ground := Go.Ground.data }, { on := 9, ground := Go.Ground.guard }], guard := some (9, true) }) (v := ?_) rfl (by kernel_rfl) (by kernel_rfl) (by kernel_rfl) (fun _ _ _ h => h) (Or.inl ⟨rfl, ?_⟩) (by assumption) ?_
  rotate_left
  · intro wz hSw; (try dsimp only at hSw); go_simp; try (with_reducible rfl)
  try simp only [Act.put, List.setIfInBounds_toArray, List.set_cons_zero, List.set_cons_succ]
  refine wpAnyH_take (i := 17) (oi := { dst := some 31, op := Go.Op.pick (Go.Operand.tmp 23) (Go.Operand.tmp 30) (Go.Operand.const (Go.Value.bool false)), type := 4, pos := "law.go:55", after := #[{ on := 9, ground := Go.Ground.data }, { on := 16, ground := Go.Ground.data }], guard := none }) (v := ?_) rfl (by kernel_rfl) (by kernel_rfl) (by kernel_rfl) (fun _ _ _ h => h) (Or.inl ⟨rfl, ?_⟩) (by assumption) ?_
  rotate_left
  · intro wz hSw; (try dsimp only at hSw); go_simp; try (with_reducible rfl)
  try simp only [Act.put, List.setIfInBounds_toArray, List.set_cons_zero, List.set_cons_succ]
  refine wpAnyH_take (i := 18) (oi := { dst := some 32, op := Go.Op.move (Go.Operand.tmp 31), type := 4, pos := "law.go:55", after := #[{ on := 17, ground := Go.Ground.data }, { on := 15, ground := Go.Ground.chain }], guard := none }) (v := ?_) rfl (by kernel_rfl) (by kernel_rfl) (by kernel_rfl) (fun _ _ _ h => h) (Or.inl ⟨rfl, ?_⟩) (by assumption) ?_
  rotate_left
  · intro wz hSw; (try dsimp only at hSw); go_simp; try (with_reducible rfl)
  try simp only [Act.put, List.setIfInBounds_toArray, List.set_cons_zero, List.set_cons_succ]
  refine wpAnyH_take (i := 20) (oi := { dst := some 34, op := Go.Op.load 35 (Go.Operand.tmp 1), type := 35, pos := "law.go:55", after := #[{ on := 18, ground := Go.Ground.guard }], guard := some (18, true) }) (v := ?_) rfl (by kernel_rfl) (by kernel_rfl) (by kernel_rfl) (fun _ _ _ h => h) (Or.inl ⟨rfl, ?_⟩) (by assumption) ?_
  rotate_left
  · intro wz hSw; (try dsimp only at hSw); go_simp; try (with_reducible rfl)
  try simp only [Act.put, List.setIfInBounds_toArray, List.set_cons_zero, List.set_cons_succ]
  refine wpAnyH_take (i := 24) (oi := { dst := some 38, op := Go.Op.load 35 (Go.Operand.tmp 1), type := 35, pos := "law.go:55", after := #[{ on := 18, ground := Go.Ground.guard }], guard := some (18, true) }) (v := ?_) rfl (by kernel_rfl) (by kernel_rfl) (by kernel_rfl) (fun _ _ _ h => h) (Or.inl ⟨rfl, ?_⟩) (by assumption) ?_
  rotate_left
  · intro wz hSw; (try dsimp only at hSw); go_simp; try (with_reducible rfl)
  try simp only [Act.put, List.setIfInBounds_toArray, List.set_cons_zero, List.set_cons_succ]
  refine wpAnyH_ready (rs := [19, 21, 23]) (by kernel_rfl) (by simp) ?_
  refine (AllReadyH.cons (o := { dst := some 33, op := Go.Op.buildSlice 47 1 #[(0, Go.Operand.const (Go.Value.int Go.IntKind.u8 7))], type := 47, pos := "law.go:55", after := #[{ on := 18, ground := Go.Ground.guard }], guard := some (18, true) }) rfl (fun K hK => ?_) (AllReadyH.cons (o := { dst := some 35, op := Go.Op.call { callee := Go.Callee.value (Go.Operand.func 15), args := #[Go.Operand.tmp 34], argTypes := #[35] }, type := 40, pos := "law.go:55", after := #[{ on := 20, ground := Go.Ground.data }, { on := 18, ground := Go.Ground.chain }, { on := 18, ground := Go.Ground.guard }], guard := some (18, true) }) rfl (fun K hK => ?_) (AllReadyH.cons (o := { dst := some 37, op := Go.Op.buildSlice 47 1 #[(0, Go.Operand.const (Go.Value.int Go.IntKind.u8 7))], type := 47, pos := "law.go:55", after := #[{ on := 18, ground := Go.Ground.guard }], guard := some (18, true) }) rfl (fun K hK => ?_) AllReadyH.nil)))
  · skip
    go_simp
    have hb : Below v10.heap.size v10 (v10.alloc (.cells #[.int .u8 7] 5)) := (Below.refl _ _).alloc (Nat.le_refl _) _
    have Z19 := Lib.hid (seven (w := v10))
    replace k0 := (hb.cell (p := ⟨w.heap.size, 0, none⟩) kz).trans k0
    replace kf0 := (hb.frozen (p := ⟨w.heap.size, 0, none⟩) kz).trans kf0
    replace k1 := (hb.cell (p := ⟨w.heap.size, 1, none⟩) kz).trans k1
    replace kf1 := (hb.frozen (p := ⟨w.heap.size, 1, none⟩) kz).trans kf1
    replace k2 := (hb.cell (p := ⟨w.heap.size, 2, none⟩) kz).trans k2
    replace kf2 := (hb.frozen (p := ⟨w.heap.size, 2, none⟩) kz).trans kf2
    replace k3 := (hb.cell (p := ⟨w.heap.size, 3, none⟩) kz).trans k3
    replace kf3 := (hb.frozen (p := ⟨w.heap.size, 3, none⟩) kz).trans kf3
    replace k4 := (hb.cell (p := ⟨w.heap.size, 4, none⟩) kz).trans k4
    replace kf4 := (hb.frozen (p := ⟨w.heap.size, 4, none⟩) kz).trans kf4
    replace k5 := (hb.cell (p := ⟨w.heap.size, 5, none⟩) kz).trans k5
    replace kf5 := (hb.frozen (p := ⟨w.heap.size, 5, none⟩) kz).trans kf5
    replace k6 := (hb.cell (p := ⟨w.heap.size, 6, none⟩) kz).trans k6
    replace kf6 := (hb.frozen (p := ⟨w.heap.size, 6, none⟩) kz).trans kf6
    replace k7 := (hb.cell (p := ⟨w.heap.size, 7, none⟩) kz).trans k7
    replace kf7 := (hb.frozen (p := ⟨w.heap.size, 7, none⟩) kz).trans kf7
    replace k8 := (hb.cell (p := ⟨w.heap.size, 8, none⟩) kz).trans k8
    replace kf8 := (hb.frozen (p := ⟨w.heap.size, 8, none⟩) kz).trans kf8
    replace kz := Nat.lt_of_lt_of_le kz hb.size
    replace HB := Lib.hid (HB.out.trans (hb.mono HB.out.size))
    clear hb
    generalize (v10.alloc (.cells #[.int .u8 7] 5)) = v11 at *
    generalize v10.heap.size = G19 at *
    refine hK.out _ _ ⟨k0, k1, k2, k3, k4, k5, k6, k7, k8⟩ (fun hHeld => ?_)
    clear hK K
    try simp only [Act.put, List.setIfInBounds_toArray, List.set_cons_zero, List.set_cons_succ]
    refine wpAnyH_ready (rs := [21, 23]) (by kernel_rfl) (by simp) ?_
    refine (AllReadyH.cons (o := { dst := some 35, op := Go.Op.call { callee := Go.Callee.value (Go.Operand.func 15), args := #[Go.Operand.tmp 34], argTypes := #[35] }, type := 40, pos := "law.go:55", after := #[{ on := 20, ground := Go.Ground.data }, { on := 18, ground := Go.Ground.chain }, { on := 18, ground := Go.Ground.guard }], guard := some (18, true) }) rfl (fun K hK => ?_) (AllReadyH.cons (o := { dst := some 37, op := Go.Op.buildSlice 47 1 #[(0, Go.Operand.const (Go.Value.int Go.IntKind.u8 7))], type := 47, pos := "law.go:55", after := #[{ on := 18, ground := Go.Ground.guard }], guard := some (18, true) }) rfl (fun K hK => ?_) AllReadyH.nil))
    · skip
      go_simp
      go_at_call 15
      refine (HT.out _).mono ?_
      rintro e v12 ⟨rfl, hb⟩
      replace k0 := (hb.cell (p := ⟨w.heap.size, 0, none⟩) kz).trans k0
      replace kf0 := (hb.frozen (p := ⟨w.heap.size, 0, none⟩) kz).trans kf0
      replace k1 := (hb.cell (p := ⟨w.heap.size, 1, none⟩) kz).trans k1
      replace kf1 := (hb.frozen (p := ⟨w.heap.size, 1, none⟩) kz).trans kf1
      replace k2 := (hb.cell (p := ⟨w.heap.size, 2, none⟩) kz).trans k2
      replace kf2 := (hb.frozen (p := ⟨w.heap.size, 2, none⟩) kz).trans kf2
      replace k3 := (hb.cell (p := ⟨w.heap.size, 3, none⟩) kz).trans k3
      replace kf3 := (hb.frozen (p := ⟨w.heap.size, 3, none⟩) kz).trans kf3
      replace k4 := (hb.cell (p := ⟨w.heap.size, 4, none⟩) kz).trans k4
      replace kf4 := (hb.frozen (p := ⟨w.heap.size, 4, none⟩) kz).trans kf4
      replace k5 := (hb.cell (p := ⟨w.heap.size, 5, none⟩) kz).trans k5
      replace kf5 := (hb.frozen (p := ⟨w.heap.size, 5, none⟩) kz).trans kf5
      replace k6 := (hb.cell (p := ⟨w.heap.size, 6, none⟩) kz).trans k6
      replace kf6 := (hb.frozen (p := ⟨w.heap.size, 6, none⟩) kz).trans kf6
      replace k7 := (hb.cell (p := ⟨w.heap.size, 7, none⟩) kz).trans k7
      replace kf7 := (hb.frozen (p := ⟨w.heap.size, 7, none⟩) kz).trans kf7
      replace k8 := (hb.cell (p := ⟨w.heap.size, 8, none⟩) kz).trans k8
      replace kf8 := (hb.frozen (p := ⟨w.heap.size, 8, none⟩) kz).trans kf8
      replace kz := Nat.lt_of_lt_of_le kz hb.size
      replace Z19 := Lib.hid (Z19.out.keep (by exact hb))
      replace HB := Lib.hid (below_via HB.out hb HB.out.size ⟨rfl, rfl, rfl, rfl⟩)
      clear hb
      refine hK.out _ _ ⟨k0, k1, k2, k3, k4, k5, k6, k7, k8⟩ (fun hHeld => ?_)
      clear hK K
      try simp only [Act.put, List.setIfInBounds_toArray, List.set_cons_zero, List.set_cons_succ]
      refine wpAnyH_ready (rs := [22, 23]) (by kernel_rfl) (by simp) ?_
      refine (AllReadyH.cons (o := { dst := some 36, op := Go.Op.call { callee := Go.Callee.value (Go.Operand.func 21), args := #[Go.Operand.tmp 33, Go.Operand.tmp 35], argTypes := #[47, 40] }, type := 47, pos := "law.go:55", after := #[{ on := 19, ground := Go.Ground.data }, { on := 21, ground := Go.Ground.data }, { on := 21, ground := Go.Ground.chain }, { on := 18, ground := Go.Ground.guard }], guard := some (18, true) }) rfl (fun K hK => ?_) (AllReadyH.cons (o := { dst := some 37, op := Go.Op.buildSlice 47 1 #[(0, Go.Operand.const (Go.Value.int Go.IntKind.u8 7))], type := 47, pos := "law.go:55", after := #[{ on := 18, ground := Go.Ground.guard }], guard := some (18, true) }) rfl (fun K hK => ?_) AllReadyH.nil))
      · skip
        go_simp
        go_at_call 21
        refine (HP.out (some ⟨G19, 0, none⟩) 1 G19 _ Z19.out).mono ?_
        rintro e v13 ⟨A22, c22, rfl, ho, hb⟩
        replace k0 := (hb.cell (p := ⟨w.heap.size, 0, none⟩) kz).trans k0
        replace kf0 := (hb.frozen (p := ⟨w.heap.size, 0, none⟩) kz).trans kf0
        replace k1 := (hb.cell (p := ⟨w.heap.size, 1, none⟩) kz).trans k1
        replace kf1 := (hb.frozen (p := ⟨w.heap.size, 1, none⟩) kz).trans kf1
        replace k2 := (hb.cell (p := ⟨w.heap.size, 2, none⟩) kz).trans k2
        replace kf2 := (hb.frozen (p := ⟨w.heap.size, 2, none⟩) kz).trans kf2
        replace k3 := (hb.cell (p := ⟨w.heap.size, 3, none⟩) kz).trans k3
        replace kf3 := (hb.frozen (p := ⟨w.heap.size, 3, none⟩) kz).trans kf3
        replace k4 := (hb.cell (p := ⟨w.heap.size, 4, none⟩) kz).trans k4
        replace kf4 := (hb.frozen (p := ⟨w.heap.size, 4, none⟩) kz).trans kf4
        replace k5 := (hb.cell (p := ⟨w.heap.size, 5, none⟩) kz).trans k5
        replace kf5 := (hb.frozen (p := ⟨w.heap.size, 5, none⟩) kz).trans kf5
        replace k6 := (hb.cell (p := ⟨w.heap.size, 6, none⟩) kz).trans k6
        replace kf6 := (hb.frozen (p := ⟨w.heap.size, 6, none⟩) kz).trans kf6
        replace k7 := (hb.cell (p := ⟨w.heap.size, 7, none⟩) kz).trans k7
        replace kf7 := (hb.frozen (p := ⟨w.heap.size, 7, none⟩) kz).trans kf7
        replace k8 := (hb.cell (p := ⟨w.heap.size, 8, none⟩) kz).trans k8
        replace kf8 := (hb.frozen (p := ⟨w.heap.size, 8, none⟩) kz).trans kf8
        replace kz := Nat.lt_of_lt_of_le kz hb.size
        replace Z19 := Lib.hid (Z19.out.keep (by exact hb))
        obtain ⟨g22, hz, _, _, _⟩ := own_bytes ho
        have Q22 := Lib.hid hz
        clear ho hz
        replace HB := Lib.hid (below_via HB.out hb HB.out.size ⟨rfl, rfl, rfl, rfl⟩)
        clear hb
        refine hK.out _ _ ⟨k0, k1, k2, k3, k4, k5, k6, k7, k8⟩ (fun hHeld => ?_)
        clear hK K
        try simp only [Act.put, List.setIfInBounds_toArray, List.set_cons_zero, List.set_cons_succ]
        refine wpAnyH_ready (rs := [23]) (by kernel_rfl) (by simp) ?_
        refine (AllReadyH.cons (o := { dst := some 37, op := Go.Op.buildSlice 47 1 #[(0, Go.Operand.const (Go.Value.int Go.IntKind.u8 7))], type := 47, pos := "law.go:55", after := #[{ on := 18, ground := Go.Ground.guard }], guard := some (18, true) }) rfl (fun K hK => ?_) AllReadyH.nil)
        go_simp
        have hb : Below v13.heap.size v13 (v13.alloc (.cells #[.int .u8 7] 5)) := (Below.refl _ _).alloc (Nat.le_refl _) _
        have Z23 := Lib.hid (seven (w := v13))
        replace k0 := (hb.cell (p := ⟨w.heap.size, 0, none⟩) kz).trans k0
        replace kf0 := (hb.frozen (p := ⟨w.heap.size, 0, none⟩) kz).trans kf0
        replace k1 := (hb.cell (p := ⟨w.heap.size, 1, none⟩) kz).trans k1
        replace kf1 := (hb.frozen (p := ⟨w.heap.size, 1, none⟩) kz).trans kf1
        replace k2 := (hb.cell (p := ⟨w.heap.size, 2, none⟩) kz).trans k2
        replace kf2 := (hb.frozen (p := ⟨w.heap.size, 2, none⟩) kz).trans kf2
        replace k3 := (hb.cell (p := ⟨w.heap.size, 3, none⟩) kz).trans k3
        replace kf3 := (hb.frozen (p := ⟨w.heap.size, 3, none⟩) kz).trans kf3
        replace k4 := (hb.cell (p := ⟨w.heap.size, 4, none⟩) kz).trans k4
        replace kf4 := (hb.frozen (p := ⟨w.heap.size, 4, none⟩) kz).trans kf4
        replace k5 := (hb.cell (p := ⟨w.heap.size, 5, none⟩) kz).trans k5
        replace kf5 := (hb.frozen (p := ⟨w.heap.size, 5, none⟩) kz).trans kf5
        replace k6 := (hb.cell (p := ⟨w.heap.size, 6, none⟩) kz).trans k6
        replace kf6 := (hb.frozen (p := ⟨w.heap.size, 6, none⟩) kz).trans kf6
        replace k7 := (hb.cell (p := ⟨w.heap.size, 7, none⟩) kz).trans k7
        replace kf7 := (hb.frozen (p := ⟨w.heap.size, 7, none⟩) kz).trans kf7
        replace k8 := (hb.cell (p := ⟨w.heap.size, 8, none⟩) kz).trans k8
        replace kf8 := (hb.frozen (p := ⟨w.heap.size, 8, none⟩) kz).trans kf8
        replace kz := Nat.lt_of_lt_of_le kz hb.size
        replace Z19 := Lib.hid (Z19.out.keep (by exact hb))
        replace Q22 := Lib.hid (Q22.out.keep (by exact hb))
        replace HB := Lib.hid (HB.out.trans (hb.mono HB.out.size))
        clear hb
        generalize (v13.alloc (.cells #[.int .u8 7] 5)) = v14 at *
        generalize v13.heap.size = G23 at *
        refine hK.out _ _ ⟨k0, k1, k2, k3, k4, k5, k6, k7, k8⟩ (fun hHeld => ?_)
        clear hK K
        try simp only [Act.put, List.setIfInBounds_toArray, List.set_cons_zero, List.set_cons_succ]
        refine wpAnyH_ready (rs := [25]) (by kernel_rfl) (by simp) ?_
        refine (AllReadyH.cons (o := { dst := some 39, op := Go.Op.call { callee := Go.Callee.value (Go.Operand.func 22), args := #[Go.Operand.tmp 37, Go.Operand.tmp 38], argTypes := #[47, 35] }, type := 47, pos := "law.go:55", after := #[{ on := 23, ground := Go.Ground.data }, { on := 24, ground := Go.Ground.data }, { on := 22, ground := Go.Ground.chain }, { on := 18, ground := Go.Ground.guard }], guard := some (18, true) }) rfl (fun K hK => ?_) AllReadyH.nil)
        go_simp
        go_at_call 22
        refine (HP2.out (some ⟨G23, 0, none⟩) 1 G23 _ Z23.out).mono ?_
        rintro e v15 ⟨A25, c25, rfl, ho, hb⟩
        replace k0 := (hb.cell (p := ⟨w.heap.size, 0, none⟩) kz).trans k0
        replace kf0 := (hb.frozen (p := ⟨w.heap.size, 0, none⟩) kz).trans kf0
        replace k1 := (hb.cell (p := ⟨w.heap.size, 1, none⟩) kz).trans k1
        replace kf1 := (hb.frozen (p := ⟨w.heap.size, 1, none⟩) kz).trans kf1
        replace k2 := (hb.cell (p := ⟨w.heap.size, 2, none⟩) kz).trans k2
        replace kf2 := (hb.frozen (p := ⟨w.heap.size, 2, none⟩) kz).trans kf2
        replace k3 := (hb.cell (p := ⟨w.heap.size, 3, none⟩) kz).trans k3
        replace kf3 := (hb.frozen (p := ⟨w.heap.size, 3, none⟩) kz).trans kf3
        replace k4 := (hb.cell (p := ⟨w.heap.size, 4, none⟩) kz).trans k4
        replace kf4 := (hb.frozen (p := ⟨w.heap.size, 4, none⟩) kz).trans kf4
        replace k5 := (hb.cell (p := ⟨w.heap.size, 5, none⟩) kz).trans k5
        replace kf5 := (hb.frozen (p := ⟨w.heap.size, 5, none⟩) kz).trans kf5
        replace k6 := (hb.cell (p := ⟨w.heap.size, 6, none⟩) kz).trans k6
        replace kf6 := (hb.frozen (p := ⟨w.heap.size, 6, none⟩) kz).trans kf6
        replace k7 := (hb.cell (p := ⟨w.heap.size, 7, none⟩) kz).trans k7
        replace kf7 := (hb.frozen (p := ⟨w.heap.size, 7, none⟩) kz).trans kf7
        replace k8 := (hb.cell (p := ⟨w.heap.size, 8, none⟩) kz).trans k8
        replace kf8 := (hb.frozen (p := ⟨w.heap.size, 8, none⟩) kz).trans kf8
        replace kz := Nat.lt_of_lt_of_le kz hb.size
        replace Z19 := Lib.hid (Z19.out.keep (by exact hb))
        replace Q22 := Lib.hid (Q22.out.keep (by exact hb))
        replace Z23 := Lib.hid (Z23.out.keep (by exact hb))
        obtain ⟨g25, hz, _, _, _⟩ := own_bytes ho
        have Q25 := Lib.hid hz
        clear ho hz
        replace HB := Lib.hid (below_via HB.out hb HB.out.size ⟨rfl, rfl, rfl, rfl⟩)
        clear hb
        refine hK.out _ _ ⟨k0, k1, k2, k3, k4, k5, k6, k7, k8⟩ (fun hHeld => ?_)
        clear hK K
        try simp only [Act.put, List.setIfInBounds_toArray, List.set_cons_zero, List.set_cons_succ]
        refine wpAnyH_ready (rs := [26]) (by kernel_rfl) (by simp) ?_
        refine (AllReadyH.cons (o := { dst := some 40, op := Go.Op.call { callee := Go.Callee.value (Go.Operand.func 20), args := #[Go.Operand.tmp 36, Go.Operand.tmp 39], argTypes := #[47, 47] }, type := 4, pos := "law.go:55", after := #[{ on := 22, ground := Go.Ground.data }, { on := 25, ground := Go.Ground.data }, { on := 25, ground := Go.Ground.chain }, { on := 18, ground := Go.Ground.guard }], guard := some (18, true) }) rfl (fun K hK => ?_) AllReadyH.nil)
        go_simp
        go_at_call 20
        refine (same_any _ _ _ _ _ _ g22 g25 P P _ Q22.out Q25.out).mono ?_
        rw [decide_eq_true rfl]
        rintro e w9 ⟨rfl, rfl⟩
        refine hK.out _ _ ⟨k0, k1, k2, k3, k4, k5, k6, k7, k8⟩ (fun hHeld => ?_)
        clear hK K
        try simp only [Act.put, List.setIfInBounds_toArray, List.set_cons_zero, List.set_cons_succ]
        refine wpAnyH_take (i := 27) (oi := { dst := some 41, op := Go.Op.pick (Go.Operand.tmp 32) (Go.Operand.tmp 40) (Go.Operand.const (Go.Value.bool false)), type := 4, pos := "law.go:55", after := #[{ on := 18, ground := Go.Ground.data }, { on := 26, ground := Go.Ground.data }], guard := none }) (v := ?_) rfl (by kernel_rfl) (by kernel_rfl) (by kernel_rfl) (fun _ _ _ h => h) (Or.inl ⟨rfl, ?_⟩) (by assumption) ?_
        rotate_left
        · intro wz hSw; (try dsimp only at hSw); go_simp; try (with_reducible rfl)
        try simp only [Act.put, List.setIfInBounds_toArray, List.set_cons_zero, List.set_cons_succ]
        refine wpAnyH_take (i := 28) (oi := { dst := some 2, op := Go.Op.assign (Go.Operand.tmp 41), type := 4, pos := "law.go:55", after := #[{ on := 27, ground := Go.Ground.data }, { on := 26, ground := Go.Ground.chain }, { on := 0, ground := Go.Ground.phase }, { on := 1, ground := Go.Ground.phase }, { on := 2, ground := Go.Ground.phase }, { on := 3, ground := Go.Ground.phase }, { on := 4, ground := Go.Ground.phase }, { on := 5, ground := Go.Ground.phase }, { on := 6, ground := Go.Ground.phase }, { on := 7, ground := Go.Ground.phase }, { on := 8, ground := Go.Ground.phase }, { on := 9, ground := Go.Ground.phase }, { on := 10, ground := Go.Ground.phase }, { on := 11, ground := Go.Ground.phase }, { on := 12, ground := Go.Ground.phase }, { on := 13, ground := Go.Ground.phase }, { on := 14, ground := Go.Ground.phase }, { on := 15, ground := Go.Ground.phase }, { on := 16, ground := Go.Ground.phase }, { on := 17, ground := Go.Ground.phase }, { on := 18, ground := Go.Ground.phase }, { on := 19, ground := Go.Ground.phase }, { on := 20, ground := Go.Ground.phase }, { on := 21, ground := Go.Ground.phase }, { on := 22, ground := Go.Ground.phase }, { on := 23, ground := Go.Ground.phase }, { on := 24, ground := Go.Ground.phase }, { on := 25, ground := Go.Ground.phase }, { on := 26, ground := Go.Ground.phase }, { on := 27, ground := Go.Ground.phase }], guard := none }) (v := ?_) rfl (by kernel_rfl) (by kernel_rfl) (by kernel_rfl) (fun _ _ _ h => h) (Or.inl ⟨rfl, ?_⟩) (by assumption) ?_
        rotate_left
        · intro wz hSw; (try dsimp only at hSw); go_simp; try (with_reducible rfl)
        try simp only [Act.put, List.setIfInBounds_toArray, List.set_cons_zero, List.set_cons_succ]
        refine wpAnyH_done (by kernel_rfl) ?_ _
        go_wp2
        go_ret
        exact ⟨rfl, HB.out⟩
      · skip
        go_simp
        have hb : Below v12.heap.size v12 (v12.alloc (.cells #[.int .u8 7] 5)) := (Below.refl _ _).alloc (Nat.le_refl _) _
        have Z23 := Lib.hid (seven (w := v12))
        replace k0 := (hb.cell (p := ⟨w.heap.size, 0, none⟩) kz).trans k0
        replace kf0 := (hb.frozen (p := ⟨w.heap.size, 0, none⟩) kz).trans kf0
        replace k1 := (hb.cell (p := ⟨w.heap.size, 1, none⟩) kz).trans k1
        replace kf1 := (hb.frozen (p := ⟨w.heap.size, 1, none⟩) kz).trans kf1
        replace k2 := (hb.cell (p := ⟨w.heap.size, 2, none⟩) kz).trans k2
        replace kf2 := (hb.frozen (p := ⟨w.heap.size, 2, none⟩) kz).trans kf2
        replace k3 := (hb.cell (p := ⟨w.heap.size, 3, none⟩) kz).trans k3
        replace kf3 := (hb.frozen (p := ⟨w.heap.size, 3, none⟩) kz).trans kf3
        replace k4 := (hb.cell (p := ⟨w.heap.size, 4, none⟩) kz).trans k4
        replace kf4 := (hb.frozen (p := ⟨w.heap.size, 4, none⟩) kz).trans kf4
        replace k5 := (hb.cell (p := ⟨w.heap.size, 5, none⟩) kz).trans k5
        replace kf5 := (hb.frozen (p := ⟨w.heap.size, 5, none⟩) kz).trans kf5
        replace k6 := (hb.cell (p := ⟨w.heap.size, 6, none⟩) kz).trans k6
        replace kf6 := (hb.frozen (p := ⟨w.heap.size, 6, none⟩) kz).trans kf6
        replace k7 := (hb.cell (p := ⟨w.heap.size, 7, none⟩) kz).trans k7
        replace kf7 := (hb.frozen (p := ⟨w.heap.size, 7, none⟩) kz).trans kf7
        replace k8 := (hb.cell (p := ⟨w.heap.size, 8, none⟩) kz).trans k8
        replace kf8 := (hb.frozen (p := ⟨w.heap.size, 8, none⟩) kz).trans kf8
        replace kz := Nat.lt_of_lt_of_le kz hb.size
        replace Z19 := Lib.hid (Z19.out.keep (by exact hb))
        replace HB := Lib.hid (HB.out.trans (hb.mono HB.out.size))
        clear hb
        generalize (v12.alloc (.cells #[.int .u8 7] 5)) = v13 at *
        generalize v12.heap.size = G23 at *
        refine hK.out _ _ ⟨k0, k1, k2, k3, k4, k5, k6, k7, k8⟩ (fun hHeld => ?_)
        clear hK K
        try simp only [Act.put, List.setIfInBounds_toArray, List.set_cons_zero, List.set_cons_succ]
        refine wpAnyH_ready (rs := [22]) (by kernel_rfl) (by simp) ?_
        refine (AllReadyH.cons (o := { dst := some 36, op := Go.Op.call { callee := Go.Callee.value (Go.Operand.func 21), args := #[Go.Operand.tmp 33, Go.Operand.tmp 35], argTypes := #[47, 40] }, type := 47, pos := "law.go:55", after := #[{ on := 19, ground := Go.Ground.data }, { on := 21, ground := Go.Ground.data }, { on := 21, ground := Go.Ground.chain }, { on := 18, ground := Go.Ground.guard }], guard := some (18, true) }) rfl (fun K hK => ?_) AllReadyH.nil)
        go_simp
        go_at_call 21
        refine (HP.out (some ⟨G19, 0, none⟩) 1 G19 _ Z19.out).mono ?_
        rintro e v14 ⟨A22, c22, rfl, ho, hb⟩
        replace k0 := (hb.cell (p := ⟨w.heap.size, 0, none⟩) kz).trans k0
        replace kf0 := (hb.frozen (p := ⟨w.heap.size, 0, none⟩) kz).trans kf0
        replace k1 := (hb.cell (p := ⟨w.heap.size, 1, none⟩) kz).trans k1
        replace kf1 := (hb.frozen (p := ⟨w.heap.size, 1, none⟩) kz).trans kf1
        replace k2 := (hb.cell (p := ⟨w.heap.size, 2, none⟩) kz).trans k2
        replace kf2 := (hb.frozen (p := ⟨w.heap.size, 2, none⟩) kz).trans kf2
        replace k3 := (hb.cell (p := ⟨w.heap.size, 3, none⟩) kz).trans k3
        replace kf3 := (hb.frozen (p := ⟨w.heap.size, 3, none⟩) kz).trans kf3
        replace k4 := (hb.cell (p := ⟨w.heap.size, 4, none⟩) kz).trans k4
        replace kf4 := (hb.frozen (p := ⟨w.heap.size, 4, none⟩) kz).trans kf4
        replace k5 := (hb.cell (p := ⟨w.heap.size, 5, none⟩) kz).trans k5
        replace kf5 := (hb.frozen (p := ⟨w.heap.size, 5, none⟩) kz).trans kf5
        replace k6 := (hb.cell (p := ⟨w.heap.size, 6, none⟩) kz).trans k6
        replace kf6 := (hb.frozen (p := ⟨w.heap.size, 6, none⟩) kz).trans kf6
        replace k7 := (hb.cell (p := ⟨w.heap.size, 7, none⟩) kz).trans k7
        replace kf7 := (hb.frozen (p := ⟨w.heap.size, 7, none⟩) kz).trans kf7
        replace k8 := (hb.cell (p := ⟨w.heap.size, 8, none⟩) kz).trans k8
        replace kf8 := (hb.frozen (p := ⟨w.heap.size, 8, none⟩) kz).trans kf8
        replace kz := Nat.lt_of_lt_of_le kz hb.size
        replace Z19 := Lib.hid (Z19.out.keep (by exact hb))
        replace Z23 := Lib.hid (Z23.out.keep (by exact hb))
        obtain ⟨g22, hz, _, _, _⟩ := own_bytes ho
        have Q22 := Lib.hid hz
        clear ho hz
        replace HB := Lib.hid (below_via HB.out hb HB.out.size ⟨rfl, rfl, rfl, rfl⟩)
        clear hb
        refine hK.out _ _ ⟨k0, k1, k2, k3, k4, k5, k6, k7, k8⟩ (fun hHeld => ?_)
        clear hK K
        try simp only [Act.put, List.setIfInBounds_toArray, List.set_cons_zero, List.set_cons_succ]
        refine wpAnyH_ready (rs := [25]) (by kernel_rfl) (by simp) ?_
        refine (AllReadyH.cons (o := { dst := some 39, op := Go.Op.call { callee := Go.Callee.value (Go.Operand.func 22), args := #[Go.Operand.tmp 37, Go.Operand.tmp 38], argTypes := #[47, 35] }, type := 47, pos := "law.go:55", after := #[{ on := 23, ground := Go.Ground.data }, { on := 24, ground := Go.Ground.data }, { on := 22, ground := Go.Ground.chain }, { on := 18, ground := Go.Ground.guard }], guard := some (18, true) }) rfl (fun K hK => ?_) AllReadyH.nil)
        go_simp
        go_at_call 22
        refine (HP2.out (some ⟨G23, 0, none⟩) 1 G23 _ Z23.out).mono ?_
        rintro e v15 ⟨A25, c25, rfl, ho, hb⟩
        replace k0 := (hb.cell (p := ⟨w.heap.size, 0, none⟩) kz).trans k0
        replace kf0 := (hb.frozen (p := ⟨w.heap.size, 0, none⟩) kz).trans kf0
        replace k1 := (hb.cell (p := ⟨w.heap.size, 1, none⟩) kz).trans k1
        replace kf1 := (hb.frozen (p := ⟨w.heap.size, 1, none⟩) kz).trans kf1
        replace k2 := (hb.cell (p := ⟨w.heap.size, 2, none⟩) kz).trans k2
        replace kf2 := (hb.frozen (p := ⟨w.heap.size, 2, none⟩) kz).trans kf2
        replace k3 := (hb.cell (p := ⟨w.heap.size, 3, none⟩) kz).trans k3
        replace kf3 := (hb.frozen (p := ⟨w.heap.size, 3, none⟩) kz).trans kf3
        replace k4 := (hb.cell (p := ⟨w.heap.size, 4, none⟩) kz).trans k4
        replace kf4 := (hb.frozen (p := ⟨w.heap.size, 4, none⟩) kz).trans kf4
        replace k5 := (hb.cell (p := ⟨w.heap.size, 5, none⟩) kz).trans k5
        replace kf5 := (hb.frozen (p := ⟨w.heap.size, 5, none⟩) kz).trans kf5
        replace k6 := (hb.cell (p := ⟨w.heap.size, 6, none⟩) kz).trans k6
        replace kf6 := (hb.frozen (p := ⟨w.heap.size, 6, none⟩) kz).trans kf6
        replace k7 := (hb.cell (p := ⟨w.heap.size, 7, none⟩) kz).trans k7
        replace kf7 := (hb.frozen (p := ⟨w.heap.size, 7, none⟩) kz).trans kf7
        replace k8 := (hb.cell (p := ⟨w.heap.size, 8, none⟩) kz).trans k8
        replace kf8 := (hb.frozen (p := ⟨w.heap.size, 8, none⟩) kz).trans kf8
        replace kz := Nat.lt_of_lt_of_le kz hb.size
        replace Z19 := Lib.hid (Z19.out.keep (by exact hb))
        replace Z23 := Lib.hid (Z23.out.keep (by exact hb))
        replace Q22 := Lib.hid (Q22.out.keep (by exact hb))
        obtain ⟨g25, hz, _, _, _⟩ := own_bytes ho
        have Q25 := Lib.hid hz
        clear ho hz
        replace HB := Lib.hid (below_via HB.out hb HB.out.size ⟨rfl, rfl, rfl, rfl⟩)
        clear hb
        refine hK.out _ _ ⟨k0, k1, k2, k3, k4, k5, k6, k7, k8⟩ (fun hHeld => ?_)
        clear hK K
        try simp only [Act.put, List.setIfInBounds_toArray, List.set_cons_zero, List.set_cons_succ]
        refine wpAnyH_ready (rs := [26]) (by kernel_rfl) (by simp) ?_
        refine (AllReadyH.cons (o := { dst := some 40, op := Go.Op.call { callee := Go.Callee.value (Go.Operand.func 20), args := #[Go.Operand.tmp 36, Go.Operand.tmp 39], argTypes := #[47, 47] }, type := 4, pos := "law.go:55", after := #[{ on := 22, ground := Go.Ground.data }, { on := 25, ground := Go.Ground.data }, { on := 25, ground := Go.Ground.chain }, { on := 18, ground := Go.Ground.guard }], guard := some (18, true) }) rfl (fun K hK => ?_) AllReadyH.nil)
        go_simp
        go_at_call 20
        refine (same_any _ _ _ _ _ _ g22 g25 P P _ Q22.out Q25.out).mono ?_
        rw [decide_eq_true rfl]
        rintro e w9 ⟨rfl, rfl⟩
        refine hK.out _ _ ⟨k0, k1, k2, k3, k4, k5, k6, k7, k8⟩ (fun hHeld => ?_)
        clear hK K
        try simp only [Act.put, List.setIfInBounds_toArray, List.set_cons_zero, List.set_cons_succ]
        refine wpAnyH_take (i := 27) (oi := { dst := some 41, op := Go.Op.pick (Go.Operand.tmp 32) (Go.Operand.tmp 40) (Go.Operand.const (Go.Value.bool false)), type := 4, pos := "law.go:55", after := #[{ on := 18, ground := Go.Ground.data }, { on := 26, ground := Go.Ground.data }], guard := none }) (v := ?_) rfl (by kernel_rfl) (by kernel_rfl) (by kernel_rfl) (fun _ _ _ h => h) (Or.inl ⟨rfl, ?_⟩) (by assumption) ?_
        rotate_left
        · intro wz hSw; (try dsimp only at hSw); go_simp; try (with_reducible rfl)
        try simp only [Act.put, List.setIfInBounds_toArray, List.set_cons_zero, List.set_cons_succ]
        refine wpAnyH_take (i := 28) (oi := { dst := some 2, op := Go.Op.assign (Go.Operand.tmp 41), type := 4, pos := "law.go:55", after := #[{ on := 27, ground := Go.Ground.data }, { on := 26, ground := Go.Ground.chain }, { on := 0, ground := Go.Ground.phase }, { on := 1, ground := Go.Ground.phase }, { on := 2, ground := Go.Ground.phase }, { on := 3, ground := Go.Ground.phase }, { on := 4, ground := Go.Ground.phase }, { on := 5, ground := Go.Ground.phase }, { on := 6, ground := Go.Ground.phase }, { on := 7, ground := Go.Ground.phase }, { on := 8, ground := Go.Ground.phase }, { on := 9, ground := Go.Ground.phase }, { on := 10, ground := Go.Ground.phase }, { on := 11, ground := Go.Ground.phase }, { on := 12, ground := Go.Ground.phase }, { on := 13, ground := Go.Ground.phase }, { on := 14, ground := Go.Ground.phase }, { on := 15, ground := Go.Ground.phase }, { on := 16, ground := Go.Ground.phase }, { on := 17, ground := Go.Ground.phase }, { on := 18, ground := Go.Ground.phase }, { on := 19, ground := Go.Ground.phase }, { on := 20, ground := Go.Ground.phase }, { on := 21, ground := Go.Ground.phase }, { on := 22, ground := Go.Ground.phase }, { on := 23, ground := Go.Ground.phase }, { on := 24, ground := Go.Ground.phase }, { on := 25, ground := Go.Ground.phase }, { on := 26, ground := Go.Ground.phase }, { on := 27, ground := Go.Ground.phase }], guard := none }) (v := ?_) rfl (by kernel_rfl) (by kernel_rfl) (by kernel_rfl) (fun _ _ _ h => h) (Or.inl ⟨rfl, ?_⟩) (by assumption) ?_
        rotate_left
        · intro wz hSw; (try dsimp only at hSw); go_simp; try (with_reducible rfl)
        try simp only [Act.put, List.setIfInBounds_toArray, List.set_cons_zero, List.set_cons_succ]
        refine wpAnyH_done (by kernel_rfl) ?_ _
        go_wp2
        go_ret
        exact ⟨rfl, HB.out⟩
    · skip
      go_simp
      have hb : Below v11.heap.size v11 (v11.alloc (.cells #[.int .u8 7] 5)) := (Below.refl _ _).alloc (Nat.le_refl _) _
      have Z23 := Lib.hid (seven (w := v11))
      replace k0 := (hb.cell (p := ⟨w.heap.size, 0, none⟩) kz).trans k0
      replace kf0 := (hb.frozen (p := ⟨w.heap.size, 0, none⟩) kz).trans kf0
      replace k1 := (hb.cell (p := ⟨w.heap.size, 1, none⟩) kz).trans k1
      replace kf1 := (hb.frozen (p := ⟨w.heap.size, 1, none⟩) kz).trans kf1
      replace k2 := (hb.cell (p := ⟨w.heap.size, 2, none⟩) kz).trans k2
      replace kf2 := (hb.frozen (p := ⟨w.heap.size, 2, none⟩) kz).trans kf2
      replace k3 := (hb.cell (p := ⟨w.heap.size, 3, none⟩) kz).trans k3
      replace kf3 := (hb.frozen (p := ⟨w.heap.size, 3, none⟩) kz).trans kf3
      replace k4 := (hb.cell (p := ⟨w.heap.size, 4, none⟩) kz).trans k4
      replace kf4 := (hb.frozen (p := ⟨w.heap.size, 4, none⟩) kz).trans kf4
      replace k5 := (hb.cell (p := ⟨w.heap.size, 5, none⟩) kz).trans k5
      replace kf5 := (hb.frozen (p := ⟨w.heap.size, 5, none⟩) kz).trans kf5
      replace k6 := (hb.cell (p := ⟨w.heap.size, 6, none⟩) kz).trans k6
      replace kf6 := (hb.frozen (p := ⟨w.heap.size, 6, none⟩) kz).trans kf6
      replace k7 := (hb.cell (p := ⟨w.heap.size, 7, none⟩) kz).trans k7
      replace kf7 := (hb.frozen (p := ⟨w.heap.size, 7, none⟩) kz).trans kf7
      replace k8 := (hb.cell (p := ⟨w.heap.size, 8, none⟩) kz).trans k8
      replace kf8 := (hb.frozen (p := ⟨w.heap.size, 8, none⟩) kz).trans kf8
      replace kz := Nat.lt_of_lt_of_le kz hb.size
      replace Z19 := Lib.hid (Z19.out.keep (by exact hb))
      replace HB := Lib.hid (HB.out.trans (hb.mono HB.out.size))
      clear hb
      generalize (v11.alloc (.cells #[.int .u8 7] 5)) = v12 at *
      generalize v11.heap.size = G23 at *
      refine hK.out _ _ ⟨k0, k1, k2, k3, k4, k5, k6, k7, k8⟩ (fun hHeld => ?_)
      clear hK K
      try simp only [Act.put, List.setIfInBounds_toArray, List.set_cons_zero, List.set_cons_succ]
      refine wpAnyH_ready (rs := [21]) (by kernel_rfl) (by simp) ?_
      refine (AllReadyH.cons (o := { dst := some 35, op := Go.Op.call { callee := Go.Callee.value (Go.Operand.func 15), args := #[Go.Operand.tmp 34], argTypes := #[35] }, type := 40, pos := "law.go:55", after := #[{ on := 20, ground := Go.Ground.data }, { on := 18, ground := Go.Ground.chain }, { on := 18, ground := Go.Ground.guard }], guard := some (18, true) }) rfl (fun K hK => ?_) AllReadyH.nil)
      go_simp
      go_at_call 15
      refine (HT.out _).mono ?_
      rintro e v13 ⟨rfl, hb⟩
      replace k0 := (hb.cell (p := ⟨w.heap.size, 0, none⟩) kz).trans k0
      replace kf0 := (hb.frozen (p := ⟨w.heap.size, 0, none⟩) kz).trans kf0
      replace k1 := (hb.cell (p := ⟨w.heap.size, 1, none⟩) kz).trans k1
      replace kf1 := (hb.frozen (p := ⟨w.heap.size, 1, none⟩) kz).trans kf1
      replace k2 := (hb.cell (p := ⟨w.heap.size, 2, none⟩) kz).trans k2
      replace kf2 := (hb.frozen (p := ⟨w.heap.size, 2, none⟩) kz).trans kf2
      replace k3 := (hb.cell (p := ⟨w.heap.size, 3, none⟩) kz).trans k3
      replace kf3 := (hb.frozen (p := ⟨w.heap.size, 3, none⟩) kz).trans kf3
      replace k4 := (hb.cell (p := ⟨w.heap.size, 4, none⟩) kz).trans k4
      replace kf4 := (hb.frozen (p := ⟨w.heap.size, 4, none⟩) kz).trans kf4
      replace k5 := (hb.cell (p := ⟨w.heap.size, 5, none⟩) kz).trans k5
      replace kf5 := (hb.frozen (p := ⟨w.heap.size, 5, none⟩) kz).trans kf5
      replace k6 := (hb.cell (p := ⟨w.heap.size, 6, none⟩) kz).trans k6
      replace kf6 := (hb.frozen (p := ⟨w.heap.size, 6, none⟩) kz).trans kf6
      replace k7 := (hb.cell (p := ⟨w.heap.size, 7, none⟩) kz).trans k7
      replace kf7 := (hb.frozen (p := ⟨w.heap.size, 7, none⟩) kz).trans kf7
      replace k8 := (hb.cell (p := ⟨w.heap.size, 8, none⟩) kz).trans k8
      replace kf8 := (hb.frozen (p := ⟨w.heap.size, 8, none⟩) kz).trans kf8
      replace kz := Nat.lt_of_lt_of_le kz hb.size
      replace Z19 := Lib.hid (Z19.out.keep (by exact hb))
      replace Z23 := Lib.hid (Z23.out.keep (by exact hb))
      replace HB := Lib.hid (below_via HB.out hb HB.out.size ⟨rfl, rfl, rfl, rfl⟩)
      clear hb
      refine hK.out _ _ ⟨k0, k1, k2, k3, k4, k5, k6, k7, k8⟩ (fun hHeld => ?_)
      clear hK K
      try simp only [Act.put, List.setIfInBounds_toArray, List.set_cons_zero, List.set_cons_succ]
      refine wpAnyH_ready (rs := [22]) (by kernel_rfl) (by simp) ?_
      refine (AllReadyH.cons (o := { dst := some 36, op := Go.Op.call { callee := Go.Callee.value (Go.Operand.func 21), args := #[Go.Operand.tmp 33, Go.Operand.tmp 35], argTypes := #[47, 40] }, type := 47, pos := "law.go:55", after := #[{ on := 19, ground := Go.Ground.data }, { on := 21, ground := Go.Ground.data }, { on := 21, ground := Go.Ground.chain }, { on := 18, ground := Go.Ground.guard }], guard := some (18, true) }) rfl (fun K hK => ?_) AllReadyH.nil)
      go_simp
      go_at_call 21
      refine (HP.out (some ⟨G19, 0, none⟩) 1 G19 _ Z19.out).mono ?_
      rintro e v14 ⟨A22, c22, rfl, ho, hb⟩
      replace k0 := (hb.cell (p := ⟨w.heap.size, 0, none⟩) kz).trans k0
      replace kf0 := (hb.frozen (p := ⟨w.heap.size, 0, none⟩) kz).trans kf0
      replace k1 := (hb.cell (p := ⟨w.heap.size, 1, none⟩) kz).trans k1
      replace kf1 := (hb.frozen (p := ⟨w.heap.size, 1, none⟩) kz).trans kf1
      replace k2 := (hb.cell (p := ⟨w.heap.size, 2, none⟩) kz).trans k2
      replace kf2 := (hb.frozen (p := ⟨w.heap.size, 2, none⟩) kz).trans kf2
      replace k3 := (hb.cell (p := ⟨w.heap.size, 3, none⟩) kz).trans k3
      replace kf3 := (hb.frozen (p := ⟨w.heap.size, 3, none⟩) kz).trans kf3
      replace k4 := (hb.cell (p := ⟨w.heap.size, 4, none⟩) kz).trans k4
      replace kf4 := (hb.frozen (p := ⟨w.heap.size, 4, none⟩) kz).trans kf4
      replace k5 := (hb.cell (p := ⟨w.heap.size, 5, none⟩) kz).trans k5
      replace kf5 := (hb.frozen (p := ⟨w.heap.size, 5, none⟩) kz).trans kf5
      replace k6 := (hb.cell (p := ⟨w.heap.size, 6, none⟩) kz).trans k6
      replace kf6 := (hb.frozen (p := ⟨w.heap.size, 6, none⟩) kz).trans kf6
      replace k7 := (hb.cell (p := ⟨w.heap.size, 7, none⟩) kz).trans k7
      replace kf7 := (hb.frozen (p := ⟨w.heap.size, 7, none⟩) kz).trans kf7
      replace k8 := (hb.cell (p := ⟨w.heap.size, 8, none⟩) kz).trans k8
      replace kf8 := (hb.frozen (p := ⟨w.heap.size, 8, none⟩) kz).trans kf8
      replace kz := Nat.lt_of_lt_of_le kz hb.size
      replace Z19 := Lib.hid (Z19.out.keep (by exact hb))
      replace Z23 := Lib.hid (Z23.out.keep (by exact hb))
      obtain ⟨g22, hz, _, _, _⟩ := own_bytes ho
      have Q22 := Lib.hid hz
      clear ho hz
      replace HB := Lib.hid (below_via HB.out hb HB.out.size ⟨rfl, rfl, rfl, rfl⟩)
      clear hb
      refine hK.out _ _ ⟨k0, k1, k2, k3, k4, k5, k6, k7, k8⟩ (fun hHeld => ?_)
      clear hK K
      try simp only [Act.put, List.setIfInBounds_toArray, List.set_cons_zero, List.set_cons_succ]
      refine wpAnyH_ready (rs := [25]) (by kernel_rfl) (by simp) ?_
      refine (AllReadyH.cons (o := { dst := some 39, op := Go.Op.call { callee := Go.Callee.value (Go.Operand.func 22), args := #[Go.Operand.tmp 37, Go.Operand.tmp 38], argTypes := #[47, 35] }, type := 47, pos := "law.go:55", after := #[{ on := 23, ground := Go.Ground.data }, { on := 24, ground := Go.Ground.data }, { on := 22, ground := Go.Ground.chain }, { on := 18, ground := Go.Ground.guard }], guard := some (18, true) }) rfl (fun K hK => ?_) AllReadyH.nil)
      go_simp
      go_at_call 22
      refine (HP2.out (some ⟨G23, 0, none⟩) 1 G23 _ Z23.out).mono ?_
      rintro e v15 ⟨A25, c25, rfl, ho, hb⟩
      replace k0 := (hb.cell (p := ⟨w.heap.size, 0, none⟩) kz).trans k0
      replace kf0 := (hb.frozen (p := ⟨w.heap.size, 0, none⟩) kz).trans kf0
      replace k1 := (hb.cell (p := ⟨w.heap.size, 1, none⟩) kz).trans k1
      replace kf1 := (hb.frozen (p := ⟨w.heap.size, 1, none⟩) kz).trans kf1
      replace k2 := (hb.cell (p := ⟨w.heap.size, 2, none⟩) kz).trans k2
      replace kf2 := (hb.frozen (p := ⟨w.heap.size, 2, none⟩) kz).trans kf2
      replace k3 := (hb.cell (p := ⟨w.heap.size, 3, none⟩) kz).trans k3
      replace kf3 := (hb.frozen (p := ⟨w.heap.size, 3, none⟩) kz).trans kf3
      replace k4 := (hb.cell (p := ⟨w.heap.size, 4, none⟩) kz).trans k4
      replace kf4 := (hb.frozen (p := ⟨w.heap.size, 4, none⟩) kz).trans kf4
      replace k5 := (hb.cell (p := ⟨w.heap.size, 5, none⟩) kz).trans k5
      replace kf5 := (hb.frozen (p := ⟨w.heap.size, 5, none⟩) kz).trans kf5
      replace k6 := (hb.cell (p := ⟨w.heap.size, 6, none⟩) kz).trans k6
      replace kf6 := (hb.frozen (p := ⟨w.heap.size, 6, none⟩) kz).trans kf6
      replace k7 := (hb.cell (p := ⟨w.heap.size, 7, none⟩) kz).trans k7
      replace kf7 := (hb.frozen (p := ⟨w.heap.size, 7, none⟩) kz).trans kf7
      replace k8 := (hb.cell (p := ⟨w.heap.size, 8, none⟩) kz).trans k8
      replace kf8 := (hb.frozen (p := ⟨w.heap.size, 8, none⟩) kz).trans kf8
      replace kz := Nat.lt_of_lt_of_le kz hb.size
      replace Z19 := Lib.hid (Z19.out.keep (by exact hb))
      replace Z23 := Lib.hid (Z23.out.keep (by exact hb))
      replace Q22 := Lib.hid (Q22.out.keep (by exact hb))
      obtain ⟨g25, hz, _, _, _⟩ := own_bytes ho
      have Q25 := Lib.hid hz
      clear ho hz
      replace HB := Lib.hid (below_via HB.out hb HB.out.size ⟨rfl, rfl, rfl, rfl⟩)
      clear hb
      refine hK.out _ _ ⟨k0, k1, k2, k3, k4, k5, k6, k7, k8⟩ (fun hHeld => ?_)
      clear hK K
      try simp only [Act.put, List.setIfInBounds_toArray, List.set_cons_zero, List.set_cons_succ]
      refine wpAnyH_ready (rs := [26]) (by kernel_rfl) (by simp) ?_
      refine (AllReadyH.cons (o := { dst := some 40, op := Go.Op.call { callee := Go.Callee.value (Go.Operand.func 20), args := #[Go.Operand.tmp 36, Go.Operand.tmp 39], argTypes := #[47, 47] }, type := 4, pos := "law.go:55", after := #[{ on := 22, ground := Go.Ground.data }, { on := 25, ground := Go.Ground.data }, { on := 25, ground := Go.Ground.chain }, { on := 18, ground := Go.Ground.guard }], guard := some (18, true) }) rfl (fun K hK => ?_) AllReadyH.nil)
      go_simp
      go_at_call 20
      refine (same_any _ _ _ _ _ _ g22 g25 P P _ Q22.out Q25.out).mono ?_
      rw [decide_eq_true rfl]
      rintro e w9 ⟨rfl, rfl⟩
      refine hK.out _ _ ⟨k0, k1, k2, k3, k4, k5, k6, k7, k8⟩ (fun hHeld => ?_)
      clear hK K
      try simp only [Act.put, List.setIfInBounds_toArray, List.set_cons_zero, List.set_cons_succ]
      refine wpAnyH_take (i := 27) (oi := { dst := some 41, op := Go.Op.pick (Go.Operand.tmp 32) (Go.Operand.tmp 40) (Go.Operand.const (Go.Value.bool false)), type := 4, pos := "law.go:55", after := #[{ on := 18, ground := Go.Ground.data }, { on := 26, ground := Go.Ground.data }], guard := none }) (v := ?_) rfl (by kernel_rfl) (by kernel_rfl) (by kernel_rfl) (fun _ _ _ h => h) (Or.inl ⟨rfl, ?_⟩) (by assumption) ?_
      rotate_left
      · intro wz hSw; (try dsimp only at hSw); go_simp; try (with_reducible rfl)
      try simp only [Act.put, List.setIfInBounds_toArray, List.set_cons_zero, List.set_cons_succ]
      refine wpAnyH_take (i := 28) (oi := { dst := some 2, op := Go.Op.assign (Go.Operand.tmp 41), type := 4, pos := "law.go:55", after := #[{ on := 27, ground := Go.Ground.data }, { on := 26, ground := Go.Ground.chain }, { on := 0, ground := Go.Ground.phase }, { on := 1, ground := Go.Ground.phase }, { on := 2, ground := Go.Ground.phase }, { on := 3, ground := Go.Ground.phase }, { on := 4, ground := Go.Ground.phase }, { on := 5, ground := Go.Ground.phase }, { on := 6, ground := Go.Ground.phase }, { on := 7, ground := Go.Ground.phase }, { on := 8, ground := Go.Ground.phase }, { on := 9, ground := Go.Ground.phase }, { on := 10, ground := Go.Ground.phase }, { on := 11, ground := Go.Ground.phase }, { on := 12, ground := Go.Ground.phase }, { on := 13, ground := Go.Ground.phase }, { on := 14, ground := Go.Ground.phase }, { on := 15, ground := Go.Ground.phase }, { on := 16, ground := Go.Ground.phase }, { on := 17, ground := Go.Ground.phase }, { on := 18, ground := Go.Ground.phase }, { on := 19, ground := Go.Ground.phase }, { on := 20, ground := Go.Ground.phase }, { on := 21, ground := Go.Ground.phase }, { on := 22, ground := Go.Ground.phase }, { on := 23, ground := Go.Ground.phase }, { on := 24, ground := Go.Ground.phase }, { on := 25, ground := Go.Ground.phase }, { on := 26, ground := Go.Ground.phase }, { on := 27, ground := Go.Ground.phase }], guard := none }) (v := ?_) rfl (by kernel_rfl) (by kernel_rfl) (by kernel_rfl) (fun _ _ _ h => h) (Or.inl ⟨rfl, ?_⟩) (by assumption) ?_
      rotate_left
      · intro wz hSw; (try dsimp only at hSw); go_simp; try (with_reducible rfl)
      try simp only [Act.put, List.setIfInBounds_toArray, List.set_cons_zero, List.set_cons_succ]
      refine wpAnyH_done (by kernel_rfl) ?_ _
      go_wp2
      go_ret
      exact ⟨rfl, HB.out⟩
  · skip
    go_simp
    go_at_call 15
    refine (HT.out _).mono ?_
    rintro e v11 ⟨rfl, hb⟩
    replace k0 := (hb.cell (p := ⟨w.heap.size, 0, none⟩) kz).trans k0
    replace kf0 := (hb.frozen (p := ⟨w.heap.size, 0, none⟩) kz).trans kf0
    replace k1 := (hb.cell (p := ⟨w.heap.size, 1, none⟩) kz).trans k1
    replace kf1 := (hb.frozen (p := ⟨w.heap.size, 1, none⟩) kz).trans kf1
    replace k2 := (hb.cell (p := ⟨w.heap.size, 2, none⟩) kz).trans k2
    replace kf2 := (hb.frozen (p := ⟨w.heap.size, 2, none⟩) kz).trans kf2
    replace k3 := (hb.cell (p := ⟨w.heap.size, 3, none⟩) kz).trans k3
    replace kf3 := (hb.frozen (p := ⟨w.heap.size, 3, none⟩) kz).trans kf3
    replace k4 := (hb.cell (p := ⟨w.heap.size, 4, none⟩) kz).trans k4
    replace kf4 := (hb.frozen (p := ⟨w.heap.size, 4, none⟩) kz).trans kf4
    replace k5 := (hb.cell (p := ⟨w.heap.size, 5, none⟩) kz).trans k5
    replace kf5 := (hb.frozen (p := ⟨w.heap.size, 5, none⟩) kz).trans kf5
    replace k6 := (hb.cell (p := ⟨w.heap.size, 6, none⟩) kz).trans k6
    replace kf6 := (hb.frozen (p := ⟨w.heap.size, 6, none⟩) kz).trans kf6
    replace k7 := (hb.cell (p := ⟨w.heap.size, 7, none⟩) kz).trans k7
    replace kf7 := (hb.frozen (p := ⟨w.heap.size, 7, none⟩) kz).trans kf7
    replace k8 := (hb.cell (p := ⟨w.heap.size, 8, none⟩) kz).trans k8
    replace kf8 := (hb.frozen (p := ⟨w.heap.size, 8, none⟩) kz).trans kf8
    replace kz := Nat.lt_of_lt_of_le kz hb.size
    replace HB := Lib.hid (below_via HB.out hb HB.out.size ⟨rfl, rfl, rfl, rfl⟩)
    clear hb
    refine hK.out _ _ ⟨k0, k1, k2, k3, k4, k5, k6, k7, k8⟩ (fun hHeld => ?_)
    clear hK K
    try simp only [Act.put, List.setIfInBounds_toArray, List.set_cons_zero, List.set_cons_succ]
    refine wpAnyH_ready (rs := [19, 23]) (by kernel_rfl) (by simp) ?_
    refine (AllReadyH.cons (o := { dst := some 33, op := Go.Op.buildSlice 47 1 #[(0, Go.Operand.const (Go.Value.int Go.IntKind.u8 7))], type := 47, pos := "law.go:55", after := #[{ on := 18, ground := Go.Ground.guard }], guard := some (18, true) }) rfl (fun K hK => ?_) (AllReadyH.cons (o := { dst := some 37, op := Go.Op.buildSlice 47 1 #[(0, Go.Operand.const (Go.Value.int Go.IntKind.u8 7))], type := 47, pos := "law.go:55", after := #[{ on := 18, ground := Go.Ground.guard }], guard := some (18, true) }) rfl (fun K hK => ?_) AllReadyH.nil))
    · skip
      go_simp
      have hb : Below v11.heap.size v11 (v11.alloc (.cells #[.int .u8 7] 5)) := (Below.refl _ _).alloc (Nat.le_refl _) _
      have Z19 := Lib.hid (seven (w := v11))
      replace k0 := (hb.cell (p := ⟨w.heap.size, 0, none⟩) kz).trans k0
      replace kf0 := (hb.frozen (p := ⟨w.heap.size, 0, none⟩) kz).trans kf0
      replace k1 := (hb.cell (p := ⟨w.heap.size, 1, none⟩) kz).trans k1
      replace kf1 := (hb.frozen (p := ⟨w.heap.size, 1, none⟩) kz).trans kf1
      replace k2 := (hb.cell (p := ⟨w.heap.size, 2, none⟩) kz).trans k2
      replace kf2 := (hb.frozen (p := ⟨w.heap.size, 2, none⟩) kz).trans kf2
      replace k3 := (hb.cell (p := ⟨w.heap.size, 3, none⟩) kz).trans k3
      replace kf3 := (hb.frozen (p := ⟨w.heap.size, 3, none⟩) kz).trans kf3
      replace k4 := (hb.cell (p := ⟨w.heap.size, 4, none⟩) kz).trans k4
      replace kf4 := (hb.frozen (p := ⟨w.heap.size, 4, none⟩) kz).trans kf4
      replace k5 := (hb.cell (p := ⟨w.heap.size, 5, none⟩) kz).trans k5
      replace kf5 := (hb.frozen (p := ⟨w.heap.size, 5, none⟩) kz).trans kf5
      replace k6 := (hb.cell (p := ⟨w.heap.size, 6, none⟩) kz).trans k6
      replace kf6 := (hb.frozen (p := ⟨w.heap.size, 6, none⟩) kz).trans kf6
      replace k7 := (hb.cell (p := ⟨w.heap.size, 7, none⟩) kz).trans k7
      replace kf7 := (hb.frozen (p := ⟨w.heap.size, 7, none⟩) kz).trans kf7
      replace k8 := (hb.cell (p := ⟨w.heap.size, 8, none⟩) kz).trans k8
      replace kf8 := (hb.frozen (p := ⟨w.heap.size, 8, none⟩) kz).trans kf8
      replace kz := Nat.lt_of_lt_of_le kz hb.size
      replace HB := Lib.hid (HB.out.trans (hb.mono HB.out.size))
      clear hb
      generalize (v11.alloc (.cells #[.int .u8 7] 5)) = v12 at *
      generalize v11.heap.size = G19 at *
      refine hK.out _ _ ⟨k0, k1, k2, k3, k4, k5, k6, k7, k8⟩ (fun hHeld => ?_)
      clear hK K
      try simp only [Act.put, List.setIfInBounds_toArray, List.set_cons_zero, List.set_cons_succ]
      refine wpAnyH_ready (rs := [22, 23]) (by kernel_rfl) (by simp) ?_
      refine (AllReadyH.cons (o := { dst := some 36, op := Go.Op.call { callee := Go.Callee.value (Go.Operand.func 21), args := #[Go.Operand.tmp 33, Go.Operand.tmp 35], argTypes := #[47, 40] }, type := 47, pos := "law.go:55", after := #[{ on := 19, ground := Go.Ground.data }, { on := 21, ground := Go.Ground.data }, { on := 21, ground := Go.Ground.chain }, { on := 18, ground := Go.Ground.guard }], guard := some (18, true) }) rfl (fun K hK => ?_) (AllReadyH.cons (o := { dst := some 37, op := Go.Op.buildSlice 47 1 #[(0, Go.Operand.const (Go.Value.int Go.IntKind.u8 7))], type := 47, pos := "law.go:55", after := #[{ on := 18, ground := Go.Ground.guard }], guard := some (18, true) }) rfl (fun K hK => ?_) AllReadyH.nil))
      · skip
        go_simp
        go_at_call 21
        refine (HP.out (some ⟨G19, 0, none⟩) 1 G19 _ Z19.out).mono ?_
        rintro e v13 ⟨A22, c22, rfl, ho, hb⟩
        replace k0 := (hb.cell (p := ⟨w.heap.size, 0, none⟩) kz).trans k0
        replace kf0 := (hb.frozen (p := ⟨w.heap.size, 0, none⟩) kz).trans kf0
        replace k1 := (hb.cell (p := ⟨w.heap.size, 1, none⟩) kz).trans k1
        replace kf1 := (hb.frozen (p := ⟨w.heap.size, 1, none⟩) kz).trans kf1
        replace k2 := (hb.cell (p := ⟨w.heap.size, 2, none⟩) kz).trans k2
        replace kf2 := (hb.frozen (p := ⟨w.heap.size, 2, none⟩) kz).trans kf2
        replace k3 := (hb.cell (p := ⟨w.heap.size, 3, none⟩) kz).trans k3
        replace kf3 := (hb.frozen (p := ⟨w.heap.size, 3, none⟩) kz).trans kf3
        replace k4 := (hb.cell (p := ⟨w.heap.size, 4, none⟩) kz).trans k4
        replace kf4 := (hb.frozen (p := ⟨w.heap.size, 4, none⟩) kz).trans kf4
        replace k5 := (hb.cell (p := ⟨w.heap.size, 5, none⟩) kz).trans k5
        replace kf5 := (hb.frozen (p := ⟨w.heap.size, 5, none⟩) kz).trans kf5
        replace k6 := (hb.cell (p := ⟨w.heap.size, 6, none⟩) kz).trans k6
        replace kf6 := (hb.frozen (p := ⟨w.heap.size, 6, none⟩) kz).trans kf6
        replace k7 := (hb.cell (p := ⟨w.heap.size, 7, none⟩) kz).trans k7
        replace kf7 := (hb.frozen (p := ⟨w.heap.size, 7, none⟩) kz).trans kf7
        replace k8 := (hb.cell (p := ⟨w.heap.size, 8, none⟩) kz).trans k8
        replace kf8 := (hb.frozen (p := ⟨w.heap.size, 8, none⟩) kz).trans kf8
        replace kz := Nat.lt_of_lt_of_le kz hb.size
        replace Z19 := Lib.hid (Z19.out.keep (by exact hb))
        obtain ⟨g22, hz, _, _, _⟩ := own_bytes ho
        have Q22 := Lib.hid hz
        clear ho hz
        replace HB := Lib.hid (below_via HB.out hb HB.out.size ⟨rfl, rfl, rfl, rfl⟩)
        clear hb
        refine hK.out _ _ ⟨k0, k1, k2, k3, k4, k5, k6, k7, k8⟩ (fun hHeld => ?_)
        clear hK K
        try simp only [Act.put, List.setIfInBounds_toArray, List.set_cons_zero, List.set_cons_succ]
        refine wpAnyH_ready (rs := [23]) (by kernel_rfl) (by simp) ?_
        refine (AllReadyH.cons (o := { dst := some 37, op := Go.Op.buildSlice 47 1 #[(0, Go.Operand.const (Go.Value.int Go.IntKind.u8 7))], type := 47, pos := "law.go:55", after := #[{ on := 18, ground := Go.Ground.guard }], guard := some (18, true) }) rfl (fun K hK => ?_) AllReadyH.nil)
        go_simp
        have hb : Below v13.heap.size v13 (v13.alloc (.cells #[.int .u8 7] 5)) := (Below.refl _ _).alloc (Nat.le_refl _) _
        have Z23 := Lib.hid (seven (w := v13))
        replace k0 := (hb.cell (p := ⟨w.heap.size, 0, none⟩) kz).trans k0
        replace kf0 := (hb.frozen (p := ⟨w.heap.size, 0, none⟩) kz).trans kf0
        replace k1 := (hb.cell (p := ⟨w.heap.size, 1, none⟩) kz).trans k1
        replace kf1 := (hb.frozen (p := ⟨w.heap.size, 1, none⟩) kz).trans kf1
        replace k2 := (hb.cell (p := ⟨w.heap.size, 2, none⟩) kz).trans k2
        replace kf2 := (hb.frozen (p := ⟨w.heap.size, 2, none⟩) kz).trans kf2
        replace k3 := (hb.cell (p := ⟨w.heap.size, 3, none⟩) kz).trans k3
        replace kf3 := (hb.frozen (p := ⟨w.heap.size, 3, none⟩) kz).trans kf3
        replace k4 := (hb.cell (p := ⟨w.heap.size, 4, none⟩) kz).trans k4
        replace kf4 := (hb.frozen (p := ⟨w.heap.size, 4, none⟩) kz).trans kf4
        replace k5 := (hb.cell (p := ⟨w.heap.size, 5, none⟩) kz).trans k5
        replace kf5 := (hb.frozen (p := ⟨w.heap.size, 5, none⟩) kz).trans kf5
        replace k6 := (hb.cell (p := ⟨w.heap.size, 6, none⟩) kz).trans k6
        replace kf6 := (hb.frozen (p := ⟨w.heap.size, 6, none⟩) kz).trans kf6
        replace k7 := (hb.cell (p := ⟨w.heap.size, 7, none⟩) kz).trans k7
        replace kf7 := (hb.frozen (p := ⟨w.heap.size, 7, none⟩) kz).trans kf7
        replace k8 := (hb.cell (p := ⟨w.heap.size, 8, none⟩) kz).trans k8
        replace kf8 := (hb.frozen (p := ⟨w.heap.size, 8, none⟩) kz).trans kf8
        replace kz := Nat.lt_of_lt_of_le kz hb.size
        replace Z19 := Lib.hid (Z19.out.keep (by exact hb))
        replace Q22 := Lib.hid (Q22.out.keep (by exact hb))
        replace HB := Lib.hid (HB.out.trans (hb.mono HB.out.size))
        clear hb
        generalize (v13.alloc (.cells #[.int .u8 7] 5)) = v14 at *
        generalize v13.heap.size = G23 at *
        refine hK.out _ _ ⟨k0, k1, k2, k3, k4, k5, k6, k7, k8⟩ (fun hHeld => ?_)
        clear hK K
        try simp only [Act.put, List.setIfInBounds_toArray, List.set_cons_zero, List.set_cons_succ]
        refine wpAnyH_ready (rs := [25]) (by kernel_rfl) (by simp) ?_
        refine (AllReadyH.cons (o := { dst := some 39, op := Go.Op.call { callee := Go.Callee.value (Go.Operand.func 22), args := #[Go.Operand.tmp 37, Go.Operand.tmp 38], argTypes := #[47, 35] }, type := 47, pos := "law.go:55", after := #[{ on := 23, ground := Go.Ground.data }, { on := 24, ground := Go.Ground.data }, { on := 22, ground := Go.Ground.chain }, { on := 18, ground := Go.Ground.guard }], guard := some (18, true) }) rfl (fun K hK => ?_) AllReadyH.nil)
        go_simp
        go_at_call 22
        refine (HP2.out (some ⟨G23, 0, none⟩) 1 G23 _ Z23.out).mono ?_
        rintro e v15 ⟨A25, c25, rfl, ho, hb⟩
        replace k0 := (hb.cell (p := ⟨w.heap.size, 0, none⟩) kz).trans k0
        replace kf0 := (hb.frozen (p := ⟨w.heap.size, 0, none⟩) kz).trans kf0
        replace k1 := (hb.cell (p := ⟨w.heap.size, 1, none⟩) kz).trans k1
        replace kf1 := (hb.frozen (p := ⟨w.heap.size, 1, none⟩) kz).trans kf1
        replace k2 := (hb.cell (p := ⟨w.heap.size, 2, none⟩) kz).trans k2
        replace kf2 := (hb.frozen (p := ⟨w.heap.size, 2, none⟩) kz).trans kf2
        replace k3 := (hb.cell (p := ⟨w.heap.size, 3, none⟩) kz).trans k3
        replace kf3 := (hb.frozen (p := ⟨w.heap.size, 3, none⟩) kz).trans kf3
        replace k4 := (hb.cell (p := ⟨w.heap.size, 4, none⟩) kz).trans k4
        replace kf4 := (hb.frozen (p := ⟨w.heap.size, 4, none⟩) kz).trans kf4
        replace k5 := (hb.cell (p := ⟨w.heap.size, 5, none⟩) kz).trans k5
        replace kf5 := (hb.frozen (p := ⟨w.heap.size, 5, none⟩) kz).trans kf5
        replace k6 := (hb.cell (p := ⟨w.heap.size, 6, none⟩) kz).trans k6
        replace kf6 := (hb.frozen (p := ⟨w.heap.size, 6, none⟩) kz).trans kf6
        replace k7 := (hb.cell (p := ⟨w.heap.size, 7, none⟩) kz).trans k7
        replace kf7 := (hb.frozen (p := ⟨w.heap.size, 7, none⟩) kz).trans kf7
        replace k8 := (hb.cell (p := ⟨w.heap.size, 8, none⟩) kz).trans k8
        replace kf8 := (hb.frozen (p := ⟨w.heap.size, 8, none⟩) kz).trans kf8
        replace kz := Nat.lt_of_lt_of_le kz hb.size
        replace Z19 := Lib.hid (Z19.out.keep (by exact hb))
        replace Q22 := Lib.hid (Q22.out.keep (by exact hb))
        replace Z23 := Lib.hid (Z23.out.keep (by exact hb))
        obtain ⟨g25, hz, _, _, _⟩ := own_bytes ho
        have Q25 := Lib.hid hz
        clear ho hz
        replace HB := Lib.hid (below_via HB.out hb HB.out.size ⟨rfl, rfl, rfl, rfl⟩)
        clear hb
        refine hK.out _ _ ⟨k0, k1, k2, k3, k4, k5, k6, k7, k8⟩ (fun hHeld => ?_)
        clear hK K
        try simp only [Act.put, List.setIfInBounds_toArray, List.set_cons_zero, List.set_cons_succ]
        refine wpAnyH_ready (rs := [26]) (by kernel_rfl) (by simp) ?_
        refine (AllReadyH.cons (o := { dst := some 40, op := Go.Op.call { callee := Go.Callee.value (Go.Operand.func 20), args := #[Go.Operand.tmp 36, Go.Operand.tmp 39], argTypes := #[47, 47] }, type := 4, pos := "law.go:55", after := #[{ on := 22, ground := Go.Ground.data }, { on := 25, ground := Go.Ground.data }, { on := 25, ground := Go.Ground.chain }, { on := 18, ground := Go.Ground.guard }], guard := some (18, true) }) rfl (fun K hK => ?_) AllReadyH.nil)
        go_simp
        go_at_call 20
        refine (same_any _ _ _ _ _ _ g22 g25 P P _ Q22.out Q25.out).mono ?_
        rw [decide_eq_true rfl]
        rintro e w9 ⟨rfl, rfl⟩
        refine hK.out _ _ ⟨k0, k1, k2, k3, k4, k5, k6, k7, k8⟩ (fun hHeld => ?_)
        clear hK K
        try simp only [Act.put, List.setIfInBounds_toArray, List.set_cons_zero, List.set_cons_succ]
        refine wpAnyH_take (i := 27) (oi := { dst := some 41, op := Go.Op.pick (Go.Operand.tmp 32) (Go.Operand.tmp 40) (Go.Operand.const (Go.Value.bool false)), type := 4, pos := "law.go:55", after := #[{ on := 18, ground := Go.Ground.data }, { on := 26, ground := Go.Ground.data }], guard := none }) (v := ?_) rfl (by kernel_rfl) (by kernel_rfl) (by kernel_rfl) (fun _ _ _ h => h) (Or.inl ⟨rfl, ?_⟩) (by assumption) ?_
        rotate_left
        · intro wz hSw; (try dsimp only at hSw); go_simp; try (with_reducible rfl)
        try simp only [Act.put, List.setIfInBounds_toArray, List.set_cons_zero, List.set_cons_succ]
        refine wpAnyH_take (i := 28) (oi := { dst := some 2, op := Go.Op.assign (Go.Operand.tmp 41), type := 4, pos := "law.go:55", after := #[{ on := 27, ground := Go.Ground.data }, { on := 26, ground := Go.Ground.chain }, { on := 0, ground := Go.Ground.phase }, { on := 1, ground := Go.Ground.phase }, { on := 2, ground := Go.Ground.phase }, { on := 3, ground := Go.Ground.phase }, { on := 4, ground := Go.Ground.phase }, { on := 5, ground := Go.Ground.phase }, { on := 6, ground := Go.Ground.phase }, { on := 7, ground := Go.Ground.phase }, { on := 8, ground := Go.Ground.phase }, { on := 9, ground := Go.Ground.phase }, { on := 10, ground := Go.Ground.phase }, { on := 11, ground := Go.Ground.phase }, { on := 12, ground := Go.Ground.phase }, { on := 13, ground := Go.Ground.phase }, { on := 14, ground := Go.Ground.phase }, { on := 15, ground := Go.Ground.phase }, { on := 16, ground := Go.Ground.phase }, { on := 17, ground := Go.Ground.phase }, { on := 18, ground := Go.Ground.phase }, { on := 19, ground := Go.Ground.phase }, { on := 20, ground := Go.Ground.phase }, { on := 21, ground := Go.Ground.phase }, { on := 22, ground := Go.Ground.phase }, { on := 23, ground := Go.Ground.phase }, { on := 24, ground := Go.Ground.phase }, { on := 25, ground := Go.Ground.phase }, { on := 26, ground := Go.Ground.phase }, { on := 27, ground := Go.Ground.phase }], guard := none }) (v := ?_) rfl (by kernel_rfl) (by kernel_rfl) (by kernel_rfl) (fun _ _ _ h => h) (Or.inl ⟨rfl, ?_⟩) (by assumption) ?_
        rotate_left
        · intro wz hSw; (try dsimp only at hSw); go_simp; try (with_reducible rfl)
        try simp only [Act.put, List.setIfInBounds_toArray, List.set_cons_zero, List.set_cons_succ]
        refine wpAnyH_done (by kernel_rfl) ?_ _
        go_wp2
        go_ret
        exact ⟨rfl, HB.out⟩
      · skip
        go_simp
        have hb : Below v12.heap.size v12 (v12.alloc (.cells #[.int .u8 7] 5)) := (Below.refl _ _).alloc (Nat.le_refl _) _
        have Z23 := Lib.hid (seven (w := v12))
        replace k0 := (hb.cell (p := ⟨w.heap.size, 0, none⟩) kz).trans k0
        replace kf0 := (hb.frozen (p := ⟨w.heap.size, 0, none⟩) kz).trans kf0
        replace k1 := (hb.cell (p := ⟨w.heap.size, 1, none⟩) kz).trans k1
        replace kf1 := (hb.frozen (p := ⟨w.heap.size, 1, none⟩) kz).trans kf1
        replace k2 := (hb.cell (p := ⟨w.heap.size, 2, none⟩) kz).trans k2
        replace kf2 := (hb.frozen (p := ⟨w.heap.size, 2, none⟩) kz).trans kf2
        replace k3 := (hb.cell (p := ⟨w.heap.size, 3, none⟩) kz).trans k3
        replace kf3 := (hb.frozen (p := ⟨w.heap.size, 3, none⟩) kz).trans kf3
        replace k4 := (hb.cell (p := ⟨w.heap.size, 4, none⟩) kz).trans k4
        replace kf4 := (hb.frozen (p := ⟨w.heap.size, 4, none⟩) kz).trans kf4
        replace k5 := (hb.cell (p := ⟨w.heap.size, 5, none⟩) kz).trans k5
        replace kf5 := (hb.frozen (p := ⟨w.heap.size, 5, none⟩) kz).trans kf5
        replace k6 := (hb.cell (p := ⟨w.heap.size, 6, none⟩) kz).trans k6
        replace kf6 := (hb.frozen (p := ⟨w.heap.size, 6, none⟩) kz).trans kf6
        replace k7 := (hb.cell (p := ⟨w.heap.size, 7, none⟩) kz).trans k7
        replace kf7 := (hb.frozen (p := ⟨w.heap.size, 7, none⟩) kz).trans kf7
        replace k8 := (hb.cell (p := ⟨w.heap.size, 8, none⟩) kz).trans k8
        replace kf8 := (hb.frozen (p := ⟨w.heap.size, 8, none⟩) kz).trans kf8
        replace kz := Nat.lt_of_lt_of_le kz hb.size
        replace Z19 := Lib.hid (Z19.out.keep (by exact hb))
        replace HB := Lib.hid (HB.out.trans (hb.mono HB.out.size))
        clear hb
        generalize (v12.alloc (.cells #[.int .u8 7] 5)) = v13 at *
        generalize v12.heap.size = G23 at *
        refine hK.out _ _ ⟨k0, k1, k2, k3, k4, k5, k6, k7, k8⟩ (fun hHeld => ?_)
        clear hK K
        try simp only [Act.put, List.setIfInBounds_toArray, List.set_cons_zero, List.set_cons_succ]
        refine wpAnyH_ready (rs := [22]) (by kernel_rfl) (by simp) ?_
        refine (AllReadyH.cons (o := { dst := some 36, op := Go.Op.call { callee := Go.Callee.value (Go.Operand.func 21), args := #[Go.Operand.tmp 33, Go.Operand.tmp 35], argTypes := #[47, 40] }, type := 47, pos := "law.go:55", after := #[{ on := 19, ground := Go.Ground.data }, { on := 21, ground := Go.Ground.data }, { on := 21, ground := Go.Ground.chain }, { on := 18, ground := Go.Ground.guard }], guard := some (18, true) }) rfl (fun K hK => ?_) AllReadyH.nil)
        go_simp
        go_at_call 21
        refine (HP.out (some ⟨G19, 0, none⟩) 1 G19 _ Z19.out).mono ?_
        rintro e v14 ⟨A22, c22, rfl, ho, hb⟩
        replace k0 := (hb.cell (p := ⟨w.heap.size, 0, none⟩) kz).trans k0
        replace kf0 := (hb.frozen (p := ⟨w.heap.size, 0, none⟩) kz).trans kf0
        replace k1 := (hb.cell (p := ⟨w.heap.size, 1, none⟩) kz).trans k1
        replace kf1 := (hb.frozen (p := ⟨w.heap.size, 1, none⟩) kz).trans kf1
        replace k2 := (hb.cell (p := ⟨w.heap.size, 2, none⟩) kz).trans k2
        replace kf2 := (hb.frozen (p := ⟨w.heap.size, 2, none⟩) kz).trans kf2
        replace k3 := (hb.cell (p := ⟨w.heap.size, 3, none⟩) kz).trans k3
        replace kf3 := (hb.frozen (p := ⟨w.heap.size, 3, none⟩) kz).trans kf3
        replace k4 := (hb.cell (p := ⟨w.heap.size, 4, none⟩) kz).trans k4
        replace kf4 := (hb.frozen (p := ⟨w.heap.size, 4, none⟩) kz).trans kf4
        replace k5 := (hb.cell (p := ⟨w.heap.size, 5, none⟩) kz).trans k5
        replace kf5 := (hb.frozen (p := ⟨w.heap.size, 5, none⟩) kz).trans kf5
        replace k6 := (hb.cell (p := ⟨w.heap.size, 6, none⟩) kz).trans k6
        replace kf6 := (hb.frozen (p := ⟨w.heap.size, 6, none⟩) kz).trans kf6
        replace k7 := (hb.cell (p := ⟨w.heap.size, 7, none⟩) kz).trans k7
        replace kf7 := (hb.frozen (p := ⟨w.heap.size, 7, none⟩) kz).trans kf7
        replace k8 := (hb.cell (p := ⟨w.heap.size, 8, none⟩) kz).trans k8
        replace kf8 := (hb.frozen (p := ⟨w.heap.size, 8, none⟩) kz).trans kf8
        replace kz := Nat.lt_of_lt_of_le kz hb.size
        replace Z19 := Lib.hid (Z19.out.keep (by exact hb))
        replace Z23 := Lib.hid (Z23.out.keep (by exact hb))
        obtain ⟨g22, hz, _, _, _⟩ := own_bytes ho
        have Q22 := Lib.hid hz
        clear ho hz
        replace HB := Lib.hid (below_via HB.out hb HB.out.size ⟨rfl, rfl, rfl, rfl⟩)
        clear hb
        refine hK.out _ _ ⟨k0, k1, k2, k3, k4, k5, k6, k7, k8⟩ (fun hHeld => ?_)
        clear hK K
        try simp only [Act.put, List.setIfInBounds_toArray, List.set_cons_zero, List.set_cons_succ]
        refine wpAnyH_ready (rs := [25]) (by kernel_rfl) (by simp) ?_
        refine (AllReadyH.cons (o := { dst := some 39, op := Go.Op.call { callee := Go.Callee.value (Go.Operand.func 22), args := #[Go.Operand.tmp 37, Go.Operand.tmp 38], argTypes := #[47, 35] }, type := 47, pos := "law.go:55", after := #[{ on := 23, ground := Go.Ground.data }, { on := 24, ground := Go.Ground.data }, { on := 22, ground := Go.Ground.chain }, { on := 18, ground := Go.Ground.guard }], guard := some (18, true) }) rfl (fun K hK => ?_) AllReadyH.nil)
        go_simp
        go_at_call 22
        refine (HP2.out (some ⟨G23, 0, none⟩) 1 G23 _ Z23.out).mono ?_
        rintro e v15 ⟨A25, c25, rfl, ho, hb⟩
        replace k0 := (hb.cell (p := ⟨w.heap.size, 0, none⟩) kz).trans k0
        replace kf0 := (hb.frozen (p := ⟨w.heap.size, 0, none⟩) kz).trans kf0
        replace k1 := (hb.cell (p := ⟨w.heap.size, 1, none⟩) kz).trans k1
        replace kf1 := (hb.frozen (p := ⟨w.heap.size, 1, none⟩) kz).trans kf1
        replace k2 := (hb.cell (p := ⟨w.heap.size, 2, none⟩) kz).trans k2
        replace kf2 := (hb.frozen (p := ⟨w.heap.size, 2, none⟩) kz).trans kf2
        replace k3 := (hb.cell (p := ⟨w.heap.size, 3, none⟩) kz).trans k3
        replace kf3 := (hb.frozen (p := ⟨w.heap.size, 3, none⟩) kz).trans kf3
        replace k4 := (hb.cell (p := ⟨w.heap.size, 4, none⟩) kz).trans k4
        replace kf4 := (hb.frozen (p := ⟨w.heap.size, 4, none⟩) kz).trans kf4
        replace k5 := (hb.cell (p := ⟨w.heap.size, 5, none⟩) kz).trans k5
        replace kf5 := (hb.frozen (p := ⟨w.heap.size, 5, none⟩) kz).trans kf5
        replace k6 := (hb.cell (p := ⟨w.heap.size, 6, none⟩) kz).trans k6
        replace kf6 := (hb.frozen (p := ⟨w.heap.size, 6, none⟩) kz).trans kf6
        replace k7 := (hb.cell (p := ⟨w.heap.size, 7, none⟩) kz).trans k7
        replace kf7 := (hb.frozen (p := ⟨w.heap.size, 7, none⟩) kz).trans kf7
        replace k8 := (hb.cell (p := ⟨w.heap.size, 8, none⟩) kz).trans k8
        replace kf8 := (hb.frozen (p := ⟨w.heap.size, 8, none⟩) kz).trans kf8
        replace kz := Nat.lt_of_lt_of_le kz hb.size
        replace Z19 := Lib.hid (Z19.out.keep (by exact hb))
        replace Z23 := Lib.hid (Z23.out.keep (by exact hb))
        replace Q22 := Lib.hid (Q22.out.keep (by exact hb))
        obtain ⟨g25, hz, _, _, _⟩ := own_bytes ho
        have Q25 := Lib.hid hz
        clear ho hz
        replace HB := Lib.hid (below_via HB.out hb HB.out.size ⟨rfl, rfl, rfl, rfl⟩)
        clear hb
        refine hK.out _ _ ⟨k0, k1, k2, k3, k4, k5, k6, k7, k8⟩ (fun hHeld => ?_)
        clear hK K
        try simp only [Act.put, List.setIfInBounds_toArray, List.set_cons_zero, List.set_cons_succ]
        refine wpAnyH_ready (rs := [26]) (by kernel_rfl) (by simp) ?_
        refine (AllReadyH.cons (o := { dst := some 40, op := Go.Op.call { callee := Go.Callee.value (Go.Operand.func 20), args := #[Go.Operand.tmp 36, Go.Operand.tmp 39], argTypes := #[47, 47] }, type := 4, pos := "law.go:55", after := #[{ on := 22, ground := Go.Ground.data }, { on := 25, ground := Go.Ground.data }, { on := 25, ground := Go.Ground.chain }, { on := 18, ground := Go.Ground.guard }], guard := some (18, true) }) rfl (fun K hK => ?_) AllReadyH.nil)
        go_simp
        go_at_call 20
        refine (same_any _ _ _ _ _ _ g22 g25 P P _ Q22.out Q25.out).mono ?_
        rw [decide_eq_true rfl]
        rintro e w9 ⟨rfl, rfl⟩
        refine hK.out _ _ ⟨k0, k1, k2, k3, k4, k5, k6, k7, k8⟩ (fun hHeld => ?_)
        clear hK K
        try simp only [Act.put, List.setIfInBounds_toArray, List.set_cons_zero, List.set_cons_succ]
        refine wpAnyH_take (i := 27) (oi := { dst := some 41, op := Go.Op.pick (Go.Operand.tmp 32) (Go.Operand.tmp 40) (Go.Operand.const (Go.Value.bool false)), type := 4, pos := "law.go:55", after := #[{ on := 18, ground := Go.Ground.data }, { on := 26, ground := Go.Ground.data }], guard := none }) (v := ?_) rfl (by kernel_rfl) (by kernel_rfl) (by kernel_rfl) (fun _ _ _ h => h) (Or.inl ⟨rfl, ?_⟩) (by assumption) ?_
        rotate_left
        · intro wz hSw; (try dsimp only at hSw); go_simp; try (with_reducible rfl)
        try simp only [Act.put, List.setIfInBounds_toArray, List.set_cons_zero, List.set_cons_succ]
        refine wpAnyH_take (i := 28) (oi := { dst := some 2, op := Go.Op.assign (Go.Operand.tmp 41), type := 4, pos := "law.go:55", after := #[{ on := 27, ground := Go.Ground.data }, { on := 26, ground := Go.Ground.chain }, { on := 0, ground := Go.Ground.phase }, { on := 1, ground := Go.Ground.phase }, { on := 2, ground := Go.Ground.phase }, { on := 3, ground := Go.Ground.phase }, { on := 4, ground := Go.Ground.phase }, { on := 5, ground := Go.Ground.phase }, { on := 6, ground := Go.Ground.phase }, { on := 7, ground := Go.Ground.phase }, { on := 8, ground := Go.Ground.phase }, { on := 9, ground := Go.Ground.phase }, { on := 10, ground := Go.Ground.phase }, { on := 11, ground := Go.Ground.phase }, { on := 12, ground := Go.Ground.phase }, { on := 13, ground := Go.Ground.phase }, { on := 14, ground := Go.Ground.phase }, { on := 15, ground := Go.Ground.phase }, { on := 16, ground := Go.Ground.phase }, { on := 17, ground := Go.Ground.phase }, { on := 18, ground := Go.Ground.phase }, { on := 19, ground := Go.Ground.phase }, { on := 20, ground := Go.Ground.phase }, { on := 21, ground := Go.Ground.phase }, { on := 22, ground := Go.Ground.phase }, { on := 23, ground := Go.Ground.phase }, { on := 24, ground := Go.Ground.phase }, { on := 25, ground := Go.Ground.phase }, { on := 26, ground := Go.Ground.phase }, { on := 27, ground := Go.Ground.phase }], guard := none }) (v := ?_) rfl (by kernel_rfl) (by kernel_rfl) (by kernel_rfl) (fun _ _ _ h => h) (Or.inl ⟨rfl, ?_⟩) (by assumption) ?_
        rotate_left
        · intro wz hSw; (try dsimp only at hSw); go_simp; try (with_reducible rfl)
        try simp only [Act.put, List.setIfInBounds_toArray, List.set_cons_zero, List.set_cons_succ]
        refine wpAnyH_done (by kernel_rfl) ?_ _
        go_wp2
        go_ret
        exact ⟨rfl, HB.out⟩
    · skip
      go_simp
      have hb : Below v11.heap.size v11 (v11.alloc (.cells #[.int .u8 7] 5)) := (Below.refl _ _).alloc (Nat.le_refl _) _
      have Z23 := Lib.hid (seven (w := v11))
      replace k0 := (hb.cell (p := ⟨w.heap.size, 0, none⟩) kz).trans k0
      replace kf0 := (hb.frozen (p := ⟨w.heap.size, 0, none⟩) kz).trans kf0
      replace k1 := (hb.cell (p := ⟨w.heap.size, 1, none⟩) kz).trans k1
      replace kf1 := (hb.frozen (p := ⟨w.heap.size, 1, none⟩) kz).trans kf1
      replace k2 := (hb.cell (p := ⟨w.heap.size, 2, none⟩) kz).trans k2
      replace kf2 := (hb.frozen (p := ⟨w.heap.size, 2, none⟩) kz).trans kf2
      replace k3 := (hb.cell (p := ⟨w.heap.size, 3, none⟩) kz).trans k3
      replace kf3 := (hb.frozen (p := ⟨w.heap.size, 3, none⟩) kz).trans kf3
      replace k4 := (hb.cell (p := ⟨w.heap.size, 4, none⟩) kz).trans k4
      replace kf4 := (hb.frozen (p := ⟨w.heap.size, 4, none⟩) kz).trans kf4
      replace k5 := (hb.cell (p := ⟨w.heap.size, 5, none⟩) kz).trans k5
      replace kf5 := (hb.frozen (p := ⟨w.heap.size, 5, none⟩) kz).trans kf5
      replace k6 := (hb.cell (p := ⟨w.heap.size, 6, none⟩) kz).trans k6
      replace kf6 := (hb.frozen (p := ⟨w.heap.size, 6, none⟩) kz).trans kf6
      replace k7 := (hb.cell (p := ⟨w.heap.size, 7, none⟩) kz).trans k7
      replace kf7 := (hb.frozen (p := ⟨w.heap.size, 7, none⟩) kz).trans kf7
      replace k8 := (hb.cell (p := ⟨w.heap.size, 8, none⟩) kz).trans k8
      replace kf8 := (hb.frozen (p := ⟨w.heap.size, 8, none⟩) kz).trans kf8
      replace kz := Nat.lt_of_lt_of_le kz hb.size
      replace HB := Lib.hid (HB.out.trans (hb.mono HB.out.size))
      clear hb
      generalize (v11.alloc (.cells #[.int .u8 7] 5)) = v12 at *
      generalize v11.heap.size = G23 at *
      refine hK.out _ _ ⟨k0, k1, k2, k3, k4, k5, k6, k7, k8⟩ (fun hHeld => ?_)
      clear hK K
      try simp only [Act.put, List.setIfInBounds_toArray, List.set_cons_zero, List.set_cons_succ]
      refine wpAnyH_ready (rs := [19]) (by kernel_rfl) (by simp) ?_
      refine (AllReadyH.cons (o := { dst := some 33, op := Go.Op.buildSlice 47 1 #[(0, Go.Operand.const (Go.Value.int Go.IntKind.u8 7))], type := 47, pos := "law.go:55", after := #[{ on := 18, ground := Go.Ground.guard }], guard := some (18, true) }) rfl (fun K hK => ?_) AllReadyH.nil)
      go_simp
      have hb : Below v12.heap.size v12 (v12.alloc (.cells #[.int .u8 7] 5)) := (Below.refl _ _).alloc (Nat.le_refl _) _
      have Z19 := Lib.hid (seven (w := v12))
      replace k0 := (hb.cell (p := ⟨w.heap.size, 0, none⟩) kz).trans k0
      replace kf0 := (hb.frozen (p := ⟨w.heap.size, 0, none⟩) kz).trans kf0
      replace k1 := (hb.cell (p := ⟨w.heap.size, 1, none⟩) kz).trans k1
      replace kf1 := (hb.frozen (p := ⟨w.heap.size, 1, none⟩) kz).trans kf1
      replace k2 := (hb.cell (p := ⟨w.heap.size, 2, none⟩) kz).trans k2
      replace kf2 := (hb.frozen (p := ⟨w.heap.size, 2, none⟩) kz).trans kf2
      replace k3 := (hb.cell (p := ⟨w.heap.size, 3, none⟩) kz).trans k3
      replace kf3 := (hb.frozen (p := ⟨w.heap.size, 3, none⟩) kz).trans kf3
      replace k4 := (hb.cell (p := ⟨w.heap.size, 4, none⟩) kz).trans k4
      replace kf4 := (hb.frozen (p := ⟨w.heap.size, 4, none⟩) kz).trans kf4
      replace k5 := (hb.cell (p := ⟨w.heap.size, 5, none⟩) kz).trans k5
      replace kf5 := (hb.frozen (p := ⟨w.heap.size, 5, none⟩) kz).trans kf5
      replace k6 := (hb.cell (p := ⟨w.heap.size, 6, none⟩) kz).trans k6
      replace kf6 := (hb.frozen (p := ⟨w.heap.size, 6, none⟩) kz).trans kf6
      replace k7 := (hb.cell (p := ⟨w.heap.size, 7, none⟩) kz).trans k7
      replace kf7 := (hb.frozen (p := ⟨w.heap.size, 7, none⟩) kz).trans kf7
      replace k8 := (hb.cell (p := ⟨w.heap.size, 8, none⟩) kz).trans k8
      replace kf8 := (hb.frozen (p := ⟨w.heap.size, 8, none⟩) kz).trans kf8
      replace kz := Nat.lt_of_lt_of_le kz hb.size
      replace Z23 := Lib.hid (Z23.out.keep (by exact hb))
      replace HB := Lib.hid (HB.out.trans (hb.mono HB.out.size))
      clear hb
      generalize (v12.alloc (.cells #[.int .u8 7] 5)) = v13 at *
      generalize v12.heap.size = G19 at *
      refine hK.out _ _ ⟨k0, k1, k2, k3, k4, k5, k6, k7, k8⟩ (fun hHeld => ?_)
      clear hK K
      try simp only [Act.put, List.setIfInBounds_toArray, List.set_cons_zero, List.set_cons_succ]
      refine wpAnyH_ready (rs := [22]) (by kernel_rfl) (by simp) ?_
      refine (AllReadyH.cons (o := { dst := some 36, op := Go.Op.call { callee := Go.Callee.value (Go.Operand.func 21), args := #[Go.Operand.tmp 33, Go.Operand.tmp 35], argTypes := #[47, 40] }, type := 47, pos := "law.go:55", after := #[{ on := 19, ground := Go.Ground.data }, { on := 21, ground := Go.Ground.data }, { on := 21, ground := Go.Ground.chain }, { on := 18, ground := Go.Ground.guard }], guard := some (18, true) }) rfl (fun K hK => ?_) AllReadyH.nil)
      go_simp
      go_at_call 21
      refine (HP.out (some ⟨G19, 0, none⟩) 1 G19 _ Z19.out).mono ?_
      rintro e v14 ⟨A22, c22, rfl, ho, hb⟩
      replace k0 := (hb.cell (p := ⟨w.heap.size, 0, none⟩) kz).trans k0
      replace kf0 := (hb.frozen (p := ⟨w.heap.size, 0, none⟩) kz).trans kf0
      replace k1 := (hb.cell (p := ⟨w.heap.size, 1, none⟩) kz).trans k1
      replace kf1 := (hb.frozen (p := ⟨w.heap.size, 1, none⟩) kz).trans kf1
      replace k2 := (hb.cell (p := ⟨w.heap.size, 2, none⟩) kz).trans k2
      replace kf2 := (hb.frozen (p := ⟨w.heap.size, 2, none⟩) kz).trans kf2
      replace k3 := (hb.cell (p := ⟨w.heap.size, 3, none⟩) kz).trans k3
      replace kf3 := (hb.frozen (p := ⟨w.heap.size, 3, none⟩) kz).trans kf3
      replace k4 := (hb.cell (p := ⟨w.heap.size, 4, none⟩) kz).trans k4
      replace kf4 := (hb.frozen (p := ⟨w.heap.size, 4, none⟩) kz).trans kf4
      replace k5 := (hb.cell (p := ⟨w.heap.size, 5, none⟩) kz).trans k5
      replace kf5 := (hb.frozen (p := ⟨w.heap.size, 5, none⟩) kz).trans kf5
      replace k6 := (hb.cell (p := ⟨w.heap.size, 6, none⟩) kz).trans k6
      replace kf6 := (hb.frozen (p := ⟨w.heap.size, 6, none⟩) kz).trans kf6
      replace k7 := (hb.cell (p := ⟨w.heap.size, 7, none⟩) kz).trans k7
      replace kf7 := (hb.frozen (p := ⟨w.heap.size, 7, none⟩) kz).trans kf7
      replace k8 := (hb.cell (p := ⟨w.heap.size, 8, none⟩) kz).trans k8
      replace kf8 := (hb.frozen (p := ⟨w.heap.size, 8, none⟩) kz).trans kf8
      replace kz := Nat.lt_of_lt_of_le kz hb.size
      replace Z23 := Lib.hid (Z23.out.keep (by exact hb))
      replace Z19 := Lib.hid (Z19.out.keep (by exact hb))
      obtain ⟨g22, hz, _, _, _⟩ := own_bytes ho
      have Q22 := Lib.hid hz
      clear ho hz
      replace HB := Lib.hid (below_via HB.out hb HB.out.size ⟨rfl, rfl, rfl, rfl⟩)
      clear hb
      refine hK.out _ _ ⟨k0, k1, k2, k3, k4, k5, k6, k7, k8⟩ (fun hHeld => ?_)
      clear hK K
      try simp only [Act.put, List.setIfInBounds_toArray, List.set_cons_zero, List.set_cons_succ]
      refine wpAnyH_ready (rs := [25]) (by kernel_rfl) (by simp) ?_
      refine (AllReadyH.cons (o := { dst := some 39, op := Go.Op.call { callee := Go.Callee.value (Go.Operand.func 22), args := #[Go.Operand.tmp 37, Go.Operand.tmp 38], argTypes := #[47, 35] }, type := 47, pos := "law.go:55", after := #[{ on := 23, ground := Go.Ground.data }, { on := 24, ground := Go.Ground.data }, { on := 22, ground := Go.Ground.chain }, { on := 18, ground := Go.Ground.guard }], guard := some (18, true) }) rfl (fun K hK => ?_) AllReadyH.nil)
      go_simp
      go_at_call 22
      refine (HP2.out (some ⟨G23, 0, none⟩) 1 G23 _ Z23.out).mono ?_
      rintro e v15 ⟨A25, c25, rfl, ho, hb⟩
      replace k0 := (hb.cell (p := ⟨w.heap.size, 0, none⟩) kz).trans k0
      replace kf0 := (hb.frozen (p := ⟨w.heap.size, 0, none⟩) kz).trans kf0
      replace k1 := (hb.cell (p := ⟨w.heap.size, 1, none⟩) kz).trans k1
      replace kf1 := (hb.frozen (p := ⟨w.heap.size, 1, none⟩) kz).trans kf1
      replace k2 := (hb.cell (p := ⟨w.heap.size, 2, none⟩) kz).trans k2
      replace kf2 := (hb.frozen (p := ⟨w.heap.size, 2, none⟩) kz).trans kf2
      replace k3 := (hb.cell (p := ⟨w.heap.size, 3, none⟩) kz).trans k3
      replace kf3 := (hb.frozen (p := ⟨w.heap.size, 3, none⟩) kz).trans kf3
      replace k4 := (hb.cell (p := ⟨w.heap.size, 4, none⟩) kz).trans k4
      replace kf4 := (hb.frozen (p := ⟨w.heap.size, 4, none⟩) kz).trans kf4
      replace k5 := (hb.cell (p := ⟨w.heap.size, 5, none⟩) kz).trans k5
      replace kf5 := (hb.frozen (p := ⟨w.heap.size, 5, none⟩) kz).trans kf5
      replace k6 := (hb.cell (p := ⟨w.heap.size, 6, none⟩) kz).trans k6
      replace kf6 := (hb.frozen (p := ⟨w.heap.size, 6, none⟩) kz).trans kf6
      replace k7 := (hb.cell (p := ⟨w.heap.size, 7, none⟩) kz).trans k7
      replace kf7 := (hb.frozen (p := ⟨w.heap.size, 7, none⟩) kz).trans kf7
      replace k8 := (hb.cell (p := ⟨w.heap.size, 8, none⟩) kz).trans k8
      replace kf8 := (hb.frozen (p := ⟨w.heap.size, 8, none⟩) kz).trans kf8
      replace kz := Nat.lt_of_lt_of_le kz hb.size
      replace Z23 := Lib.hid (Z23.out.keep (by exact hb))
      replace Z19 := Lib.hid (Z19.out.keep (by exact hb))
      replace Q22 := Lib.hid (Q22.out.keep (by exact hb))
      obtain ⟨g25, hz, _, _, _⟩ := own_bytes ho
      have Q25 := Lib.hid hz
      clear ho hz
      replace HB := Lib.hid (below_via HB.out hb HB.out.size ⟨rfl, rfl, rfl, rfl⟩)
      clear hb
      refine hK.out _ _ ⟨k0, k1, k2, k3, k4, k5, k6, k7, k8⟩ (fun hHeld => ?_)
      clear hK K
      try simp only [Act.put, List.setIfInBounds_toArray, List.set_cons_zero, List.set_cons_succ]
      refine wpAnyH_ready (rs := [26]) (by kernel_rfl) (by simp) ?_
      refine (AllReadyH.cons (o := { dst := some 40, op := Go.Op.call { callee := Go.Callee.value (Go.Operand.func 20), args := #[Go.Operand.tmp 36, Go.Operand.tmp 39], argTypes := #[47, 47] }, type := 4, pos := "law.go:55", after := #[{ on := 22, ground := Go.Ground.data }, { on := 25, ground := Go.Ground.data }, { on := 25, ground := Go.Ground.chain }, { on := 18, ground := Go.Ground.guard }], guard := some (18, true) }) rfl (fun K hK => ?_) AllReadyH.nil)
      go_simp
      go_at_call 20
      refine (same_any _ _ _ _ _ _ g22 g25 P P _ Q22.out Q25.out).mono ?_
      rw [decide_eq_true rfl]
      rintro e w9 ⟨rfl, rfl⟩
      refine hK.out _ _ ⟨k0, k1, k2, k3, k4, k5, k6, k7, k8⟩ (fun hHeld => ?_)
      clear hK K
      try simp only [Act.put, List.setIfInBounds_toArray, List.set_cons_zero, List.set_cons_succ]
      refine wpAnyH_take (i := 27) (oi := { dst := some 41, op := Go.Op.pick (Go.Operand.tmp 32) (Go.Operand.tmp 40) (Go.Operand.const (Go.Value.bool false)), type := 4, pos := "law.go:55", after := #[{ on := 18, ground := Go.Ground.data }, { on := 26, ground := Go.Ground.data }], guard := none }) (v := ?_) rfl (by kernel_rfl) (by kernel_rfl) (by kernel_rfl) (fun _ _ _ h => h) (Or.inl ⟨rfl, ?_⟩) (by assumption) ?_
      rotate_left
      · intro wz hSw; (try dsimp only at hSw); go_simp; try (with_reducible rfl)
      try simp only [Act.put, List.setIfInBounds_toArray, List.set_cons_zero, List.set_cons_succ]
      refine wpAnyH_take (i := 28) (oi := { dst := some 2, op := Go.Op.assign (Go.Operand.tmp 41), type := 4, pos := "law.go:55", after := #[{ on := 27, ground := Go.Ground.data }, { on := 26, ground := Go.Ground.chain }, { on := 0, ground := Go.Ground.phase }, { on := 1, ground := Go.Ground.phase }, { on := 2, ground := Go.Ground.phase }, { on := 3, ground := Go.Ground.phase }, { on := 4, ground := Go.Ground.phase }, { on := 5, ground := Go.Ground.phase }, { on := 6, ground := Go.Ground.phase }, { on := 7, ground := Go.Ground.phase }, { on := 8, ground := Go.Ground.phase }, { on := 9, ground := Go.Ground.phase }, { on := 10, ground := Go.Ground.phase }, { on := 11, ground := Go.Ground.phase }, { on := 12, ground := Go.Ground.phase }, { on := 13, ground := Go.Ground.phase }, { on := 14, ground := Go.Ground.phase }, { on := 15, ground := Go.Ground.phase }, { on := 16, ground := Go.Ground.phase }, { on := 17, ground := Go.Ground.phase }, { on := 18, ground := Go.Ground.phase }, { on := 19, ground := Go.Ground.phase }, { on := 20, ground := Go.Ground.phase }, { on := 21, ground := Go.Ground.phase }, { on := 22, ground := Go.Ground.phase }, { on := 23, ground := Go.Ground.phase }, { on := 24, ground := Go.Ground.phase }, { on := 25, ground := Go.Ground.phase }, { on := 26, ground := Go.Ground.phase }, { on := 27, ground := Go.Ground.phase }], guard := none }) (v := ?_) rfl (by kernel_rfl) (by kernel_rfl) (by kernel_rfl) (fun _ _ _ h => h) (Or.inl ⟨rfl, ?_⟩) (by assumption) ?_
      rotate_left
      · intro wz hSw; (try dsimp only at hSw); go_simp; try (with_reducible rfl)
      try simp only [Act.put, List.setIfInBounds_toArray, List.set_cons_zero, List.set_cons_succ]
      refine wpAnyH_done (by kernel_rfl) ?_ _
      go_wp2
      go_ret
      exact ⟨rfl, HB.out⟩
  · skip
    go_simp
    have hb : Below v10.heap.size v10 (v10.alloc (.cells #[.int .u8 7] 5)) := (Below.refl _ _).alloc (Nat.le_refl _) _
    have Z23 := Lib.hid (seven (w := v10))
    replace k0 := (hb.cell (p := ⟨w.heap.size, 0, none⟩) kz).trans k0
    replace kf0 := (hb.frozen (p := ⟨w.heap.size, 0, none⟩) kz).trans kf0
    replace k1 := (hb.cell (p := ⟨w.heap.size, 1, none⟩) kz).trans k1
    replace kf1 := (hb.frozen (p := ⟨w.heap.size, 1, none⟩) kz).trans kf1
    replace k2 := (hb.cell (p := ⟨w.heap.size, 2, none⟩) kz).trans k2
    replace kf2 := (hb.frozen (p := ⟨w.heap.size, 2, none⟩) kz).trans kf2
    replace k3 := (hb.cell (p := ⟨w.heap.size, 3, none⟩) kz).trans k3
    replace kf3 := (hb.frozen (p := ⟨w.heap.size, 3, none⟩) kz).trans kf3
    replace k4 := (hb.cell (p := ⟨w.heap.size, 4, none⟩) kz).trans k4
    replace kf4 := (hb.frozen (p := ⟨w.heap.size, 4, none⟩) kz).trans kf4
    replace k5 := (hb.cell (p := ⟨w.heap.size, 5, none⟩) kz).trans k5
    replace kf5 := (hb.frozen (p := ⟨w.heap.size, 5, none⟩) kz).trans kf5
    replace k6 := (hb.cell (p := ⟨w.heap.size, 6, none⟩) kz).trans k6
    replace kf6 := (hb.frozen (p := ⟨w.heap.size, 6, none⟩) kz).trans kf6
    replace k7 := (hb.cell (p := ⟨w.heap.size, 7, none⟩) kz).trans k7
    replace kf7 := (hb.frozen (p := ⟨w.heap.size, 7, none⟩) kz).trans kf7
    replace k8 := (hb.cell (p := ⟨w.heap.size, 8, none⟩) kz).trans k8
    replace kf8 := (hb.frozen (p := ⟨w.heap.size, 8, none⟩) kz).trans kf8
    replace kz := Nat.lt_of_lt_of_le kz hb.size
    replace HB := Lib.hid (HB.out.trans (hb.mono HB.out.size))
    clear hb
    generalize (v10.alloc (.cells #[.int .u8 7] 5)) = v11 at *
    generalize v10.heap.size = G23 at *
    refine hK.out _ _ ⟨k0, k1, k2, k3, k4, k5, k6, k7, k8⟩ (fun hHeld => ?_)
    clear hK K
    try simp only [Act.put, List.setIfInBounds_toArray, List.set_cons_zero, List.set_cons_succ]
    refine wpAnyH_ready (rs := [19, 21]) (by kernel_rfl) (by simp) ?_
    refine (AllReadyH.cons (o := { dst := some 33, op := Go.Op.buildSlice 47 1 #[(0, Go.Operand.const (Go.Value.int Go.IntKind.u8 7))], type := 47, pos := "law.go:55", after := #[{ on := 18, ground := Go.Ground.guard }], guard := some (18, true) }) rfl (fun K hK => ?_) (AllReadyH.cons (o := { dst := some 35, op := Go.Op.call { callee := Go.Callee.value (Go.Operand.func 15), args := #[Go.Operand.tmp 34], argTypes := #[35] }, type := 40, pos := "law.go:55", after := #[{ on := 20, ground := Go.Ground.data }, { on := 18, ground := Go.Ground.chain }, { on := 18, ground := Go.Ground.guard }], guard := some (18, true) }) rfl (fun K hK => ?_) AllReadyH.nil))
    · skip
      go_simp
      have hb : Below v11.heap.size v11 (v11.alloc (.cells #[.int .u8 7] 5)) := (Below.refl _ _).alloc (Nat.le_refl _) _
      have Z19 := Lib.hid (seven (w := v11))
      replace k0 := (hb.cell (p := ⟨w.heap.size, 0, none⟩) kz).trans k0
      replace kf0 := (hb.frozen (p := ⟨w.heap.size, 0, none⟩) kz).trans kf0
      replace k1 := (hb.cell (p := ⟨w.heap.size, 1, none⟩) kz).trans k1
      replace kf1 := (hb.frozen (p := ⟨w.heap.size, 1, none⟩) kz).trans kf1
      replace k2 := (hb.cell (p := ⟨w.heap.size, 2, none⟩) kz).trans k2
      replace kf2 := (hb.frozen (p := ⟨w.heap.size, 2, none⟩) kz).trans kf2
      replace k3 := (hb.cell (p := ⟨w.heap.size, 3, none⟩) kz).trans k3
      replace kf3 := (hb.frozen (p := ⟨w.heap.size, 3, none⟩) kz).trans kf3
      replace k4 := (hb.cell (p := ⟨w.heap.size, 4, none⟩) kz).trans k4
      replace kf4 := (hb.frozen (p := ⟨w.heap.size, 4, none⟩) kz).trans kf4
      replace k5 := (hb.cell (p := ⟨w.heap.size, 5, none⟩) kz).trans k5
      replace kf5 := (hb.frozen (p := ⟨w.heap.size, 5, none⟩) kz).trans kf5
      replace k6 := (hb.cell (p := ⟨w.heap.size, 6, none⟩) kz).trans k6
      replace kf6 := (hb.frozen (p := ⟨w.heap.size, 6, none⟩) kz).trans kf6
      replace k7 := (hb.cell (p := ⟨w.heap.size, 7, none⟩) kz).trans k7
      replace kf7 := (hb.frozen (p := ⟨w.heap.size, 7, none⟩) kz).trans kf7
      replace k8 := (hb.cell (p := ⟨w.heap.size, 8, none⟩) kz).trans k8
      replace kf8 := (hb.frozen (p := ⟨w.heap.size, 8, none⟩) kz).trans kf8
      replace kz := Nat.lt_of_lt_of_le kz hb.size
      replace Z23 := Lib.hid (Z23.out.keep (by exact hb))
      replace HB := Lib.hid (HB.out.trans (hb.mono HB.out.size))
      clear hb
      generalize (v11.alloc (.cells #[.int .u8 7] 5)) = v12 at *
      generalize v11.heap.size = G19 at *
      refine hK.out _ _ ⟨k0, k1, k2, k3, k4, k5, k6, k7, k8⟩ (fun hHeld => ?_)
      clear hK K
      try simp only [Act.put, List.setIfInBounds_toArray, List.set_cons_zero, List.set_cons_succ]
      refine wpAnyH_ready (rs := [21]) (by kernel_rfl) (by simp) ?_
      refine (AllReadyH.cons (o := { dst := some 35, op := Go.Op.call { callee := Go.Callee.value (Go.Operand.func 15), args := #[Go.Operand.tmp 34], argTypes := #[35] }, type := 40, pos := "law.go:55", after := #[{ on := 20, ground := Go.Ground.data }, { on := 18, ground := Go.Ground.chain }, { on := 18, ground := Go.Ground.guard }], guard := some (18, true) }) rfl (fun K hK => ?_) AllReadyH.nil)
      go_simp
      go_at_call 15
      refine (HT.out _).mono ?_
      rintro e v13 ⟨rfl, hb⟩
      replace k0 := (hb.cell (p := ⟨w.heap.size, 0, none⟩) kz).trans k0
      replace kf0 := (hb.frozen (p := ⟨w.heap.size, 0, none⟩) kz).trans kf0
      replace k1 := (hb.cell (p := ⟨w.heap.size, 1, none⟩) kz).trans k1
      replace kf1 := (hb.frozen (p := ⟨w.heap.size, 1, none⟩) kz).trans kf1
      replace k2 := (hb.cell (p := ⟨w.heap.size, 2, none⟩) kz).trans k2
      replace kf2 := (hb.frozen (p := ⟨w.heap.size, 2, none⟩) kz).trans kf2
      replace k3 := (hb.cell (p := ⟨w.heap.size, 3, none⟩) kz).trans k3
      replace kf3 := (hb.frozen (p := ⟨w.heap.size, 3, none⟩) kz).trans kf3
      replace k4 := (hb.cell (p := ⟨w.heap.size, 4, none⟩) kz).trans k4
      replace kf4 := (hb.frozen (p := ⟨w.heap.size, 4, none⟩) kz).trans kf4
      replace k5 := (hb.cell (p := ⟨w.heap.size, 5, none⟩) kz).trans k5
      replace kf5 := (hb.frozen (p := ⟨w.heap.size, 5, none⟩) kz).trans kf5
      replace k6 := (hb.cell (p := ⟨w.heap.size, 6, none⟩) kz).trans k6
      replace kf6 := (hb.frozen (p := ⟨w.heap.size, 6, none⟩) kz).trans kf6
      replace k7 := (hb.cell (p := ⟨w.heap.size, 7, none⟩) kz).trans k7
      replace kf7 := (hb.frozen (p := ⟨w.heap.size, 7, none⟩) kz).trans kf7
      replace k8 := (hb.cell (p := ⟨w.heap.size, 8, none⟩) kz).trans k8
      replace kf8 := (hb.frozen (p := ⟨w.heap.size, 8, none⟩) kz).trans kf8
      replace kz := Nat.lt_of_lt_of_le kz hb.size
      replace Z23 := Lib.hid (Z23.out.keep (by exact hb))
      replace Z19 := Lib.hid (Z19.out.keep (by exact hb))
      replace HB := Lib.hid (below_via HB.out hb HB.out.size ⟨rfl, rfl, rfl, rfl⟩)
      clear hb
      refine hK.out _ _ ⟨k0, k1, k2, k3, k4, k5, k6, k7, k8⟩ (fun hHeld => ?_)
      clear hK K
      try simp only [Act.put, List.setIfInBounds_toArray, List.set_cons_zero, List.set_cons_succ]
      refine wpAnyH_ready (rs := [22]) (by kernel_rfl) (by simp) ?_
      refine (AllReadyH.cons (o := { dst := some 36, op := Go.Op.call { callee := Go.Callee.value (Go.Operand.func 21), args := #[Go.Operand.tmp 33, Go.Operand.tmp 35], argTypes := #[47, 40] }, type := 47, pos := "law.go:55", after := #[{ on := 19, ground := Go.Ground.data }, { on := 21, ground := Go.Ground.data }, { on := 21, ground := Go.Ground.chain }, { on := 18, ground := Go.Ground.guard }], guard := some (18, true) }) rfl (fun K hK => ?_) AllReadyH.nil)
      go_simp
      go_at_call 21
      refine (HP.out (some ⟨G19, 0, none⟩) 1 G19 _ Z19.out).mono ?_
      rintro e v14 ⟨A22, c22, rfl, ho, hb⟩
      replace k0 := (hb.cell (p := ⟨w.heap.size, 0, none⟩) kz).trans k0
      replace kf0 := (hb.frozen (p := ⟨w.heap.size, 0, none⟩) kz).trans kf0
      replace k1 := (hb.cell (p := ⟨w.heap.size, 1, none⟩) kz).trans k1
      replace kf1 := (hb.frozen (p := ⟨w.heap.size, 1, none⟩) kz).trans kf1
      replace k2 := (hb.cell (p := ⟨w.heap.size, 2, none⟩) kz).trans k2
      replace kf2 := (hb.frozen (p := ⟨w.heap.size, 2, none⟩) kz).trans kf2
      replace k3 := (hb.cell (p := ⟨w.heap.size, 3, none⟩) kz).trans k3
      replace kf3 := (hb.frozen (p := ⟨w.heap.size, 3, none⟩) kz).trans kf3
      replace k4 := (hb.cell (p := ⟨w.heap.size, 4, none⟩) kz).trans k4
      replace kf4 := (hb.frozen (p := ⟨w.heap.size, 4, none⟩) kz).trans kf4
      replace k5 := (hb.cell (p := ⟨w.heap.size, 5, none⟩) kz).trans k5
      replace kf5 := (hb.frozen (p := ⟨w.heap.size, 5, none⟩) kz).trans kf5
      replace k6 := (hb.cell (p := ⟨w.heap.size, 6, none⟩) kz).trans k6
      replace kf6 := (hb.frozen (p := ⟨w.heap.size, 6, none⟩) kz).trans kf6
      replace k7 := (hb.cell (p := ⟨w.heap.size, 7, none⟩) kz).trans k7
      replace kf7 := (hb.frozen (p := ⟨w.heap.size, 7, none⟩) kz).trans kf7
      replace k8 := (hb.cell (p := ⟨w.heap.size, 8, none⟩) kz).trans k8
      replace kf8 := (hb.frozen (p := ⟨w.heap.size, 8, none⟩) kz).trans kf8
      replace kz := Nat.lt_of_lt_of_le kz hb.size
      replace Z23 := Lib.hid (Z23.out.keep (by exact hb))
      replace Z19 := Lib.hid (Z19.out.keep (by exact hb))
      obtain ⟨g22, hz, _, _, _⟩ := own_bytes ho
      have Q22 := Lib.hid hz
      clear ho hz
      replace HB := Lib.hid (below_via HB.out hb HB.out.size ⟨rfl, rfl, rfl, rfl⟩)
      clear hb
      refine hK.out _ _ ⟨k0, k1, k2, k3, k4, k5, k6, k7, k8⟩ (fun hHeld => ?_)
      clear hK K
      try simp only [Act.put, List.setIfInBounds_toArray, List.set_cons_zero, List.set_cons_succ]
      refine wpAnyH_ready (rs := [25]) (by kernel_rfl) (by simp) ?_
      refine (AllReadyH.cons (o := { dst := some 39, op := Go.Op.call { callee := Go.Callee.value (Go.Operand.func 22), args := #[Go.Operand.tmp 37, Go.Operand.tmp 38], argTypes := #[47, 35] }, type := 47, pos := "law.go:55", after := #[{ on := 23, ground := Go.Ground.data }, { on := 24, ground := Go.Ground.data }, { on := 22, ground := Go.Ground.chain }, { on := 18, ground := Go.Ground.guard }], guard := some (18, true) }) rfl (fun K hK => ?_) AllReadyH.nil)
      go_simp
      go_at_call 22
      refine (HP2.out (some ⟨G23, 0, none⟩) 1 G23 _ Z23.out).mono ?_
      rintro e v15 ⟨A25, c25, rfl, ho, hb⟩
      replace k0 := (hb.cell (p := ⟨w.heap.size, 0, none⟩) kz).trans k0
      replace kf0 := (hb.frozen (p := ⟨w.heap.size, 0, none⟩) kz).trans kf0
      replace k1 := (hb.cell (p := ⟨w.heap.size, 1, none⟩) kz).trans k1
      replace kf1 := (hb.frozen (p := ⟨w.heap.size, 1, none⟩) kz).trans kf1
      replace k2 := (hb.cell (p := ⟨w.heap.size, 2, none⟩) kz).trans k2
      replace kf2 := (hb.frozen (p := ⟨w.heap.size, 2, none⟩) kz).trans kf2
      replace k3 := (hb.cell (p := ⟨w.heap.size, 3, none⟩) kz).trans k3
      replace kf3 := (hb.frozen (p := ⟨w.heap.size, 3, none⟩) kz).trans kf3
      replace k4 := (hb.cell (p := ⟨w.heap.size, 4, none⟩) kz).trans k4
      replace kf4 := (hb.frozen (p := ⟨w.heap.size, 4, none⟩) kz).trans kf4
      replace k5 := (hb.cell (p := ⟨w.heap.size, 5, none⟩) kz).trans k5
      replace kf5 := (hb.frozen (p := ⟨w.heap.size, 5, none⟩) kz).trans kf5
      replace k6 := (hb.cell (p := ⟨w.heap.size, 6, none⟩) kz).trans k6
      replace kf6 := (hb.frozen (p := ⟨w.heap.size, 6, none⟩) kz).trans kf6
      replace k7 := (hb.cell (p := ⟨w.heap.size, 7, none⟩) kz).trans k7
      replace kf7 := (hb.frozen (p := ⟨w.heap.size, 7, none⟩) kz).trans kf7
      replace k8 := (hb.cell (p := ⟨w.heap.size, 8, none⟩) kz).trans k8
      replace kf8 := (hb.frozen (p := ⟨w.heap.size, 8, none⟩) kz).trans kf8
      replace kz := Nat.lt_of_lt_of_le kz hb.size
      replace Z23 := Lib.hid (Z23.out.keep (by exact hb))
      replace Z19 := Lib.hid (Z19.out.keep (by exact hb))
      replace Q22 := Lib.hid (Q22.out.keep (by exact hb))
      obtain ⟨g25, hz, _, _, _⟩ := own_bytes ho
      have Q25 := Lib.hid hz
      clear ho hz
      replace HB := Lib.hid (below_via HB.out hb HB.out.size ⟨rfl, rfl, rfl, rfl⟩)
      clear hb
      refine hK.out _ _ ⟨k0, k1, k2, k3, k4, k5, k6, k7, k8⟩ (fun hHeld => ?_)
      clear hK K
      try simp only [Act.put, List.setIfInBounds_toArray, List.set_cons_zero, List.set_cons_succ]
      refine wpAnyH_ready (rs := [26]) (by kernel_rfl) (by simp) ?_
      refine (AllReadyH.cons (o := { dst := some 40, op := Go.Op.call { callee := Go.Callee.value (Go.Operand.func 20), args := #[Go.Operand.tmp 36, Go.Operand.tmp 39], argTypes := #[47, 47] }, type := 4, pos := "law.go:55", after := #[{ on := 22, ground := Go.Ground.data }, { on := 25, ground := Go.Ground.data }, { on := 25, ground := Go.Ground.chain }, { on := 18, ground := Go.Ground.guard }], guard := some (18, true) }) rfl (fun K hK => ?_) AllReadyH.nil)
      go_simp
      go_at_call 20
      refine (same_any _ _ _ _ _ _ g22 g25 P P _ Q22.out Q25.out).mono ?_
      rw [decide_eq_true rfl]
      rintro e w9 ⟨rfl, rfl⟩
      refine hK.out _ _ ⟨k0, k1, k2, k3, k4, k5, k6, k7, k8⟩ (fun hHeld => ?_)
      clear hK K
      try simp only [Act.put, List.setIfInBounds_toArray, List.set_cons_zero, List.set_cons_succ]
      refine wpAnyH_take (i := 27) (oi := { dst := some 41, op := Go.Op.pick (Go.Operand.tmp 32) (Go.Operand.tmp 40) (Go.Operand.const (Go.Value.bool false)), type := 4, pos := "law.go:55", after := #[{ on := 18, ground := Go.Ground.data }, { on := 26, ground := Go.Ground.data }], guard := none }) (v := ?_) rfl (by kernel_rfl) (by kernel_rfl) (by kernel_rfl) (fun _ _ _ h => h) (Or.inl ⟨rfl, ?_⟩) (by assumption) ?_
      rotate_left
      · intro wz hSw; (try dsimp only at hSw); go_simp; try (with_reducible rfl)
      try simp only [Act.put, List.setIfInBounds_toArray, List.set_cons_zero, List.set_cons_succ]
      refine wpAnyH_take (i := 28) (oi := { dst := some 2, op := Go.Op.assign (Go.Operand.tmp 41), type := 4, pos := "law.go:55", after := #[{ on := 27, ground := Go.Ground.data }, { on := 26, ground := Go.Ground.chain }, { on := 0, ground := Go.Ground.phase }, { on := 1, ground := Go.Ground.phase }, { on := 2, ground := Go.Ground.phase }, { on := 3, ground := Go.Ground.phase }, { on := 4, ground := Go.Ground.phase }, { on := 5, ground := Go.Ground.phase }, { on := 6, ground := Go.Ground.phase }, { on := 7, ground := Go.Ground.phase }, { on := 8, ground := Go.Ground.phase }, { on := 9, ground := Go.Ground.phase }, { on := 10, ground := Go.Ground.phase }, { on := 11, ground := Go.Ground.phase }, { on := 12, ground := Go.Ground.phase }, { on := 13, ground := Go.Ground.phase }, { on := 14, ground := Go.Ground.phase }, { on := 15, ground := Go.Ground.phase }, { on := 16, ground := Go.Ground.phase }, { on := 17, ground := Go.Ground.phase }, { on := 18, ground := Go.Ground.phase }, { on := 19, ground := Go.Ground.phase }, { on := 20, ground := Go.Ground.phase }, { on := 21, ground := Go.Ground.phase }, { on := 22, ground := Go.Ground.phase }, { on := 23, ground := Go.Ground.phase }, { on := 24, ground := Go.Ground.phase }, { on := 25, ground := Go.Ground.phase }, { on := 26, ground := Go.Ground.phase }, { on := 27, ground := Go.Ground.phase }], guard := none }) (v := ?_) rfl (by kernel_rfl) (by kernel_rfl) (by kernel_rfl) (fun _ _ _ h => h) (Or.inl ⟨rfl, ?_⟩) (by assumption) ?_
      rotate_left
      · intro wz hSw; (try dsimp only at hSw); go_simp; try (with_reducible rfl)
      try simp only [Act.put, List.setIfInBounds_toArray, List.set_cons_zero, List.set_cons_succ]
      refine wpAnyH_done (by kernel_rfl) ?_ _
      go_wp2
      go_ret
      exact ⟨rfl, HB.out⟩
    · skip
      go_simp
      go_at_call 15
      refine (HT.out _).mono ?_
      rintro e v12 ⟨rfl, hb⟩
      replace k0 := (hb.cell (p := ⟨w.heap.size, 0, none⟩) kz).trans k0
      replace kf0 := (hb.frozen (p := ⟨w.heap.size, 0, none⟩) kz).trans kf0
      replace k1 := (hb.cell (p := ⟨w.heap.size, 1, none⟩) kz).trans k1
      replace kf1 := (hb.frozen (p := ⟨w.heap.size, 1, none⟩) kz).trans kf1
      replace k2 := (hb.cell (p := ⟨w.heap.size, 2, none⟩) kz).trans k2
      replace kf2 := (hb.frozen (p := ⟨w.heap.size, 2, none⟩) kz).trans kf2
      replace k3 := (hb.cell (p := ⟨w.heap.size, 3, none⟩) kz).trans k3
      replace kf3 := (hb.frozen (p := ⟨w.heap.size, 3, none⟩) kz).trans kf3
      replace k4 := (hb.cell (p := ⟨w.heap.size, 4, none⟩) kz).trans k4
      replace kf4 := (hb.frozen (p := ⟨w.heap.size, 4, none⟩) kz).trans kf4
      replace k5 := (hb.cell (p := ⟨w.heap.size, 5, none⟩) kz).trans k5
      replace kf5 := (hb.frozen (p := ⟨w.heap.size, 5, none⟩) kz).trans kf5
      replace k6 := (hb.cell (p := ⟨w.heap.size, 6, none⟩) kz).trans k6
      replace kf6 := (hb.frozen (p := ⟨w.heap.size, 6, none⟩) kz).trans kf6
      replace k7 := (hb.cell (p := ⟨w.heap.size, 7, none⟩) kz).trans k7
      replace kf7 := (hb.frozen (p := ⟨w.heap.size, 7, none⟩) kz).trans kf7
      replace k8 := (hb.cell (p := ⟨w.heap.size, 8, none⟩) kz).trans k8
      replace kf8 := (hb.frozen (p := ⟨w.heap.size, 8, none⟩) kz).trans kf8
      replace kz := Nat.lt_of_lt_of_le kz hb.size
      replace Z23 := Lib.hid (Z23.out.keep (by exact hb))
      replace HB := Lib.hid (below_via HB.out hb HB.out.size ⟨rfl, rfl, rfl, rfl⟩)
      clear hb
      refine hK.out _ _ ⟨k0, k1, k2, k3, k4, k5, k6, k7, k8⟩ (fun hHeld => ?_)
      clear hK K
      try simp only [Act.put, List.setIfInBounds_toArray, List.set_cons_zero, List.set_cons_succ]
      refine wpAnyH_ready (rs := [19]) (by kernel_rfl) (by simp) ?_
      refine (AllReadyH.cons (o := { dst := some 33, op := Go.Op.buildSlice 47 1 #[(0, Go.Operand.const (Go.Value.int Go.IntKind.u8 7))], type := 47, pos := "law.go:55", after := #[{ on := 18, ground := Go.Ground.guard }], guard := some (18, true) }) rfl (fun K hK => ?_) AllReadyH.nil)
      go_simp
      have hb : Below v12.heap.size v12 (v12.alloc (.cells #[.int .u8 7] 5)) := (Below.refl _ _).alloc (Nat.le_refl _) _
      have Z19 := Lib.hid (seven (w := v12))
      replace k0 := (hb.cell (p := ⟨w.heap.size, 0, none⟩) kz).trans k0
      replace kf0 := (hb.frozen (p := ⟨w.heap.size, 0, none⟩) kz).trans kf0
      replace k1 := (hb.cell (p := ⟨w.heap.size, 1, none⟩) kz).trans k1
      replace kf1 := (hb.frozen (p := ⟨w.heap.size, 1, none⟩) kz).trans kf1
      replace k2 := (hb.cell (p := ⟨w.heap.size, 2, none⟩) kz).trans k2
      replace kf2 := (hb.frozen (p := ⟨w.heap.size, 2, none⟩) kz).trans kf2
      replace k3 := (hb.cell (p := ⟨w.heap.size, 3, none⟩) kz).trans k3
      replace kf3 := (hb.frozen (p := ⟨w.heap.size, 3, none⟩) kz).trans kf3
      replace k4 := (hb.cell (p := ⟨w.heap.size, 4, none⟩) kz).trans k4
      replace kf4 := (hb.frozen (p := ⟨w.heap.size, 4, none⟩) kz).trans kf4
      replace k5 := (hb.cell (p := ⟨w.heap.size, 5, none⟩) kz).trans k5
      replace kf5 := (hb.frozen (p := ⟨w.heap.size, 5, none⟩) kz).trans kf5
      replace k6 := (hb.cell (p := ⟨w.heap.size, 6, none⟩) kz).trans k6
      replace kf6 := (hb.frozen (p := ⟨w.heap.size, 6, none⟩) kz).trans kf6
      replace k7 := (hb.cell (p := ⟨w.heap.size, 7, none⟩) kz).trans k7
      replace kf7 := (hb.frozen (p := ⟨w.heap.size, 7, none⟩) kz).trans kf7
      replace k8 := (hb.cell (p := ⟨w.heap.size, 8, none⟩) kz).trans k8
      replace kf8 := (hb.frozen (p := ⟨w.heap.size, 8, none⟩) kz).trans kf8
      replace kz := Nat.lt_of_lt_of_le kz hb.size
      replace Z23 := Lib.hid (Z23.out.keep (by exact hb))
      replace HB := Lib.hid (HB.out.trans (hb.mono HB.out.size))
      clear hb
      generalize (v12.alloc (.cells #[.int .u8 7] 5)) = v13 at *
      generalize v12.heap.size = G19 at *
      refine hK.out _ _ ⟨k0, k1, k2, k3, k4, k5, k6, k7, k8⟩ (fun hHeld => ?_)
      clear hK K
      try simp only [Act.put, List.setIfInBounds_toArray, List.set_cons_zero, List.set_cons_succ]
      refine wpAnyH_ready (rs := [22]) (by kernel_rfl) (by simp) ?_
      refine (AllReadyH.cons (o := { dst := some 36, op := Go.Op.call { callee := Go.Callee.value (Go.Operand.func 21), args := #[Go.Operand.tmp 33, Go.Operand.tmp 35], argTypes := #[47, 40] }, type := 47, pos := "law.go:55", after := #[{ on := 19, ground := Go.Ground.data }, { on := 21, ground := Go.Ground.data }, { on := 21, ground := Go.Ground.chain }, { on := 18, ground := Go.Ground.guard }], guard := some (18, true) }) rfl (fun K hK => ?_) AllReadyH.nil)
      go_simp
      go_at_call 21
      refine (HP.out (some ⟨G19, 0, none⟩) 1 G19 _ Z19.out).mono ?_
      rintro e v14 ⟨A22, c22, rfl, ho, hb⟩
      replace k0 := (hb.cell (p := ⟨w.heap.size, 0, none⟩) kz).trans k0
      replace kf0 := (hb.frozen (p := ⟨w.heap.size, 0, none⟩) kz).trans kf0
      replace k1 := (hb.cell (p := ⟨w.heap.size, 1, none⟩) kz).trans k1
      replace kf1 := (hb.frozen (p := ⟨w.heap.size, 1, none⟩) kz).trans kf1
      replace k2 := (hb.cell (p := ⟨w.heap.size, 2, none⟩) kz).trans k2
      replace kf2 := (hb.frozen (p := ⟨w.heap.size, 2, none⟩) kz).trans kf2
      replace k3 := (hb.cell (p := ⟨w.heap.size, 3, none⟩) kz).trans k3
      replace kf3 := (hb.frozen (p := ⟨w.heap.size, 3, none⟩) kz).trans kf3
      replace k4 := (hb.cell (p := ⟨w.heap.size, 4, none⟩) kz).trans k4
      replace kf4 := (hb.frozen (p := ⟨w.heap.size, 4, none⟩) kz).trans kf4
      replace k5 := (hb.cell (p := ⟨w.heap.size, 5, none⟩) kz).trans k5
      replace kf5 := (hb.frozen (p := ⟨w.heap.size, 5, none⟩) kz).trans kf5
      replace k6 := (hb.cell (p := ⟨w.heap.size, 6, none⟩) kz).trans k6
      replace kf6 := (hb.frozen (p := ⟨w.heap.size, 6, none⟩) kz).trans kf6
      replace k7 := (hb.cell (p := ⟨w.heap.size, 7, none⟩) kz).trans k7
      replace kf7 := (hb.frozen (p := ⟨w.heap.size, 7, none⟩) kz).trans kf7
      replace k8 := (hb.cell (p := ⟨w.heap.size, 8, none⟩) kz).trans k8
      replace kf8 := (hb.frozen (p := ⟨w.heap.size, 8, none⟩) kz).trans kf8
      replace kz := Nat.lt_of_lt_of_le kz hb.size
      replace Z23 := Lib.hid (Z23.out.keep (by exact hb))
      replace Z19 := Lib.hid (Z19.out.keep (by exact hb))
      obtain ⟨g22, hz, _, _, _⟩ := own_bytes ho
      have Q22 := Lib.hid hz
      clear ho hz
      replace HB := Lib.hid (below_via HB.out hb HB.out.size ⟨rfl, rfl, rfl, rfl⟩)
      clear hb
      refine hK.out _ _ ⟨k0, k1, k2, k3, k4, k5, k6, k7, k8⟩ (fun hHeld => ?_)
      clear hK K
      try simp only [Act.put, List.setIfInBounds_toArray, List.set_cons_zero, List.set_cons_succ]
      refine wpAnyH_ready (rs := [25]) (by kernel_rfl) (by simp) ?_
      refine (AllReadyH.cons (o := { dst := some 39, op := Go.Op.call { callee := Go.Callee.value (Go.Operand.func 22), args := #[Go.Operand.tmp 37, Go.Operand.tmp 38], argTypes := #[47, 35] }, type := 47, pos := "law.go:55", after := #[{ on := 23, ground := Go.Ground.data }, { on := 24, ground := Go.Ground.data }, { on := 22, ground := Go.Ground.chain }, { on := 18, ground := Go.Ground.guard }], guard := some (18, true) }) rfl (fun K hK => ?_) AllReadyH.nil)
      go_simp
      go_at_call 22
      refine (HP2.out (some ⟨G23, 0, none⟩) 1 G23 _ Z23.out).mono ?_
      rintro e v15 ⟨A25, c25, rfl, ho, hb⟩
      replace k0 := (hb.cell (p := ⟨w.heap.size, 0, none⟩) kz).trans k0
      replace kf0 := (hb.frozen (p := ⟨w.heap.size, 0, none⟩) kz).trans kf0
      replace k1 := (hb.cell (p := ⟨w.heap.size, 1, none⟩) kz).trans k1
      replace kf1 := (hb.frozen (p := ⟨w.heap.size, 1, none⟩) kz).trans kf1
      replace k2 := (hb.cell (p := ⟨w.heap.size, 2, none⟩) kz).trans k2
      replace kf2 := (hb.frozen (p := ⟨w.heap.size, 2, none⟩) kz).trans kf2
      replace k3 := (hb.cell (p := ⟨w.heap.size, 3, none⟩) kz).trans k3
      replace kf3 := (hb.frozen (p := ⟨w.heap.size, 3, none⟩) kz).trans kf3
      replace k4 := (hb.cell (p := ⟨w.heap.size, 4, none⟩) kz).trans k4
      replace kf4 := (hb.frozen (p := ⟨w.heap.size, 4, none⟩) kz).trans kf4
      replace k5 := (hb.cell (p := ⟨w.heap.size, 5, none⟩) kz).trans k5
      replace kf5 := (hb.frozen (p := ⟨w.heap.size, 5, none⟩) kz).trans kf5
      replace k6 := (hb.cell (p := ⟨w.heap.size, 6, none⟩) kz).trans k6
      replace kf6 := (hb.frozen (p := ⟨w.heap.size, 6, none⟩) kz).trans kf6
      replace k7 := (hb.cell (p := ⟨w.heap.size, 7, none⟩) kz).trans k7
      replace kf7 := (hb.frozen (p := ⟨w.heap.size, 7, none⟩) kz).trans kf7
      replace k8 := (hb.cell (p := ⟨w.heap.size, 8, none⟩) kz).trans k8
      replace kf8 := (hb.frozen (p := ⟨w.heap.size, 8, none⟩) kz).trans kf8
      replace kz := Nat.lt_of_lt_of_le kz hb.size
      replace Z23 := Lib.hid (Z23.out.keep (by exact hb))
      replace Z19 := Lib.hid (Z19.out.keep (by exact hb))
      replace Q22 := Lib.hid (Q22.out.keep (by exact hb))
      obtain ⟨g25, hz, _, _, _⟩ := own_bytes ho
      have Q25 := Lib.hid hz
      clear ho hz
      replace HB := Lib.hid (below_via HB.out hb HB.out.size ⟨rfl, rfl, rfl, rfl⟩)
      clear hb
      refine hK.out _ _ ⟨k0, k1, k2, k3, k4, k5, k6, k7, k8⟩ (fun hHeld => ?_)
      clear hK K
      try simp only [Act.put, List.setIfInBounds_toArray, List.set_cons_zero, List.set_cons_succ]
      refine wpAnyH_ready (rs := [26]) (by kernel_rfl) (by simp) ?_
      refine (AllReadyH.cons (o := { dst := some 40, op := Go.Op.call { callee := Go.Callee.value (Go.Operand.func 20), args := #[Go.Operand.tmp 36, Go.Operand.tmp 39], argTypes := #[47, 47] }, type := 4, pos := "law.go:55", after := #[{ on := 22, ground := Go.Ground.data }, { on := 25, ground := Go.Ground.data }, { on := 25, ground := Go.Ground.chain }, { on := 18, ground := Go.Ground.guard }], guard := some (18, true) }) rfl (fun K hK => ?_) AllReadyH.nil)
      go_simp
      go_at_call 20
      refine (same_any _ _ _ _ _ _ g22 g25 P P _ Q22.out Q25.out).mono ?_
      rw [decide_eq_true rfl]
      rintro e w9 ⟨rfl, rfl⟩
      refine hK.out _ _ ⟨k0, k1, k2, k3, k4, k5, k6, k7, k8⟩ (fun hHeld => ?_)
      clear hK K
      try simp only [Act.put, List.setIfInBounds_toArray, List.set_cons_zero, List.set_cons_succ]
      refine wpAnyH_take (i := 27) (oi := { dst := some 41, op := Go.Op.pick (Go.Operand.tmp 32) (Go.Operand.tmp 40) (Go.Operand.const (Go.Value.bool false)), type := 4, pos := "law.go:55", after := #[{ on := 18, ground := Go.Ground.data }, { on := 26, ground := Go.Ground.data }], guard := none }) (v := ?_) rfl (by kernel_rfl) (by kernel_rfl) (by kernel_rfl) (fun _ _ _ h => h) (Or.inl ⟨rfl, ?_⟩) (by assumption) ?_
      rotate_left
      · intro wz hSw; (try dsimp only at hSw); go_simp; try (with_reducible rfl)
      try simp only [Act.put, List.setIfInBounds_toArray, List.set_cons_zero, List.set_cons_succ]
      refine wpAnyH_take (i := 28) (oi := { dst := some 2, op := Go.Op.assign (Go.Operand.tmp 41), type := 4, pos := "law.go:55", after := #[{ on := 27, ground := Go.Ground.data }, { on := 26, ground := Go.Ground.chain }, { on := 0, ground := Go.Ground.phase }, { on := 1, ground := Go.Ground.phase }, { on := 2, ground := Go.Ground.phase }, { on := 3, ground := Go.Ground.phase }, { on := 4, ground := Go.Ground.phase }, { on := 5, ground := Go.Ground.phase }, { on := 6, ground := Go.Ground.phase }, { on := 7, ground := Go.Ground.phase }, { on := 8, ground := Go.Ground.phase }, { on := 9, ground := Go.Ground.phase }, { on := 10, ground := Go.Ground.phase }, { on := 11, ground := Go.Ground.phase }, { on := 12, ground := Go.Ground.phase }, { on := 13, ground := Go.Ground.phase }, { on := 14, ground := Go.Ground.phase }, { on := 15, ground := Go.Ground.phase }, { on := 16, ground := Go.Ground.phase }, { on := 17, ground := Go.Ground.phase }, { on := 18, ground := Go.Ground.phase }, { on := 19, ground := Go.Ground.phase }, { on := 20, ground := Go.Ground.phase }, { on := 21, ground := Go.Ground.phase }, { on := 22, ground := Go.Ground.phase }, { on := 23, ground := Go.Ground.phase }, { on := 24, ground := Go.Ground.phase }, { on := 25, ground := Go.Ground.phase }, { on := 26, ground := Go.Ground.phase }, { on := 27, ground := Go.Ground.phase }], guard := none }) (v := ?_) rfl (by kernel_rfl) (by kernel_rfl) (by kernel_rfl) (fun _ _ _ h => h) (Or.inl ⟨rfl, ?_⟩) (by assumption) ?_
      rotate_left
      · intro wz hSw; (try dsimp only at hSw); go_simp; try (with_reducible rfl)
      try simp only [Act.put, List.setIfInBounds_toArray, List.set_cons_zero, List.set_cons_succ]
      refine wpAnyH_done (by kernel_rfl) ?_ _
      go_wp2
      go_ret
      exact ⟨rfl, HB.out⟩
end Go.Proofs.Ytophhjknbanafaa
