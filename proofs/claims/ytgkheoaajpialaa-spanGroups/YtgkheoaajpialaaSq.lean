/- The document's Within and Union. -/
import Derived.Test.YtgkheoaajpialaaSp
namespace Go.Proofs.Ytgkheoaajpialaa
open Go.RowKit

theorem ref_has_eq {s : Int × List Int} (h : Ok s) (x : Int) : refHasF s x = hasOf s.1 s.2 x := by
  have h1 := refHas_mem s x
  have h2 := has_mem h x
  rcases e : refHasF s x with _ | _ <;> rcases e' : hasOf s.1 s.2 x with _ | _ <;> simp_all

set_option maxRecDepth 100000 in
set_option maxHeartbeats 2000000 in
theorem cRefWithin {w : World} {A A' : Option Addr} {c c' : Nat} {s t : Int × List Int} (h : SpanIn w A c s) (h' : SpanIn w A' c' t) (hL : s.2.length ≤ 100000) (hL' : t.2.length ≤ 100000) (hok : Ok t) (hb1 : t.1 ≤ 100000) :
    Calls Try.prog 29 #[.agg #[.int .i64 s.1, .slice A s.2.length c], .agg #[.int .i64 t.1, .slice A' t.2.length c']] w fun e w' => e = .returned (.bool (withinF s t)) ∧ Below w.heap.size w w' := by
  have HX := Lib.hid h.1
  have HI := Lib.hid h'
  have HOk := Lib.hid hok
  have hb0 := hok.1
  clear h h' hok
  go_enter Try.func29, Try.ntmps29
  go_wp2
  go_loopw [5] (fun i wr => i = .int .i64 (t.1 + 1) ∧ wr = (w.alloc (Obj.cells #[Value.int IntKind.i64 s.1, Value.slice A s.2.length c] 24)).alloc (Obj.cells #[Value.int IntKind.i64 t.1, Value.slice A' t.2.length c'] 24)) (fun _ _ => 0)
  case atStart => exact ⟨rfl, rfl⟩
  case round =>
    obtain ⟨rfl, rfl⟩ := hrel
    by_cases hlt : t.1 < s.1
    · have hle : t.1 + 1 ≤ s.1 := by omega
      have HF : Hid (withinF s t = false) := by show withinF s t = _; unfold withinF; rw [decide_eq_false (by omega)]; rfl
      go_wp2_with fail
      refine (cRefHas (HI.out.keep (((Below.refl _ _).alloc (Nat.le_refl _) _).alloc (by simp) _)) hL' (t.1 + 1)).mono ?_
      rw [ref_has_eq HOk.out, has_next HOk.out]
      rintro e w1 ⟨rfl, hw⟩
      have HB1 : Hid (Below w.heap.size w w1) := (((Below.refl _ _).alloc (Nat.le_refl _) _).alloc (by simp) _).trans (hw.mono (by simp; omega))
      clear hw
      go_wp2
      go_ret
      exact ⟨ret_bool HF.out.symm, HB1.out⟩
    · have hle : decide (t.1 + 1 ≤ s.1) = false := by simp; omega
      have HF : Hid (withinF s t = s.2.all (fun y => hasOf t.1 t.2 y)) := by show withinF s t = _; unfold withinF; rw [decide_eq_true (by omega)]; rfl
      go_wp2
      go_loopw [6] (fun i wr => ∃ k : Nat, k ≤ s.2.length ∧ i = .int .i64 k ∧ Hid ((s.2.take k).all (fun y => hasOf t.1 t.2 y) = true) ∧ wr.cell? ⟨w.heap.size + 1, 0, none⟩ = some (.int .i64 t.1) ∧ wr.cell? ⟨w.heap.size + 1, 1, none⟩ = some (.slice A' t.2.length c') ∧ wr.cell? ⟨w.heap.size, 1, none⟩ = some (.slice A s.2.length c) ∧ w.heap.size + 1 < wr.heap.size ∧ Hid (SpanIn wr A' c' t) ∧ Hid (Below w.heap.size w wr)) (fun i _ => s.2.length - (intOf i).toNat)
      case atStart => exact ⟨0, by omega, rfl, rfl, by simp [go_sem], by simp [go_sem], by simp [go_sem], by simp, HI.out.keep (((Below.refl _ _).alloc (Nat.le_refl _) _).alloc (by simp) _), ((Below.refl _ _).alloc (Nat.le_refl _) _).alloc (by simp) _⟩
      case round =>
        obtain ⟨k, hk, rfl, HQ, x0, x1, x2, hz1, HIt, HBc⟩ := hrel
        have hz0 : w.heap.size < wr.heap.size := by omega
        by_cases hlt2 : k < s.2.length
        · obtain ⟨blk, off, rfl, hbB, hc⟩ := HX.out.2 (by omega)
          have x3 := (HBc.out.cell (p := ⟨blk, off + k, none⟩) hbB).trans (hc k hlt2)
          have hzb : blk < wr.heap.size := by omega
          have hkI : (k : Int) < s.2.length := by omega
          clear hc
          generalize hy : s.2.getD k 0 = y at x3
          have HY := Lib.hid hy
          clear hy
          rcases hv : hasOf t.1 t.2 y with _ | _
          · have HV : Hid (refHasF t y = false) := by show refHasF t y = _; rw [ref_has_eq HOk.out, hv]
            have HE : Hid (withinF s t = false) := by
              show withinF s t = _
              rw [HF.out, List.all_eq_false]
              exact ⟨y, mem_getD.2 ⟨k, hlt2, HY.out⟩, by rw [hv]; exact Bool.false_ne_true⟩
            clear hv
            go_wp2_with fail
            refine wp_region_held_drew (S := fun w' => w'.cell? ⟨w.heap.size + 1, 0, none⟩ = some (.int .i64 t.1) ∧ w'.cell? ⟨w.heap.size + 1, 1, none⟩ = some (.slice A' t.2.length c') ∧ w'.cell? ⟨w.heap.size, 1, none⟩ = some (.slice (some ⟨blk, off, none⟩) s.2.length c) ∧ w'.cell? ⟨blk, off + k, none⟩ = some (.int .i64 y)) (by kernel_rfl) ⟨x0, x1, x2, x3⟩ (fun hHeld => ?_)
            refine wpAnyH_take (i := 0) (oi := { dst := some 32, op := Go.Op.load 24 (Go.Operand.tmp 3), type := 24, pos := "ref.go:89", after := #[], guard := none }) (v := ?_) rfl (by kernel_rfl) (by kernel_rfl) (by kernel_rfl) (fun _ _ _ h => h) (Or.inl ⟨rfl, ?_⟩) (by assumption) ?_
            rotate_left
            · intro wz hSw; (try dsimp only at hSw); go_simp; try (with_reducible rfl)
            try simp only [Act.put, List.setIfInBounds_toArray, List.set_cons_zero, List.set_cons_succ]
            refine wpAnyH_take (i := 1) (oi := { dst := some 33, op := Go.Op.fieldAddr 24 (Go.Operand.tmp 2) 1, type := 0, pos := "ref.go:89", after := #[], guard := none }) (v := ?_) rfl (by kernel_rfl) (by kernel_rfl) (by kernel_rfl) (fun _ _ _ h => h) (Or.inl ⟨rfl, ?_⟩) (by assumption) ?_
            rotate_left
            · intro wz hSw; (try dsimp only at hSw); go_simp; try (with_reducible rfl)
            try simp only [Act.put, List.setIfInBounds_toArray, List.set_cons_zero, List.set_cons_succ]
            refine wpAnyH_take (i := 2) (oi := { dst := some 34, op := Go.Op.load 22 (Go.Operand.tmp 33), type := 22, pos := "ref.go:89", after := #[{ on := 1, ground := Go.Ground.data }], guard := none }) (v := ?_) rfl (by kernel_rfl) (by kernel_rfl) (by kernel_rfl) (fun _ _ _ h => h) (Or.inl ⟨rfl, ?_⟩) (by assumption) ?_
            rotate_left
            · intro wz hSw; (try dsimp only at hSw); go_simp; try (with_reducible rfl)
            try simp only [Act.put, List.setIfInBounds_toArray, List.set_cons_zero, List.set_cons_succ]
            refine wpAnyH_take (i := 3) (oi := { dst := some 35, op := Go.Op.move (Go.Operand.tmp 6), type := 3, pos := "ref.go:89", after := #[], guard := none }) (v := ?_) rfl (by kernel_rfl) (by kernel_rfl) (by kernel_rfl) (fun _ _ _ h => h) (Or.inl ⟨rfl, ?_⟩) (by assumption) ?_
            rotate_left
            · intro wz hSw; (try dsimp only at hSw); go_simp; try (with_reducible rfl)
            try simp only [Act.put, List.setIfInBounds_toArray, List.set_cons_zero, List.set_cons_succ]
            refine wpAnyH_take (i := 4) (oi := { dst := some 36, op := Go.Op.indexAddr 22 (Go.Operand.tmp 34) (Go.Operand.tmp 35), type := 0, pos := "ref.go:89", after := #[{ on := 2, ground := Go.Ground.data }, { on := 3, ground := Go.Ground.data }], guard := none }) (v := ?_) rfl (by kernel_rfl) (by kernel_rfl) (by kernel_rfl) (fun _ _ _ h => h) (Or.inl ⟨rfl, ?_⟩) (by assumption) ?_
            rotate_left
            · intro wz hSw; (try dsimp only at hSw); go_simp; try (with_reducible rfl)
            try simp only [Act.put, List.setIfInBounds_toArray, List.set_cons_zero, List.set_cons_succ]
            refine wpAnyH_take (i := 5) (oi := { dst := some 37, op := Go.Op.load 3 (Go.Operand.tmp 36), type := 3, pos := "ref.go:89", after := #[{ on := 4, ground := Go.Ground.data }], guard := none }) (v := ?_) rfl (by kernel_rfl) (by kernel_rfl) (by kernel_rfl) (fun _ _ _ h => h) (Or.inl ⟨rfl, ?_⟩) (by assumption) ?_
            rotate_left
            · intro wz hSw; (try dsimp only at hSw); go_simp; try (with_reducible rfl)
            try simp only [Act.put, List.setIfInBounds_toArray, List.set_cons_zero, List.set_cons_succ]
            refine wpAnyH_ready (rs := [6]) (by kernel_rfl) (by simp) ?_
            refine AllReadyH.cons (o := { dst := some 38, op := Go.Op.call { callee := Go.Callee.value (Go.Operand.func 20), args := #[Go.Operand.tmp 32, Go.Operand.tmp 37], argTypes := #[24, 3] }, type := 4, pos := "ref.go:89", after := #[{ on := 0, ground := Go.Ground.data }, { on := 5, ground := Go.Ground.data }], guard := none }) rfl (fun K hK => ?_) AllReadyH.nil
            go_simp
            go_at_call 20
            refine (cRefHas (by exact HIt.out.same rfl) hL' y).mono ?_
            rw [HV.out]
            rintro e w1 ⟨rfl, hw⟩
            replace x0 := (hw.cell (p := ⟨w.heap.size + 1, 0, none⟩) hz1).trans x0
            replace x1 := (hw.cell (p := ⟨w.heap.size + 1, 1, none⟩) hz1).trans x1
            replace x2 := (hw.cell (p := ⟨w.heap.size, 1, none⟩) hz0).trans x2
            replace x3 := (hw.cell (p := ⟨blk, off + k, none⟩) hzb).trans x3
            replace hz0 := Nat.lt_of_lt_of_le hz0 hw.size
            replace hz1 := Nat.lt_of_lt_of_le hz1 hw.size
            replace hzb := Nat.lt_of_lt_of_le hzb hw.size
            replace HIt := Lib.hid (HIt.out.on hw ⟨rfl, rfl, rfl, rfl⟩)
            replace HBc : Hid (Below w.heap.size w w1) := below_via HBc.out hw HBc.out.size ⟨rfl, rfl, rfl, rfl⟩
            clear hw
            refine hK.out _ _ ⟨x0, x1, x2, x3⟩ (fun hHeld => ?_)
            clear hK K
            try simp only [Act.put, List.setIfInBounds_toArray, List.set_cons_zero, List.set_cons_succ]
            refine wpAnyH_take (i := 7) (oi := { dst := some 39, op := Go.Op.unOp Go.UnOp.not 4 (Go.Operand.tmp 38), type := 4, pos := "ref.go:89", after := #[{ on := 6, ground := Go.Ground.data }], guard := none }) (v := ?_) rfl (by kernel_rfl) (by kernel_rfl) (by kernel_rfl) (fun _ _ _ h => h) (Or.inl ⟨rfl, ?_⟩) (by assumption) ?_
            rotate_left
            · intro wz hSw; (try dsimp only at hSw); go_simp; try (with_reducible rfl)
            try simp only [Act.put, List.setIfInBounds_toArray, List.set_cons_zero, List.set_cons_succ]
            refine wpAnyH_done (by kernel_rfl) ?_ _
            go_wp2
            go_ret
            exact ⟨ret_bool HE.out.symm, HBc.out⟩
          · have HV : Hid (refHasF t y = true) := by show refHasF t y = _; rw [ref_has_eq HOk.out, hv]
            have HE : Hid ((s.2.take (k + 1)).all (fun y => hasOf t.1 t.2 y) = true) := by
              show _ = true
              rw [all_take_next hlt2, HQ.out, HY.out, hv]; rfl
            clear hv
            go_wp2_with fail
            refine wp_region_held_drew (S := fun w' => w'.cell? ⟨w.heap.size + 1, 0, none⟩ = some (.int .i64 t.1) ∧ w'.cell? ⟨w.heap.size + 1, 1, none⟩ = some (.slice A' t.2.length c') ∧ w'.cell? ⟨w.heap.size, 1, none⟩ = some (.slice (some ⟨blk, off, none⟩) s.2.length c) ∧ w'.cell? ⟨blk, off + k, none⟩ = some (.int .i64 y)) (by kernel_rfl) ⟨x0, x1, x2, x3⟩ (fun hHeld => ?_)
            refine wpAnyH_take (i := 0) (oi := { dst := some 32, op := Go.Op.load 24 (Go.Operand.tmp 3), type := 24, pos := "ref.go:89", after := #[], guard := none }) (v := ?_) rfl (by kernel_rfl) (by kernel_rfl) (by kernel_rfl) (fun _ _ _ h => h) (Or.inl ⟨rfl, ?_⟩) (by assumption) ?_
            rotate_left
            · intro wz hSw; (try dsimp only at hSw); go_simp; try (with_reducible rfl)
            try simp only [Act.put, List.setIfInBounds_toArray, List.set_cons_zero, List.set_cons_succ]
            refine wpAnyH_take (i := 1) (oi := { dst := some 33, op := Go.Op.fieldAddr 24 (Go.Operand.tmp 2) 1, type := 0, pos := "ref.go:89", after := #[], guard := none }) (v := ?_) rfl (by kernel_rfl) (by kernel_rfl) (by kernel_rfl) (fun _ _ _ h => h) (Or.inl ⟨rfl, ?_⟩) (by assumption) ?_
            rotate_left
            · intro wz hSw; (try dsimp only at hSw); go_simp; try (with_reducible rfl)
            try simp only [Act.put, List.setIfInBounds_toArray, List.set_cons_zero, List.set_cons_succ]
            refine wpAnyH_take (i := 2) (oi := { dst := some 34, op := Go.Op.load 22 (Go.Operand.tmp 33), type := 22, pos := "ref.go:89", after := #[{ on := 1, ground := Go.Ground.data }], guard := none }) (v := ?_) rfl (by kernel_rfl) (by kernel_rfl) (by kernel_rfl) (fun _ _ _ h => h) (Or.inl ⟨rfl, ?_⟩) (by assumption) ?_
            rotate_left
            · intro wz hSw; (try dsimp only at hSw); go_simp; try (with_reducible rfl)
            try simp only [Act.put, List.setIfInBounds_toArray, List.set_cons_zero, List.set_cons_succ]
            refine wpAnyH_take (i := 3) (oi := { dst := some 35, op := Go.Op.move (Go.Operand.tmp 6), type := 3, pos := "ref.go:89", after := #[], guard := none }) (v := ?_) rfl (by kernel_rfl) (by kernel_rfl) (by kernel_rfl) (fun _ _ _ h => h) (Or.inl ⟨rfl, ?_⟩) (by assumption) ?_
            rotate_left
            · intro wz hSw; (try dsimp only at hSw); go_simp; try (with_reducible rfl)
            try simp only [Act.put, List.setIfInBounds_toArray, List.set_cons_zero, List.set_cons_succ]
            refine wpAnyH_take (i := 4) (oi := { dst := some 36, op := Go.Op.indexAddr 22 (Go.Operand.tmp 34) (Go.Operand.tmp 35), type := 0, pos := "ref.go:89", after := #[{ on := 2, ground := Go.Ground.data }, { on := 3, ground := Go.Ground.data }], guard := none }) (v := ?_) rfl (by kernel_rfl) (by kernel_rfl) (by kernel_rfl) (fun _ _ _ h => h) (Or.inl ⟨rfl, ?_⟩) (by assumption) ?_
            rotate_left
            · intro wz hSw; (try dsimp only at hSw); go_simp; try (with_reducible rfl)
            try simp only [Act.put, List.setIfInBounds_toArray, List.set_cons_zero, List.set_cons_succ]
            refine wpAnyH_take (i := 5) (oi := { dst := some 37, op := Go.Op.load 3 (Go.Operand.tmp 36), type := 3, pos := "ref.go:89", after := #[{ on := 4, ground := Go.Ground.data }], guard := none }) (v := ?_) rfl (by kernel_rfl) (by kernel_rfl) (by kernel_rfl) (fun _ _ _ h => h) (Or.inl ⟨rfl, ?_⟩) (by assumption) ?_
            rotate_left
            · intro wz hSw; (try dsimp only at hSw); go_simp; try (with_reducible rfl)
            try simp only [Act.put, List.setIfInBounds_toArray, List.set_cons_zero, List.set_cons_succ]
            refine wpAnyH_ready (rs := [6]) (by kernel_rfl) (by simp) ?_
            refine AllReadyH.cons (o := { dst := some 38, op := Go.Op.call { callee := Go.Callee.value (Go.Operand.func 20), args := #[Go.Operand.tmp 32, Go.Operand.tmp 37], argTypes := #[24, 3] }, type := 4, pos := "ref.go:89", after := #[{ on := 0, ground := Go.Ground.data }, { on := 5, ground := Go.Ground.data }], guard := none }) rfl (fun K hK => ?_) AllReadyH.nil
            go_simp
            go_at_call 20
            refine (cRefHas (by exact HIt.out.same rfl) hL' y).mono ?_
            rw [HV.out]
            rintro e w1 ⟨rfl, hw⟩
            replace x0 := (hw.cell (p := ⟨w.heap.size + 1, 0, none⟩) hz1).trans x0
            replace x1 := (hw.cell (p := ⟨w.heap.size + 1, 1, none⟩) hz1).trans x1
            replace x2 := (hw.cell (p := ⟨w.heap.size, 1, none⟩) hz0).trans x2
            replace x3 := (hw.cell (p := ⟨blk, off + k, none⟩) hzb).trans x3
            replace hz0 := Nat.lt_of_lt_of_le hz0 hw.size
            replace hz1 := Nat.lt_of_lt_of_le hz1 hw.size
            replace hzb := Nat.lt_of_lt_of_le hzb hw.size
            replace HIt := Lib.hid (HIt.out.on hw ⟨rfl, rfl, rfl, rfl⟩)
            replace HBc : Hid (Below w.heap.size w w1) := below_via HBc.out hw HBc.out.size ⟨rfl, rfl, rfl, rfl⟩
            clear hw
            refine hK.out _ _ ⟨x0, x1, x2, x3⟩ (fun hHeld => ?_)
            clear hK K
            try simp only [Act.put, List.setIfInBounds_toArray, List.set_cons_zero, List.set_cons_succ]
            refine wpAnyH_take (i := 7) (oi := { dst := some 39, op := Go.Op.unOp Go.UnOp.not 4 (Go.Operand.tmp 38), type := 4, pos := "ref.go:89", after := #[{ on := 6, ground := Go.Ground.data }], guard := none }) (v := ?_) rfl (by kernel_rfl) (by kernel_rfl) (by kernel_rfl) (fun _ _ _ h => h) (Or.inl ⟨rfl, ?_⟩) (by assumption) ?_
            rotate_left
            · intro wz hSw; (try dsimp only at hSw); go_simp; try (with_reducible rfl)
            try simp only [Act.put, List.setIfInBounds_toArray, List.set_cons_zero, List.set_cons_succ]
            refine wpAnyH_done (by kernel_rfl) ?_ _
            go_wp2
            go_roundw
            case rel => exact ⟨k + 1, by omega, by go_num, HE, x0, x1, x2, hz1, HIt, HBc⟩
            case measure => simp [intOf]; omega
        · have HE : Hid (withinF s t = true) := by
            show withinF s t = _
            have h1 := HQ.out
            rw [List.take_of_length_le (by omega)] at h1
            rw [HF.out, h1]
          go_wp2
          go_ret
          exact ⟨ret_bool HE.out.symm, HBc.out⟩

end Go.Proofs.Ytgkheoaajpialaa
