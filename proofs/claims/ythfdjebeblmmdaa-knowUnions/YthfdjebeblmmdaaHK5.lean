/- Texts Qq Qu Qr, one behind the other. -/
import Derived.Test.YthfdjebeblmmdaaHK3
/- The document's Within and Union. -/
namespace Go.Proofs.Ythfdjebeblmmdaa.Sp
open Go.RowKit

theorem ref_has_eq {s : Int × List Int} (h : Ok s) (x : Int) : refHasF s x = hasOf s.1 s.2 x := by
  have h1 := refHas_mem s x
  have h2 := has_mem h x
  rcases e : refHasF s x with _ | _ <;> rcases e' : hasOf s.1 s.2 x with _ | _ <;> simp_all

set_option maxRecDepth 100000 in
set_option maxRecDepth 100000 in
set_option maxHeartbeats 2000000 in
theorem cRefWithin {w : World} {A A' : Option Addr} {c c' : Nat} {s t : Int × List Int} (h : SpanIn w A c s) (h' : SpanIn w A' c' t) (hL : s.2.length ≤ 100000) (hL' : t.2.length ≤ 100000) (hok : Ok t) (hb1 : t.1 ≤ 100000) :
    Calls Try.prog 71 #[.agg #[.int .i64 s.1, .slice A s.2.length c], .agg #[.int .i64 t.1, .slice A' t.2.length c']] w fun e w' => e = .returned (.bool (withinF s t)) ∧ Below w.heap.size w w' := by
  have HX := Lib.hid h.1
  have HI := Lib.hid h'
  have HOk := Lib.hid hok
  have hb0 := hok.1
  clear h h' hok
  go_enter Try.func71, Try.ntmps71
  go_wp2
  go_loopw [5] (fun i wr => i = .int .i64 (t.1 + 1) ∧ wr = (w.alloc (Obj.cells #[Value.int IntKind.i64 s.1, Value.slice A s.2.length c] 25)).alloc (Obj.cells #[Value.int IntKind.i64 t.1, Value.slice A' t.2.length c'] 25)) (fun _ _ => 0)
  case atStart => exact ⟨rfl, rfl⟩
  case round =>
    obtain ⟨rfl, rfl⟩ := hrel
    by_cases hlt : t.1 < s.1
    · have hle : t.1 + 1 ≤ s.1 := by omega
      have HF : Hid (withinF s t = false) := by show withinF s t = _; unfold withinF; rw [decide_eq_false (by omega)]; rfl
      go_wp2_with fail
      refine (cRefHas (HI.out.keep (((Below.refl _ _).alloc (Nat.le_refl _) _).alloc (by simp) _)) hL' (t.1 + 1)).mono ?_
      rw [ref_has_eq HOk.out, has_next HOk.out]
      rintro e w1 ⟨rfl, hw⟩
      have HB1 : Hid (Below w.heap.size w w1) := (((Below.refl _ _).alloc (Nat.le_refl _) _).alloc (by simp) _).trans (hw.mono (by simp; omega))
      clear hw
      go_wp2
      go_ret
      exact ⟨ret_bool HF.out.symm, HB1.out⟩
    · have hle : decide (t.1 + 1 ≤ s.1) = false := by simp; omega
      have HF : Hid (withinF s t = s.2.all (fun y => hasOf t.1 t.2 y)) := by show withinF s t = _; unfold withinF; rw [decide_eq_true (by omega)]; rfl
      go_wp2
      go_loopw [6] (fun i wr => ∃ k : Nat, k ≤ s.2.length ∧ i = .int .i64 k ∧ Hid ((s.2.take k).all (fun y => hasOf t.1 t.2 y) = true) ∧ wr.cell? ⟨w.heap.size + 1, 0, none⟩ = some (.int .i64 t.1) ∧ wr.cell? ⟨w.heap.size + 1, 1, none⟩ = some (.slice A' t.2.length c') ∧ wr.cell? ⟨w.heap.size, 1, none⟩ = some (.slice A s.2.length c) ∧ w.heap.size + 1 < wr.heap.size ∧ Hid (SpanIn wr A' c' t) ∧ Hid (Below w.heap.size w wr)) (fun i _ => s.2.length - (intOf i).toNat)
      case atStart => exact ⟨0, by omega, rfl, rfl, by simp [go_sem], by simp [go_sem], by simp [go_sem], by simp, HI.out.keep (((Below.refl _ _).alloc (Nat.le_refl _) _).alloc (by simp) _), ((Below.refl _ _).alloc (Nat.le_refl _) _).alloc (by simp) _⟩
      case round =>
        obtain ⟨k, hk, rfl, HQ, x0, x1, x2, hz1, HIt, HBc⟩ := hrel
        have hz0 : w.heap.size < wr.heap.size := by omega
        by_cases hlt2 : k < s.2.length
        · obtain ⟨blk, off, rfl, hbB, hc⟩ := HX.out.2 (by omega)
          have x3 := (HBc.out.cell (p := ⟨blk, off + k, none⟩) hbB).trans (hc k hlt2)
          have hzb : blk < wr.heap.size := by omega
          have hkI : (k : Int) < s.2.length := by omega
          clear hc
          generalize hy : s.2.getD k 0 = y at x3
          have HY := Lib.hid hy
          clear hy
          rcases hv : hasOf t.1 t.2 y with _ | _
          · have HV : Hid (refHasF t y = false) := by show refHasF t y = _; rw [ref_has_eq HOk.out, hv]
            have HE : Hid (withinF s t = false) := by
              show withinF s t = _
              rw [HF.out, List.all_eq_false]
              exact ⟨y, mem_getD.2 ⟨k, hlt2, HY.out⟩, by rw [hv]; exact Bool.false_ne_true⟩
            clear hv
            go_wp2_with fail
            refine wp_region_held_drew (S := fun w' => w'.cell? ⟨w.heap.size + 1, 0, none⟩ = some (.int .i64 t.1) ∧ w'.cell? ⟨w.heap.size + 1, 1, none⟩ = some (.slice A' t.2.length c') ∧ w'.cell? ⟨w.heap.size, 1, none⟩ = some (.slice (some ⟨blk, off, none⟩) s.2.length c) ∧ w'.cell? ⟨blk, off + k, none⟩ = some (.int .i64 y)) (by kernel_rfl) ⟨x0, x1, x2, x3⟩ (fun hHeld => ?_)
            refine wpAnyH_take (i := 0) (oi := { dst := some 32, op := Go.Op.load 25 (Go.Operand.tmp 3), type := 25, pos := "ref.go:89", after := #[], guard := none }) (v := ?_) rfl (by kernel_rfl) (by kernel_rfl) (by kernel_rfl) (fun _ _ _ h => h) (Or.inl ⟨rfl, ?_⟩) (by assumption) ?_
            rotate_left
            · intro wz hSw; (try dsimp only at hSw); go_simp; try (with_reducible rfl)
            try simp only [Act.put, List.setIfInBounds_toArray, List.set_cons_zero, List.set_cons_succ]
            refine wpAnyH_take (i := 1) (oi := { dst := some 33, op := Go.Op.fieldAddr 25 (Go.Operand.tmp 2) 1, type := 0, pos := "ref.go:89", after := #[], guard := none }) (v := ?_) rfl (by kernel_rfl) (by kernel_rfl) (by kernel_rfl) (fun _ _ _ h => h) (Or.inl ⟨rfl, ?_⟩) (by assumption) ?_
            rotate_left
            · intro wz hSw; (try dsimp only at hSw); go_simp; try (with_reducible rfl)
            try simp only [Act.put, List.setIfInBounds_toArray, List.set_cons_zero, List.set_cons_succ]
            refine wpAnyH_take (i := 2) (oi := { dst := some 34, op := Go.Op.load 23 (Go.Operand.tmp 33), type := 23, pos := "ref.go:89", after := #[{ on := 1, ground := Go.Ground.data }], guard := none }) (v := ?_) rfl (by kernel_rfl) (by kernel_rfl) (by kernel_rfl) (fun _ _ _ h => h) (Or.inl ⟨rfl, ?_⟩) (by assumption) ?_
            rotate_left
            · intro wz hSw; (try dsimp only at hSw); go_simp; try (with_reducible rfl)
            try simp only [Act.put, List.setIfInBounds_toArray, List.set_cons_zero, List.set_cons_succ]
            refine wpAnyH_take (i := 3) (oi := { dst := some 35, op := Go.Op.move (Go.Operand.tmp 6), type := 3, pos := "ref.go:89", after := #[], guard := none }) (v := ?_) rfl (by kernel_rfl) (by kernel_rfl) (by kernel_rfl) (fun _ _ _ h => h) (Or.inl ⟨rfl, ?_⟩) (by assumption) ?_
            rotate_left
            · intro wz hSw; (try dsimp only at hSw); go_simp; try (with_reducible rfl)
            try simp only [Act.put, List.setIfInBounds_toArray, List.set_cons_zero, List.set_cons_succ]
            refine wpAnyH_take (i := 4) (oi := { dst := some 36, op := Go.Op.indexAddr 23 (Go.Operand.tmp 34) (Go.Operand.tmp 35), type := 0, pos := "ref.go:89", after := #[{ on := 2, ground := Go.Ground.data }, { on := 3, ground := Go.Ground.data }], guard := none }) (v := ?_) rfl (by kernel_rfl) (by kernel_rfl) (by kernel_rfl) (fun _ _ _ h => h) (Or.inl ⟨rfl, ?_⟩) (by assumption) ?_
            rotate_left
            · intro wz hSw; (try dsimp only at hSw); go_simp; try (with_reducible rfl)
            try simp only [Act.put, List.setIfInBounds_toArray, List.set_cons_zero, List.set_cons_succ]
            refine wpAnyH_take (i := 5) (oi := { dst := some 37, op := Go.Op.load 3 (Go.Operand.tmp 36), type := 3, pos := "ref.go:89", after := #[{ on := 4, ground := Go.Ground.data }], guard := none }) (v := ?_) rfl (by kernel_rfl) (by kernel_rfl) (by kernel_rfl) (fun _ _ _ h => h) (Or.inl ⟨rfl, ?_⟩) (by assumption) ?_
            rotate_left
            · intro wz hSw; (try dsimp only at hSw); go_simp; try (with_reducible rfl)
            try simp only [Act.put, List.setIfInBounds_toArray, List.set_cons_zero, List.set_cons_succ]
            refine wpAnyH_ready (rs := [6]) (by kernel_rfl) (by simp) ?_
            refine AllReadyH.cons (o := { dst := some 38, op := Go.Op.call { callee := Go.Callee.value (Go.Operand.func 65), args := #[Go.Operand.tmp 32, Go.Operand.tmp 37], argTypes := #[25, 3] }, type := 4, pos := "ref.go:89", after := #[{ on := 0, ground := Go.Ground.data }, { on := 5, ground := Go.Ground.data }], guard := none }) rfl (fun K hK => ?_) AllReadyH.nil
            go_simp
            go_at_call 65
            refine (cRefHas (by exact HIt.out.same rfl) hL' y).mono ?_
            rw [HV.out]
            rintro e w1 ⟨rfl, hw⟩
            replace x0 := (hw.cell (p := ⟨w.heap.size + 1, 0, none⟩) hz1).trans x0
            replace x1 := (hw.cell (p := ⟨w.heap.size + 1, 1, none⟩) hz1).trans x1
            replace x2 := (hw.cell (p := ⟨w.heap.size, 1, none⟩) hz0).trans x2
            replace x3 := (hw.cell (p := ⟨blk, off + k, none⟩) hzb).trans x3
            replace hz0 := Nat.lt_of_lt_of_le hz0 hw.size
            replace hz1 := Nat.lt_of_lt_of_le hz1 hw.size
            replace hzb := Nat.lt_of_lt_of_le hzb hw.size
            replace HIt := Lib.hid (HIt.out.on hw ⟨rfl, rfl, rfl, rfl⟩)
            replace HBc : Hid (Below w.heap.size w w1) := below_via HBc.out hw HBc.out.size ⟨rfl, rfl, rfl, rfl⟩
            clear hw
            refine hK.out _ _ ⟨x0, x1, x2, x3⟩ (fun hHeld => ?_)
            clear hK K
            try simp only [Act.put, List.setIfInBounds_toArray, List.set_cons_zero, List.set_cons_succ]
            refine wpAnyH_take (i := 7) (oi := { dst := some 39, op := Go.Op.unOp Go.UnOp.not 4 (Go.Operand.tmp 38), type := 4, pos := "ref.go:89", after := #[{ on := 6, ground := Go.Ground.data }], guard := none }) (v := ?_) rfl (by kernel_rfl) (by kernel_rfl) (by kernel_rfl) (fun _ _ _ h => h) (Or.inl ⟨rfl, ?_⟩) (by assumption) ?_
            rotate_left
            · intro wz hSw; (try dsimp only at hSw); go_simp; try (with_reducible rfl)
            try simp only [Act.put, List.setIfInBounds_toArray, List.set_cons_zero, List.set_cons_succ]
            refine wpAnyH_done (by kernel_rfl) ?_ _
            go_wp2
            go_ret
            exact ⟨ret_bool HE.out.symm, HBc.out⟩
          · have HV : Hid (refHasF t y = true) := by show refHasF t y = _; rw [ref_has_eq HOk.out, hv]
            have HE : Hid ((s.2.take (k + 1)).all (fun y => hasOf t.1 t.2 y) = true) := by
              show _ = true
              rw [all_take_next hlt2, HQ.out, HY.out, hv]; rfl
            clear hv
            go_wp2_with fail
            refine wp_region_held_drew (S := fun w' => w'.cell? ⟨w.heap.size + 1, 0, none⟩ = some (.int .i64 t.1) ∧ w'.cell? ⟨w.heap.size + 1, 1, none⟩ = some (.slice A' t.2.length c') ∧ w'.cell? ⟨w.heap.size, 1, none⟩ = some (.slice (some ⟨blk, off, none⟩) s.2.length c) ∧ w'.cell? ⟨blk, off + k, none⟩ = some (.int .i64 y)) (by kernel_rfl) ⟨x0, x1, x2, x3⟩ (fun hHeld => ?_)
            refine wpAnyH_take (i := 0) (oi := { dst := some 32, op := Go.Op.load 25 (Go.Operand.tmp 3), type := 25, pos := "ref.go:89", after := #[], guard := none }) (v := ?_) rfl (by kernel_rfl) (by kernel_rfl) (by kernel_rfl) (fun _ _ _ h => h) (Or.inl ⟨rfl, ?_⟩) (by assumption) ?_
            rotate_left
            · intro wz hSw; (try dsimp only at hSw); go_simp; try (with_reducible rfl)
            try simp only [Act.put, List.setIfInBounds_toArray, List.set_cons_zero, List.set_cons_succ]
            refine wpAnyH_take (i := 1) (oi := { dst := some 33, op := Go.Op.fieldAddr 25 (Go.Operand.tmp 2) 1, type := 0, pos := "ref.go:89", after := #[], guard := none }) (v := ?_) rfl (by kernel_rfl) (by kernel_rfl) (by kernel_rfl) (fun _ _ _ h => h) (Or.inl ⟨rfl, ?_⟩) (by assumption) ?_
            rotate_left
            · intro wz hSw; (try dsimp only at hSw); go_simp; try (with_reducible rfl)
            try simp only [Act.put, List.setIfInBounds_toArray, List.set_cons_zero, List.set_cons_succ]
            refine wpAnyH_take (i := 2) (oi := { dst := some 34, op := Go.Op.load 23 (Go.Operand.tmp 33), type := 23, pos := "ref.go:89", after := #[{ on := 1, ground := Go.Ground.data }], guard := none }) (v := ?_) rfl (by kernel_rfl) (by kernel_rfl) (by kernel_rfl) (fun _ _ _ h => h) (Or.inl ⟨rfl, ?_⟩) (by assumption) ?_
            rotate_left
            · intro wz hSw; (try dsimp only at hSw); go_simp; try (with_reducible rfl)
            try simp only [Act.put, List.setIfInBounds_toArray, List.set_cons_zero, List.set_cons_succ]
            refine wpAnyH_take (i := 3) (oi := { dst := some 35, op := Go.Op.move (Go.Operand.tmp 6), type := 3, pos := "ref.go:89", after := #[], guard := none }) (v := ?_) rfl (by kernel_rfl) (by kernel_rfl) (by kernel_rfl) (fun _ _ _ h => h) (Or.inl ⟨rfl, ?_⟩) (by assumption) ?_
            rotate_left
            · intro wz hSw; (try dsimp only at hSw); go_simp; try (with_reducible rfl)
            try simp only [Act.put, List.setIfInBounds_toArray, List.set_cons_zero, List.set_cons_succ]
            refine wpAnyH_take (i := 4) (oi := { dst := some 36, op := Go.Op.indexAddr 23 (Go.Operand.tmp 34) (Go.Operand.tmp 35), type := 0, pos := "ref.go:89", after := #[{ on := 2, ground := Go.Ground.data }, { on := 3, ground := Go.Ground.data }], guard := none }) (v := ?_) rfl (by kernel_rfl) (by kernel_rfl) (by kernel_rfl) (fun _ _ _ h => h) (Or.inl ⟨rfl, ?_⟩) (by assumption) ?_
            rotate_left
            · intro wz hSw; (try dsimp only at hSw); go_simp; try (with_reducible rfl)
            try simp only [Act.put, List.setIfInBounds_toArray, List.set_cons_zero, List.set_cons_succ]
            refine wpAnyH_take (i := 5) (oi := { dst := some 37, op := Go.Op.load 3 (Go.Operand.tmp 36), type := 3, pos := "ref.go:89", after := #[{ on := 4, ground := Go.Ground.data }], guard := none }) (v := ?_) rfl (by kernel_rfl) (by kernel_rfl) (by kernel_rfl) (fun _ _ _ h => h) (Or.inl ⟨rfl, ?_⟩) (by assumption) ?_
            rotate_left
            · intro wz hSw; (try dsimp only at hSw); go_simp; try (with_reducible rfl)
            try simp only [Act.put, List.setIfInBounds_toArray, List.set_cons_zero, List.set_cons_succ]
            refine wpAnyH_ready (rs := [6]) (by kernel_rfl) (by simp) ?_
            refine AllReadyH.cons (o := { dst := some 38, op := Go.Op.call { callee := Go.Callee.value (Go.Operand.func 65), args := #[Go.Operand.tmp 32, Go.Operand.tmp 37], argTypes := #[25, 3] }, type := 4, pos := "ref.go:89", after := #[{ on := 0, ground := Go.Ground.data }, { on := 5, ground := Go.Ground.data }], guard := none }) rfl (fun K hK => ?_) AllReadyH.nil
            go_simp
            go_at_call 65
            refine (cRefHas (by exact HIt.out.same rfl) hL' y).mono ?_
            rw [HV.out]
            rintro e w1 ⟨rfl, hw⟩
            replace x0 := (hw.cell (p := ⟨w.heap.size + 1, 0, none⟩) hz1).trans x0
            replace x1 := (hw.cell (p := ⟨w.heap.size + 1, 1, none⟩) hz1).trans x1
            replace x2 := (hw.cell (p := ⟨w.heap.size, 1, none⟩) hz0).trans x2
            replace x3 := (hw.cell (p := ⟨blk, off + k, none⟩) hzb).trans x3
            replace hz0 := Nat.lt_of_lt_of_le hz0 hw.size
            replace hz1 := Nat.lt_of_lt_of_le hz1 hw.size
            replace hzb := Nat.lt_of_lt_of_le hzb hw.size
            replace HIt := Lib.hid (HIt.out.on hw ⟨rfl, rfl, rfl, rfl⟩)
            replace HBc : Hid (Below w.heap.size w w1) := below_via HBc.out hw HBc.out.size ⟨rfl, rfl, rfl, rfl⟩
            clear hw
            refine hK.out _ _ ⟨x0, x1, x2, x3⟩ (fun hHeld => ?_)
            clear hK K
            try simp only [Act.put, List.setIfInBounds_toArray, List.set_cons_zero, List.set_cons_succ]
            refine wpAnyH_take (i := 7) (oi := { dst := some 39, op := Go.Op.unOp Go.UnOp.not 4 (Go.Operand.tmp 38), type := 4, pos := "ref.go:89", after := #[{ on := 6, ground := Go.Ground.data }], guard := none }) (v := ?_) rfl (by kernel_rfl) (by kernel_rfl) (by kernel_rfl) (fun _ _ _ h => h) (Or.inl ⟨rfl, ?_⟩) (by assumption) ?_
            rotate_left
            · intro wz hSw; (try dsimp only at hSw); go_simp; try (with_reducible rfl)
            try simp only [Act.put, List.setIfInBounds_toArray, List.set_cons_zero, List.set_cons_succ]
            refine wpAnyH_done (by kernel_rfl) ?_ _
            go_wp2
            go_roundw
            case rel => exact ⟨k + 1, by omega, by go_num, HE, x0, x1, x2, hz1, HIt, HBc⟩
            case measure => simp [intOf]; omega
        · have HE : Hid (withinF s t = true) := by
            show withinF s t = _
            have h1 := HQ.out
            rw [List.take_of_length_le (by omega)] at h1
            rw [HF.out, h1]
          go_wp2
          go_ret
          exact ⟨ret_bool HE.out.symm, HBc.out⟩

end Go.Proofs.Ythfdjebeblmmdaa.Sp

/- SpanAdds: the walk. -/
namespace Go.Proofs.Ythfdjebeblmmdaa.Sp
open Go.RowKit

/-- A variable that is a Span: in block G lies s, its Extra at (A, c). -/
def At (w : World) (G : Nat) (A : Option Addr) (c : Nat) (s : Int × List Int) : Prop := w.cell? ⟨G, 0, none⟩ = some (.int .i64 s.1) ∧ w.cell? ⟨G, 1, none⟩ = some (.slice A s.2.length c) ∧ G < w.heap.size ∧ SpanIn w A c s
theorem At.keep {W w1 : World} {G : Nat} {A : Option Addr} {c : Nat} {s : Int × List Int} (h : At W G A c s) (hb : Below W.heap.size W w1) : At w1 G A c s :=
  ⟨(hb.cell (p := ⟨G, 0, none⟩) h.2.2.1).trans h.1, (hb.cell (p := ⟨G, 1, none⟩) h.2.2.1).trans h.2.1, Nat.lt_of_lt_of_le h.2.2.1 hb.size, h.2.2.2.keep hb⟩
theorem At.alloc {W : World} {G : Nat} {A : Option Addr} {c : Nat} {s : Int × List Int} (h : At W G A c s) (o : Obj) : At (W.alloc o) G A c s := h.keep ((Below.refl _ _).alloc (Nat.le_refl _) o)
theorem At.new {W : World} {A : Option Addr} {c : Nat} {s : Int × List Int} (h : SpanIn W A c s) (T : TypeId) : At (W.alloc (Obj.cells #[.int .i64 s.1, .slice A s.2.length c] T)) W.heap.size A c s :=
  ⟨by simp [go_sem], by simp [go_sem], by simp, h.keep ((Below.refl _ _).alloc (Nat.le_refl _) _)⟩

theorem right_of {s : Int × List Int} (h : Ok s) (hb : s.1 ≤ 1048576) (hl : s.2.length ≤ 4096) (hm : ∀ z ∈ s.2, z ≤ 1048576) : rightF s.1 s.2 = true := by
  have hc : ∀ (l : List Int) (a : Int), l.Pairwise (· < ·) → (∀ z ∈ l, a < z ∧ z ≤ 1048576) → chainB a l = true := by
    intro l
    induction l with
    | nil => intro a _ _; rfl
    | cons z t ih =>
      intro a hs hb
      rw [List.pairwise_cons] at hs
      have h1 := hb z (by simp)
      unfold chainB
      rw [decide_eq_true (by omega), ih z hs.2 (fun y hy => ⟨hs.1 y hy, (hb y (by simp [hy])).2⟩)]
      rfl
  unfold rightF
  have h0 := h.1
  rw [decide_eq_true (by omega), hc s.2 (s.1 + 1) h.2.1 (fun z hz => ⟨h.2.2 z hz, hm z hz⟩)]
  rfl

/-- What the law's numbers come to: s as Fix makes it, r the Span with m. -/
theorem adds_facts {s r : Int × List Int} {m : Int} (hs : Small s) (hr : refAddF s m = r) : Ok r ∧ r.1 ≤ 100000 ∧ r.2.length ≤ 4096 ∧ rightF r.1 r.2 = true ∧ (hasOf r.1 r.2 m = true ↔ 1 ≤ m ∧ m ≤ 1048576) := by
  subst hr
  obtain ⟨a, b⟩ := refAdd_ok hs.1 m
  have hbd := refAdd_bd s m
  have h1 := hs.2.2.1
  have h2 := hs.2.2.2
  refine ⟨a, by omega, by omega, right_of a (by omega) (by omega) (fun z hz => ?_), ?_⟩
  · rcases (b z).1 (.inr hz) with h | h
    · have := hs.2.1 z h; omega
    · omega
  · rw [has_mem a, b m]
    constructor
    · rintro (h | h)
      · have h3 := hs.2.1 m h
        rcases h with h | h
        · omega
        · have := hs.1.2.2 m h; have := hs.1.1; omega
      · exact h.2
    · intro h
      exact .inr ⟨rfl, h⟩

end Go.Proofs.Ythfdjebeblmmdaa.Sp

/- The document's Union. -/
namespace Go.Proofs.Ythfdjebeblmmdaa.Sp
open Go.RowKit

def refUnionF (s t : Int × List Int) : Int × List Int :=
  if s.1 < t.1 then s.2.foldl refAddF (t.2.foldl refAddF (t.1, [])) else t.2.foldl refAddF (s.2.foldl refAddF (s.1, []))

theorem refAdd_small {s : Int × List Int} (h : Small s) {m : Int} (hm : m ≤ 60) : Small (refAddF s m) ∧ ∀ x, Mem x (refAddF s m) ↔ Mem x s ∨ (x = m ∧ 1 ≤ m ∧ m ≤ 1048576) := by
  obtain ⟨a, b⟩ := refAdd_ok h.1 m
  refine ⟨small_of a (fun x hx => ?_), b⟩
  rcases (b x).1 hx with h1 | ⟨rfl, _, _⟩
  · exact h.2.1 x h1
  · exact hm

theorem foldAdd_small : ∀ (l : List Int) {s : Int × List Int}, Small s → (∀ m ∈ l, 1 ≤ m ∧ m ≤ 60) → Small (l.foldl refAddF s) ∧ ∀ x, Mem x (l.foldl refAddF s) ↔ Mem x s ∨ x ∈ l
  | [], s, h, _ => ⟨h, fun x => by simp⟩
  | m :: l, s, h, hb => by
    obtain ⟨a, b⟩ := refAdd_small h (hb m (by simp)).2
    obtain ⟨c, d⟩ := foldAdd_small l a (fun k hk => hb k (by simp [hk]))
    refine ⟨c, fun x => ?_⟩
    have := hb m (by simp)
    rw [List.foldl_cons, d x, b x, List.mem_cons, or_assoc]
    constructor
    · rintro (h | h | h)
      · exact .inl h
      · exact .inr (.inl h.1)
      · exact .inr (.inr h)
    · rintro (h | h | h)
      · exact .inl h
      · exact .inr (.inl ⟨h, by omega, by omega⟩)
      · exact .inr (.inr h)

theorem small_els {s : Int × List Int} (h : Small s) : ∀ m ∈ s.2, 1 ≤ m ∧ m ≤ 60 := fun m hm => ⟨by have := h.1.2.2 m hm; have := h.1.1; omega, h.2.1 m (.inr hm)⟩
theorem small_base {s : Int × List Int} (h : Small s) : Small (s.1, ([] : List Int)) := by
  have h0 := h.1.1
  have h1 := h.2.2.1
  refine small_of ⟨h0, by simp, by simp⟩ (fun x hx => ?_)
  rcases hx with hx | hx
  · simp only at hx; omega
  · simp at hx

theorem refUnion_small {s t : Int × List Int} (hs : Small s) (ht : Small t) : Small (refUnionF s t) ∧ ∀ x, Mem x (refUnionF s t) ↔ Mem x s ∨ Mem x t := by
  have key : ∀ {a b : Int × List Int}, Small a → Small b → b.1 ≤ a.1 → Small (b.2.foldl refAddF (a.2.foldl refAddF (a.1, []))) ∧ ∀ x, Mem x (b.2.foldl refAddF (a.2.foldl refAddF (a.1, []))) ↔ Mem x a ∨ Mem x b := by
    intro a b ha hb hab
    obtain ⟨c, d⟩ := foldAdd_small a.2 (small_base ha) (small_els ha)
    obtain ⟨e, f⟩ := foldAdd_small b.2 c (small_els hb)
    refine ⟨e, fun x => ?_⟩
    rw [f x, d x]
    unfold Mem
    simp only [List.not_mem_nil, or_false]
    constructor
    · rintro ((h | h) | h)
      · exact .inl (.inl h)
      · exact .inl (.inr h)
      · exact .inr (.inr h)
    · rintro ((h | h) | (h | h))
      · exact .inl (.inl h)
      · exact .inl (.inr h)
      · exact .inl (.inl ⟨h.1, by omega⟩)
      · exact .inr h
  unfold refUnionF
  split
  · obtain ⟨a, b⟩ := key ht hs (by omega)
    exact ⟨a, fun x => (b x).trans Or.comm⟩
  · exact key hs ht (by omega)

theorem union_eq {s t : Int × List Int} (hs : Small s) (ht : Small t) : unionF s t = refUnionF s t := by
  obtain ⟨a, b⟩ := union_small hs ht
  obtain ⟨c, d⟩ := refUnion_small hs ht
  exact Ok.ext a.1 c.1 (fun x => (b x).trans (d x).symm)

/-- The call's variables: the two Spans' Extras, the answer's block still empty. -/
def Two (w : World) (A1 : Option Addr) (n1 c1 : Nat) (A2 : Option Addr) (n2 c2 : Nat) (wr : World) : Prop :=
  wr.cell? ⟨w.heap.size, 1, none⟩ = some (.slice A1 n1 c1) ∧ wr.cell? ⟨w.heap.size + 1, 1, none⟩ = some (.slice A2 n2 c2) ∧
    wr.cell? ⟨w.heap.size + 2, 0, none⟩ = some (.int .i64 0) ∧ wr.cell? ⟨w.heap.size + 2, 1, none⟩ = some (.slice none 0 0) ∧ wr.frozen? ⟨w.heap.size + 2, 0, none⟩ = false ∧ wr.frozen? ⟨w.heap.size + 2, 1, none⟩ = false ∧
    Below w.heap.size w wr ∧ w.heap.size + 4 ≤ wr.heap.size

theorem Two.on {w : World} {A1 : Option Addr} {n1 c1 : Nat} {A2 : Option Addr} {n2 c2 : Nat} {wr W w1 : World} (h : Two w A1 n1 c1 A2 n2 c2 wr) (hb : Below W.heap.size W w1) (e : SameW wr W) : Two w A1 n1 c1 A2 n2 c2 w1 := by
  obtain ⟨j0, j1, j2, j3, j4, j5, hbel, hs⟩ := h
  have hb' := below_via (Below.refl wr.heap.size wr) hb (Nat.le_refl _) e
  exact ⟨(hb'.cell (by simp; omega)).trans j0, (hb'.cell (by simp; omega)).trans j1, (hb'.cell (by simp; omega)).trans j2, (hb'.cell (by simp; omega)).trans j3, (hb'.frozen (by simp; omega)).trans j4, (hb'.frozen (by simp; omega)).trans j5, hbel.trans (hb'.mono hbel.size), Nat.le_trans hs hb'.size⟩
theorem Two.set {w : World} {A1 : Option Addr} {n1 c1 : Nat} {A2 : Option Addr} {n2 c2 : Nat} {wr : World} (h : Two w A1 n1 c1 A2 n2 c2 wr) {p : Addr} (hp : w.heap.size + 3 ≤ p.block) (v : Value) : Two w A1 n1 c1 A2 n2 c2 (wr.setCell p v) := by
  obtain ⟨j0, j1, j2, j3, j4, j5, hbel, hs⟩ := h
  have hb' : Below (w.heap.size + 3) wr (wr.setCell p v) := (Below.refl _ _).setCell hp v
  exact ⟨(hb'.cell (by simp)).trans j0, (hb'.cell (by simp)).trans j1, (hb'.cell (by simp)).trans j2, (hb'.cell (by simp)).trans j3, (hb'.frozen (by simp)).trans j4, (hb'.frozen (by simp)).trans j5, hbel.setCell (by omega) v, by simpa [World.setCell] using hs⟩

def UnRel (w : World) (st : Int × List Int) (A1 : Option Addr) (n1 c1 : Nat) (A2 : Option Addr) (n2 c2 : Nat) (wr : World) : Prop :=
  ∃ (Ak : Option Addr) (ck : Nat), wr.cell? ⟨w.heap.size + 3, 0, none⟩ = some (.int .i64 st.1) ∧ wr.cell? ⟨w.heap.size + 3, 1, none⟩ = some (.slice Ak st.2.length ck) ∧ wr.frozen? ⟨w.heap.size + 3, 0, none⟩ = false ∧ wr.frozen? ⟨w.heap.size + 3, 1, none⟩ = false ∧
    wr.ownsRow (w.heap.size + 4) 3 1 (.slice Ak st.2.length ck) st.2.length (st.2.map (.int .i64)) ∧ Two w A1 n1 c1 A2 n2 c2 wr

theorem copy_end3 {w : World} {wr : World} {u : Int} {l : List Int} {Al : Option Addr} {nl cl : Nat} (hown : wr.ownsRow (w.heap.size + 4) 3 1 (.slice Al nl cl) nl (l.map (.int .i64))) (hb : Below w.heap.size w wr) {s : Int × List Int} (hs : s = (u, l)) (hl : l.length = nl) :
    OwnSpan w.heap.size none s w (.returned (.agg #[.int .i64 u, .slice Al nl cl])) ((wr.setCell ⟨w.heap.size + 2, 0, none⟩ (.int .i64 u)).setCell ⟨w.heap.size + 2, 1, none⟩ (.slice Al nl cl)) := by
  have hn4 : Value.ownBlock (.slice Al nl cl) ≠ some (w.heap.size + 2) := fun e => by have := (hown.lt _ e).1; omega
  exact ownSpan_of hs hl (own_base (own_setCell (own_setCell hown (p := ⟨w.heap.size + 2, 0, none⟩) hn4 _) (p := ⟨w.heap.size + 2, 1, none⟩) hn4 _) (by omega)) (grown_of_below ((hb.setCell (by simp) _).setCell (by simp) _) _) (lies_own hown (by omega))

set_option maxRecDepth 100000 in
set_option maxRecDepth 100000 in
set_option maxHeartbeats 4000000 in
theorem cRefUnion {w : World} {A A' : Option Addr} {c c' : Nat} {s t : Int × List Int} (h : SpanIn w A c s) (h' : SpanIn w A' c' t) (hs : Small s) (ht : Small t) :
    Calls Try.prog 69 #[.agg #[.int .i64 s.1, .slice A s.2.length c], .agg #[.int .i64 t.1, .slice A' t.2.length c']] w (RetSpan (refUnionF s t) w) := by
  have HI := Lib.hid h.1
  have HI' := Lib.hid h'.1
  have HSs := Lib.hid hs
  have HSt := Lib.hid ht
  clear h h' hs ht
  go_enter Try.func69, Try.ntmps69
  go_upto_if 12 with fail
  go_cut [] (fun wx => ∃ (p q : Int × List Int) (Pa Qa : Option Addr) (Pc Qc : Nat), Hid (Small p) ∧ Hid (Small q) ∧ Hid (IntsAt w w.heap.size Pa p.2.length p.2) ∧ Hid (IntsAt w w.heap.size Qa q.2.length q.2) ∧ Hid (refUnionF s t = q.2.foldl refAddF (p.2.foldl refAddF (p.1, []))) ∧ wx.cell? ⟨w.heap.size, 0, none⟩ = some (.int .i64 p.1) ∧ wx.cell? ⟨w.heap.size, 1, none⟩ = some (.slice Pa p.2.length Pc) ∧ wx.cell? ⟨w.heap.size + 1, 1, none⟩ = some (.slice Qa q.2.length Qc) ∧ wx.cell? ⟨w.heap.size + 2, 0, none⟩ = some (.int .i64 0) ∧ wx.cell? ⟨w.heap.size + 2, 1, none⟩ = some (.slice none 0 0) ∧ wx.frozen? ⟨w.heap.size + 2, 0, none⟩ = false ∧ wx.frozen? ⟨w.heap.size + 2, 1, none⟩ = false ∧ Hid (Below w.heap.size w wx) ∧ Hid (wx.heap.size = w.heap.size + 3))
  case first =>
    by_cases hlt : s.1 < t.1
    · have HF : Hid (refUnionF s t = s.2.foldl refAddF (t.2.foldl refAddF (t.1, []))) := if_pos hlt
      go_wp2
      go_meet
      case rel =>
        refine ⟨t, s, A', A, c', c, HSt, HSs, HI', HI, HF, by simp [go_sem], by simp [go_sem], by simp [go_sem], by simp [go_sem], by simp [go_sem], by simp [go_sem], by simp [go_sem], ?_, by show _ = _; simp⟩
        exact (((Below.refl _ _).alloc (Nat.le_refl _) _).alloc (by simp) _).alloc (by simp; omega) _
    · have HF : Hid (refUnionF s t = t.2.foldl refAddF (s.2.foldl refAddF (s.1, []))) := if_neg hlt
      go_wp2
      go_meet
      case rel =>
        refine ⟨s, t, A, A', c, c', HSs, HSt, HI, HI', HF, by simp [go_sem], by simp [go_sem], by simp [go_sem], by simp [go_sem], by simp [go_sem], by simp [go_sem], by simp [go_sem], ?_, by show _ = _; simp⟩
        exact (((Below.refl _ _).alloc (Nat.le_refl _) _).alloc (by simp) _).alloc (by simp; omega) _
  case rest =>
  obtain ⟨p, q, Pa, Qa, Pc, Qc, HSp, HSq, HP, HQ, HRe, i0, i1, i2, i3, i4, i5, i6, HB, HZ⟩ := hcut
  generalize hR : refUnionF s t = R at HRe
  have HRR := Lib.hid hR
  clear hR
  have e3a : (wc.alloc (Obj.cells #[Value.int IntKind.i64 p.1, Value.slice none 0 0] 25)).cell? ⟨w.heap.size + 3, 0, none⟩ = some (.int .i64 p.1) := by rw [← HZ.out]; simp [go_sem]
  have e3b : (wc.alloc (Obj.cells #[Value.int IntKind.i64 p.1, Value.slice none 0 0] 25)).cell? ⟨w.heap.size + 3, 1, none⟩ = some (.slice none 0 0) := by rw [← HZ.out]; simp [go_sem]
  have e3c : (wc.alloc (Obj.cells #[Value.int IntKind.i64 p.1, Value.slice none 0 0] 25)).frozen? ⟨w.heap.size + 3, 0, none⟩ = false := by rw [← HZ.out]; simp [go_sem]
  have e3d : (wc.alloc (Obj.cells #[Value.int IntKind.i64 p.1, Value.slice none 0 0] 25)).frozen? ⟨w.heap.size + 3, 1, none⟩ = false := by rw [← HZ.out]; simp [go_sem]
  have hz0 : w.heap.size < wc.heap.size := by rw [HZ.out]; omega
  have hz1 : w.heap.size + 1 < wc.heap.size := by rw [HZ.out]; omega
  have hz2 : w.heap.size + 2 < wc.heap.size := by rw [HZ.out]; omega
  have l1 := cell_new (Obj.cells #[Value.int IntKind.i64 p.1, Value.slice none 0 0] 25) hz0 i1
  have l2 := cell_new (Obj.cells #[Value.int IntKind.i64 p.1, Value.slice none 0 0] 25) hz1 i2
  have l3 := cell_new (Obj.cells #[Value.int IntKind.i64 p.1, Value.slice none 0 0] 25) hz2 i3
  have l4 := cell_new (Obj.cells #[Value.int IntKind.i64 p.1, Value.slice none 0 0] 25) hz2 i4
  have l5 := frozen_new (Obj.cells #[Value.int IntKind.i64 p.1, Value.slice none 0 0] 25) hz2 i5
  have l6 := frozen_new (Obj.cells #[Value.int IntKind.i64 p.1, Value.slice none 0 0] 25) hz2 i6
  have HBa : Hid (Below w.heap.size w (wc.alloc (Obj.cells #[Value.int IntKind.i64 p.1, Value.slice none 0 0] 25))) := HB.out.alloc HB.out.size _
  have lsz : w.heap.size + 4 ≤ (wc.alloc (Obj.cells #[Value.int IntKind.i64 p.1, Value.slice none 0 0] 25)).heap.size := by simp [HZ.out]
  have hp0 := HSp.out.1.1
  have hpl := HSp.out.2.2.2
  have hql := HSq.out.2.2.2
  go_wp2
  rw [HZ.out]
  go_loopw [6] (fun i wr => ∃ (k : Nat) (st : Int × List Int), k ≤ p.2.length ∧ i = .int .i64 k ∧ Hid (Small st) ∧ Hid ((p.2.take k).foldl refAddF (p.1, []) = st) ∧ Hid (UnRel w st Pa p.2.length Pc Qa q.2.length Qc wr)) (fun i _ => p.2.length - (intOf i).toNat)
  case atStart => exact ⟨0, (p.1, []), by omega, rfl, small_base HSp.out, rfl, none, 0, e3a, e3b, e3c, e3d, World.ownsRow_nil _ _ _ _, l1, l2, l3, l4, l5, l6, HBa.out, lsz⟩
  case round =>
    obtain ⟨k, st, hk, rfl, HSm, HFo, HU⟩ := hrel
    obtain ⟨Ak, ck, p0, p1, f0, f1, hown, htwo⟩ := HU.out
    have HOw := Lib.hid hown
    have HTw := Lib.hid htwo
    obtain ⟨j0, j1, j2, j3, j4, j5, hbel, hsz⟩ := htwo
    have HBe := Lib.hid hbel
    have hs0 := HSm.out.1.1
    have hs1 := HSm.out.2.2.1
    have hs2 := HSm.out.2.2.2
    clear hown hbel
    by_cases hlt : k < p.2.length
    · obtain ⟨b, off, rfl, hbB, hc⟩ := HP.out.2 (by omega)
      have hck := (HBe.out.cell (p := ⟨b, off + k, none⟩) hbB).trans (hc k hlt)
      have hkI : (k : Int) < p.2.length := by omega
      clear hc
      generalize hy : p.2.getD k 0 = y at hck
      have HY := Lib.hid hy
      clear hy
      have hym := small_els HSp.out y (by rw [← HY.out]; exact mem_getD.2 ⟨k, hlt, rfl⟩)
      obtain ⟨s1, HS1⟩ : ∃ s1, Hid (refAddF st y = s1) := ⟨_, rfl⟩
      have HSm1 : Hid (Small s1) := by show Small s1; rw [← HS1.out]; exact (refAdd_small HSm.out hym.2).1
      have HF1 : Hid ((p.2.take (k + 1)).foldl refAddF (p.1, []) = s1) := by
        show _ = s1
        rw [take_next _ k hlt, List.foldl_append, HFo.out, HY.out, ← HS1.out]; rfl
      go_wp2_with fail
      go_region_law
        (first
          | (go_simp
             go_at_call 61
             refine (refAdd_any st.1 Ak st.2.length ck st.2 y wr.heap.size _ ?_ ?_ ?_ ?_ ?_).mono ?_
             · exact Nat.le_refl _
             · exact ints_same (own_ints HOw.out) rfl
             · omega
             · exact hs0
             · omega
             rw [show refAddF (st.1, st.2) y = s1 from HS1.out]
             rintro e w1 ⟨A1, c1, rfl, hown1, hg1, _⟩
             have hb1 := grown_none hg1
             have q0 := (hb1.cell (p := ⟨w.heap.size + 3, 0, none⟩) hsz).trans p0
             have q1 := (hb1.cell (p := ⟨w.heap.size + 3, 1, none⟩) hsz).trans p1
             have q2 := (hb1.frozen (p := ⟨w.heap.size + 3, 0, none⟩) hsz).trans f0
             have q3 := (hb1.frozen (p := ⟨w.heap.size + 3, 1, none⟩) hsz).trans f1
             have HT1 := Lib.hid (HTw.out.on hb1 ⟨rfl, rfl, rfl, rfl⟩)
             have HO1 : Hid (w1.ownsRow (w.heap.size + 4) 3 1 (.slice A1 s1.2.length c1) s1.2.length (s1.2.map (.int .i64))) := own_base hown1 hsz
             clear hown1 hg1 hb1))
      all_goals
        go_wp2_with fail
        go_roundw
        case rel =>
          have hn1 : Value.ownBlock (.slice A1 s1.2.length c1) ≠ some (w.heap.size + 3) := fun e => by have := (HO1.out.lt _ e).1; omega
          refine ⟨k + 1, s1, by omega, by go_num, HSm1, HF1, A1, c1, by simp [go_sem, q0], by simp [go_sem, q1], by simp [go_sem, q2], by simp [go_sem, q3], ?_, ?_⟩
          · exact own_setCell (own_setCell HO1.out (p := ⟨w.heap.size + 3, 0, none⟩) hn1 _) (p := ⟨w.heap.size + 3, 1, none⟩) hn1 _
          · exact Two.set (Two.set HT1.out (by simp) _) (by simp) _
        case measure => simp [intOf]; omega
    · have hkn : k = p.2.length := by omega
      have HFk : Hid (p.2.foldl refAddF (p.1, []) = st) := by
        show _ = st
        rw [← HFo.out, List.take_of_length_le (by omega)]
      clear HFo hkn hk
      obtain ⟨st1, HSt1e⟩ : ∃ st1, Hid (st = st1) := ⟨_, rfl⟩
      have HSt1 : Hid (Small st1) := by show Small st1; rw [← HSt1e.out]; exact HSm.out
      have HU1 : Hid (UnRel w st1 Pa p.2.length Pc Qa q.2.length Qc wr) := by show UnRel w st1 _ _ _ _ _ _ wr; rw [← HSt1e.out]; exact HU.out
      have HR : Hid (R = q.2.foldl refAddF st1) := by show R = _; rw [HRe.out, HFk.out, HSt1e.out]
      clear HU HSm HFk HSt1e HOw HTw HBe
      go_wp2
      clear j0 j1 j2 j3 j4 j5 p0 p1 f0 f1 hsz hs0 hs1 hs2
      go_loopw [7] (fun i wr => ∃ (k : Nat) (st : Int × List Int), k ≤ q.2.length ∧ i = .int .i64 k ∧ Hid (Small st) ∧ Hid ((q.2.take k).foldl refAddF st1 = st) ∧ Hid (UnRel w st Pa p.2.length Pc Qa q.2.length Qc wr)) (fun i _ => q.2.length - (intOf i).toNat)
      case atStart => exact ⟨0, st1, by omega, rfl, HSt1, rfl, HU1⟩
      case round =>
        obtain ⟨k, st, hk, rfl, HSm, HFo, HU⟩ := hrel
        obtain ⟨Ak, ck, p0, p1, f0, f1, hown, htwo⟩ := HU.out
        have HOw := Lib.hid hown
        have HTw := Lib.hid htwo
        obtain ⟨j0, j1, j2, j3, j4, j5, hbel, hsz⟩ := htwo
        have HBe := Lib.hid hbel
        have hs0 := HSm.out.1.1
        have hs1 := HSm.out.2.2.1
        have hs2 := HSm.out.2.2.2
        clear hown hbel
        by_cases hlt : k < q.2.length
        · obtain ⟨b, off, rfl, hbB, hc⟩ := HQ.out.2 (by omega)
          have hck := (HBe.out.cell (p := ⟨b, off + k, none⟩) hbB).trans (hc k hlt)
          have hkI : (k : Int) < q.2.length := by omega
          clear hc
          generalize hy : q.2.getD k 0 = y at hck
          have HY := Lib.hid hy
          clear hy
          have hym := small_els HSq.out y (by rw [← HY.out]; exact mem_getD.2 ⟨k, hlt, rfl⟩)
          obtain ⟨s1, HS1⟩ : ∃ s1, Hid (refAddF st y = s1) := ⟨_, rfl⟩
          have HSm1 : Hid (Small s1) := by show Small s1; rw [← HS1.out]; exact (refAdd_small HSm.out hym.2).1
          have HF1 : Hid ((q.2.take (k + 1)).foldl refAddF st1 = s1) := by
            show _ = s1
            rw [take_next _ k hlt, List.foldl_append, HFo.out, HY.out, ← HS1.out]; rfl
          go_wp2_with fail
          go_region_law
            (first
              | (go_simp
                 go_at_call 61
                 refine (refAdd_any st.1 Ak st.2.length ck st.2 y wr.heap.size _ ?_ ?_ ?_ ?_ ?_).mono ?_
                 · exact Nat.le_refl _
                 · exact ints_same (own_ints HOw.out) rfl
                 · omega
                 · exact hs0
                 · omega
                 rw [show refAddF (st.1, st.2) y = s1 from HS1.out]
                 rintro e w1 ⟨A1, c1, rfl, hown1, hg1, _⟩
                 have hb1 := grown_none hg1
                 have q0 := (hb1.cell (p := ⟨w.heap.size + 3, 0, none⟩) hsz).trans p0
                 have q1 := (hb1.cell (p := ⟨w.heap.size + 3, 1, none⟩) hsz).trans p1
                 have q2 := (hb1.frozen (p := ⟨w.heap.size + 3, 0, none⟩) hsz).trans f0
                 have q3 := (hb1.frozen (p := ⟨w.heap.size + 3, 1, none⟩) hsz).trans f1
                 have HT1 := Lib.hid (HTw.out.on hb1 ⟨rfl, rfl, rfl, rfl⟩)
                 have HO1 : Hid (w1.ownsRow (w.heap.size + 4) 3 1 (.slice A1 s1.2.length c1) s1.2.length (s1.2.map (.int .i64))) := own_base hown1 hsz
                 clear hown1 hg1 hb1))
          all_goals
            go_wp2_with fail
            go_roundw
            case rel =>
              have hn1 : Value.ownBlock (.slice A1 s1.2.length c1) ≠ some (w.heap.size + 3) := fun e => by have := (HO1.out.lt _ e).1; omega
              refine ⟨k + 1, s1, by omega, by go_num, HSm1, HF1, A1, c1, by simp [go_sem, q0], by simp [go_sem, q1], by simp [go_sem, q2], by simp [go_sem, q3], ?_, ?_⟩
              · exact own_setCell (own_setCell HO1.out (p := ⟨w.heap.size + 3, 0, none⟩) hn1 _) (p := ⟨w.heap.size + 3, 1, none⟩) hn1 _
              · exact Two.set (Two.set HT1.out (by simp) _) (by simp) _
            case measure => simp [intOf]; omega
        · have hkn : k = q.2.length := by omega
          have HFk : Hid (q.2.foldl refAddF st1 = st) := by
            show _ = st
            rw [← HFo.out, List.take_of_length_le (by omega)]
          clear HFo hkn hk
          go_wp2
          refine bodyPost_ret (v := .agg #[.int .i64 st.1, .slice Ak st.2.length ck]) ?_ rfl ?_
          · simp [results, Try.results69, go_sem, j2, j3]
          · exact ret_of_own (copy_end3 HOw.out HBe.out (HRR.out.trans (HR.out.trans HFk.out)) rfl)
end Go.Proofs.Ythfdjebeblmmdaa.Sp
