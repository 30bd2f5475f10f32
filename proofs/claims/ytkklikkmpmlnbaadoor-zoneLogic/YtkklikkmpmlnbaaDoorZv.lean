/- The law ZoneLogic. -/
import Derived.Test.YtkklikkmpmlnbaaDoorZt
namespace Go.Proofs.YtkklikkmpmlnbaaDoor
open Go.RowKit

theorem run_cons (px py : Int) (t : Bool) : ∀ (rs : List RSt) (ts : List Bool) (u v : Int), foldR u rs = some v → (ts.length : Int) = u → runH px py (t :: ts) rs = t :: runH px py ts rs := by
  intro rs
  induction rs with
  | nil => intro ts u v _ _; rfl
  | cons r l ih =>
    intro ts u v h hl
    have h' : (stepR u r).bind (fun q => foldR q l) = some v := h
    cases e : stepR u r with
    | none => rw [e] at h'; cases h'
    | some q =>
      rw [e] at h'
      obtain ⟨h1, h2, h3⟩ := step_len px py e hl
      show runH px py (stepH px py (t :: ts) r) l = t :: runH px py (stepH px py ts r) l
      have h4 : stepH px py (t :: ts) r = t :: stepH px py ts r := by
        have h5 := takes_two r.op
        unfold stepH
        have h6 : (t :: ts).length - (takesF r.op).toNat = (ts.length - (takesF r.op).toNat) + 1 := by rw [List.length_cons]; omega
        rw [h6, List.take_succ_cons, List.drop_succ_cons]
        rfl
      rw [h4]
      exact ih _ q v h' h1
theorem fold_push : ∀ (rs : List RSt) (u v k : Int), 0 ≤ k → foldR u rs = some v → foldR (u + k) rs = some (v + k) := by
  intro rs
  induction rs with
  | nil => intro u v k _ h; obtain rfl : u = v := by simpa [foldR] using h
           rfl
  | cons r l ih =>
    intro u v k hk h
    have h' : (stepR u r).bind (fun q => foldR q l) = some v := h
    cases e : stepR u r with
    | none => rw [e] at h'; cases h'
    | some q =>
      rw [e] at h'
      show (stepR (u + k) r).bind (fun q => foldR q l) = _
      unfold stepR at e
      split at e
      · rename_i hc
        obtain rfl := Option.some.inj e
        unfold stepR
        rw [if_pos ⟨hc.1, by have := hc.2; omega⟩]
        have := ih _ _ k hk h'
        show foldR (u + k + (1 - takesF r.op)) l = _
        rw [show u + k + (1 - takesF r.op) = u + (1 - takesF r.op) + k by omega]
        exact this
      · cases e
theorem has_right {rs : List RSt} {px py : Int} (h : rightZ rs = true) (hw : wholeF px py = true) : runH px py [] rs = [hasZ rs px py] := by
  obtain ⟨b, hb⟩ := run_one px py h
  unfold hasZ
  rw [h, hw, hb]
  rfl
theorem has_not {a : List RSt} {px py : Int} (h : rightZ a = true) (hw : wholeF px py = true) (hl : a.length + 1 ≤ 32) : hasZ (a ++ [⟨4, 0, 0, 0⟩]) px py = !hasZ a px py := by
  have h1 := has_right h hw
  have hr : rightZ (a ++ [⟨4, 0, 0, 0⟩]) = true := by
    unfold rightZ
    rw [foldR_append, (right_fold h).2, List.length_append]
    simp only [List.length_cons, List.length_nil]
    rw [decide_eq_true (by omega)]
    rfl
  generalize hasZ a px py = b at *
  unfold hasZ
  rw [hr, hw, runH_append, h1]
  cases b <;> rfl
theorem has_two {a b : List RSt} {px py : Int} (ha : rightZ a = true) (hb : rightZ b = true) (hw : wholeF px py = true) (hl : a.length + b.length + 1 ≤ 32) :
    hasZ (a ++ b ++ [⟨5, 0, 0, 0⟩]) px py = (hasZ a px py && hasZ b px py) ∧ hasZ (a ++ b ++ [⟨6, 0, 0, 0⟩]) px py = (hasZ a px py || hasZ b px py) := by
  have h1 := has_right ha hw
  have h2 := has_right hb hw
  have hfb : foldR 1 b = some 2 := fold_push b 0 1 1 (by omega) (right_fold hb).2
  have h3 : ∀ t, runH px py [t] b = [t, hasZ b px py] := fun t => by rw [run_cons px py t b [] 0 1 (right_fold hb).2 rfl, h2]
  have hr : ∀ o, (o = 5 ∨ o = 6) → rightZ (a ++ b ++ [⟨o, 0, 0, 0⟩]) = true := fun o ho => by
    unfold rightZ
    rw [foldR_append, foldR_append, (right_fold ha).2]
    show (_ && (((foldR 1 b).bind _) == _)) = _
    rw [hfb, List.length_append, List.length_append]
    simp only [List.length_cons, List.length_nil]
    rw [decide_eq_true (by omega)]
    rcases ho with rfl | rfl <;> rfl
  have h4 := h3 (hasZ a px py)
  generalize hasZ a px py = x at *
  generalize hasZ b px py = y at *
  unfold hasZ
  rw [hr 5 (.inl rfl), hr 6 (.inr rfl), hw, runH_append, runH_append, runH_append, runH_append, h1, h4]
  cases x <;> cases y <;> exact ⟨rfl, rfl⟩
def opS (o : Int) : Stp := ⟨o, 0, 0, 0⟩
theorem like_snoc {zs : List Stp} {rs : List RSt} (h : LikeL zs rs) (o : Int) : LikeL (zs ++ [opS o]) (rs ++ [⟨o, 0, 0, 0⟩]) := by
  have hs : Small 0 := small_zero
  have hl : Like (opS o) ⟨o, 0, 0, 0⟩ := ⟨rfl, .inl ⟨hs, num_zero⟩, .inl ⟨hs, num_zero⟩, .inl ⟨hs, num_zero⟩⟩
  refine ⟨by rw [List.length_append, List.length_append, h.1]; rfl, fun k s r h1 h2 => ?_⟩
  by_cases hk : k < zs.length
  · rw [List.getElem?_append_left hk] at h1
    rw [List.getElem?_append_left (by rw [← h.1]; exact hk)] at h2
    exact h.2 k s r h1 h2
  · rw [List.getElem?_append_right (by omega)] at h1
    rw [List.getElem?_append_right (by rw [← h.1]; omega), ← h.1] at h2
    generalize k - zs.length = j at *
    cases j with
    | zero =>
      simp only [List.getElem?_cons_zero, Option.some.injEq] at h1 h2
      subst h1 h2
      exact hl
    | succ j => simp at h1
theorem like_app {zs ys : List Stp} {rs qs : List RSt} (h : LikeL zs rs) (h' : LikeL ys qs) : LikeL (zs ++ ys) (rs ++ qs) := by
  refine ⟨by rw [List.length_append, List.length_append, h.1, h'.1], fun k s r h1 h2 => ?_⟩
  by_cases hk : k < zs.length
  · rw [List.getElem?_append_left hk] at h1
    rw [List.getElem?_append_left (by rw [← h.1]; exact hk)] at h2
    exact h.2 k s r h1 h2
  · rw [List.getElem?_append_right (by omega)] at h1
    rw [List.getElem?_append_right (by rw [← h.1]; omega), ← h.1] at h2
    exact h'.2 _ s r h1 h2
set_option maxRecDepth 100000 in
set_option maxHeartbeats 8000000 in
theorem zoneLogic_walk (A : Option Addr) (n c : Nat) (rs : List RSt) (A' : Option Addr) (n' c' : Nat) (rs' : List RSt) (px py : Int) (w : World) (hz : RowAt cellsR 4 w w.heap.size A n rs) (hn : n ≤ 9223372036854775807) (hz' : RowAt cellsR 4 w w.heap.size A' n' rs') (hn' : n' ≤ 9223372036854775807) (hg : Glob w) :
    Calls Tryd.prog 7 #[.slice A n c, .slice A' n' c', .agg #[.int .i64 px, .int .i64 py]] w fun e w' => e = .returned (.bool true) ∧ Below w.heap.size w w' := by
  have HG := Lib.hid hg
  have hr1 := fix_right rs
  have hr2 := fix_right rs'
  have hf1 := right_pos hr1
  have hf2 := right_pos hr2
  have HFX : Hid (∀ u, Below w.heap.size w u → Calls Tryd.prog 21 #[.slice A n c] u (OwnRow cellsR 4 59 (fixZ rs) u)) := fun u hb => fix_any A n c rs w.heap.size u hb.size (hz.keep hb) hn
  have HFY : Hid (∀ u, Below w.heap.size w u → Calls Tryd.prog 21 #[.slice A' n' c'] u (OwnRow cellsR 4 59 (fixZ rs') u)) := fun u hb => fix_any A' n' c' rs' w.heap.size u hb.size (hz'.keep hb) hn'
  have HP := Lib.hid (refSpot_any px py)
  have hp1 := spotF_in px
  have hp2 := spotF_in py
  generalize spotF px = sx at *
  generalize spotF py = sy at *
  generalize fixZ rs = qs at *
  generalize fixZ rs' = qt at *
  have hw : wholeF sx sy = true := whole_iff.mpr ⟨hp1, hp2⟩
  have HS1 := Lib.hid (right_small' hr1)
  have HS2 := Lib.hid (right_small' hr2)
  have LX : Hid (LikeL (qs.map toS) qs) := to_like fun r hr => small_64 (HS1.out r hr)
  have LY : Hid (LikeL (qt.map toS) qt) := to_like fun r hr => small_64 (HS2.out r hr)
  have HN : Hid (qs.length + 1 ≤ 32 → hasZ (qs ++ [⟨4, 0, 0, 0⟩]) sx sy = !hasZ qs sx sy) := has_not hr1 hw
  have HT : Hid (qs.length + qt.length + 1 ≤ 32 → hasZ (qs ++ qt ++ [⟨5, 0, 0, 0⟩]) sx sy = (hasZ qs sx sy && hasZ qt sx sy) ∧ hasZ (qs ++ qt ++ [⟨6, 0, 0, 0⟩]) sx sy = (hasZ qs sx sy || hasZ qt sx sy)) := has_two hr1 hr2 hw
  clear hz hz' hg hr1 hr2 hw
  go_enter Tryd.func7, Tryd.ntmps7
  go_upto_region 1 with fail
  have p0 : (w.alloc (.cells #[.int .i64 px, .int .i64 py] 37)).cell? ⟨w.heap.size, 0, none⟩ = some (.int .i64 px) := by simp [go_sem]
  have pf0 : (w.alloc (.cells #[.int .i64 px, .int .i64 py] 37)).frozen? ⟨w.heap.size, 0, none⟩ = false := by simp [go_sem]
  have p1 : (w.alloc (.cells #[.int .i64 px, .int .i64 py] 37)).cell? ⟨w.heap.size, 1, none⟩ = some (.int .i64 py) := by simp [go_sem]
  have pf1 : (w.alloc (.cells #[.int .i64 px, .int .i64 py] 37)).frozen? ⟨w.heap.size, 1, none⟩ = false := by simp [go_sem]
  have pz : w.heap.size < (w.alloc (.cells #[.int .i64 px, .int .i64 py] 37)).heap.size := by simp
  have HB : Hid (Below w.heap.size w (w.alloc (.cells #[.int .i64 px, .int .i64 py] 37))) := (Below.refl _ _).alloc (Nat.le_refl _) _
  generalize (w.alloc (.cells #[.int .i64 px, .int .i64 py] 37)) = W0 at *
  generalize hPP : w.heap.size = P at *
  refine tail_begin (S := fun w' => w'.cell? ⟨P, 0, none⟩ = some (.int .i64 px) ∧ w'.cell? ⟨P, 1, none⟩ = some (.int .i64 py)) 6 (by kernel_rfl) ⟨p0, p1⟩ (fun hHeld => ?_)
  refine tail_take (i := 0) (oi := { dst := some 15, op := Go.Op.move (Go.Operand.tmp 0), type := 22, pos := "law.go:93", after := #[], guard := none }) (v := ?_) rfl (by kernel_rfl) (by kernel_rfl) (by kernel_rfl) (by kernel_rfl) (fun _ _ _ h => h) (Or.inl ⟨rfl, ?_⟩) (by assumption) ?_
  rotate_left
  · intro wz hSw; (try dsimp only at hSw); go_simp; try (with_reducible rfl)
  try simp only [Act.put, List.setIfInBounds_toArray, List.set_cons_zero, List.set_cons_succ]
  refine tail_take (i := 2) (oi := { dst := some 17, op := Go.Op.move (Go.Operand.tmp 1), type := 22, pos := "law.go:93", after := #[], guard := none }) (v := ?_) rfl (by kernel_rfl) (by kernel_rfl) (by kernel_rfl) (by kernel_rfl) (fun _ _ _ h => h) (Or.inl ⟨rfl, ?_⟩) (by assumption) ?_
  rotate_left
  · intro wz hSw; (try dsimp only at hSw); go_simp; try (with_reducible rfl)
  try simp only [Act.put, List.setIfInBounds_toArray, List.set_cons_zero, List.set_cons_succ]
  refine tail_take (i := 4) (oi := { dst := some 19, op := Go.Op.load 37 (Go.Operand.tmp 5), type := 37, pos := "law.go:93", after := #[], guard := none }) (v := ?_) rfl (by kernel_rfl) (by kernel_rfl) (by kernel_rfl) (by kernel_rfl) (fun _ _ _ h => h) (Or.inl ⟨rfl, ?_⟩) (by assumption) ?_
  rotate_left
  · intro wz hSw; (try dsimp only at hSw); go_simp; try (with_reducible rfl)
  try simp only [Act.put, List.setIfInBounds_toArray, List.set_cons_zero, List.set_cons_succ]
  refine tail_call (i := 1) (o := { dst := some 16, op := Go.Op.call { callee := Go.Callee.value (Go.Operand.func 21), args := #[Go.Operand.tmp 15], argTypes := #[22] }, type := 22, pos := "law.go:93", after := #[{ on := 0, ground := Go.Ground.data }], guard := none }) (by kernel_rfl) (by kernel_rfl) rfl (fun K hK => ?_)
  go_simp
  refine (HFX.out _ (below_drewz HB.out)).mono ?_
  rintro e u1 ⟨A1, c1, rfl, ho, hb⟩
  have hbv := below_via (Below.refl W0.heap.size W0) hb (Nat.le_refl _) ⟨rfl, rfl, rfl, rfl⟩
  have HO1 : Hid (u1.ownsRow W0.heap.size 59 4 (.slice A1 qs.length c1) qs.length (rowCells cellsR qs)) := ho
  have HNP : Hid (∀ g, Value.ownBlock (.slice A1 qs.length c1) = some g → P < g) := fun g e => by have : P < W0.heap.size := pz; have h3 : W0.heap.size ≤ g := (HO1.out.lt g e).1; omega
  replace p0 := (hbv.cell (p := ⟨P, 0, none⟩) pz).trans p0
  replace pf0 := (hbv.frozen (p := ⟨P, 0, none⟩) pz).trans pf0
  replace p1 := (hbv.cell (p := ⟨P, 1, none⟩) pz).trans p1
  replace pf1 := (hbv.frozen (p := ⟨P, 1, none⟩) pz).trans pf1
  replace pz := Nat.lt_of_lt_of_le pz hbv.size
  replace HB := Lib.hid (HB.out.trans (hbv.mono (by have := HB.out.size; omega)))
  clear hb hbv ho
  refine hK.out _ _ ⟨p0, p1⟩ (fun hHeld => ?_)
  clear hK K
  try simp only [Act.put, List.setIfInBounds_toArray, List.set_cons_zero, List.set_cons_succ]
  refine tail_call (i := 3) (o := { dst := some 18, op := Go.Op.call { callee := Go.Callee.value (Go.Operand.func 21), args := #[Go.Operand.tmp 17], argTypes := #[22] }, type := 22, pos := "law.go:93", after := #[{ on := 2, ground := Go.Ground.data }, { on := 1, ground := Go.Ground.chain }], guard := none }) (by kernel_rfl) (by kernel_rfl) rfl (fun K hK => ?_)
  go_simp
  refine (HFY.out _ HB.out).mono ?_
  rintro e u2 ⟨A2, c2, rfl, ho, hb⟩
  have hbv := hb
  have HO2 : Hid (u2.ownsRow u1.heap.size 59 4 (.slice A2 qt.length c2) qt.length (rowCells cellsR qt)) := ho
  have HNQ : Hid (∀ g, Value.ownBlock (.slice A2 qt.length c2) = some g → P < g) := fun g e => by have : P < u1.heap.size := pz; have h3 : u1.heap.size ≤ g := (HO2.out.lt g e).1; omega
  replace HO1 := Lib.hid (rown_below HO1.out hbv)
  replace p0 := (hbv.cell (p := ⟨P, 0, none⟩) pz).trans p0
  replace pf0 := (hbv.frozen (p := ⟨P, 0, none⟩) pz).trans pf0
  replace p1 := (hbv.cell (p := ⟨P, 1, none⟩) pz).trans p1
  replace pf1 := (hbv.frozen (p := ⟨P, 1, none⟩) pz).trans pf1
  replace pz := Nat.lt_of_lt_of_le pz hbv.size
  replace HB := Lib.hid (HB.out.trans (hbv.mono (by have := HB.out.size; omega)))
  clear hb hbv ho
  refine hK.out _ _ ⟨p0, p1⟩ (fun hHeld => ?_)
  clear hK K
  try simp only [Act.put, List.setIfInBounds_toArray, List.set_cons_zero, List.set_cons_succ]
  refine tail_call (i := 5) (o := { dst := some 20, op := Go.Op.call { callee := Go.Callee.value (Go.Operand.func 22), args := #[Go.Operand.tmp 19], argTypes := #[37] }, type := 37, pos := "law.go:93", after := #[{ on := 4, ground := Go.Ground.data }, { on := 3, ground := Go.Ground.chain }], guard := none }) (by kernel_rfl) (by kernel_rfl) rfl (fun K hK => ?_)
  go_simp
  refine (HP.out _).mono ?_
  rintro e u3 ⟨rfl, hb⟩
  have hbv := hb
  replace HO1 := Lib.hid (rown_below HO1.out hbv)
  replace HO2 := Lib.hid (rown_below HO2.out hbv)
  replace p0 := (hbv.cell (p := ⟨P, 0, none⟩) pz).trans p0
  replace pf0 := (hbv.frozen (p := ⟨P, 0, none⟩) pz).trans pf0
  replace p1 := (hbv.cell (p := ⟨P, 1, none⟩) pz).trans p1
  replace pf1 := (hbv.frozen (p := ⟨P, 1, none⟩) pz).trans pf1
  replace pz := Nat.lt_of_lt_of_le pz hbv.size
  replace HB := Lib.hid (HB.out.trans (hbv.mono (by have := HB.out.size; omega)))
  clear hb hbv
  refine hK.out _ _ ⟨p0, p1⟩ (fun hHeld => ?_)
  clear hK K
  try simp only [Act.put, List.setIfInBounds_toArray, List.set_cons_zero, List.set_cons_succ]
  refine tail_enter ?_
  refine rest_step (k := 6) (o := { dst := some 0, op := Go.Op.assign (Go.Operand.tmp 16), type := 22, pos := "law.go:93", after := #[{ on := 1, ground := Go.Ground.data }, { on := 5, ground := Go.Ground.chain }, { on := 0, ground := Go.Ground.phase }, { on := 1, ground := Go.Ground.phase }, { on := 2, ground := Go.Ground.textOnly Go.Departure.lateStores }, { on := 3, ground := Go.Ground.textOnly Go.Departure.lateStoresUnsure }, { on := 4, ground := Go.Ground.textOnly Go.Departure.lateStores }, { on := 5, ground := Go.Ground.textOnly Go.Departure.lateStoresUnsure }], guard := none }) (by kernel_rfl) (by kernel_rfl) rfl (fun K hK => ?_)
  go_simp
  refine hK.out _ _ ?_
  clear hK K
  try simp only [Act.put, List.setIfInBounds_toArray, List.set_cons_zero, List.set_cons_succ]
  refine rest_step (k := 7) (o := { dst := some 1, op := Go.Op.assign (Go.Operand.tmp 18), type := 22, pos := "law.go:93", after := #[{ on := 3, ground := Go.Ground.data }, { on := 6, ground := Go.Ground.chain }, { on := 0, ground := Go.Ground.phase }, { on := 1, ground := Go.Ground.phase }, { on := 2, ground := Go.Ground.phase }, { on := 3, ground := Go.Ground.phase }, { on := 4, ground := Go.Ground.textOnly Go.Departure.lateStores }, { on := 5, ground := Go.Ground.textOnly Go.Departure.lateStoresUnsure }, { on := 6, ground := Go.Ground.phase }], guard := none }) (by kernel_rfl) (by kernel_rfl) rfl (fun K hK => ?_)
  go_simp
  refine hK.out _ _ ?_
  clear hK K
  try simp only [Act.put, List.setIfInBounds_toArray, List.set_cons_zero, List.set_cons_succ]
  refine rest_step (k := 8) (o := { dst := none, op := Go.Op.store 37 (Go.Operand.tmp 5) (Go.Operand.tmp 20), type := 0, pos := "law.go:93", after := #[{ on := 5, ground := Go.Ground.data }, { on := 7, ground := Go.Ground.chain }, { on := 0, ground := Go.Ground.phase }, { on := 1, ground := Go.Ground.phase }, { on := 2, ground := Go.Ground.phase }, { on := 3, ground := Go.Ground.phase }, { on := 4, ground := Go.Ground.phase }, { on := 5, ground := Go.Ground.phase }, { on := 6, ground := Go.Ground.phase }, { on := 7, ground := Go.Ground.phase }], guard := none }) (by kernel_rfl) (by kernel_rfl) rfl (fun K hK => ?_)
  go_simp
  try clear hHeld
  replace p0 : ((u3.setCell ⟨P, 0, none⟩ (.int .i64 sx)).setCell ⟨P, 1, none⟩ (.int .i64 sy)).cell? ⟨P, 0, none⟩ = some (.int .i64 sx) := by simp [go_sem, p0]
  replace pf0 : ((u3.setCell ⟨P, 0, none⟩ (.int .i64 sx)).setCell ⟨P, 1, none⟩ (.int .i64 sy)).frozen? ⟨P, 0, none⟩ = false := by simp [go_sem, pf0]
  replace p1 : ((u3.setCell ⟨P, 0, none⟩ (.int .i64 sx)).setCell ⟨P, 1, none⟩ (.int .i64 sy)).cell? ⟨P, 1, none⟩ = some (.int .i64 sy) := by simp [go_sem, p1]
  replace pf1 : ((u3.setCell ⟨P, 0, none⟩ (.int .i64 sx)).setCell ⟨P, 1, none⟩ (.int .i64 sy)).frozen? ⟨P, 1, none⟩ = false := by simp [go_sem, pf1]
  replace pz : P < ((u3.setCell ⟨P, 0, none⟩ (.int .i64 sx)).setCell ⟨P, 1, none⟩ (.int .i64 sy)).heap.size := by simpa using pz
  replace HB : Hid (Below P w ((u3.setCell ⟨P, 0, none⟩ (.int .i64 sx)).setCell ⟨P, 1, none⟩ (.int .i64 sy))) := (HB.out.setCell (by simp) _).setCell (by simp) _
  have HR1 : Hid (RowAt cellsR 4 ((u3.setCell ⟨P, 0, none⟩ (.int .i64 sx)).setCell ⟨P, 1, none⟩ (.int .i64 sy)) ((u3.setCell ⟨P, 0, none⟩ (.int .i64 sx)).setCell ⟨P, 1, none⟩ (.int .i64 sy)).heap.size A1 qs.length qs) := own_row rowR (rown_grown (rown_grown HO1.out (grown_set (p := ⟨P, 0, none⟩) (.int .i64 sx)) (Or.inr fun e => by have := HNP.out P e; omega)) (grown_set (p := ⟨P, 1, none⟩) (.int .i64 sy)) (Or.inr fun e => by have := HNP.out P e; omega))
  have HR2 : Hid (RowAt cellsR 4 ((u3.setCell ⟨P, 0, none⟩ (.int .i64 sx)).setCell ⟨P, 1, none⟩ (.int .i64 sy)) ((u3.setCell ⟨P, 0, none⟩ (.int .i64 sx)).setCell ⟨P, 1, none⟩ (.int .i64 sy)).heap.size A2 qt.length qt) := own_row rowR (rown_grown (rown_grown HO2.out (grown_set (p := ⟨P, 0, none⟩) (.int .i64 sx)) (Or.inr fun e => by have := HNQ.out P e; omega)) (grown_set (p := ⟨P, 1, none⟩) (.int .i64 sy)) (Or.inr fun e => by have := HNQ.out P e; omega))
  clear HO1 HNP HO2 HNQ HFX HFY HP
  generalize ((u3.setCell ⟨P, 0, none⟩ (.int .i64 sx)).setCell ⟨P, 1, none⟩ (.int .i64 sy)) = W5 at *
  refine hK.out _ _ ?_
  clear hK K
  try simp only [Act.put, List.setIfInBounds_toArray, List.set_cons_zero, List.set_cons_succ]
  refine rest_done (by kernel_rfl) ?_
  go_wp2_with fail
  refine (calledZ (m := qs.length) (List.length_map ..) (to_any A1 qs.length c1 qs _ _ (Nat.le_refl _) HR1.out (by omega))).mono ?_
  rintro e u4 ⟨X1, x1, rfl, hr, hb⟩
  have HX := Lib.hid hr
  clear hr
  replace HR1 := Lib.hid ((HR1.out.keep hb).more hb.size)
  replace HR2 := Lib.hid ((HR2.out.keep hb).more hb.size)
  replace p0 := (hb.cell (p := ⟨P, 0, none⟩) pz).trans p0
  replace pf0 := (hb.frozen (p := ⟨P, 0, none⟩) pz).trans pf0
  replace p1 := (hb.cell (p := ⟨P, 1, none⟩) pz).trans p1
  replace pf1 := (hb.frozen (p := ⟨P, 1, none⟩) pz).trans pf1
  replace pz := Nat.lt_of_lt_of_le pz hb.size
  replace HB := Lib.hid (HB.out.trans (hb.mono (by have := HB.out.size; omega)))
  clear hb
  go_wp2_with fail
  refine (calledZ (m := qt.length) (List.length_map ..) (to_any A2 qt.length c2 qt _ _ (Nat.le_refl _) HR2.out (by omega))).mono ?_
  rintro e u5 ⟨X2, x2, rfl, hr, hb⟩
  have HY := Lib.hid hr
  clear hr
  replace HR1 := Lib.hid ((HR1.out.keep hb).more hb.size)
  replace HR2 := Lib.hid ((HR2.out.keep hb).more hb.size)
  replace HX := Lib.hid ((HX.out.keep hb).more hb.size)
  replace p0 := (hb.cell (p := ⟨P, 0, none⟩) pz).trans p0
  replace pf0 := (hb.frozen (p := ⟨P, 0, none⟩) pz).trans pf0
  replace p1 := (hb.cell (p := ⟨P, 1, none⟩) pz).trans p1
  replace pf1 := (hb.frozen (p := ⟨P, 1, none⟩) pz).trans pf1
  replace pz := Nat.lt_of_lt_of_le pz hb.size
  replace HB := Lib.hid (HB.out.trans (hb.mono (by have := HB.out.size; omega)))
  clear hb
  clear HR1 HR2
  have HSPO := Lib.hid (lawSpot_any sx sy)
  have hx53 : sx.natAbs < 2 ^ 53 := by omega
  have hy53 : sy.natAbs < 2 ^ 53 := by omega
  have HNX := Lib.hid (num_fl sx hx53)
  have HNY := Lib.hid (num_fl sy hy53)
  generalize fl sx = fx at *
  generalize fl sy = fy at *
  go_wp2_with fail
  refine (HSPO.out _).mono ?_
  rintro e u6 ⟨rfl, hb⟩
  replace HX := Lib.hid ((HX.out.keep hb).more hb.size)
  replace HY := Lib.hid ((HY.out.keep hb).more hb.size)
  replace p0 := (hb.cell (p := ⟨P, 0, none⟩) pz).trans p0
  replace pf0 := (hb.frozen (p := ⟨P, 0, none⟩) pz).trans pf0
  replace p1 := (hb.cell (p := ⟨P, 1, none⟩) pz).trans p1
  replace pf1 := (hb.frozen (p := ⟨P, 1, none⟩) pz).trans pf1
  replace pz := Nat.lt_of_lt_of_le pz hb.size
  replace HB := Lib.hid (HB.out.trans (hb.mono (by have := HB.out.size; omega)))
  clear hb
  clear p0 p1 pf0 pf1 pz
  clear HSPO
  go_upto_region 4 with fail
  have HO : Hid ((u6.alloc (.cells #[] 54)).ownsRow u6.heap.size 54 3 (.slice (some ⟨u6.heap.size, 0, none⟩) 0 0) 0 (rowCells cellsZ [])) := ⟨rfl, .inr ⟨u6.heap.size, 0, _, rfl, Nat.le_refl _, heap_alloc_new u6 _, Nat.le_refl _, by decide, rfl, rfl⟩⟩
  have HC : Hid (Below u6.heap.size u6 (u6.alloc (.cells #[] 54))) := (Below.refl _ _).alloc (Nat.le_refl _) _
  have HM0 : True := trivial
  go_upto_region 5 with (first | (at_builtin; clear HM0; refine wpList_append_row rowZ (B := u6.heap.size) (v := .slice (some ⟨u6.heap.size, 0, none⟩) 0 0) (n := 0) (zs := []) (m := qs.length) (ys := qs.map toS) rfl _ _ rfl rfl HO.out rfl (HX.out.keep HC.out) (by omega) HC.out.size ?_; intro An0 cn0 wn0 hown hg hat; replace HC := Lib.hid (HC.out.grown hg HC.out.size (fun g e => (HO.out.lt g e).1)); rw [Nat.zero_add] at hown; replace HO := Lib.hid hown; rw [Nat.zero_add]; clear hown hg hat; have HM1 : True := trivial) | (at_builtin; clear HM1; have HR1 : Hid (RowAt cellsZ 3 (wn0.alloc (.cells #[.int .i64 4, .complex .f64 0 0, .float .f64 0] 54)) (wn0.heap.size + 1) (some ⟨wn0.heap.size, 0, none⟩) 1 [opS 4]) := one_row rowZ (heap_alloc_new wn0 _); have HO1 := Lib.hid (HO.out.alloc (.cells #[.int .i64 4, .complex .f64 0 0, .float .f64 0] 54)); have HC1 := Lib.hid (HC.out.alloc HC.out.size (.cells #[.int .i64 4, .complex .f64 0 0, .float .f64 0] 54)); refine wpList_append_row rowZ (B := u6.heap.size) (v := .slice An0 (qs.length) cn0) (n := qs.length) (zs := [] ++ qs.map toS) (m := 1) (ys := [opS 4]) rfl _ _ rfl rfl HO1.out rfl HR1.out (by omega) HC1.out.size ?_; intro An cn wn hown hg hat; have hb := HC1.out.grown hg HC1.out.size (fun g e => (HO1.out.lt g e).1); have HNOT : Hid (RowAt cellsZ 3 wn wn.heap.size An (qs.length + 1) (qs.map toS ++ [opS 4])) := own_row rowZ hown; clear hown hg hat HO HO1 HR1 HC1))
  clear HC
  replace HX := Lib.hid ((HX.out.keep hb).more hb.size)
  replace HY := Lib.hid ((HY.out.keep hb).more hb.size)
  replace HB := Lib.hid (HB.out.trans (hb.mono (by have := HB.out.size; omega)))
  clear hb
  have HO : Hid ((wn.alloc (.cells #[] 54)).ownsRow wn.heap.size 54 3 (.slice (some ⟨wn.heap.size, 0, none⟩) 0 0) 0 (rowCells cellsZ [])) := ⟨rfl, .inr ⟨wn.heap.size, 0, _, rfl, Nat.le_refl _, heap_alloc_new wn _, Nat.le_refl _, by decide, rfl, rfl⟩⟩
  have HC : Hid (Below wn.heap.size wn (wn.alloc (.cells #[] 54))) := (Below.refl _ _).alloc (Nat.le_refl _) _
  have HM0 : True := trivial
  go_upto_region 6 with (first | (at_builtin; clear HM0; refine wpList_append_row rowZ (B := wn.heap.size) (v := .slice (some ⟨wn.heap.size, 0, none⟩) 0 0) (n := 0) (zs := []) (m := qs.length) (ys := qs.map toS) rfl _ _ rfl rfl HO.out rfl (HX.out.keep HC.out) (by omega) HC.out.size ?_; intro Ab0 cb0 wb0 hown hg hat; replace HC := Lib.hid (HC.out.grown hg HC.out.size (fun g e => (HO.out.lt g e).1)); rw [Nat.zero_add] at hown; replace HO := Lib.hid hown; rw [Nat.zero_add]; clear hown hg hat; have HM1 : True := trivial) | (at_builtin; clear HM1; refine wpList_append_row rowZ (B := wn.heap.size) (v := .slice Ab0 (qs.length) cb0) (n := qs.length) (zs := [] ++ qs.map toS) (m := qt.length) (ys := qt.map toS) rfl _ _ rfl rfl HO.out rfl (HY.out.keep HC.out) (by omega) HC.out.size ?_; intro Ab1 cb1 wb1 hown hg hat; replace HC := Lib.hid (HC.out.grown hg HC.out.size (fun g e => (HO.out.lt g e).1)); replace HO := Lib.hid hown; clear hown hg hat; have HM2 : True := trivial) | (at_builtin; clear HM2; have HR1 : Hid (RowAt cellsZ 3 (wb1.alloc (.cells #[.int .i64 5, .complex .f64 0 0, .float .f64 0] 54)) (wb1.heap.size + 1) (some ⟨wb1.heap.size, 0, none⟩) 1 [opS 5]) := one_row rowZ (heap_alloc_new wb1 _); have HO1 := Lib.hid (HO.out.alloc (.cells #[.int .i64 5, .complex .f64 0 0, .float .f64 0] 54)); have HC1 := Lib.hid (HC.out.alloc HC.out.size (.cells #[.int .i64 5, .complex .f64 0 0, .float .f64 0] 54)); refine wpList_append_row rowZ (B := wn.heap.size) (v := .slice Ab1 (qs.length + qt.length) cb1) (n := qs.length + qt.length) (zs := [] ++ qs.map toS ++ qt.map toS) (m := 1) (ys := [opS 5]) rfl _ _ rfl rfl HO1.out rfl HR1.out (by omega) HC1.out.size ?_; intro Ab cb wb hown hg hat; have hb := HC1.out.grown hg HC1.out.size (fun g e => (HO1.out.lt g e).1); have HAND : Hid (RowAt cellsZ 3 wb wb.heap.size Ab (qs.length + qt.length + 1) (qs.map toS ++ qt.map toS ++ [opS 5])) := own_row rowZ hown; clear hown hg hat HO HO1 HR1 HC1))
  clear HC
  replace HX := Lib.hid ((HX.out.keep hb).more hb.size)
  replace HY := Lib.hid ((HY.out.keep hb).more hb.size)
  replace HNOT := Lib.hid ((HNOT.out.keep hb).more hb.size)
  replace HB := Lib.hid (HB.out.trans (hb.mono (by have := HB.out.size; omega)))
  clear hb
  have HO : Hid ((wb.alloc (.cells #[] 54)).ownsRow wb.heap.size 54 3 (.slice (some ⟨wb.heap.size, 0, none⟩) 0 0) 0 (rowCells cellsZ [])) := ⟨rfl, .inr ⟨wb.heap.size, 0, _, rfl, Nat.le_refl _, heap_alloc_new wb _, Nat.le_refl _, by decide, rfl, rfl⟩⟩
  have HC : Hid (Below wb.heap.size wb (wb.alloc (.cells #[] 54))) := (Below.refl _ _).alloc (Nat.le_refl _) _
  have HM0 : True := trivial
  go_upto_region 7 with (first | (at_builtin; clear HM0; refine wpList_append_row rowZ (B := wb.heap.size) (v := .slice (some ⟨wb.heap.size, 0, none⟩) 0 0) (n := 0) (zs := []) (m := qs.length) (ys := qs.map toS) rfl _ _ rfl rfl HO.out rfl (HX.out.keep HC.out) (by omega) HC.out.size ?_; intro Ao0 co0 wo0 hown hg hat; replace HC := Lib.hid (HC.out.grown hg HC.out.size (fun g e => (HO.out.lt g e).1)); rw [Nat.zero_add] at hown; replace HO := Lib.hid hown; rw [Nat.zero_add]; clear hown hg hat; have HM1 : True := trivial) | (at_builtin; clear HM1; refine wpList_append_row rowZ (B := wb.heap.size) (v := .slice Ao0 (qs.length) co0) (n := qs.length) (zs := [] ++ qs.map toS) (m := qt.length) (ys := qt.map toS) rfl _ _ rfl rfl HO.out rfl (HY.out.keep HC.out) (by omega) HC.out.size ?_; intro Ao1 co1 wo1 hown hg hat; replace HC := Lib.hid (HC.out.grown hg HC.out.size (fun g e => (HO.out.lt g e).1)); replace HO := Lib.hid hown; clear hown hg hat; have HM2 : True := trivial) | (at_builtin; clear HM2; have HR1 : Hid (RowAt cellsZ 3 (wo1.alloc (.cells #[.int .i64 6, .complex .f64 0 0, .float .f64 0] 54)) (wo1.heap.size + 1) (some ⟨wo1.heap.size, 0, none⟩) 1 [opS 6]) := one_row rowZ (heap_alloc_new wo1 _); have HO1 := Lib.hid (HO.out.alloc (.cells #[.int .i64 6, .complex .f64 0 0, .float .f64 0] 54)); have HC1 := Lib.hid (HC.out.alloc HC.out.size (.cells #[.int .i64 6, .complex .f64 0 0, .float .f64 0] 54)); refine wpList_append_row rowZ (B := wb.heap.size) (v := .slice Ao1 (qs.length + qt.length) co1) (n := qs.length + qt.length) (zs := [] ++ qs.map toS ++ qt.map toS) (m := 1) (ys := [opS 6]) rfl _ _ rfl rfl HO1.out rfl HR1.out (by omega) HC1.out.size ?_; intro Ao co wo hown hg hat; have hb := HC1.out.grown hg HC1.out.size (fun g e => (HO1.out.lt g e).1); have HOR : Hid (RowAt cellsZ 3 wo wo.heap.size Ao (qs.length + qt.length + 1) (qs.map toS ++ qt.map toS ++ [opS 6])) := own_row rowZ hown; clear hown hg hat HO HO1 HR1 HC1))
  clear HC
  replace HX := Lib.hid ((HX.out.keep hb).more hb.size)
  replace HY := Lib.hid ((HY.out.keep hb).more hb.size)
  replace HNOT := Lib.hid ((HNOT.out.keep hb).more hb.size)
  replace HAND := Lib.hid ((HAND.out.keep hb).more hb.size)
  replace HB := Lib.hid (HB.out.trans (hb.mono (by have := HB.out.size; omega)))
  clear hb
  have LN : Hid (LikeL (qs.map toS ++ [opS 4]) (qs ++ [⟨4, 0, 0, 0⟩])) := like_snoc LX.out 4
  have LA : Hid (LikeL (qs.map toS ++ qt.map toS ++ [opS 5]) (qs ++ qt ++ [⟨5, 0, 0, 0⟩])) := like_snoc (like_app LX.out LY.out) 5
  have LO : Hid (LikeL (qs.map toS ++ qt.map toS ++ [opS 6]) (qs ++ qt ++ [⟨6, 0, 0, 0⟩])) := like_snoc (like_app LX.out LY.out) 6
  have CH := Lib.hid (has_any X1 (qs.length) x1 (qs.map toS) (qs) fx fy sx sy HNX.out HNY.out hx53 hy53 _ _ (Nat.le_refl _) HX.out LX.out)
  go_wp2_with fail
  refine (CH.out).mono ?_
  rintro e v1 ⟨rfl, hb⟩
  replace HX := Lib.hid ((HX.out.keep hb).more hb.size)
  replace HY := Lib.hid ((HY.out.keep hb).more hb.size)
  replace HNOT := Lib.hid ((HNOT.out.keep hb).more hb.size)
  replace HAND := Lib.hid ((HAND.out.keep hb).more hb.size)
  replace HOR := Lib.hid ((HOR.out.keep hb).more hb.size)
  replace HB := Lib.hid (HB.out.trans (hb.mono (by have := HB.out.size; omega)))
  clear hb
  clear CH
  have CH := Lib.hid (has_any X2 (qt.length) x2 (qt.map toS) (qt) fx fy sx sy HNX.out HNY.out hx53 hy53 _ _ (Nat.le_refl _) HY.out LY.out)
  go_wp2_with fail
  refine (CH.out).mono ?_
  rintro e v2 ⟨rfl, hb⟩
  replace HX := Lib.hid ((HX.out.keep hb).more hb.size)
  replace HY := Lib.hid ((HY.out.keep hb).more hb.size)
  replace HNOT := Lib.hid ((HNOT.out.keep hb).more hb.size)
  replace HAND := Lib.hid ((HAND.out.keep hb).more hb.size)
  replace HOR := Lib.hid ((HOR.out.keep hb).more hb.size)
  replace HB := Lib.hid (HB.out.trans (hb.mono (by have := HB.out.size; omega)))
  clear hb
  clear CH
  go_upto_region 8 with fail
  generalize hasZ qs sx sy = bx at *
  generalize hasZ qt sx sy = by1 at *
  clear HX HY
  have HB9 : Hid (∀ u, Below P w u → Below w.heap.size w u) := fun u h => by rw [hPP]; exact h
  rcases bx with _ | _ <;> rcases by1 with _ | _
  all_goals
    go_wp2_with fail
    refine (told_any _ (HG.out.keep HB.out (by rw [← hPP]; exact HG.out.big))).mono ?_
    rintro e v9 ⟨rfl, hb⟩
    replace HNOT := Lib.hid ((HNOT.out.keep hb).more hb.size)
    replace HAND := Lib.hid ((HAND.out.keep hb).more hb.size)
    replace HOR := Lib.hid ((HOR.out.keep hb).more hb.size)
    replace HB := Lib.hid (HB.out.trans (hb.mono (by have := HB.out.size; omega)))
    clear hb
    by_cases h32 : qs.length + 1 ≤ 32
    · have h4 := HN.out h32
      have CH := Lib.hid (has_any An (qs.length + 1) cn (qs.map toS ++ [opS 4]) (qs ++ [⟨4, 0, 0, 0⟩]) fx fy sx sy HNX.out HNY.out hx53 hy53 _ _ (Nat.le_refl _) HNOT.out LN.out)
      rw [h4] at CH
      go_wp2_with fail
      refine (CH.out).mono ?_
      rintro e v10 ⟨rfl, hb⟩
      replace HNOT := Lib.hid ((HNOT.out.keep hb).more hb.size)
      replace HAND := Lib.hid ((HAND.out.keep hb).more hb.size)
      replace HOR := Lib.hid ((HOR.out.keep hb).more hb.size)
      replace HB := Lib.hid (HB.out.trans (hb.mono (by have := HB.out.size; omega)))
      clear hb
      clear CH
      by_cases h33 : qs.length + qt.length + 1 ≤ 32
      · obtain ⟨h5, h6⟩ := HT.out h33
        have hdd : ¬ (32 : Int) < qs.length + qt.length + 1 := by omega
        have hdn : ¬ 32 < qs.length + qt.length + 1 := by omega
        clear hf1 hf2 HN HT h33
        try clear h4
        try clear h32
        have CH := Lib.hid (has_any Ab (qs.length + qt.length + 1) cb (qs.map toS ++ qt.map toS ++ [opS 5]) (qs ++ qt ++ [⟨5, 0, 0, 0⟩]) fx fy sx sy HNX.out HNY.out hx53 hy53 _ _ (Nat.le_refl _) HAND.out LA.out)
        rw [h5] at CH
        go_wp2_with fail
        refine (CH.out).mono ?_
        rintro e v11 ⟨rfl, hb⟩
        replace HNOT := Lib.hid ((HNOT.out.keep hb).more hb.size)
        replace HAND := Lib.hid ((HAND.out.keep hb).more hb.size)
        replace HOR := Lib.hid ((HOR.out.keep hb).more hb.size)
        replace HB := Lib.hid (HB.out.trans (hb.mono (by have := HB.out.size; omega)))
        clear hb
        clear CH
        have CH := Lib.hid (has_any Ao (qs.length + qt.length + 1) co (qs.map toS ++ qt.map toS ++ [opS 6]) (qs ++ qt ++ [⟨6, 0, 0, 0⟩]) fx fy sx sy HNX.out HNY.out hx53 hy53 _ _ (Nat.le_refl _) HOR.out LO.out)
        rw [h6] at CH
        go_wp2_with fail
        refine (CH.out).mono ?_
        rintro e v12 ⟨rfl, hb⟩
        replace HNOT := Lib.hid ((HNOT.out.keep hb).more hb.size)
        replace HAND := Lib.hid ((HAND.out.keep hb).more hb.size)
        replace HOR := Lib.hid ((HOR.out.keep hb).more hb.size)
        replace HB := Lib.hid (HB.out.trans (hb.mono (by have := HB.out.size; omega)))
        clear hb
        clear CH
        go_wp2
        go_ret
        exact ⟨rfl, HB9.out _ HB.out⟩
      · have hdd : (32 : Int) < qs.length + qt.length + 1 := by omega
        have hdn : 32 < qs.length + qt.length + 1 := by omega
        clear hf1 hf2 HN HT h33
        try clear h4
        try clear h32
        go_wp2
        go_ret
        exact ⟨rfl, HB9.out _ HB.out⟩
    · have hde : ¬ (qs.length : Int) + 1 ≤ 32 := by omega
      have hdf : (32 : Int) < qs.length + 1 := by omega
      have hdd : (32 : Int) < qs.length + qt.length + 1 := by omega
      have hdn : 32 < qs.length + qt.length + 1 := by omega
      clear hf1 hf2 HN HT
      go_wp2
      go_ret
      first | exact ⟨rfl, HB9.out _ HB.out⟩ | exact ⟨rfl, HB.out⟩
end Go.Proofs.YtkklikkmpmlnbaaDoor
