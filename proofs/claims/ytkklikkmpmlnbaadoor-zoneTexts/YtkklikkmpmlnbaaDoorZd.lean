/- zone.Has: the truth that is left. -/
import Derived.Test.YtkklikkmpmlnbaaDoorZc
import Derived.Test.YtkklikkmpmlnbaaDoorGc
namespace Go.Proofs.YtkklikkmpmlnbaaDoor
open Go.RowKit

theorem rowB : RowTy cellsB 1 1 (.bool false) 70 4 := ⟨Tryd.underlying70, by kernel_rfl, rfl, by omega, by omega, fun _ => rfl, fun x u hu => by simp only [cellsB, List.mem_singleton] at hu; subst hu; rfl⟩
/-- A row of the call's own, cut. -/
theorem own_take {w : World} {B : Nat} {A : Option Addr} {n c : Nat} {ts : List Bool} (h : w.ownsRow B 4 1 (.slice A n c) n (rowCells cellsB ts)) {q : Nat} (hq : q ≤ n) : w.ownsRow B 4 1 (.slice A q c) q (rowCells cellsB (ts.take q)) := by
  have hl : ts.length = n := by
    have := h.1
    rw [rowCells_length rowB.len] at this
    omega
  refine ⟨by rw [rowCells_length rowB.len, List.length_take]; omega, ?_⟩
  rcases h.2 with ⟨h1, rfl⟩ | ⟨g, cap, cur, h1, h2, h3, h4, h5, h6, h7⟩
  · obtain rfl : q = 0 := by omega
    exact .inl ⟨h1, rfl⟩
  · injection h1 with e1 e2 e3
    subst e1 e3
    refine .inr ⟨g, c, cur, rfl, h2, h3, by omega, h5, h6, ?_⟩
    have em : ∀ l : List Bool, rowCells cellsB l = l.map Value.bool := fun l => by
      induction l with
      | nil => rfl
      | cons x r ih => show cellsB x ++ rowCells cellsB r = _; rw [ih]; rfl
    have e : rowCells cellsB (ts.take q) = (rowCells cellsB ts).take q := by rw [em, em, List.map_take]
    rw [e, ← h7, List.take_take, Nat.mul_one, Nat.mul_one, Nat.min_eq_left hq]
/-- The rest of a row. -/
theorem row_drop {w : World} {B b o n : Nat} {ts : List Bool} (h : RowAt cellsB 1 w B (some ⟨b, o, none⟩) n ts) {q : Nat} (hq : q ≤ n) : RowAt cellsB 1 w B (some ⟨b, o + q, none⟩) (n - q) (ts.drop q) :=
  ⟨by rw [List.length_drop, h.1], fun hn => by
    obtain ⟨b', o', e, hlt, hc⟩ := h.2 (by omega)
    injection e with e
    injection e with e1 e2
    subst e1 e2
    refine ⟨b, o + q, rfl, hlt, fun k hk j u hu => ?_⟩
    have hk' : q + k < ts.length := by rw [List.length_drop] at hk; omega
    rw [List.getElem_drop] at hu
    have := hc (q + k) hk' j u hu
    rw [show o + q + k * 1 + j = o + (q + k) * 1 + j by omega]
    exact this⟩
theorem row_none {w : World} {B : Nat} {A : Option Addr} : RowAt cellsB 1 w B A 0 ([] : List Bool) := ⟨rfl, fun h => absurd h (by omega)⟩
/-- The rest of a row of the call's own, as the walk has its address. -/
theorem tail_row {w : World} {B : Nat} {A : Option Addr} {n c : Nat} {ts : List Bool} (h : w.ownsRow B 4 1 (.slice A n c) n (rowCells cellsB ts)) {q : Nat} (hq : q ≤ n) : RowAt cellsB 1 w w.heap.size (if c = q then A else Option.map (fun x => x.add q) A) (n - q) (ts.drop q) := by
  have hr := own_row rowB h
  have hc := rown_cap h
  by_cases h0 : n - q = 0
  · rw [h0]
    exact ⟨by rw [List.length_drop, hr.1]; omega, fun h => absurd h (by omega)⟩
  · obtain ⟨b, o, rfl, _, _⟩ := hr.2 (by omega)
    rw [if_neg (by omega), Option.map_some, radd]
    exact row_drop hr hq
def stepH (px py : Int) (ts : List Bool) (r : RSt) : List Bool := ts.take (ts.length - (takesF r.op).toNat) ++ [truthF r (ts.drop (ts.length - (takesF r.op).toNat)) px py]
def runH (px py : Int) (ts : List Bool) (rs : List RSt) : List Bool := rs.foldl (stepH px py) ts
theorem runH_append (px py : Int) (ts : List Bool) (a b : List RSt) : runH px py ts (a ++ b) = runH px py (runH px py ts a) b := by unfold runH; rw [List.foldl_append]
theorem runH_snoc (px py : Int) {rs : List RSt} {k : Nat} {r : RSt} (h : rs[k]? = some r) : runH px py [] (rs.take (k + 1)) = stepH px py (runH px py [] (rs.take k)) r := by
  rw [snocR h, runH_append]
  rfl
/-- Is the place in the zone? -/
def hasZ (rs : List RSt) (px py : Int) : Bool := rightZ rs && (wholeF px py && (runH px py [] rs).getD 0 false)
theorem run_le (px py : Int) : ∀ (rs : List RSt) (ts : List Bool), (runH px py ts rs).length ≤ ts.length + rs.length
  | [], _ => Nat.le_refl _
  | r :: rs, ts => by
    have := run_le px py rs (stepH px py ts r)
    have h2 : (stepH px py ts r).length ≤ ts.length + 1 := by unfold stepH; rw [List.length_append, List.length_take]; simp only [List.length_singleton]; omega
    show (runH px py (stepH px py ts r) rs).length ≤ _
    rw [List.length_cons]
    omega
theorem step_len (px py : Int) {t u : Int} {r : RSt} {ts : List Bool} (h : stepR t r = some u) (ht : (ts.length : Int) = t) : ((stepH px py ts r).length : Int) = u ∧ fitsR r = true ∧ takesF r.op ≤ t := by
  unfold stepR at h
  by_cases hc : fitsR r = true ∧ ¬ t < takesF r.op
  · rw [if_pos hc] at h
    injection h with h
    have := takes_two r.op
    refine ⟨?_, hc.1, by omega⟩
    unfold stepH
    rw [List.length_append, List.length_take]
    simp only [List.length_singleton]
    omega
  · rw [if_neg hc] at h; cases h
theorem foldR_take {rs : List RSt} {u : Int} (h : foldR 0 rs = some u) (k : Nat) : ∃ t, foldR 0 (rs.take k) = some t := by
  rcases e : foldR 0 (rs.take k) with _ | t
  · rw [foldR_none e] at h; cases h
  · exact ⟨t, rfl⟩
theorem right_fold {rs : List RSt} (h : rightZ rs = true) : rs.length ≤ 32 ∧ foldR 0 rs = some 1 := by
  unfold rightZ at h
  simpa using h
/-- How many truths there are, half way. -/
theorem run_len (px py : Int) {rs : List RSt} (h : rightZ rs = true) : ∀ k, k ≤ rs.length → foldR 0 (rs.take k) = some (((runH px py [] (rs.take k)).length : Nat) : Int) := by
  intro k
  induction k with
  | zero => intro _; rfl
  | succ k ih =>
    intro hk
    have h1 := ih (by omega)
    have hr : rs[k]? = some rs[k] := List.getElem?_eq_getElem (by omega)
    have h2 := foldR_snoc h1 hr
    obtain ⟨t, ht⟩ := foldR_take (right_fold h).2 (k + 1)
    rw [ht] at h2
    have h3 := step_len px py h2.symm rfl
    rw [runH_snoc px py hr, ht, h3.1]
theorem run_step (px py : Int) {rs : List RSt} (h : rightZ rs = true) {k : Nat} {r : RSt} (hr : rs[k]? = some r) : fitsR r = true ∧ takesF r.op ≤ ((runH px py [] (rs.take k)).length : Int) := by
  have hk : k < rs.length := (List.getElem?_eq_some_iff.mp hr).1
  have h1 := run_len px py h k (by omega)
  have h2 := foldR_snoc h1 hr
  obtain ⟨t, ht⟩ := foldR_take (right_fold h).2 (k + 1)
  rw [ht] at h2
  exact (step_len px py h2.symm rfl).2
theorem run_one (px py : Int) {rs : List RSt} (h : rightZ rs = true) : ∃ b, runH px py [] rs = [b] := by
  have h1 := run_len px py h rs.length (Nat.le_refl _)
  rw [List.take_length, (right_fold h).2] at h1
  injection h1 with h1
  exact List.length_eq_one_iff.mp (by omega)
/-- Half way. -/
def HalfH (px py : Int) (rs : List RSt) (w : World) (k : Nat) (Av : Option Addr) (L cv : Nat) (wr : World) : Prop := L = (runH px py [] (rs.take k)).length ∧ wr.ownsRow w.heap.size 4 1 (.slice Av L cv) L (rowCells cellsB (runH px py [] (rs.take k))) ∧ Below w.heap.size w wr

set_option maxRecDepth 100000 in
set_option maxHeartbeats 4000000 in
theorem has_any (A : Option Addr) (n c : Nat) (zs : List Stp) (rs : List RSt) (pre pim : Nat) (px py : Int) (h1 : Num pre px) (h2 : Num pim py) (hp1 : px.natAbs < 2 ^ 53) (hp2 : py.natAbs < 2 ^ 53) (B : Nat) (w : World) (hB : B ≤ w.heap.size) (hz : RowAt cellsZ 3 w B A n zs) (hl : LikeL zs rs) :
    Calls Tryd.prog 23 #[.slice A n c, .complex .f64 pre pim] w fun e w' => e = .returned (.bool (hasZ rs px py)) ∧ Below w.heap.size w w' := by
  have HR := Lib.hid (rightZ_any A n c zs rs B w hB hz hl)
  have hwn := whole_num h1 hp1 h2 hp2
  have HW := Lib.hid (whole_any pre pim)
  rw [hwn] at HW
  rcases hr : rightZ rs with _ | _
  · have HF : Hid (hasZ rs px py = false) := by show _ = _; unfold hasZ; rw [hr]; rfl
    rw [hr] at HR
    clear hz hl h1 h2 hr hwn
    go_enter Tryd.func23, Tryd.ntmps23
    go_wp2_with fail
    refine (HR.out).mono ?_
    rintro e w1 ⟨rfl, hb⟩
    go_wp2
    go_ret
    exact ⟨ret_bool HF.out.symm, hb⟩
  rcases hw : wholeF px py with _ | _
  · have HF : Hid (hasZ rs px py = false) := by show _ = _; unfold hasZ; rw [hr, hw]; rfl
    rw [hr] at HR
    rw [hw] at HW
    clear hz hl h1 h2 hr hw hwn
    go_enter Tryd.func23, Tryd.ntmps23
    go_wp2_with fail
    refine (HR.out).mono ?_
    rintro e w1 ⟨rfl, hb⟩
    go_wp2_with fail
    refine (HW.out _).mono ?_
    rintro e w2 ⟨rfl, rfl⟩
    go_wp2
    go_ret
    exact ⟨ret_bool HF.out.symm, hb⟩
  obtain ⟨ans, hans⟩ := run_one px py hr
  have HF : Hid (hasZ rs px py = ans) := by show _ = _; unfold hasZ; rw [hr, hw, hans]; rfl
  have HRI := Lib.hid hr
  have HWI := Lib.hid hw
  have HN1 := Lib.hid h1
  have HN2 := Lib.hid h2
  have HAN := Lib.hid hans
  have HLN : Hid (rs.length = n) := hl.1.symm.trans hz.1
  have HZ := Lib.hid hz
  have HL := Lib.hid hl
  have hn : n ≤ 32 := by have := (right_fold hr).1; have := HLN.out; omega
  rw [hr] at HR
  rw [hw] at HW
  clear hz hl h1 h2 hr hw hwn hans
  go_enter Tryd.func23, Tryd.ntmps23
  go_wp2_with fail
  refine (HR.out).mono ?_
  rintro e w1 ⟨rfl, hb0⟩
  have HB0 := Lib.hid hb0
  clear hb0
  go_wp2_with fail
  refine (HW.out _).mono ?_
  rintro e w2 ⟨rfl, rfl⟩
  go_wp2
  go_loopw [5, 19] (fun tr i wr => ∃ (k L : Nat) (Av : Option Addr) (cv : Nat), k ≤ n ∧ i = .int .i64 k ∧ tr = .slice Av L cv ∧ Hid (HalfH px py rs w k Av L cv wr)) (fun _ i _ => n - (intOf i).toNat)
  case atStart => exact ⟨0, 0, none, 0, by omega, rfl, rfl, rfl, rown_nil _ _, HB0.out⟩
  case round =>
    obtain ⟨k, L, Av, cv, hk, rfl, rfl, HC⟩ := hrel
    obtain ⟨hLn, hown, hbel⟩ := HC.out
    have HLL := Lib.hid hLn
    have HO := Lib.hid hown
    have HC0 := Lib.hid hown
    have HB := Lib.hid hbel
    have hcap := rown_cap hown
    have hLk : L ≤ 32 := by
      have h3 := run_le px py (rs.take k) []
      rw [← hLn, List.length_take] at h3
      simp only [List.length_nil] at h3
      omega
    clear hown hbel HC hLn
    by_cases hlt : k < n
    · obtain ⟨blk, off, rfl, hbB, z, hzk, hcell⟩ := HZ.out.get hlt
      obtain ⟨r, hrk, hlike⟩ := HL.out.get hzk
      obtain ⟨e0, e1, e2⟩ := cellsZ_at hcell
      replace e0 := ((HB.out.mono hB).cell (p := ⟨blk, off + k * 3, none⟩) hbB).trans e0
      replace e1 := ((HB.out.mono hB).cell (p := ⟨blk, off + k * 3 + 1, none⟩) hbB).trans e1
      replace e2 := ((HB.out.mono hB).cell (p := ⟨blk, off + k * 3 + 2, none⟩) hbB).trans e2
      have hi1 : (k : Int) < n := by omega
      have HLK := Lib.hid hlike
      have HSN := Lib.hid (runH_snoc px py hrk)
      obtain ⟨hfit, htk⟩ := run_step px py HRI.out hrk
      rw [← HLL.out] at htk
      have HFT := Lib.hid hfit
      have hop : z.op = r.op := hlike.op
      have ht2 := takes_two r.op
      clear hcell hzk hrk hlike hfit
      have HK := Lib.hid (takes_any z.op)
      rw [← hop] at htk ht2
      obtain ⟨q, hq⟩ : ∃ q : Nat, (L : Int) - takesF z.op = q := ⟨((L : Int) - takesF z.op).toNat, by omega⟩
      have hqL : q ≤ L := by omega
      have hqc : q ≤ cv := by omega
      have HQ : Hid ((takesF r.op).toNat = L - q) := by show _ = _; rw [← hop]; omega
      have HTQ : Hid (takesF r.op ≤ ((L - q : Nat) : Int)) := by show _ ≤ _; rw [← hop]; omega
      generalize hT : takesF z.op = T at *
      obtain ⟨op, re, im, sz⟩ := z
      simp only at e0 e1 e2 HK
      have hst := store_complex
      have hst' := store_float
      clear hop
      go_upto_region 7 with fail
      have k0 : (wr.alloc (.cells #[.int .i64 op, .complex .f64 re im, .float .f64 sz] 54)).cell? ⟨wr.heap.size, 0, none⟩ = some (.int .i64 op) := by simp [go_sem]
      have k1 : (wr.alloc (.cells #[.int .i64 op, .complex .f64 re im, .float .f64 sz] 54)).cell? ⟨wr.heap.size, 1, none⟩ = some (.complex .f64 re im) := by simp [go_sem]
      have k2 : (wr.alloc (.cells #[.int .i64 op, .complex .f64 re im, .float .f64 sz] 54)).cell? ⟨wr.heap.size, 2, none⟩ = some (.float .f64 sz) := by simp [go_sem]
      have kz : wr.heap.size < (wr.alloc (.cells #[.int .i64 op, .complex .f64 re im, .float .f64 sz] 54)).heap.size := by simp
      replace HO := Lib.hid (HO.out.alloc (.cells #[.int .i64 op, .complex .f64 re im, .float .f64 sz] 54))
      have HX : Hid (∀ g, Value.ownBlock (.slice Av q cv) = some g → g < wr.heap.size) := fun g e => ((own_take HC0.out hqL).lt g e).2
      replace HB : Hid (Below w.heap.size w (wr.alloc (.cells #[.int .i64 op, .complex .f64 re im, .float .f64 sz] 54))) := HB.out.alloc HB.out.size _
      clear e0 e1 e2
      generalize (wr.alloc (.cells #[.int .i64 op, .complex .f64 re im, .float .f64 sz] 54)) = W1 at *
      generalize wr.heap.size = X at *
      go_upto_region 8 with (refine (HK.out _).mono ?_; rintro e w2 ⟨rfl, rfl⟩)
      refine wp_region_held_drew (S := fun w' => w'.cell? ⟨X, 0, none⟩ = some (.int .i64 op) ∧ w'.cell? ⟨X, 1, none⟩ = some (.complex .f64 re im) ∧ w'.cell? ⟨X, 2, none⟩ = some (.float .f64 sz)) (by kernel_rfl) ⟨k0, k1, k2⟩ (fun hHeld => ?_)
      refine wpAnyH_take (i := 0) (oi := { dst := some 29, op := Go.Op.move (Go.Operand.tmp 5), type := 70, pos := "zone.go:94", after := #[], guard := none }) (v := ?_) rfl (by kernel_rfl) (by kernel_rfl) (by kernel_rfl) (fun _ _ _ h => h) (Or.inl ⟨rfl, ?_⟩) (by assumption) ?_
      rotate_left
      · intro wz hSw; (try dsimp only at hSw); go_simp; try (with_reducible rfl)
      try simp only [Act.put, List.setIfInBounds_toArray, List.set_cons_zero, List.set_cons_succ]
      refine wpAnyH_take (i := 1) (oi := { dst := some 30, op := Go.Op.move (Go.Operand.tmp 8), type := 3, pos := "zone.go:94", after := #[], guard := none }) (v := ?_) rfl (by kernel_rfl) (by kernel_rfl) (by kernel_rfl) (fun _ _ _ h => h) (Or.inl ⟨rfl, ?_⟩) (by assumption) ?_
      rotate_left
      · intro wz hSw; (try dsimp only at hSw); go_simp; try (with_reducible rfl)
      try simp only [Act.put, List.setIfInBounds_toArray, List.set_cons_zero, List.set_cons_succ]
      refine wpAnyH_take (i := 2) (oi := { dst := some 31, op := Go.Op.slice 70 (Go.Operand.tmp 29) none (some (Go.Operand.tmp 30)) none, type := 70, pos := "zone.go:94", after := #[{ on := 0, ground := Go.Ground.data }, { on := 1, ground := Go.Ground.data }], guard := none }) (v := ?_) rfl (by kernel_rfl) (by kernel_rfl) (by kernel_rfl) (fun _ _ _ h => h) (Or.inl ⟨rfl, ?_⟩) (by assumption) ?_
      rotate_left
      · intro wz hSw; (try dsimp only at hSw); go_simp; try (with_reducible rfl)
      try simp only [Act.put, List.setIfInBounds_toArray, List.set_cons_zero, List.set_cons_succ]
      refine wpAnyH_take (i := 3) (oi := { dst := some 32, op := Go.Op.load 54 (Go.Operand.tmp 7), type := 54, pos := "zone.go:94", after := #[], guard := none }) (v := ?_) rfl (by kernel_rfl) (by kernel_rfl) (by kernel_rfl) (fun _ _ _ h => h) (Or.inl ⟨rfl, ?_⟩) (by assumption) ?_
      rotate_left
      · intro wz hSw; (try dsimp only at hSw); go_simp; try (with_reducible rfl)
      try simp only [Act.put, List.setIfInBounds_toArray, List.set_cons_zero, List.set_cons_succ]
      refine wpAnyH_take (i := 4) (oi := { dst := some 33, op := Go.Op.move (Go.Operand.tmp 5), type := 70, pos := "zone.go:94", after := #[], guard := none }) (v := ?_) rfl (by kernel_rfl) (by kernel_rfl) (by kernel_rfl) (fun _ _ _ h => h) (Or.inl ⟨rfl, ?_⟩) (by assumption) ?_
      rotate_left
      · intro wz hSw; (try dsimp only at hSw); go_simp; try (with_reducible rfl)
      try simp only [Act.put, List.setIfInBounds_toArray, List.set_cons_zero, List.set_cons_succ]
      refine wpAnyH_take (i := 5) (oi := { dst := some 34, op := Go.Op.move (Go.Operand.tmp 8), type := 3, pos := "zone.go:94", after := #[], guard := none }) (v := ?_) rfl (by kernel_rfl) (by kernel_rfl) (by kernel_rfl) (fun _ _ _ h => h) (Or.inl ⟨rfl, ?_⟩) (by assumption) ?_
      rotate_left
      · intro wz hSw; (try dsimp only at hSw); go_simp; try (with_reducible rfl)
      try simp only [Act.put, List.setIfInBounds_toArray, List.set_cons_zero, List.set_cons_succ]
      refine wpAnyH_take (i := 6) (oi := { dst := some 35, op := Go.Op.slice 70 (Go.Operand.tmp 33) (some (Go.Operand.tmp 34)) none none, type := 70, pos := "zone.go:94", after := #[{ on := 4, ground := Go.Ground.data }, { on := 5, ground := Go.Ground.data }], guard := none }) (v := ?_) rfl (by kernel_rfl) (by kernel_rfl) (by kernel_rfl) (fun _ _ _ h => h) (Or.inl ⟨rfl, ?_⟩) (by assumption) ?_
      rotate_left
      · intro wz hSw; (try dsimp only at hSw); go_simp; try (with_reducible rfl)
      try simp only [Act.put, List.setIfInBounds_toArray, List.set_cons_zero, List.set_cons_succ]
      refine wpAnyH_take (i := 7) (oi := { dst := some 36, op := Go.Op.move (Go.Operand.tmp 1), type := 41, pos := "zone.go:94", after := #[], guard := none }) (v := ?_) rfl (by kernel_rfl) (by kernel_rfl) (by kernel_rfl) (fun _ _ _ h => h) (Or.inl ⟨rfl, ?_⟩) (by assumption) ?_
      rotate_left
      · intro wz hSw; (try dsimp only at hSw); go_simp; try (with_reducible rfl)
      try simp only [Act.put, List.setIfInBounds_toArray, List.set_cons_zero, List.set_cons_succ]
      refine wpAnyH_ready (rs := [8]) (by kernel_rfl) (by simp) ?_
      refine (AllReadyH.cons (o := { dst := some 37, op := Go.Op.call { callee := Go.Callee.value (Go.Operand.func 41), args := #[Go.Operand.tmp 32, Go.Operand.tmp 35, Go.Operand.tmp 36], argTypes := #[54, 70, 41] }, type := 4, pos := "zone.go:94", after := #[{ on := 3, ground := Go.Ground.data }, { on := 6, ground := Go.Ground.data }, { on := 7, ground := Go.Ground.data }], guard := none }) rfl (fun K hK => ?_) AllReadyH.nil)
      go_simp
      go_at_call 41
      refine (truth_any ⟨op, re, im, sz⟩ r HLK.out HFT.out pre pim px py HN1.out HN2.out HWI.out _ (L - q) (cv - q) ((runH px py [] (rs.take k)).drop q) W1.heap.size W1.drew (Nat.le_refl _) (by exact (tail_row HO.out hqL).hold (fun _ _ _ => rfl)) HTQ.out).mono ?_
      rintro e u1 ⟨rfl, hb⟩
      generalize hbv : truthF r ((runH px py [] (rs.take k)).drop q) px py = bv at *
      replace k0 := (hb.cell (p := ⟨X, 0, none⟩) kz).trans k0
      replace k1 := (hb.cell (p := ⟨X, 1, none⟩) kz).trans k1
      replace k2 := (hb.cell (p := ⟨X, 2, none⟩) kz).trans k2
      replace kz := Nat.lt_of_lt_of_le kz hb.size
      replace HO := Lib.hid (rown_below HO.out (below_via (Below.refl W1.heap.size W1) hb (Nat.le_refl _) ⟨rfl, rfl, rfl, rfl⟩))
      replace HB := Lib.hid (below_via HB.out hb HB.out.size ⟨rfl, rfl, rfl, rfl⟩)
      have HBV := Lib.hid hbv
      clear hb hbv
      refine hK.out _ _ ⟨k0, k1, k2⟩ (fun hHeld => ?_)
      clear hK K
      try simp only [Act.put, List.setIfInBounds_toArray, List.set_cons_zero, List.set_cons_succ]
      refine wpAnyH_ready (rs := [9]) (by kernel_rfl) (by simp) ?_
      refine (AllReadyH.cons (o := { dst := some 38, op := Go.Op.buildSlice 70 1 #[(0, Go.Operand.tmp 37)], type := 70, pos := "zone.go:94", after := #[{ on := 8, ground := Go.Ground.data }], guard := none }) rfl (fun K hK => ?_) AllReadyH.nil)
      go_simp
      have hb1 : Below u1.heap.size u1 (u1.alloc (.cells #[.bool bv] 4)) := (Below.refl _ _).alloc (Nat.le_refl _) _
      replace k0 := (hb1.cell (p := ⟨X, 0, none⟩) kz).trans k0
      replace k1 := (hb1.cell (p := ⟨X, 1, none⟩) kz).trans k1
      replace k2 := (hb1.cell (p := ⟨X, 2, none⟩) kz).trans k2
      replace kz := Nat.lt_of_lt_of_le kz hb1.size
      have HX1 : Hid (RowAt cellsB 1 (u1.alloc (.cells #[.bool bv] 4)) (u1.heap.size + 1) (some ⟨u1.heap.size, 0, none⟩) 1 [bv]) := one_row rowB (heap_alloc_new u1 _)
      replace HO := Lib.hid (rown_below HO.out hb1)
      replace HB := Lib.hid (HB.out.trans (hb1.mono HB.out.size))
      clear hb1
      generalize (u1.alloc (.cells #[.bool bv] 4)) = u2 at *
      generalize u1.heap.size = G1 at *
      refine hK.out _ _ ⟨k0, k1, k2⟩ (fun hHeld => ?_)
      clear hK K
      try simp only [Act.put, List.setIfInBounds_toArray, List.set_cons_zero, List.set_cons_succ]
      refine wpAnyH_ready (rs := [10]) (by kernel_rfl) (by simp) ?_
      refine (AllReadyH.cons (o := { dst := some 39, op := Go.Op.call { callee := Go.Callee.builtin Go.Builtin.append, args := #[Go.Operand.tmp 31, Go.Operand.tmp 38], argTypes := #[70, 70] }, type := 70, pos := "zone.go:94", after := #[{ on := 2, ground := Go.Ground.data }, { on := 9, ground := Go.Ground.data }, { on := 8, ground := Go.Ground.chain }], guard := none }) rfl (fun K hK => ?_) AllReadyH.nil)
      refine step_append_row rowB (B := w.heap.size) (v := .slice Av q cv) (n := q) (zs := (runH px py [] (rs.take k)).take q) (m := 1) (ys := [bv]) (by rfl) _ _ (by rfl) (by rfl) (own_take HO.out hqL) (by rfl) HX1.out (by omega) (by exact HB.out.size) ?_
      intro A3 c3 w3 hown3 hg3 hat3
      have nk : some X ≠ Value.ownBlock (.slice Av q cv) := fun e => by have := HX.out X e.symm; omega
      replace k0 := (World.cell?_of_block (a := ⟨X, 0, none⟩) (hg3.block X kz nk)).trans k0
      replace k1 := (World.cell?_of_block (a := ⟨X, 1, none⟩) (hg3.block X kz nk)).trans k1
      replace k2 := (World.cell?_of_block (a := ⟨X, 2, none⟩) (hg3.block X kz nk)).trans k2
      replace HB := Lib.hid (HB.out.grown hg3 HB.out.size (fun g e => ((own_take HO.out hqL).lt g e).1))
      have HO3 := Lib.hid hown3
      clear hown3 hg3 hat3 nk HO HX1
      refine hK.out _ _ ⟨k0, k1, k2⟩ (fun hHeld => ?_)
      clear hK K
      try simp only [Act.put, List.setIfInBounds_toArray, List.set_cons_zero, List.set_cons_succ]
      refine wpAnyH_take (i := 11) (oi := { dst := some 5, op := Go.Op.assign (Go.Operand.tmp 39), type := 70, pos := "zone.go:94", after := #[{ on := 10, ground := Go.Ground.data }, { on := 10, ground := Go.Ground.chain }, { on := 0, ground := Go.Ground.phase }, { on := 1, ground := Go.Ground.phase }, { on := 2, ground := Go.Ground.phase }, { on := 3, ground := Go.Ground.phase }, { on := 4, ground := Go.Ground.phase }, { on := 5, ground := Go.Ground.phase }, { on := 6, ground := Go.Ground.phase }, { on := 7, ground := Go.Ground.phase }, { on := 8, ground := Go.Ground.phase }, { on := 9, ground := Go.Ground.phase }, { on := 10, ground := Go.Ground.phase }], guard := none }) (v := ?_) rfl (by kernel_rfl) (by kernel_rfl) (by kernel_rfl) (fun _ _ _ h => h) (Or.inl ⟨rfl, ?_⟩) (by assumption) ?_
      rotate_left
      · intro wz hSw; (try dsimp only at hSw); go_simp; try (with_reducible rfl)
      try simp only [Act.put, List.setIfInBounds_toArray, List.set_cons_zero, List.set_cons_succ]
      refine wpAnyH_done (by kernel_rfl) ?_ _
      have HC3 : Hid (HalfH px py rs w (k + 1) A3 (q + 1) c3 w3) := by
        have e : runH px py [] (rs.take (k + 1)) = (runH px py [] (rs.take k)).take q ++ [bv] := by
          rw [HSN.out]
          unfold stepH
          rw [HQ.out, ← HLL.out, show L - (L - q) = q by omega, HBV.out]
        refine ⟨?_, ?_, HB.out⟩
        · rw [e, List.length_append, List.length_take, ← HLL.out]
          simp only [List.length_singleton]
          omega
        · rw [e]; exact HO3.out
      clear hHeld k0 k1 k2 HO3
      go_wp2
      go_roundw
      case rel => exact ⟨k + 1, q + 1, A3, c3, by omega, by go_num, rfl, HC3⟩
      case measure => simp [intOf]; omega
    · obtain rfl : k = n := by omega
      have hT : rs.take k = rs := List.take_of_length_le (by have := HLN.out; omega)
      rw [hT, HAN.out] at HO HLL
      have hL1 : L = 1 := HLL.out
      subst hL1
      obtain ⟨b, o, rfl, hb, c0⟩ := bool_at (own_row rowB HO.out) (k := 0) (by omega)
      replace c0 : wr.cell? ⟨b, o, none⟩ = some (.bool ans) := c0
      clear HC0 hT
      go_wp2
      go_ret
      exact ⟨ret_bool HF.out.symm, HB.out⟩
end Go.Proofs.YtkklikkmpmlnbaaDoor
