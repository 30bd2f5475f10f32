/- The document's Fix of steps: a zone out of any steps. -/
import Derived.Test.YtkklikkmpmlnbaaDoorZm
import Derived.Test.YtkklikkmpmlnbaaDoorGc
import Derived.Deep.DeepCutAuto
namespace Go.Proofs.YtkklikkmpmlnbaaDoor
open Go.RowKit

theorem grown_set {w : World} {p : Addr} (u : Value) : w.grownBy (w.setCell p u) (some p.block) :=
  ⟨rfl, rfl, rfl, by simp, fun k _ hne => by
    have : p.block ≠ k := fun e => hne (by rw [e])
    simp only [World.setCell, Array.getElem?_modify, if_neg this]⟩
def opR (o : Int) : Int := 1 + o % 18446744073709551616 % 6
def opFix (o n : Int) : Int := if opR o = 4 ∧ n < 1 ∨ 4 < opR o ∧ n < 2 then 2 else opR o
def fixStep (n : Int) (r : RSt) : RSt :=
  if opFix r.op n = 2 then ⟨2, spotF r.x, spotF r.y, r.sz % 18446744073709551616 % 2001⟩
  else if opFix r.op n = 3 then ⟨3, spotF r.x, spotF r.y, r.sz % 18446744073709551616 % 4000001 - 2000000⟩
  else ⟨opFix r.op n, 0, 0, 0⟩
def fixN (n : Int) (r : RSt) : Int := if opFix r.op n ≤ 3 then n + 1 else if 4 < opFix r.op n then n - 1 else n
def fixL : Int → List RSt → List RSt
  | _, [] => []
  | n, r :: l => fixStep n r :: fixL (fixN n r) l
def fixE : Int → List RSt → Int
  | n, [] => n
  | n, r :: l => fixE (fixN n r) l
/-- A zone out of any steps. -/
def fixZ (l : List RSt) : List RSt := if fixE 0 (l.take 12) = 0 then [⟨1, 0, 0, 0⟩] else fixL 0 (l.take 12) ++ List.replicate (fixE 0 (l.take 12) - 1).toNat ⟨6, 0, 0, 0⟩
theorem fixL_snoc (n : Int) (a : List RSt) (r : RSt) : fixL n (a ++ [r]) = fixL n a ++ [fixStep (fixE n a) r] := by
  induction a generalizing n with
  | nil => rfl
  | cons x l ih => exact congrArg (fixStep n x :: ·) (ih (fixN n x))
theorem fixE_snoc (n : Int) (a : List RSt) (r : RSt) : fixE n (a ++ [r]) = fixN (fixE n a) r := by
  induction a generalizing n with
  | nil => rfl
  | cons x l ih => exact ih (fixN n x)
theorem fixL_len (n : Int) (a : List RSt) : (fixL n a).length = a.length := by
  induction a generalizing n with
  | nil => rfl
  | cons x l ih => show (fixL _ l).length + 1 = _; rw [ih]; rfl
theorem opR_in (o : Int) : opR o = 1 ∨ opR o = 2 ∨ opR o = 3 ∨ opR o = 4 ∨ opR o = 5 ∨ opR o = 6 := by unfold opR; omega
theorem fix_step {n : Int} {r : RSt} (hn : 0 ≤ n) : stepR n (fixStep n r) = some (fixN n r) ∧ 0 ≤ fixN n r ∧ (fixN n r ≤ n + 1) ∧ (fixN n r = 0 → False) := by
  have h1 := spotF_in r.x
  have h2 := spotF_in r.y
  have hw : wholeF (spotF r.x) (spotF r.y) = true := whole_iff.mpr ⟨h1, h2⟩
  unfold fixN
  by_cases hop : opFix r.op n = 2
  · have e : fixStep n r = ⟨2, spotF r.x, spotF r.y, r.sz % 18446744073709551616 % 2001⟩ := by unfold fixStep; rw [if_pos hop]
    have hf : fitsR ⟨2, spotF r.x, spotF r.y, r.sz % 18446744073709551616 % 2001⟩ = true := by
      show (wholeF (spotF r.x) (spotF r.y) && withinF (r.sz % 18446744073709551616 % 2001) 0 2000) = true
      rw [hw, within_iff.mpr (by omega)]; rfl
    rw [e, hop]
    refine ⟨?_, by simp; omega, by simp, by simp; omega⟩
    unfold stepR
    rw [if_pos ⟨hf, by show ¬ n < 0; omega⟩]
    rfl
  by_cases hop3 : opFix r.op n = 3
  · have e : fixStep n r = ⟨3, spotF r.x, spotF r.y, r.sz % 18446744073709551616 % 4000001 - 2000000⟩ := by unfold fixStep; rw [if_neg hop, if_pos hop3]
    have hf : fitsR ⟨3, spotF r.x, spotF r.y, r.sz % 18446744073709551616 % 4000001 - 2000000⟩ = true := by
      show (wholeF (spotF r.x) (spotF r.y) && withinF (r.sz % 18446744073709551616 % 4000001 - 2000000) (-2000000) 2000000) = true
      rw [hw, within_iff.mpr (by omega)]; rfl
    rw [e, hop3]
    refine ⟨?_, by simp; omega, by simp, by simp; omega⟩
    unfold stepR
    rw [if_pos ⟨hf, by show ¬ n < 0; omega⟩]
    rfl
  have e : fixStep n r = ⟨opFix r.op n, 0, 0, 0⟩ := by unfold fixStep; rw [if_neg hop, if_neg hop3]
  rw [e]
  have hc : opFix r.op n = 1 ∨ (opFix r.op n = 4 ∧ 1 ≤ n) ∨ ((opFix r.op n = 5 ∨ opFix r.op n = 6) ∧ 2 ≤ n) := by
    have h3 := opR_in r.op
    unfold opFix at hop hop3 ⊢
    split at hop
    · omega
    · rename_i h4
      rw [if_neg h4] at hop3 ⊢
      omega
  rcases hc with h | ⟨h, hn1⟩ | ⟨h, hn2⟩
  · rw [h]
    refine ⟨?_, by simp; omega, by simp, by simp; omega⟩
    unfold stepR
    rw [if_pos ⟨rfl, by show ¬ n < 0; omega⟩]
    rfl
  · rw [h]
    refine ⟨?_, by simp; omega, by simp; omega, by simp; omega⟩
    unfold stepR
    rw [if_pos ⟨rfl, by show ¬ n < 1; omega⟩]
    exact congrArg some (show n + (1 - 1) = n by omega)
  · rcases h with h | h
    all_goals
      rw [h]
      refine ⟨?_, by simp; omega, by simp; omega, by simp; omega⟩
      unfold stepR
      rw [if_pos ⟨rfl, by show ¬ n < 2; omega⟩]
      exact congrArg some (show n + (1 - 2) = n - 1 by omega)
theorem fix_fold (a : List RSt) : ∀ n : Int, 0 ≤ n → foldR n (fixL n a) = some (fixE n a) ∧ 0 ≤ fixE n a ∧ fixE n a ≤ n + a.length ∧ (fixE n a = 0 → a = [] ) := by
  induction a with
  | nil => intro n hn; exact ⟨rfl, hn, by simp [fixE], fun _ => rfl⟩
  | cons r l ih =>
    intro n hn
    obtain ⟨h1, h2, h3, h4⟩ := fix_step (r := r) hn
    obtain ⟨i1, i2, i3, i4⟩ := ih (fixN n r) h2
    refine ⟨?_, i2, ?_, fun h => ?_⟩
    · show (stepR n (fixStep n r)).bind _ = _
      rw [h1]
      exact i1
    · show fixE (fixN n r) l ≤ _
      rw [List.length_cons]
      omega
    · have h5 := i4 h
      subst h5
      exact absurd h h4
theorem ors_fold : ∀ (k : Nat) (n : Int), (k : Int) < n → foldR n (List.replicate k ⟨6, 0, 0, 0⟩) = some (n - k)
  | 0, n, _ => by simp [foldR]
  | k + 1, n, h => by
    show (stepR n ⟨6, 0, 0, 0⟩).bind _ = _
    have : stepR n ⟨6, 0, 0, 0⟩ = some (n - 1) := by
      unfold stepR
      rw [if_pos ⟨rfl, by show ¬ n < 2; omega⟩]
      exact congrArg some (show n + (1 - 2) = n - 1 by omega)
    rw [this]
    show foldR (n - 1) _ = _
    rw [ors_fold k (n - 1) (by omega)]
    congr 1
    omega
theorem fix_right (l : List RSt) : rightZ (fixZ l) = true := by
  obtain ⟨h1, h2, h3, h4⟩ := fix_fold (l.take 12) 0 (by omega)
  have hl : (l.take 12).length ≤ 12 := by rw [List.length_take]; omega
  unfold fixZ
  by_cases h0 : fixE 0 (l.take 12) = 0
  · rw [if_pos h0]; rfl
  · rw [if_neg h0]
    unfold rightZ
    rw [foldR_append, h1]
    show (_ && (foldR (fixE 0 (l.take 12)) _ == some 1)) = true
    rw [ors_fold _ _ (by omega), Bool.and_eq_true, decide_eq_true_eq, beq_iff_eq]
    refine ⟨?_, by congr 1; omega⟩
    rw [List.length_append, fixL_len, List.length_replicate]
    omega
/-- Half way. -/
def HalfF (rs : List RSt) (w : World) (k : Nat) (Av : Option Addr) (cv : Nat) (wr : World) : Prop := wr.ownsRow w.heap.size 59 4 (.slice Av k cv) k (rowCells cellsR (fixL 0 (rs.take k))) ∧ Below w.heap.size w wr

set_option maxRecDepth 100000 in
set_option maxHeartbeats 60000000 in
theorem fix_any (A : Option Addr) (n c : Nat) (rs : List RSt) (B : Nat) (w : World) (hB : B ≤ w.heap.size) (hz : RowAt cellsR 4 w B A n rs) (hn63 : n ≤ 9223372036854775807) :
    Calls Tryd.prog 21 #[.slice A n c] w (OwnRow cellsR 4 59 (fixZ rs) w) := by
  have HLN : Hid (rs.length = n) := hz.1
  have HZ := Lib.hid hz
  clear hz
  go_enter Tryd.func21, Tryd.ntmps21
  go_wp2
  go_loopw [3, 4, 5] (fun v t i wr => ∃ (k : Nat) (Av : Option Addr) (cv : Nat) (m : Int), k ≤ n ∧ k ≤ 12 ∧ i = .int .i64 k ∧ v = .slice Av k cv ∧ t = .int .i64 m ∧ 0 ≤ m ∧ m ≤ k ∧ Hid (fixE 0 (rs.take k) = m) ∧ Hid (HalfF rs w k Av cv wr)) (fun _ _ i _ => n - (intOf i).toNat)
  case atStart => exact ⟨0, none, 0, 0, by omega, by omega, rfl, rfl, rfl, by omega, by omega, rfl, rown_nil _ _, Below.refl _ _⟩
  case round =>
    obtain ⟨k, Av, cv, m, hk, hk12, rfl, rfl, rfl, hm0, hmk, HM, HC⟩ := hrel
    obtain ⟨hown, hbel⟩ := HC.out
    have HO := Lib.hid hown
    have HB := Lib.hid hbel
    clear hown hbel HC
    by_cases hlt : k < n
    · by_cases hlt12 : k < 12
      · obtain ⟨blk, off, rfl, hbB, r, hrk, hcell⟩ := HZ.out.get hlt
        obtain ⟨e0, e1, e2, e3⟩ := cellsR_at hcell
        replace e0 := ((HB.out.mono hB).cell (p := ⟨blk, off + k * 4, none⟩) hbB).trans e0
        replace e1 := ((HB.out.mono hB).cell (p := ⟨blk, off + k * 4 + 1, none⟩) hbB).trans e1
        replace e2 := ((HB.out.mono hB).cell (p := ⟨blk, off + k * 4 + 2, none⟩) hbB).trans e2
        replace e3 := ((HB.out.mono hB).cell (p := ⟨blk, off + k * 4 + 3, none⟩) hbB).trans e3
        have hi1 : (k : Int) < n := by omega
        have hi2 : (k : Int) < 12 := by omega
        have hbl : blk < wr.heap.size := by have := HB.out.size; omega
        have HTS : Hid (fixL 0 (rs.take (k + 1)) = fixL 0 (rs.take k) ++ [fixStep m r]) := by show _ = _; rw [snocR hrk, fixL_snoc, HM.out]
        have HTE : Hid (fixE 0 (rs.take (k + 1)) = fixN m r) := by show _ = _; rw [snocR hrk, fixE_snoc, HM.out]
        have hop := opR_in r.op
        have HOF : Hid (opFix r.op m = if opR r.op = 4 ∧ m < 1 ∨ 4 < opR r.op ∧ m < 2 then 2 else opR r.op) := rfl
        have HST : Hid (fixStep m r = if opFix r.op m = 2 then ⟨2, spotF r.x, spotF r.y, r.sz % 18446744073709551616 % 2001⟩ else if opFix r.op m = 3 then ⟨3, spotF r.x, spotF r.y, r.sz % 18446744073709551616 % 4000001 - 2000000⟩ else ⟨opFix r.op m, 0, 0, 0⟩) := rfl
        have HFN : Hid (fixN m r = if opFix r.op m ≤ 3 then m + 1 else if 4 < opFix r.op m then m - 1 else m) := rfl
        have HSP := Lib.hid (refSpot_any r.x r.y)
        have hop6 : wrap64 (1 + wrap64 ((IntKind.u64.wrap r.op).tmod 6)) = opR r.op := by
          have h0 : IntKind.u64.wrap r.op = r.op % 18446744073709551616 := rfl
          unfold opR
          rw [h0, Int.tmod_eq_emod_of_nonneg (by omega)]
          rw [IntWalk.wrap64_in (_ % 6) (by omega), IntWalk.wrap64_in _ (by omega)]
        clear hcell hrk HM HLN
        generalize opR r.op = o at *
        generalize fixStep m r = fs at *
        generalize fixN m r = fm at *
        generalize opFix r.op m = ofx at *
        obtain ⟨rop, x, y, z⟩ := r
        simp only at e0 e1 e2 e3 HSP HST hop6
        have hz2 : IntKind.i64.wrap ((IntKind.u64.wrap z).tmod 2001) = z % 18446744073709551616 % 2001 := by
          have h0 : IntKind.u64.wrap z = z % 18446744073709551616 := rfl
          rw [h0, Int.tmod_eq_emod_of_nonneg (by omega), IntWalk.i64_in _ (by omega)]
        have hz3 : IntKind.i64.wrap (IntKind.i64.wrap ((IntKind.u64.wrap z).tmod 4000001) - 2000000) = z % 18446744073709551616 % 4000001 - 2000000 := by
          have h0 : IntKind.u64.wrap z = z % 18446744073709551616 := rfl
          rw [h0, Int.tmod_eq_emod_of_nonneg (by omega), IntWalk.i64_in (_ % 4000001) (by omega), IntWalk.i64_in _ (by omega)]
        generalize spotF x = sx at *
        generalize spotF y = sy at *
        generalize z % 18446744073709551616 % 2001 = z2 at *
        generalize z % 18446744073709551616 % 4000001 - 2000000 = z3 at *
        go_upto_region 7 with fail
        rw [hop6]
        clear hop6
        go_cut [7] (fun s7 wx => ∃ G : Nat, s7 = .pointer (some ⟨G, 0, none⟩) ∧ wx.cell? ⟨G, 0, none⟩ = some (.int .i64 sx) ∧ wx.cell? ⟨G, 1, none⟩ = some (.int .i64 sy) ∧ G < wx.heap.size ∧ wx.cell? ⟨blk, off + k * 4 + 3, none⟩ = some (.int .i64 z) ∧ blk < wx.heap.size ∧ Hid (wx.ownsRow w.heap.size 59 4 (.slice Av k cv) k (rowCells cellsR (fixL 0 (rs.take k)))) ∧ Hid (Below w.heap.size w wx))
        case first =>
          refine wp_region_held_drew (S := fun w' => w'.cell? ⟨blk, off + k * 4 + 1, none⟩ = some (.int .i64 x) ∧ w'.cell? ⟨blk, off + k * 4 + 2, none⟩ = some (.int .i64 y) ∧ w'.cell? ⟨blk, off + k * 4 + 3, none⟩ = some (.int .i64 z)) (by kernel_rfl) ⟨e1, e2, e3⟩ (fun hHeld => ?_)
          refine wpAnyH_take (i := 0) (oi := { dst := some 28, op := Go.Op.move (Go.Operand.tmp 0), type := 22, pos := "ref.go:212", after := #[], guard := none }) (v := ?_) rfl (by kernel_rfl) (by kernel_rfl) (by kernel_rfl) (fun _ _ _ h => h) (Or.inl ⟨rfl, ?_⟩) (by assumption) ?_
          rotate_left
          · intro wz hSw; (try dsimp only at hSw); go_simp; try (with_reducible rfl)
          try simp only [Act.put, List.setIfInBounds_toArray, List.set_cons_zero, List.set_cons_succ]
          refine wpAnyH_take (i := 1) (oi := { dst := some 29, op := Go.Op.move (Go.Operand.tmp 5), type := 3, pos := "ref.go:212", after := #[], guard := none }) (v := ?_) rfl (by kernel_rfl) (by kernel_rfl) (by kernel_rfl) (fun _ _ _ h => h) (Or.inl ⟨rfl, ?_⟩) (by assumption) ?_
          rotate_left
          · intro wz hSw; (try dsimp only at hSw); go_simp; try (with_reducible rfl)
          try simp only [Act.put, List.setIfInBounds_toArray, List.set_cons_zero, List.set_cons_succ]
          refine wpAnyH_take (i := 2) (oi := { dst := some 30, op := Go.Op.indexAddr 22 (Go.Operand.tmp 28) (Go.Operand.tmp 29), type := 0, pos := "ref.go:212", after := #[{ on := 0, ground := Go.Ground.data }, { on := 1, ground := Go.Ground.data }], guard := none }) (v := ?_) rfl (by kernel_rfl) (by kernel_rfl) (by kernel_rfl) (fun _ _ _ h => h) (Or.inl ⟨rfl, ?_⟩) (by assumption) ?_
          rotate_left
          · intro wz hSw; (try dsimp only at hSw); go_simp; try (with_reducible rfl)
          try simp only [Act.put, List.setIfInBounds_toArray, List.set_cons_zero, List.set_cons_succ]
          refine wpAnyH_take (i := 3) (oi := { dst := some 31, op := Go.Op.fieldAddr 59 (Go.Operand.tmp 30) 1, type := 0, pos := "ref.go:212", after := #[{ on := 2, ground := Go.Ground.data }], guard := none }) (v := ?_) rfl (by kernel_rfl) (by kernel_rfl) (by kernel_rfl) (fun _ _ _ h => h) (Or.inl ⟨rfl, ?_⟩) (by assumption) ?_
          rotate_left
          · intro wz hSw; (try dsimp only at hSw); go_simp; try (with_reducible rfl)
          try simp only [Act.put, List.setIfInBounds_toArray, List.set_cons_zero, List.set_cons_succ]
          refine wpAnyH_take (i := 4) (oi := { dst := some 32, op := Go.Op.load 3 (Go.Operand.tmp 31), type := 3, pos := "ref.go:212", after := #[{ on := 3, ground := Go.Ground.data }], guard := none }) (v := ?_) rfl (by kernel_rfl) (by kernel_rfl) (by kernel_rfl) (fun _ _ _ h => h) (Or.inl ⟨rfl, ?_⟩) (by assumption) ?_
          rotate_left
          · intro wz hSw; (try dsimp only at hSw); go_simp; try (with_reducible rfl)
          try simp only [Act.put, List.setIfInBounds_toArray, List.set_cons_zero, List.set_cons_succ]
          refine wpAnyH_take (i := 5) (oi := { dst := some 33, op := Go.Op.move (Go.Operand.tmp 0), type := 22, pos := "ref.go:212", after := #[], guard := none }) (v := ?_) rfl (by kernel_rfl) (by kernel_rfl) (by kernel_rfl) (fun _ _ _ h => h) (Or.inl ⟨rfl, ?_⟩) (by assumption) ?_
          rotate_left
          · intro wz hSw; (try dsimp only at hSw); go_simp; try (with_reducible rfl)
          try simp only [Act.put, List.setIfInBounds_toArray, List.set_cons_zero, List.set_cons_succ]
          refine wpAnyH_take (i := 6) (oi := { dst := some 34, op := Go.Op.move (Go.Operand.tmp 5), type := 3, pos := "ref.go:212", after := #[], guard := none }) (v := ?_) rfl (by kernel_rfl) (by kernel_rfl) (by kernel_rfl) (fun _ _ _ h => h) (Or.inl ⟨rfl, ?_⟩) (by assumption) ?_
          rotate_left
          · intro wz hSw; (try dsimp only at hSw); go_simp; try (with_reducible rfl)
          try simp only [Act.put, List.setIfInBounds_toArray, List.set_cons_zero, List.set_cons_succ]
          refine wpAnyH_take (i := 7) (oi := { dst := some 35, op := Go.Op.indexAddr 22 (Go.Operand.tmp 33) (Go.Operand.tmp 34), type := 0, pos := "ref.go:212", after := #[{ on := 5, ground := Go.Ground.data }, { on := 6, ground := Go.Ground.data }], guard := none }) (v := ?_) rfl (by kernel_rfl) (by kernel_rfl) (by kernel_rfl) (fun _ _ _ h => h) (Or.inl ⟨rfl, ?_⟩) (by assumption) ?_
          rotate_left
          · intro wz hSw; (try dsimp only at hSw); go_simp; try (with_reducible rfl)
          try simp only [Act.put, List.setIfInBounds_toArray, List.set_cons_zero, List.set_cons_succ]
          refine wpAnyH_take (i := 8) (oi := { dst := some 36, op := Go.Op.fieldAddr 59 (Go.Operand.tmp 35) 2, type := 0, pos := "ref.go:212", after := #[{ on := 7, ground := Go.Ground.data }], guard := none }) (v := ?_) rfl (by kernel_rfl) (by kernel_rfl) (by kernel_rfl) (fun _ _ _ h => h) (Or.inl ⟨rfl, ?_⟩) (by assumption) ?_
          rotate_left
          · intro wz hSw; (try dsimp only at hSw); go_simp; try (with_reducible rfl)
          try simp only [Act.put, List.setIfInBounds_toArray, List.set_cons_zero, List.set_cons_succ]
          refine wpAnyH_take (i := 9) (oi := { dst := some 37, op := Go.Op.load 3 (Go.Operand.tmp 36), type := 3, pos := "ref.go:212", after := #[{ on := 8, ground := Go.Ground.data }], guard := none }) (v := ?_) rfl (by kernel_rfl) (by kernel_rfl) (by kernel_rfl) (fun _ _ _ h => h) (Or.inl ⟨rfl, ?_⟩) (by assumption) ?_
          rotate_left
          · intro wz hSw; (try dsimp only at hSw); go_simp; try (with_reducible rfl)
          try simp only [Act.put, List.setIfInBounds_toArray, List.set_cons_zero, List.set_cons_succ]
          refine wpAnyH_take (i := 10) (oi := { dst := some 38, op := Go.Op.build 37 #[(0, Go.Operand.tmp 32), (1, Go.Operand.tmp 37)], type := 37, pos := "ref.go:212", after := #[{ on := 4, ground := Go.Ground.data }, { on := 9, ground := Go.Ground.data }], guard := none }) (v := ?_) rfl (by kernel_rfl) (by kernel_rfl) (by kernel_rfl) (fun _ _ _ h => h) (Or.inl ⟨rfl, ?_⟩) (by assumption) ?_
          rotate_left
          · intro wz hSw; (try dsimp only at hSw); go_simp; try (with_reducible rfl)
          try simp only [Act.put, List.setIfInBounds_toArray, List.set_cons_zero, List.set_cons_succ]
          refine wpAnyH_ready (rs := [11, 12]) (by kernel_rfl) (by simp) ?_
          refine (AllReadyH.cons (o := { dst := some 39, op := Go.Op.call { callee := Go.Callee.value (Go.Operand.func 22), args := #[Go.Operand.tmp 38], argTypes := #[37] }, type := 37, pos := "ref.go:212", after := #[{ on := 10, ground := Go.Ground.data }], guard := none }) rfl (fun K hK => ?_) (AllReadyH.cons (o := { dst := some 7, op := Go.Op.alloc 37, type := 0, pos := "ref.go:212", after := #[], guard := none }) rfl (fun K hK => ?_) AllReadyH.nil))
          · skip
            go_simp
            refine (HSP.out _).mono ?_
            rintro e u1 ⟨rfl, hb⟩
            have hbv := below_via (Below.refl wr.heap.size wr) hb (Nat.le_refl _) ⟨rfl, rfl, rfl, rfl⟩
            replace e1 := (hbv.cell (p := ⟨blk, off + k * 4 + 1, none⟩) hbl).trans e1
            replace e2 := (hbv.cell (p := ⟨blk, off + k * 4 + 2, none⟩) hbl).trans e2
            replace e3 := (hbv.cell (p := ⟨blk, off + k * 4 + 3, none⟩) hbl).trans e3
            replace hbl := Nat.lt_of_lt_of_le hbl hbv.size
            replace HO := Lib.hid (rown_below HO.out hbv)
            replace HB := Lib.hid (HB.out.trans (hbv.mono HB.out.size))
            clear hb hbv
            refine hK.out _ _ ⟨e1, e2, e3⟩ (fun hHeld => ?_)
            clear hK K
            try simp only [Act.put, List.setIfInBounds_toArray, List.set_cons_zero, List.set_cons_succ]
            refine wpAnyH_ready (rs := [12]) (by kernel_rfl) (by simp) ?_
            refine (AllReadyH.cons (o := { dst := some 7, op := Go.Op.alloc 37, type := 0, pos := "ref.go:212", after := #[], guard := none }) rfl (fun K hK => ?_) AllReadyH.nil)
            go_simp
            have hb1 : Below u1.heap.size u1 (u1.alloc (.cells #[.int .i64 0, .int .i64 0] 37)) := (Below.refl _ _).alloc (Nat.le_refl _) _
            replace e1 := (hb1.cell (p := ⟨blk, off + k * 4 + 1, none⟩) hbl).trans e1
            replace e2 := (hb1.cell (p := ⟨blk, off + k * 4 + 2, none⟩) hbl).trans e2
            replace e3 := (hb1.cell (p := ⟨blk, off + k * 4 + 3, none⟩) hbl).trans e3
            replace hbl := Nat.lt_of_lt_of_le hbl hb1.size
            have z0 : (u1.alloc (.cells #[.int .i64 0, .int .i64 0] 37)).cell? ⟨u1.heap.size, 0, none⟩ = some (.int .i64 0) := by simp [go_sem]
            have z1 : (u1.alloc (.cells #[.int .i64 0, .int .i64 0] 37)).cell? ⟨u1.heap.size, 1, none⟩ = some (.int .i64 0) := by simp [go_sem]
            have zf0 : (u1.alloc (.cells #[.int .i64 0, .int .i64 0] 37)).frozen? ⟨u1.heap.size, 0, none⟩ = false := by simp [go_sem]
            have zf1 : (u1.alloc (.cells #[.int .i64 0, .int .i64 0] 37)).frozen? ⟨u1.heap.size, 1, none⟩ = false := by simp [go_sem]
            have gz : u1.heap.size < (u1.alloc (.cells #[.int .i64 0, .int .i64 0] 37)).heap.size := by simp
            have HXG := Lib.hid (fun (g : Nat) (e : Value.ownBlock (.slice Av k cv) = some g) => (HO.out.lt g e).2)
            have hbG : blk ≠ u1.heap.size := by have := HB.out.size; omega
            have hwG : w.heap.size ≤ u1.heap.size := HB.out.size
            replace HO := Lib.hid (rown_below HO.out hb1)
            replace HB := Lib.hid (HB.out.trans (hb1.mono HB.out.size))
            clear hb1
            generalize (u1.alloc (.cells #[.int .i64 0, .int .i64 0] 37)) = v1 at *
            generalize u1.heap.size = G at *
            refine hK.out _ _ ⟨e1, e2, e3⟩ (fun hHeld => ?_)
            clear hK K
            try simp only [Act.put, List.setIfInBounds_toArray, List.set_cons_zero, List.set_cons_succ]
            refine wpAnyH_ready (rs := [13]) (by kernel_rfl) (by simp) ?_
            refine (AllReadyH.cons (o := { dst := none, op := Go.Op.store 37 (Go.Operand.tmp 7) (Go.Operand.tmp 39), type := 0, pos := "ref.go:212", after := #[{ on := 12, ground := Go.Ground.data }, { on := 11, ground := Go.Ground.data }, { on := 11, ground := Go.Ground.chain }, { on := 0, ground := Go.Ground.phase }, { on := 1, ground := Go.Ground.phase }, { on := 2, ground := Go.Ground.phase }, { on := 3, ground := Go.Ground.phase }, { on := 4, ground := Go.Ground.phase }, { on := 5, ground := Go.Ground.phase }, { on := 6, ground := Go.Ground.phase }, { on := 7, ground := Go.Ground.phase }, { on := 8, ground := Go.Ground.phase }, { on := 9, ground := Go.Ground.phase }, { on := 10, ground := Go.Ground.phase }, { on := 11, ground := Go.Ground.phase }, { on := 12, ground := Go.Ground.phase }], guard := none }) rfl (fun K hK => ?_) AllReadyH.nil)
            go_simp
            replace e1 : ((v1.setCell ⟨G, 0, none⟩ (.int .i64 sx)).setCell ⟨G, 1, none⟩ (.int .i64 sy)).cell? ⟨blk, off + k * 4 + 1, none⟩ = some (.int .i64 x) := by simp [go_sem, e1]
            replace e2 : ((v1.setCell ⟨G, 0, none⟩ (.int .i64 sx)).setCell ⟨G, 1, none⟩ (.int .i64 sy)).cell? ⟨blk, off + k * 4 + 2, none⟩ = some (.int .i64 y) := by simp [go_sem, e2]
            replace e3 : ((v1.setCell ⟨G, 0, none⟩ (.int .i64 sx)).setCell ⟨G, 1, none⟩ (.int .i64 sy)).cell? ⟨blk, off + k * 4 + 3, none⟩ = some (.int .i64 z) := by simp [go_sem, e3]
            have g0 : ((v1.setCell ⟨G, 0, none⟩ (.int .i64 sx)).setCell ⟨G, 1, none⟩ (.int .i64 sy)).cell? ⟨G, 0, none⟩ = some (.int .i64 sx) := by simp [go_sem, z0]
            have g1 : ((v1.setCell ⟨G, 0, none⟩ (.int .i64 sx)).setCell ⟨G, 1, none⟩ (.int .i64 sy)).cell? ⟨G, 1, none⟩ = some (.int .i64 sy) := by simp [go_sem, z1]
            replace gz : G < ((v1.setCell ⟨G, 0, none⟩ (.int .i64 sx)).setCell ⟨G, 1, none⟩ (.int .i64 sy)).heap.size := by simpa using gz
            replace hbl : blk < ((v1.setCell ⟨G, 0, none⟩ (.int .i64 sx)).setCell ⟨G, 1, none⟩ (.int .i64 sy)).heap.size := by simpa using hbl
            have hng : (none : Option Nat) = some G ∨ Value.ownBlock (.slice Av k cv) ≠ some G := Or.inr fun e => by have := HXG.out G e; omega
            replace HO := Lib.hid (rown_grown (rown_grown HO.out (grown_set (p := ⟨G, 0, none⟩) (.int .i64 sx)) (Or.inr fun e => by have := HXG.out G e; omega)) (grown_set (p := ⟨G, 1, none⟩) (.int .i64 sy)) (Or.inr fun e => by have := HXG.out G e; omega))
            replace HB : Hid (Below w.heap.size w ((v1.setCell ⟨G, 0, none⟩ (.int .i64 sx)).setCell ⟨G, 1, none⟩ (.int .i64 sy))) := (HB.out.setCell (by simpa using hwG) _).setCell (by simpa using hwG) _
            clear z0 z1 zf0 zf1 hng HXG
            generalize ((v1.setCell ⟨G, 0, none⟩ (.int .i64 sx)).setCell ⟨G, 1, none⟩ (.int .i64 sy)) = W7 at *
            refine hK.out _ _ ⟨e1, e2, e3⟩ (fun hHeld => ?_)
            clear hK K
            try simp only [Act.put, List.setIfInBounds_toArray, List.set_cons_zero, List.set_cons_succ]
            refine wpAnyH_done (by kernel_rfl) ?_ _
            go_wp2
            go_meet
            case rel => exact ⟨G, rfl, g0, g1, gz, e3, hbl, HO, HB⟩
          · skip
            go_simp
            have hb1 : Below wr.heap.size wr (wr.alloc (.cells #[.int .i64 0, .int .i64 0] 37)).drew := below_drewz ((Below.refl _ _).alloc (Nat.le_refl _) _)
            replace e1 := (hb1.cell (p := ⟨blk, off + k * 4 + 1, none⟩) hbl).trans e1
            replace e2 := (hb1.cell (p := ⟨blk, off + k * 4 + 2, none⟩) hbl).trans e2
            replace e3 := (hb1.cell (p := ⟨blk, off + k * 4 + 3, none⟩) hbl).trans e3
            replace hbl := Nat.lt_of_lt_of_le hbl hb1.size
            have z0 : (wr.alloc (.cells #[.int .i64 0, .int .i64 0] 37)).drew.cell? ⟨wr.heap.size, 0, none⟩ = some (.int .i64 0) := by simp [go_sem]
            have z1 : (wr.alloc (.cells #[.int .i64 0, .int .i64 0] 37)).drew.cell? ⟨wr.heap.size, 1, none⟩ = some (.int .i64 0) := by simp [go_sem]
            have zf0 : (wr.alloc (.cells #[.int .i64 0, .int .i64 0] 37)).drew.frozen? ⟨wr.heap.size, 0, none⟩ = false := by simp [go_sem]
            have zf1 : (wr.alloc (.cells #[.int .i64 0, .int .i64 0] 37)).drew.frozen? ⟨wr.heap.size, 1, none⟩ = false := by simp [go_sem]
            have gz : wr.heap.size < (wr.alloc (.cells #[.int .i64 0, .int .i64 0] 37)).drew.heap.size := by simp
            have HXG := Lib.hid (fun (g : Nat) (e : Value.ownBlock (.slice Av k cv) = some g) => (HO.out.lt g e).2)
            have hbG : blk ≠ wr.heap.size := by have := HB.out.size; omega
            have hwG : w.heap.size ≤ wr.heap.size := HB.out.size
            replace HO := Lib.hid (rown_below HO.out hb1)
            replace HB := Lib.hid (HB.out.trans (hb1.mono HB.out.size))
            clear hb1
            generalize (wr.alloc (.cells #[.int .i64 0, .int .i64 0] 37)).drew = v1 at *
            generalize wr.heap.size = G at *
            refine hK.out _ _ ⟨e1, e2, e3⟩ (fun hHeld => ?_)
            clear hK K
            try simp only [Act.put, List.setIfInBounds_toArray, List.set_cons_zero, List.set_cons_succ]
            refine wpAnyH_ready (rs := [11]) (by kernel_rfl) (by simp) ?_
            refine (AllReadyH.cons (o := { dst := some 39, op := Go.Op.call { callee := Go.Callee.value (Go.Operand.func 22), args := #[Go.Operand.tmp 38], argTypes := #[37] }, type := 37, pos := "ref.go:212", after := #[{ on := 10, ground := Go.Ground.data }], guard := none }) rfl (fun K hK => ?_) AllReadyH.nil)
            go_simp
            refine (HSP.out _).mono ?_
            rintro e u1 ⟨rfl, hb⟩
            have hbv := below_via (Below.refl v1.heap.size v1) hb (Nat.le_refl _) ⟨rfl, rfl, rfl, rfl⟩
            replace e1 := (hbv.cell (p := ⟨blk, off + k * 4 + 1, none⟩) hbl).trans e1
            replace e2 := (hbv.cell (p := ⟨blk, off + k * 4 + 2, none⟩) hbl).trans e2
            replace e3 := (hbv.cell (p := ⟨blk, off + k * 4 + 3, none⟩) hbl).trans e3
            replace hbl := Nat.lt_of_lt_of_le hbl hbv.size
            replace z0 := (hbv.cell (p := ⟨G, 0, none⟩) gz).trans z0
            replace z1 := (hbv.cell (p := ⟨G, 1, none⟩) gz).trans z1
            replace zf0 := (hbv.frozen (p := ⟨G, 0, none⟩) gz).trans zf0
            replace zf1 := (hbv.frozen (p := ⟨G, 1, none⟩) gz).trans zf1
            replace gz := Nat.lt_of_lt_of_le gz hbv.size
            replace HO := Lib.hid (rown_below HO.out hbv)
            replace HB := Lib.hid (HB.out.trans (hbv.mono HB.out.size))
            clear hb hbv
            refine hK.out _ _ ⟨e1, e2, e3⟩ (fun hHeld => ?_)
            clear hK K
            try simp only [Act.put, List.setIfInBounds_toArray, List.set_cons_zero, List.set_cons_succ]
            refine wpAnyH_ready (rs := [13]) (by kernel_rfl) (by simp) ?_
            refine (AllReadyH.cons (o := { dst := none, op := Go.Op.store 37 (Go.Operand.tmp 7) (Go.Operand.tmp 39), type := 0, pos := "ref.go:212", after := #[{ on := 12, ground := Go.Ground.data }, { on := 11, ground := Go.Ground.data }, { on := 11, ground := Go.Ground.chain }, { on := 0, ground := Go.Ground.phase }, { on := 1, ground := Go.Ground.phase }, { on := 2, ground := Go.Ground.phase }, { on := 3, ground := Go.Ground.phase }, { on := 4, ground := Go.Ground.phase }, { on := 5, ground := Go.Ground.phase }, { on := 6, ground := Go.Ground.phase }, { on := 7, ground := Go.Ground.phase }, { on := 8, ground := Go.Ground.phase }, { on := 9, ground := Go.Ground.phase }, { on := 10, ground := Go.Ground.phase }, { on := 11, ground := Go.Ground.phase }, { on := 12, ground := Go.Ground.phase }], guard := none }) rfl (fun K hK => ?_) AllReadyH.nil)
            go_simp
            replace e1 : ((u1.setCell ⟨G, 0, none⟩ (.int .i64 sx)).setCell ⟨G, 1, none⟩ (.int .i64 sy)).cell? ⟨blk, off + k * 4 + 1, none⟩ = some (.int .i64 x) := by simp [go_sem, e1]
            replace e2 : ((u1.setCell ⟨G, 0, none⟩ (.int .i64 sx)).setCell ⟨G, 1, none⟩ (.int .i64 sy)).cell? ⟨blk, off + k * 4 + 2, none⟩ = some (.int .i64 y) := by simp [go_sem, e2]
            replace e3 : ((u1.setCell ⟨G, 0, none⟩ (.int .i64 sx)).setCell ⟨G, 1, none⟩ (.int .i64 sy)).cell? ⟨blk, off + k * 4 + 3, none⟩ = some (.int .i64 z) := by simp [go_sem, e3]
            have g0 : ((u1.setCell ⟨G, 0, none⟩ (.int .i64 sx)).setCell ⟨G, 1, none⟩ (.int .i64 sy)).cell? ⟨G, 0, none⟩ = some (.int .i64 sx) := by simp [go_sem, z0]
            have g1 : ((u1.setCell ⟨G, 0, none⟩ (.int .i64 sx)).setCell ⟨G, 1, none⟩ (.int .i64 sy)).cell? ⟨G, 1, none⟩ = some (.int .i64 sy) := by simp [go_sem, z1]
            replace gz : G < ((u1.setCell ⟨G, 0, none⟩ (.int .i64 sx)).setCell ⟨G, 1, none⟩ (.int .i64 sy)).heap.size := by simpa using gz
            replace hbl : blk < ((u1.setCell ⟨G, 0, none⟩ (.int .i64 sx)).setCell ⟨G, 1, none⟩ (.int .i64 sy)).heap.size := by simpa using hbl
            have hng : (none : Option Nat) = some G ∨ Value.ownBlock (.slice Av k cv) ≠ some G := Or.inr fun e => by have := HXG.out G e; omega
            replace HO := Lib.hid (rown_grown (rown_grown HO.out (grown_set (p := ⟨G, 0, none⟩) (.int .i64 sx)) (Or.inr fun e => by have := HXG.out G e; omega)) (grown_set (p := ⟨G, 1, none⟩) (.int .i64 sy)) (Or.inr fun e => by have := HXG.out G e; omega))
            replace HB : Hid (Below w.heap.size w ((u1.setCell ⟨G, 0, none⟩ (.int .i64 sx)).setCell ⟨G, 1, none⟩ (.int .i64 sy))) := (HB.out.setCell (by simpa using hwG) _).setCell (by simpa using hwG) _
            clear z0 z1 zf0 zf1 hng HXG
            generalize ((u1.setCell ⟨G, 0, none⟩ (.int .i64 sx)).setCell ⟨G, 1, none⟩ (.int .i64 sy)) = W7 at *
            refine hK.out _ _ ⟨e1, e2, e3⟩ (fun hHeld => ?_)
            clear hK K
            try simp only [Act.put, List.setIfInBounds_toArray, List.set_cons_zero, List.set_cons_succ]
            refine wpAnyH_done (by kernel_rfl) ?_ _
            go_wp2
            go_meet
            case rel => exact ⟨G, rfl, g0, g1, gz, e3, hbl, HO, HB⟩
        case rest =>
          clear e0 e1 e2 e3 hbl HO HB HSP
          obtain ⟨G, rfl, g0, g1, gz, e3, hbl, HO, HB⟩ := hcut
          generalize wc = W7 at *
          rcases hop with rfl | rfl | rfl | rfl | rfl | rfl
          · skip
            have HOX : Hid (ofx = 1) := by show _ = _; rw [HOF.out, if_neg (by omega)]
            as_aux_lemma =>
              skip
              have HFS : Hid (fs = ⟨1, 0, 0, 0⟩) := by show _ = _; rw [HST.out, HOX.out]; rfl
              have HFM : Hid (fm = m + 1) := by show _ = _; rw [HFN.out, HOX.out]; rfl
              clear HOF HST HFN
              go_upto_region 11 with fail
              have hb1 : Below W7.heap.size W7 (W7.alloc (.cells #[.int .i64 1, .int .i64 0, .int .i64 0, .int .i64 0] 59)) := (Below.refl _ _).alloc (Nat.le_refl _) _
              replace e3 := (hb1.cell (p := ⟨blk, off + k * 4 + 3, none⟩) hbl).trans e3
              replace hbl := Nat.lt_of_lt_of_le hbl hb1.size
              replace g0 := (hb1.cell (p := ⟨G, 0, none⟩) gz).trans g0
              replace g1 := (hb1.cell (p := ⟨G, 1, none⟩) gz).trans g1
              have s0 : (W7.alloc (.cells #[.int .i64 1, .int .i64 0, .int .i64 0, .int .i64 0] 59)).cell? ⟨W7.heap.size, 0, none⟩ = some (.int .i64 1) := by simp [go_sem]
              have sf0 : (W7.alloc (.cells #[.int .i64 1, .int .i64 0, .int .i64 0, .int .i64 0] 59)).frozen? ⟨W7.heap.size, 0, none⟩ = false := by simp [go_sem]
              have s1 : (W7.alloc (.cells #[.int .i64 1, .int .i64 0, .int .i64 0, .int .i64 0] 59)).cell? ⟨W7.heap.size, 1, none⟩ = some (.int .i64 0) := by simp [go_sem]
              have sf1 : (W7.alloc (.cells #[.int .i64 1, .int .i64 0, .int .i64 0, .int .i64 0] 59)).frozen? ⟨W7.heap.size, 1, none⟩ = false := by simp [go_sem]
              have s2 : (W7.alloc (.cells #[.int .i64 1, .int .i64 0, .int .i64 0, .int .i64 0] 59)).cell? ⟨W7.heap.size, 2, none⟩ = some (.int .i64 0) := by simp [go_sem]
              have sf2 : (W7.alloc (.cells #[.int .i64 1, .int .i64 0, .int .i64 0, .int .i64 0] 59)).frozen? ⟨W7.heap.size, 2, none⟩ = false := by simp [go_sem]
              have s3 : (W7.alloc (.cells #[.int .i64 1, .int .i64 0, .int .i64 0, .int .i64 0] 59)).cell? ⟨W7.heap.size, 3, none⟩ = some (.int .i64 0) := by simp [go_sem]
              have sf3 : (W7.alloc (.cells #[.int .i64 1, .int .i64 0, .int .i64 0, .int .i64 0] 59)).frozen? ⟨W7.heap.size, 3, none⟩ = false := by simp [go_sem]
              have sz8 : W7.heap.size < (W7.alloc (.cells #[.int .i64 1, .int .i64 0, .int .i64 0, .int .i64 0] 59)).heap.size := by simp
              have HXS := Lib.hid (fun (g : Nat) (e : Value.ownBlock (.slice Av k cv) = some g) => (HO.out.lt g e).2)
              have hwX : w.heap.size ≤ W7.heap.size := HB.out.size
              replace HO := Lib.hid (rown_below HO.out hb1)
              replace HB := Lib.hid (HB.out.trans (hb1.mono HB.out.size))
              clear hb1 hbl gz
              generalize (W7.alloc (.cells #[.int .i64 1, .int .i64 0, .int .i64 0, .int .i64 0] 59)) = W8 at *
              generalize W7.heap.size = X8 at *
              have t0 := s0
              have t1 := s1
              have t2 := s2
              have t3 := s3
              clear g0 g1 e3
              have hsz := HB.out.size
              have HR1 : Hid (RowAt cellsR 4 (W8.alloc (.cells #[.int .i64 1, .int .i64 0, .int .i64 0, .int .i64 0] 59)) (W8.heap.size + 1) (some ⟨W8.heap.size, 0, none⟩) 1 [⟨1, 0, 0, 0⟩]) := one_row rowR (heap_alloc_new W8 _)
              have HO1 := Lib.hid (HO.out.alloc (.cells #[.int .i64 1, .int .i64 0, .int .i64 0, .int .i64 0] 59))
              go_wp2_with (at_builtin; refine wpList_append_row rowR (B := w.heap.size) (v := .slice Av k cv) (n := k) (zs := fixL 0 (rs.take k)) (m := 1) (ys := [⟨1, 0, 0, 0⟩]) rfl _ _ rfl rfl HO1.out rfl HR1.out (by omega) (by simp; omega) ?_; intro A3 c3 w3 hown3 hg3 hat3)
              have HC3 : Hid (HalfF rs w (k + 1) A3 c3 w3) := ⟨by rw [HTS.out, HFS.out]; exact hown3, (HB.out.alloc hsz _).grown hg3 (Nat.le_trans hsz (by simp)) (fun g e => (HO.out.lt g e).1)⟩
              have HE3 : Hid (fixE 0 (rs.take (k + 1)) = m + 1) := HTE.out.trans HFM.out
              clear hown3 hg3 hat3 HTS HTE HFS HFM
              go_wp2
              go_roundw
              case rel => exact ⟨k + 1, A3, c3, m + 1, by omega, by omega, by go_num, rfl, rfl, by omega, by omega, HE3, HC3⟩
              case measure => simp [intOf]; omega
          · skip
            have HOX : Hid (ofx = 2) := by show _ = _; rw [HOF.out, if_neg (by omega)]
            as_aux_lemma =>
              skip
              have HFS : Hid (fs = ⟨2, sx, sy, z2⟩) := by show _ = _; rw [HST.out, HOX.out]; rfl
              have HFM : Hid (fm = m + 1) := by show _ = _; rw [HFN.out, HOX.out]; rfl
              clear HOF HST HFN
              go_upto_region 11 with fail
              have hb1 : Below W7.heap.size W7 (W7.alloc (.cells #[.int .i64 2, .int .i64 0, .int .i64 0, .int .i64 0] 59)) := (Below.refl _ _).alloc (Nat.le_refl _) _
              have hGX : G ≠ W7.heap.size := by omega
              have hXG : W7.heap.size ≠ G := by omega
              have hbX : blk ≠ W7.heap.size := by omega
              have hXb : W7.heap.size ≠ blk := by omega
              replace e3 := (hb1.cell (p := ⟨blk, off + k * 4 + 3, none⟩) hbl).trans e3
              replace hbl := Nat.lt_of_lt_of_le hbl hb1.size
              replace g0 := (hb1.cell (p := ⟨G, 0, none⟩) gz).trans g0
              replace g1 := (hb1.cell (p := ⟨G, 1, none⟩) gz).trans g1
              have s0 : (W7.alloc (.cells #[.int .i64 2, .int .i64 0, .int .i64 0, .int .i64 0] 59)).cell? ⟨W7.heap.size, 0, none⟩ = some (.int .i64 2) := by simp [go_sem]
              have sf0 : (W7.alloc (.cells #[.int .i64 2, .int .i64 0, .int .i64 0, .int .i64 0] 59)).frozen? ⟨W7.heap.size, 0, none⟩ = false := by simp [go_sem]
              have s1 : (W7.alloc (.cells #[.int .i64 2, .int .i64 0, .int .i64 0, .int .i64 0] 59)).cell? ⟨W7.heap.size, 1, none⟩ = some (.int .i64 0) := by simp [go_sem]
              have sf1 : (W7.alloc (.cells #[.int .i64 2, .int .i64 0, .int .i64 0, .int .i64 0] 59)).frozen? ⟨W7.heap.size, 1, none⟩ = false := by simp [go_sem]
              have s2 : (W7.alloc (.cells #[.int .i64 2, .int .i64 0, .int .i64 0, .int .i64 0] 59)).cell? ⟨W7.heap.size, 2, none⟩ = some (.int .i64 0) := by simp [go_sem]
              have sf2 : (W7.alloc (.cells #[.int .i64 2, .int .i64 0, .int .i64 0, .int .i64 0] 59)).frozen? ⟨W7.heap.size, 2, none⟩ = false := by simp [go_sem]
              have s3 : (W7.alloc (.cells #[.int .i64 2, .int .i64 0, .int .i64 0, .int .i64 0] 59)).cell? ⟨W7.heap.size, 3, none⟩ = some (.int .i64 0) := by simp [go_sem]
              have sf3 : (W7.alloc (.cells #[.int .i64 2, .int .i64 0, .int .i64 0, .int .i64 0] 59)).frozen? ⟨W7.heap.size, 3, none⟩ = false := by simp [go_sem]
              have sz8 : W7.heap.size < (W7.alloc (.cells #[.int .i64 2, .int .i64 0, .int .i64 0, .int .i64 0] 59)).heap.size := by simp
              have HXS := Lib.hid (fun (g : Nat) (e : Value.ownBlock (.slice Av k cv) = some g) => (HO.out.lt g e).2)
              have hwX : w.heap.size ≤ W7.heap.size := HB.out.size
              replace HO := Lib.hid (rown_below HO.out hb1)
              replace HB := Lib.hid (HB.out.trans (hb1.mono HB.out.size))
              clear hb1 hbl gz
              generalize (W7.alloc (.cells #[.int .i64 2, .int .i64 0, .int .i64 0, .int .i64 0] 59)) = W8 at *
              generalize W7.heap.size = X8 at *
              go_upto_region 12 with fail
              refine wp_region_held_drew (S := fun w' => w'.cell? ⟨G, 0, none⟩ = some (.int .i64 sx) ∧ w'.cell? ⟨G, 1, none⟩ = some (.int .i64 sy) ∧ w'.cell? ⟨blk, off + k * 4 + 3, none⟩ = some (.int .i64 z)) (by kernel_rfl) ⟨g0, g1, e3⟩ (fun hHeld => ?_)
              refine wpAnyH_take (i := 0) (oi := { dst := some 58, op := Go.Op.fieldAddr 37 (Go.Operand.tmp 7) 0, type := 0, pos := "ref.go:218", after := #[], guard := none }) (v := ?_) rfl (by kernel_rfl) (by kernel_rfl) (by kernel_rfl) (fun _ _ _ h => h) (Or.inl ⟨rfl, ?_⟩) (by assumption) ?_
              rotate_left
              · intro wz hSw; (try dsimp only at hSw); go_simp; try (with_reducible rfl)
              try simp only [Act.put, List.setIfInBounds_toArray, List.set_cons_zero, List.set_cons_succ]
              refine wpAnyH_take (i := 1) (oi := { dst := some 59, op := Go.Op.load 3 (Go.Operand.tmp 58), type := 3, pos := "ref.go:218", after := #[{ on := 0, ground := Go.Ground.data }], guard := none }) (v := ?_) rfl (by kernel_rfl) (by kernel_rfl) (by kernel_rfl) (fun _ _ _ h => h) (Or.inl ⟨rfl, ?_⟩) (by assumption) ?_
              rotate_left
              · intro wz hSw; (try dsimp only at hSw); go_simp; try (with_reducible rfl)
              try simp only [Act.put, List.setIfInBounds_toArray, List.set_cons_zero, List.set_cons_succ]
              refine wpAnyH_take (i := 2) (oi := { dst := some 60, op := Go.Op.fieldAddr 37 (Go.Operand.tmp 7) 1, type := 0, pos := "ref.go:218", after := #[], guard := none }) (v := ?_) rfl (by kernel_rfl) (by kernel_rfl) (by kernel_rfl) (fun _ _ _ h => h) (Or.inl ⟨rfl, ?_⟩) (by assumption) ?_
              rotate_left
              · intro wz hSw; (try dsimp only at hSw); go_simp; try (with_reducible rfl)
              try simp only [Act.put, List.setIfInBounds_toArray, List.set_cons_zero, List.set_cons_succ]
              refine wpAnyH_take (i := 3) (oi := { dst := some 61, op := Go.Op.load 3 (Go.Operand.tmp 60), type := 3, pos := "ref.go:218", after := #[{ on := 2, ground := Go.Ground.data }], guard := none }) (v := ?_) rfl (by kernel_rfl) (by kernel_rfl) (by kernel_rfl) (fun _ _ _ h => h) (Or.inl ⟨rfl, ?_⟩) (by assumption) ?_
              rotate_left
              · intro wz hSw; (try dsimp only at hSw); go_simp; try (with_reducible rfl)
              try simp only [Act.put, List.setIfInBounds_toArray, List.set_cons_zero, List.set_cons_succ]
              refine wpAnyH_take (i := 4) (oi := { dst := some 62, op := Go.Op.move (Go.Operand.tmp 0), type := 22, pos := "ref.go:218", after := #[], guard := none }) (v := ?_) rfl (by kernel_rfl) (by kernel_rfl) (by kernel_rfl) (fun _ _ _ h => h) (Or.inl ⟨rfl, ?_⟩) (by assumption) ?_
              rotate_left
              · intro wz hSw; (try dsimp only at hSw); go_simp; try (with_reducible rfl)
              try simp only [Act.put, List.setIfInBounds_toArray, List.set_cons_zero, List.set_cons_succ]
              refine wpAnyH_take (i := 5) (oi := { dst := some 63, op := Go.Op.move (Go.Operand.tmp 5), type := 3, pos := "ref.go:218", after := #[], guard := none }) (v := ?_) rfl (by kernel_rfl) (by kernel_rfl) (by kernel_rfl) (fun _ _ _ h => h) (Or.inl ⟨rfl, ?_⟩) (by assumption) ?_
              rotate_left
              · intro wz hSw; (try dsimp only at hSw); go_simp; try (with_reducible rfl)
              try simp only [Act.put, List.setIfInBounds_toArray, List.set_cons_zero, List.set_cons_succ]
              refine wpAnyH_take (i := 6) (oi := { dst := some 64, op := Go.Op.indexAddr 22 (Go.Operand.tmp 62) (Go.Operand.tmp 63), type := 0, pos := "ref.go:218", after := #[{ on := 4, ground := Go.Ground.data }, { on := 5, ground := Go.Ground.data }], guard := none }) (v := ?_) rfl (by kernel_rfl) (by kernel_rfl) (by kernel_rfl) (fun _ _ _ h => h) (Or.inl ⟨rfl, ?_⟩) (by assumption) ?_
              rotate_left
              · intro wz hSw; (try dsimp only at hSw); go_simp; try (with_reducible rfl)
              try simp only [Act.put, List.setIfInBounds_toArray, List.set_cons_zero, List.set_cons_succ]
              refine wpAnyH_take (i := 7) (oi := { dst := some 65, op := Go.Op.fieldAddr 59 (Go.Operand.tmp 64) 3, type := 0, pos := "ref.go:218", after := #[{ on := 6, ground := Go.Ground.data }], guard := none }) (v := ?_) rfl (by kernel_rfl) (by kernel_rfl) (by kernel_rfl) (fun _ _ _ h => h) (Or.inl ⟨rfl, ?_⟩) (by assumption) ?_
              rotate_left
              · intro wz hSw; (try dsimp only at hSw); go_simp; try (with_reducible rfl)
              try simp only [Act.put, List.setIfInBounds_toArray, List.set_cons_zero, List.set_cons_succ]
              refine wpAnyH_take (i := 8) (oi := { dst := some 66, op := Go.Op.load 3 (Go.Operand.tmp 65), type := 3, pos := "ref.go:218", after := #[{ on := 7, ground := Go.Ground.data }], guard := none }) (v := ?_) rfl (by kernel_rfl) (by kernel_rfl) (by kernel_rfl) (fun _ _ _ h => h) (Or.inl ⟨rfl, ?_⟩) (by assumption) ?_
              rotate_left
              · intro wz hSw; (try dsimp only at hSw); go_simp; try (with_reducible rfl)
              try simp only [Act.put, List.setIfInBounds_toArray, List.set_cons_zero, List.set_cons_succ]
              refine wpAnyH_take (i := 9) (oi := { dst := some 67, op := Go.Op.convert 3 56 (Go.Operand.tmp 66), type := 56, pos := "ref.go:218", after := #[{ on := 8, ground := Go.Ground.data }], guard := none }) (v := ?_) rfl (by kernel_rfl) (by kernel_rfl) (by kernel_rfl) (fun _ _ _ h => h) (Or.inl ⟨rfl, ?_⟩) (by assumption) ?_
              rotate_left
              · intro wz hSw; (try dsimp only at hSw); go_simp; try (with_reducible rfl)
              try simp only [Act.put, List.setIfInBounds_toArray, List.set_cons_zero, List.set_cons_succ]
              refine wpAnyH_take (i := 10) (oi := { dst := some 68, op := Go.Op.binOp Go.BinOp.rem 56 (Go.Operand.tmp 67) (Go.Operand.const (Go.Value.int Go.IntKind.u64 2001)) 56, type := 56, pos := "ref.go:218", after := #[{ on := 9, ground := Go.Ground.data }], guard := none }) (v := ?_) rfl (by kernel_rfl) (by kernel_rfl) (by kernel_rfl) (fun _ _ _ h => h) (Or.inl ⟨rfl, ?_⟩) (by assumption) ?_
              rotate_left
              · intro wz hSw; (try dsimp only at hSw); go_simp; try (with_reducible rfl)
              try simp only [Act.put, List.setIfInBounds_toArray, List.set_cons_zero, List.set_cons_succ]
              refine wpAnyH_take (i := 11) (oi := { dst := some 69, op := Go.Op.convert 56 3 (Go.Operand.tmp 68), type := 3, pos := "ref.go:218", after := #[{ on := 10, ground := Go.Ground.data }], guard := none }) (v := ?_) rfl (by kernel_rfl) (by kernel_rfl) (by kernel_rfl) (fun _ _ _ h => h) (Or.inl ⟨rfl, ?_⟩) (by assumption) ?_
              rotate_left
              · intro wz hSw; (try dsimp only at hSw); go_simp; try (with_reducible rfl)
              try simp only [Act.put, List.setIfInBounds_toArray, List.set_cons_zero, List.set_cons_succ]
              refine wpAnyH_take (i := 12) (oi := { dst := some 70, op := Go.Op.build 59 #[(0, Go.Operand.const (Go.Value.int Go.IntKind.i64 2)), (1, Go.Operand.tmp 59), (2, Go.Operand.tmp 61), (3, Go.Operand.tmp 69)], type := 59, pos := "ref.go:218", after := #[{ on := 1, ground := Go.Ground.data }, { on := 3, ground := Go.Ground.data }, { on := 11, ground := Go.Ground.data }], guard := none }) (v := ?_) rfl (by kernel_rfl) (by kernel_rfl) (by kernel_rfl) (fun _ _ _ h => h) (Or.inl ⟨rfl, ?_⟩) (by assumption) ?_
              rotate_left
              · intro wz hSw; (try dsimp only at hSw); go_simp; try (with_reducible rfl)
              try simp only [Act.put, List.setIfInBounds_toArray, List.set_cons_zero, List.set_cons_succ]
              refine wpAnyH_ready (rs := [13]) (by kernel_rfl) (by simp) ?_
              refine (AllReadyH.cons (o := { dst := none, op := Go.Op.store 59 (Go.Operand.tmp 8) (Go.Operand.tmp 70), type := 0, pos := "ref.go:218", after := #[{ on := 12, ground := Go.Ground.data }, { on := 0, ground := Go.Ground.phase }, { on := 1, ground := Go.Ground.phase }, { on := 2, ground := Go.Ground.phase }, { on := 3, ground := Go.Ground.phase }, { on := 4, ground := Go.Ground.phase }, { on := 5, ground := Go.Ground.phase }, { on := 6, ground := Go.Ground.phase }, { on := 7, ground := Go.Ground.phase }, { on := 8, ground := Go.Ground.phase }, { on := 9, ground := Go.Ground.phase }, { on := 10, ground := Go.Ground.phase }, { on := 11, ground := Go.Ground.phase }, { on := 12, ground := Go.Ground.phase }], guard := none }) rfl (fun K hK => ?_) AllReadyH.nil)
              go_simp
              try simp only [hz2]
              replace g0 : ((((W8.setCell ⟨X8, 0, none⟩ (.int .i64 2)).setCell ⟨X8, 1, none⟩ (.int .i64 sx)).setCell ⟨X8, 2, none⟩ (.int .i64 sy)).setCell ⟨X8, 3, none⟩ (.int .i64 z2)).drew.cell? ⟨G, 0, none⟩ = some (.int .i64 sx) := by first | (simp [go_sem, g0]; done) | (simp [go_sem, g0, hGX]; done) | (simp [go_sem, g0, hXG]; done) | (simp [go_sem, g0, hGX, hXG]; done)
              replace g1 : ((((W8.setCell ⟨X8, 0, none⟩ (.int .i64 2)).setCell ⟨X8, 1, none⟩ (.int .i64 sx)).setCell ⟨X8, 2, none⟩ (.int .i64 sy)).setCell ⟨X8, 3, none⟩ (.int .i64 z2)).drew.cell? ⟨G, 1, none⟩ = some (.int .i64 sy) := by first | (simp [go_sem, g1]; done) | (simp [go_sem, g1, hGX]; done) | (simp [go_sem, g1, hXG]; done) | (simp [go_sem, g1, hGX, hXG]; done)
              replace e3 : ((((W8.setCell ⟨X8, 0, none⟩ (.int .i64 2)).setCell ⟨X8, 1, none⟩ (.int .i64 sx)).setCell ⟨X8, 2, none⟩ (.int .i64 sy)).setCell ⟨X8, 3, none⟩ (.int .i64 z2)).drew.cell? ⟨blk, off + k * 4 + 3, none⟩ = some (.int .i64 z) := by first | (simp [go_sem, e3]; done) | (simp [go_sem, e3, hbX]; done) | (simp [go_sem, e3, hXb]; done) | (simp [go_sem, e3, hbX, hXb]; done)
              have t0 : ((((W8.setCell ⟨X8, 0, none⟩ (.int .i64 2)).setCell ⟨X8, 1, none⟩ (.int .i64 sx)).setCell ⟨X8, 2, none⟩ (.int .i64 sy)).setCell ⟨X8, 3, none⟩ (.int .i64 z2)).drew.cell? ⟨X8, 0, none⟩ = some (.int .i64 2) := by simp [go_sem, s0]
              have t1 : ((((W8.setCell ⟨X8, 0, none⟩ (.int .i64 2)).setCell ⟨X8, 1, none⟩ (.int .i64 sx)).setCell ⟨X8, 2, none⟩ (.int .i64 sy)).setCell ⟨X8, 3, none⟩ (.int .i64 z2)).drew.cell? ⟨X8, 1, none⟩ = some (.int .i64 sx) := by simp [go_sem, s1]
              have t2 : ((((W8.setCell ⟨X8, 0, none⟩ (.int .i64 2)).setCell ⟨X8, 1, none⟩ (.int .i64 sx)).setCell ⟨X8, 2, none⟩ (.int .i64 sy)).setCell ⟨X8, 3, none⟩ (.int .i64 z2)).drew.cell? ⟨X8, 2, none⟩ = some (.int .i64 sy) := by simp [go_sem, s2]
              have t3 : ((((W8.setCell ⟨X8, 0, none⟩ (.int .i64 2)).setCell ⟨X8, 1, none⟩ (.int .i64 sx)).setCell ⟨X8, 2, none⟩ (.int .i64 sy)).setCell ⟨X8, 3, none⟩ (.int .i64 z2)).drew.cell? ⟨X8, 3, none⟩ = some (.int .i64 z2) := by simp [go_sem, s3]
              replace HO := Lib.hid (rown_below (rown_grown (rown_grown (rown_grown (rown_grown HO.out (grown_set (p := ⟨X8, 0, none⟩) (.int .i64 2)) (Or.inr fun e => by have := HXS.out X8 e; omega)) (grown_set (p := ⟨X8, 1, none⟩) (.int .i64 sx)) (Or.inr fun e => by have := HXS.out X8 e; omega)) (grown_set (p := ⟨X8, 2, none⟩) (.int .i64 sy)) (Or.inr fun e => by have := HXS.out X8 e; omega)) (grown_set (p := ⟨X8, 3, none⟩) (.int .i64 z2)) (Or.inr fun e => by have := HXS.out X8 e; omega)) (below_drewz (Below.refl _ _)))
              replace HB : Hid (Below w.heap.size w ((((W8.setCell ⟨X8, 0, none⟩ (.int .i64 2)).setCell ⟨X8, 1, none⟩ (.int .i64 sx)).setCell ⟨X8, 2, none⟩ (.int .i64 sy)).setCell ⟨X8, 3, none⟩ (.int .i64 z2)).drew) := below_drewz ((((HB.out.setCell (by simpa using hwX) _).setCell (by simpa using hwX) _).setCell (by simpa using hwX) _).setCell (by simpa using hwX) _)
              clear s0 s1 s2 s3 sf0 sf1 sf2 sf3
              generalize ((((W8.setCell ⟨X8, 0, none⟩ (.int .i64 2)).setCell ⟨X8, 1, none⟩ (.int .i64 sx)).setCell ⟨X8, 2, none⟩ (.int .i64 sy)).setCell ⟨X8, 3, none⟩ (.int .i64 z2)).drew = W9 at *
              refine hK.out _ _ ⟨g0, g1, e3⟩ (fun hHeld => ?_)
              clear hK K
              try simp only [Act.put, List.setIfInBounds_toArray, List.set_cons_zero, List.set_cons_succ]
              refine wpAnyH_done (by kernel_rfl) ?_ _
              clear hHeld
              clear g0 g1 e3
              have hsz := HB.out.size
              have HR1 : Hid (RowAt cellsR 4 (W9.alloc (.cells #[.int .i64 2, .int .i64 sx, .int .i64 sy, .int .i64 z2] 59)) (W9.heap.size + 1) (some ⟨W9.heap.size, 0, none⟩) 1 [⟨2, sx, sy, z2⟩]) := one_row rowR (heap_alloc_new W9 _)
              have HO1 := Lib.hid (HO.out.alloc (.cells #[.int .i64 2, .int .i64 sx, .int .i64 sy, .int .i64 z2] 59))
              go_wp2_with (at_builtin; refine wpList_append_row rowR (B := w.heap.size) (v := .slice Av k cv) (n := k) (zs := fixL 0 (rs.take k)) (m := 1) (ys := [⟨2, sx, sy, z2⟩]) rfl _ _ rfl rfl HO1.out rfl HR1.out (by omega) (by simp; omega) ?_; intro A3 c3 w3 hown3 hg3 hat3)
              have HC3 : Hid (HalfF rs w (k + 1) A3 c3 w3) := ⟨by rw [HTS.out, HFS.out]; exact hown3, (HB.out.alloc hsz _).grown hg3 (Nat.le_trans hsz (by simp)) (fun g e => (HO.out.lt g e).1)⟩
              have HE3 : Hid (fixE 0 (rs.take (k + 1)) = m + 1) := HTE.out.trans HFM.out
              clear hown3 hg3 hat3 HTS HTE HFS HFM
              go_wp2
              go_roundw
              case rel => exact ⟨k + 1, A3, c3, m + 1, by omega, by omega, by go_num, rfl, rfl, by omega, by omega, HE3, HC3⟩
              case measure => simp [intOf]; omega
          · skip
            have HOX : Hid (ofx = 3) := by show _ = _; rw [HOF.out, if_neg (by omega)]
            as_aux_lemma =>
              skip
              have HFS : Hid (fs = ⟨3, sx, sy, z3⟩) := by show _ = _; rw [HST.out, HOX.out]; rfl
              have HFM : Hid (fm = m + 1) := by show _ = _; rw [HFN.out, HOX.out]; rfl
              clear HOF HST HFN
              go_upto_region 11 with fail
              have hb1 : Below W7.heap.size W7 (W7.alloc (.cells #[.int .i64 3, .int .i64 0, .int .i64 0, .int .i64 0] 59)) := (Below.refl _ _).alloc (Nat.le_refl _) _
              have hGX : G ≠ W7.heap.size := by omega
              have hXG : W7.heap.size ≠ G := by omega
              have hbX : blk ≠ W7.heap.size := by omega
              have hXb : W7.heap.size ≠ blk := by omega
              replace e3 := (hb1.cell (p := ⟨blk, off + k * 4 + 3, none⟩) hbl).trans e3
              replace hbl := Nat.lt_of_lt_of_le hbl hb1.size
              replace g0 := (hb1.cell (p := ⟨G, 0, none⟩) gz).trans g0
              replace g1 := (hb1.cell (p := ⟨G, 1, none⟩) gz).trans g1
              have s0 : (W7.alloc (.cells #[.int .i64 3, .int .i64 0, .int .i64 0, .int .i64 0] 59)).cell? ⟨W7.heap.size, 0, none⟩ = some (.int .i64 3) := by simp [go_sem]
              have sf0 : (W7.alloc (.cells #[.int .i64 3, .int .i64 0, .int .i64 0, .int .i64 0] 59)).frozen? ⟨W7.heap.size, 0, none⟩ = false := by simp [go_sem]
              have s1 : (W7.alloc (.cells #[.int .i64 3, .int .i64 0, .int .i64 0, .int .i64 0] 59)).cell? ⟨W7.heap.size, 1, none⟩ = some (.int .i64 0) := by simp [go_sem]
              have sf1 : (W7.alloc (.cells #[.int .i64 3, .int .i64 0, .int .i64 0, .int .i64 0] 59)).frozen? ⟨W7.heap.size, 1, none⟩ = false := by simp [go_sem]
              have s2 : (W7.alloc (.cells #[.int .i64 3, .int .i64 0, .int .i64 0, .int .i64 0] 59)).cell? ⟨W7.heap.size, 2, none⟩ = some (.int .i64 0) := by simp [go_sem]
              have sf2 : (W7.alloc (.cells #[.int .i64 3, .int .i64 0, .int .i64 0, .int .i64 0] 59)).frozen? ⟨W7.heap.size, 2, none⟩ = false := by simp [go_sem]
              have s3 : (W7.alloc (.cells #[.int .i64 3, .int .i64 0, .int .i64 0, .int .i64 0] 59)).cell? ⟨W7.heap.size, 3, none⟩ = some (.int .i64 0) := by simp [go_sem]
              have sf3 : (W7.alloc (.cells #[.int .i64 3, .int .i64 0, .int .i64 0, .int .i64 0] 59)).frozen? ⟨W7.heap.size, 3, none⟩ = false := by simp [go_sem]
              have sz8 : W7.heap.size < (W7.alloc (.cells #[.int .i64 3, .int .i64 0, .int .i64 0, .int .i64 0] 59)).heap.size := by simp
              have HXS := Lib.hid (fun (g : Nat) (e : Value.ownBlock (.slice Av k cv) = some g) => (HO.out.lt g e).2)
              have hwX : w.heap.size ≤ W7.heap.size := HB.out.size
              replace HO := Lib.hid (rown_below HO.out hb1)
              replace HB := Lib.hid (HB.out.trans (hb1.mono HB.out.size))
              clear hb1 hbl gz
              generalize (W7.alloc (.cells #[.int .i64 3, .int .i64 0, .int .i64 0, .int .i64 0] 59)) = W8 at *
              generalize W7.heap.size = X8 at *
              go_upto_region 14 with fail
              refine wp_region_held_drew (S := fun w' => w'.cell? ⟨G, 0, none⟩ = some (.int .i64 sx) ∧ w'.cell? ⟨G, 1, none⟩ = some (.int .i64 sy) ∧ w'.cell? ⟨blk, off + k * 4 + 3, none⟩ = some (.int .i64 z)) (by kernel_rfl) ⟨g0, g1, e3⟩ (fun hHeld => ?_)
              refine wpAnyH_take (i := 0) (oi := { dst := some 73, op := Go.Op.fieldAddr 37 (Go.Operand.tmp 7) 0, type := 0, pos := "ref.go:221", after := #[], guard := none }) (v := ?_) rfl (by kernel_rfl) (by kernel_rfl) (by kernel_rfl) (fun _ _ _ h => h) (Or.inl ⟨rfl, ?_⟩) (by assumption) ?_
              rotate_left
              · intro wz hSw; (try dsimp only at hSw); go_simp; try (with_reducible rfl)
              try simp only [Act.put, List.setIfInBounds_toArray, List.set_cons_zero, List.set_cons_succ]
              refine wpAnyH_take (i := 1) (oi := { dst := some 74, op := Go.Op.load 3 (Go.Operand.tmp 73), type := 3, pos := "ref.go:221", after := #[{ on := 0, ground := Go.Ground.data }], guard := none }) (v := ?_) rfl (by kernel_rfl) (by kernel_rfl) (by kernel_rfl) (fun _ _ _ h => h) (Or.inl ⟨rfl, ?_⟩) (by assumption) ?_
              rotate_left
              · intro wz hSw; (try dsimp only at hSw); go_simp; try (with_reducible rfl)
              try simp only [Act.put, List.setIfInBounds_toArray, List.set_cons_zero, List.set_cons_succ]
              refine wpAnyH_take (i := 2) (oi := { dst := some 75, op := Go.Op.fieldAddr 37 (Go.Operand.tmp 7) 1, type := 0, pos := "ref.go:221", after := #[], guard := none }) (v := ?_) rfl (by kernel_rfl) (by kernel_rfl) (by kernel_rfl) (fun _ _ _ h => h) (Or.inl ⟨rfl, ?_⟩) (by assumption) ?_
              rotate_left
              · intro wz hSw; (try dsimp only at hSw); go_simp; try (with_reducible rfl)
              try simp only [Act.put, List.setIfInBounds_toArray, List.set_cons_zero, List.set_cons_succ]
              refine wpAnyH_take (i := 3) (oi := { dst := some 76, op := Go.Op.load 3 (Go.Operand.tmp 75), type := 3, pos := "ref.go:221", after := #[{ on := 2, ground := Go.Ground.data }], guard := none }) (v := ?_) rfl (by kernel_rfl) (by kernel_rfl) (by kernel_rfl) (fun _ _ _ h => h) (Or.inl ⟨rfl, ?_⟩) (by assumption) ?_
              rotate_left
              · intro wz hSw; (try dsimp only at hSw); go_simp; try (with_reducible rfl)
              try simp only [Act.put, List.setIfInBounds_toArray, List.set_cons_zero, List.set_cons_succ]
              refine wpAnyH_take (i := 4) (oi := { dst := some 77, op := Go.Op.move (Go.Operand.tmp 0), type := 22, pos := "ref.go:221", after := #[], guard := none }) (v := ?_) rfl (by kernel_rfl) (by kernel_rfl) (by kernel_rfl) (fun _ _ _ h => h) (Or.inl ⟨rfl, ?_⟩) (by assumption) ?_
              rotate_left
              · intro wz hSw; (try dsimp only at hSw); go_simp; try (with_reducible rfl)
              try simp only [Act.put, List.setIfInBounds_toArray, List.set_cons_zero, List.set_cons_succ]
              refine wpAnyH_take (i := 5) (oi := { dst := some 78, op := Go.Op.move (Go.Operand.tmp 5), type := 3, pos := "ref.go:221", after := #[], guard := none }) (v := ?_) rfl (by kernel_rfl) (by kernel_rfl) (by kernel_rfl) (fun _ _ _ h => h) (Or.inl ⟨rfl, ?_⟩) (by assumption) ?_
              rotate_left
              · intro wz hSw; (try dsimp only at hSw); go_simp; try (with_reducible rfl)
              try simp only [Act.put, List.setIfInBounds_toArray, List.set_cons_zero, List.set_cons_succ]
              refine wpAnyH_take (i := 6) (oi := { dst := some 79, op := Go.Op.indexAddr 22 (Go.Operand.tmp 77) (Go.Operand.tmp 78), type := 0, pos := "ref.go:221", after := #[{ on := 4, ground := Go.Ground.data }, { on := 5, ground := Go.Ground.data }], guard := none }) (v := ?_) rfl (by kernel_rfl) (by kernel_rfl) (by kernel_rfl) (fun _ _ _ h => h) (Or.inl ⟨rfl, ?_⟩) (by assumption) ?_
              rotate_left
              · intro wz hSw; (try dsimp only at hSw); go_simp; try (with_reducible rfl)
              try simp only [Act.put, List.setIfInBounds_toArray, List.set_cons_zero, List.set_cons_succ]
              refine wpAnyH_take (i := 7) (oi := { dst := some 80, op := Go.Op.fieldAddr 59 (Go.Operand.tmp 79) 3, type := 0, pos := "ref.go:221", after := #[{ on := 6, ground := Go.Ground.data }], guard := none }) (v := ?_) rfl (by kernel_rfl) (by kernel_rfl) (by kernel_rfl) (fun _ _ _ h => h) (Or.inl ⟨rfl, ?_⟩) (by assumption) ?_
              rotate_left
              · intro wz hSw; (try dsimp only at hSw); go_simp; try (with_reducible rfl)
              try simp only [Act.put, List.setIfInBounds_toArray, List.set_cons_zero, List.set_cons_succ]
              refine wpAnyH_take (i := 8) (oi := { dst := some 81, op := Go.Op.load 3 (Go.Operand.tmp 80), type := 3, pos := "ref.go:221", after := #[{ on := 7, ground := Go.Ground.data }], guard := none }) (v := ?_) rfl (by kernel_rfl) (by kernel_rfl) (by kernel_rfl) (fun _ _ _ h => h) (Or.inl ⟨rfl, ?_⟩) (by assumption) ?_
              rotate_left
              · intro wz hSw; (try dsimp only at hSw); go_simp; try (with_reducible rfl)
              try simp only [Act.put, List.setIfInBounds_toArray, List.set_cons_zero, List.set_cons_succ]
              refine wpAnyH_take (i := 9) (oi := { dst := some 82, op := Go.Op.convert 3 56 (Go.Operand.tmp 81), type := 56, pos := "ref.go:221", after := #[{ on := 8, ground := Go.Ground.data }], guard := none }) (v := ?_) rfl (by kernel_rfl) (by kernel_rfl) (by kernel_rfl) (fun _ _ _ h => h) (Or.inl ⟨rfl, ?_⟩) (by assumption) ?_
              rotate_left
              · intro wz hSw; (try dsimp only at hSw); go_simp; try (with_reducible rfl)
              try simp only [Act.put, List.setIfInBounds_toArray, List.set_cons_zero, List.set_cons_succ]
              refine wpAnyH_take (i := 10) (oi := { dst := some 83, op := Go.Op.binOp Go.BinOp.rem 56 (Go.Operand.tmp 82) (Go.Operand.const (Go.Value.int Go.IntKind.u64 4000001)) 56, type := 56, pos := "ref.go:221", after := #[{ on := 9, ground := Go.Ground.data }], guard := none }) (v := ?_) rfl (by kernel_rfl) (by kernel_rfl) (by kernel_rfl) (fun _ _ _ h => h) (Or.inl ⟨rfl, ?_⟩) (by assumption) ?_
              rotate_left
              · intro wz hSw; (try dsimp only at hSw); go_simp; try (with_reducible rfl)
              try simp only [Act.put, List.setIfInBounds_toArray, List.set_cons_zero, List.set_cons_succ]
              refine wpAnyH_take (i := 11) (oi := { dst := some 84, op := Go.Op.convert 56 3 (Go.Operand.tmp 83), type := 3, pos := "ref.go:221", after := #[{ on := 10, ground := Go.Ground.data }], guard := none }) (v := ?_) rfl (by kernel_rfl) (by kernel_rfl) (by kernel_rfl) (fun _ _ _ h => h) (Or.inl ⟨rfl, ?_⟩) (by assumption) ?_
              rotate_left
              · intro wz hSw; (try dsimp only at hSw); go_simp; try (with_reducible rfl)
              try simp only [Act.put, List.setIfInBounds_toArray, List.set_cons_zero, List.set_cons_succ]
              refine wpAnyH_take (i := 12) (oi := { dst := some 85, op := Go.Op.binOp Go.BinOp.sub 3 (Go.Operand.tmp 84) (Go.Operand.const (Go.Value.int Go.IntKind.i64 2000000)) 3, type := 3, pos := "ref.go:221", after := #[{ on := 11, ground := Go.Ground.data }], guard := none }) (v := ?_) rfl (by kernel_rfl) (by kernel_rfl) (by kernel_rfl) (fun _ _ _ h => h) (Or.inl ⟨rfl, ?_⟩) (by assumption) ?_
              rotate_left
              · intro wz hSw; (try dsimp only at hSw); go_simp; try (with_reducible rfl)
              try simp only [Act.put, List.setIfInBounds_toArray, List.set_cons_zero, List.set_cons_succ]
              refine wpAnyH_take (i := 13) (oi := { dst := some 86, op := Go.Op.build 59 #[(0, Go.Operand.const (Go.Value.int Go.IntKind.i64 3)), (1, Go.Operand.tmp 74), (2, Go.Operand.tmp 76), (3, Go.Operand.tmp 85)], type := 59, pos := "ref.go:221", after := #[{ on := 1, ground := Go.Ground.data }, { on := 3, ground := Go.Ground.data }, { on := 12, ground := Go.Ground.data }], guard := none }) (v := ?_) rfl (by kernel_rfl) (by kernel_rfl) (by kernel_rfl) (fun _ _ _ h => h) (Or.inl ⟨rfl, ?_⟩) (by assumption) ?_
              rotate_left
              · intro wz hSw; (try dsimp only at hSw); go_simp; try (with_reducible rfl)
              try simp only [Act.put, List.setIfInBounds_toArray, List.set_cons_zero, List.set_cons_succ]
              refine wpAnyH_ready (rs := [14]) (by kernel_rfl) (by simp) ?_
              refine (AllReadyH.cons (o := { dst := none, op := Go.Op.store 59 (Go.Operand.tmp 8) (Go.Operand.tmp 86), type := 0, pos := "ref.go:221", after := #[{ on := 13, ground := Go.Ground.data }, { on := 0, ground := Go.Ground.phase }, { on := 1, ground := Go.Ground.phase }, { on := 2, ground := Go.Ground.phase }, { on := 3, ground := Go.Ground.phase }, { on := 4, ground := Go.Ground.phase }, { on := 5, ground := Go.Ground.phase }, { on := 6, ground := Go.Ground.phase }, { on := 7, ground := Go.Ground.phase }, { on := 8, ground := Go.Ground.phase }, { on := 9, ground := Go.Ground.phase }, { on := 10, ground := Go.Ground.phase }, { on := 11, ground := Go.Ground.phase }, { on := 12, ground := Go.Ground.phase }, { on := 13, ground := Go.Ground.phase }], guard := none }) rfl (fun K hK => ?_) AllReadyH.nil)
              go_simp
              try simp only [hz3]
              replace g0 : ((((W8.setCell ⟨X8, 0, none⟩ (.int .i64 3)).setCell ⟨X8, 1, none⟩ (.int .i64 sx)).setCell ⟨X8, 2, none⟩ (.int .i64 sy)).setCell ⟨X8, 3, none⟩ (.int .i64 z3)).drew.cell? ⟨G, 0, none⟩ = some (.int .i64 sx) := by first | (simp [go_sem, g0]; done) | (simp [go_sem, g0, hGX]; done) | (simp [go_sem, g0, hXG]; done) | (simp [go_sem, g0, hGX, hXG]; done)
              replace g1 : ((((W8.setCell ⟨X8, 0, none⟩ (.int .i64 3)).setCell ⟨X8, 1, none⟩ (.int .i64 sx)).setCell ⟨X8, 2, none⟩ (.int .i64 sy)).setCell ⟨X8, 3, none⟩ (.int .i64 z3)).drew.cell? ⟨G, 1, none⟩ = some (.int .i64 sy) := by first | (simp [go_sem, g1]; done) | (simp [go_sem, g1, hGX]; done) | (simp [go_sem, g1, hXG]; done) | (simp [go_sem, g1, hGX, hXG]; done)
              replace e3 : ((((W8.setCell ⟨X8, 0, none⟩ (.int .i64 3)).setCell ⟨X8, 1, none⟩ (.int .i64 sx)).setCell ⟨X8, 2, none⟩ (.int .i64 sy)).setCell ⟨X8, 3, none⟩ (.int .i64 z3)).drew.cell? ⟨blk, off + k * 4 + 3, none⟩ = some (.int .i64 z) := by first | (simp [go_sem, e3]; done) | (simp [go_sem, e3, hbX]; done) | (simp [go_sem, e3, hXb]; done) | (simp [go_sem, e3, hbX, hXb]; done)
              have t0 : ((((W8.setCell ⟨X8, 0, none⟩ (.int .i64 3)).setCell ⟨X8, 1, none⟩ (.int .i64 sx)).setCell ⟨X8, 2, none⟩ (.int .i64 sy)).setCell ⟨X8, 3, none⟩ (.int .i64 z3)).drew.cell? ⟨X8, 0, none⟩ = some (.int .i64 3) := by simp [go_sem, s0]
              have t1 : ((((W8.setCell ⟨X8, 0, none⟩ (.int .i64 3)).setCell ⟨X8, 1, none⟩ (.int .i64 sx)).setCell ⟨X8, 2, none⟩ (.int .i64 sy)).setCell ⟨X8, 3, none⟩ (.int .i64 z3)).drew.cell? ⟨X8, 1, none⟩ = some (.int .i64 sx) := by simp [go_sem, s1]
              have t2 : ((((W8.setCell ⟨X8, 0, none⟩ (.int .i64 3)).setCell ⟨X8, 1, none⟩ (.int .i64 sx)).setCell ⟨X8, 2, none⟩ (.int .i64 sy)).setCell ⟨X8, 3, none⟩ (.int .i64 z3)).drew.cell? ⟨X8, 2, none⟩ = some (.int .i64 sy) := by simp [go_sem, s2]
              have t3 : ((((W8.setCell ⟨X8, 0, none⟩ (.int .i64 3)).setCell ⟨X8, 1, none⟩ (.int .i64 sx)).setCell ⟨X8, 2, none⟩ (.int .i64 sy)).setCell ⟨X8, 3, none⟩ (.int .i64 z3)).drew.cell? ⟨X8, 3, none⟩ = some (.int .i64 z3) := by simp [go_sem, s3]
              replace HO := Lib.hid (rown_below (rown_grown (rown_grown (rown_grown (rown_grown HO.out (grown_set (p := ⟨X8, 0, none⟩) (.int .i64 3)) (Or.inr fun e => by have := HXS.out X8 e; omega)) (grown_set (p := ⟨X8, 1, none⟩) (.int .i64 sx)) (Or.inr fun e => by have := HXS.out X8 e; omega)) (grown_set (p := ⟨X8, 2, none⟩) (.int .i64 sy)) (Or.inr fun e => by have := HXS.out X8 e; omega)) (grown_set (p := ⟨X8, 3, none⟩) (.int .i64 z3)) (Or.inr fun e => by have := HXS.out X8 e; omega)) (below_drewz (Below.refl _ _)))
              replace HB : Hid (Below w.heap.size w ((((W8.setCell ⟨X8, 0, none⟩ (.int .i64 3)).setCell ⟨X8, 1, none⟩ (.int .i64 sx)).setCell ⟨X8, 2, none⟩ (.int .i64 sy)).setCell ⟨X8, 3, none⟩ (.int .i64 z3)).drew) := below_drewz ((((HB.out.setCell (by simpa using hwX) _).setCell (by simpa using hwX) _).setCell (by simpa using hwX) _).setCell (by simpa using hwX) _)
              clear s0 s1 s2 s3 sf0 sf1 sf2 sf3
              generalize ((((W8.setCell ⟨X8, 0, none⟩ (.int .i64 3)).setCell ⟨X8, 1, none⟩ (.int .i64 sx)).setCell ⟨X8, 2, none⟩ (.int .i64 sy)).setCell ⟨X8, 3, none⟩ (.int .i64 z3)).drew = W9 at *
              refine hK.out _ _ ⟨g0, g1, e3⟩ (fun hHeld => ?_)
              clear hK K
              try simp only [Act.put, List.setIfInBounds_toArray, List.set_cons_zero, List.set_cons_succ]
              refine wpAnyH_done (by kernel_rfl) ?_ _
              clear hHeld
              clear g0 g1 e3
              have hsz := HB.out.size
              have HR1 : Hid (RowAt cellsR 4 (W9.alloc (.cells #[.int .i64 3, .int .i64 sx, .int .i64 sy, .int .i64 z3] 59)) (W9.heap.size + 1) (some ⟨W9.heap.size, 0, none⟩) 1 [⟨3, sx, sy, z3⟩]) := one_row rowR (heap_alloc_new W9 _)
              have HO1 := Lib.hid (HO.out.alloc (.cells #[.int .i64 3, .int .i64 sx, .int .i64 sy, .int .i64 z3] 59))
              go_wp2_with (at_builtin; refine wpList_append_row rowR (B := w.heap.size) (v := .slice Av k cv) (n := k) (zs := fixL 0 (rs.take k)) (m := 1) (ys := [⟨3, sx, sy, z3⟩]) rfl _ _ rfl rfl HO1.out rfl HR1.out (by omega) (by simp; omega) ?_; intro A3 c3 w3 hown3 hg3 hat3)
              have HC3 : Hid (HalfF rs w (k + 1) A3 c3 w3) := ⟨by rw [HTS.out, HFS.out]; exact hown3, (HB.out.alloc hsz _).grown hg3 (Nat.le_trans hsz (by simp)) (fun g e => (HO.out.lt g e).1)⟩
              have HE3 : Hid (fixE 0 (rs.take (k + 1)) = m + 1) := HTE.out.trans HFM.out
              clear hown3 hg3 hat3 HTS HTE HFS HFM
              go_wp2
              go_roundw
              case rel => exact ⟨k + 1, A3, c3, m + 1, by omega, by omega, by go_num, rfl, rfl, by omega, by omega, HE3, HC3⟩
              case measure => simp [intOf]; omega
          · by_cases hm1 : m < 1
            · skip
              have HOX : Hid (ofx = 2) := by show _ = _; rw [HOF.out, if_pos (by omega)]
              as_aux_lemma =>
                skip
                have HFS : Hid (fs = ⟨2, sx, sy, z2⟩) := by show _ = _; rw [HST.out, HOX.out]; rfl
                have HFM : Hid (fm = m + 1) := by show _ = _; rw [HFN.out, HOX.out]; rfl
                clear HOF HST HFN
                go_upto_region 11 with fail
                have hb1 : Below W7.heap.size W7 (W7.alloc (.cells #[.int .i64 2, .int .i64 0, .int .i64 0, .int .i64 0] 59)) := (Below.refl _ _).alloc (Nat.le_refl _) _
                have hGX : G ≠ W7.heap.size := by omega
                have hXG : W7.heap.size ≠ G := by omega
                have hbX : blk ≠ W7.heap.size := by omega
                have hXb : W7.heap.size ≠ blk := by omega
                replace e3 := (hb1.cell (p := ⟨blk, off + k * 4 + 3, none⟩) hbl).trans e3
                replace hbl := Nat.lt_of_lt_of_le hbl hb1.size
                replace g0 := (hb1.cell (p := ⟨G, 0, none⟩) gz).trans g0
                replace g1 := (hb1.cell (p := ⟨G, 1, none⟩) gz).trans g1
                have s0 : (W7.alloc (.cells #[.int .i64 2, .int .i64 0, .int .i64 0, .int .i64 0] 59)).cell? ⟨W7.heap.size, 0, none⟩ = some (.int .i64 2) := by simp [go_sem]
                have sf0 : (W7.alloc (.cells #[.int .i64 2, .int .i64 0, .int .i64 0, .int .i64 0] 59)).frozen? ⟨W7.heap.size, 0, none⟩ = false := by simp [go_sem]
                have s1 : (W7.alloc (.cells #[.int .i64 2, .int .i64 0, .int .i64 0, .int .i64 0] 59)).cell? ⟨W7.heap.size, 1, none⟩ = some (.int .i64 0) := by simp [go_sem]
                have sf1 : (W7.alloc (.cells #[.int .i64 2, .int .i64 0, .int .i64 0, .int .i64 0] 59)).frozen? ⟨W7.heap.size, 1, none⟩ = false := by simp [go_sem]
                have s2 : (W7.alloc (.cells #[.int .i64 2, .int .i64 0, .int .i64 0, .int .i64 0] 59)).cell? ⟨W7.heap.size, 2, none⟩ = some (.int .i64 0) := by simp [go_sem]
                have sf2 : (W7.alloc (.cells #[.int .i64 2, .int .i64 0, .int .i64 0, .int .i64 0] 59)).frozen? ⟨W7.heap.size, 2, none⟩ = false := by simp [go_sem]
                have s3 : (W7.alloc (.cells #[.int .i64 2, .int .i64 0, .int .i64 0, .int .i64 0] 59)).cell? ⟨W7.heap.size, 3, none⟩ = some (.int .i64 0) := by simp [go_sem]
                have sf3 : (W7.alloc (.cells #[.int .i64 2, .int .i64 0, .int .i64 0, .int .i64 0] 59)).frozen? ⟨W7.heap.size, 3, none⟩ = false := by simp [go_sem]
                have sz8 : W7.heap.size < (W7.alloc (.cells #[.int .i64 2, .int .i64 0, .int .i64 0, .int .i64 0] 59)).heap.size := by simp
                have HXS := Lib.hid (fun (g : Nat) (e : Value.ownBlock (.slice Av k cv) = some g) => (HO.out.lt g e).2)
                have hwX : w.heap.size ≤ W7.heap.size := HB.out.size
                replace HO := Lib.hid (rown_below HO.out hb1)
                replace HB := Lib.hid (HB.out.trans (hb1.mono HB.out.size))
                clear hb1 hbl gz
                generalize (W7.alloc (.cells #[.int .i64 2, .int .i64 0, .int .i64 0, .int .i64 0] 59)) = W8 at *
                generalize W7.heap.size = X8 at *
                go_upto_region 12 with fail
                refine wp_region_held_drew (S := fun w' => w'.cell? ⟨G, 0, none⟩ = some (.int .i64 sx) ∧ w'.cell? ⟨G, 1, none⟩ = some (.int .i64 sy) ∧ w'.cell? ⟨blk, off + k * 4 + 3, none⟩ = some (.int .i64 z)) (by kernel_rfl) ⟨g0, g1, e3⟩ (fun hHeld => ?_)
                refine wpAnyH_take (i := 0) (oi := { dst := some 58, op := Go.Op.fieldAddr 37 (Go.Operand.tmp 7) 0, type := 0, pos := "ref.go:218", after := #[], guard := none }) (v := ?_) rfl (by kernel_rfl) (by kernel_rfl) (by kernel_rfl) (fun _ _ _ h => h) (Or.inl ⟨rfl, ?_⟩) (by assumption) ?_
                rotate_left
                · intro wz hSw; (try dsimp only at hSw); go_simp; try (with_reducible rfl)
                try simp only [Act.put, List.setIfInBounds_toArray, List.set_cons_zero, List.set_cons_succ]
                refine wpAnyH_take (i := 1) (oi := { dst := some 59, op := Go.Op.load 3 (Go.Operand.tmp 58), type := 3, pos := "ref.go:218", after := #[{ on := 0, ground := Go.Ground.data }], guard := none }) (v := ?_) rfl (by kernel_rfl) (by kernel_rfl) (by kernel_rfl) (fun _ _ _ h => h) (Or.inl ⟨rfl, ?_⟩) (by assumption) ?_
                rotate_left
                · intro wz hSw; (try dsimp only at hSw); go_simp; try (with_reducible rfl)
                try simp only [Act.put, List.setIfInBounds_toArray, List.set_cons_zero, List.set_cons_succ]
                refine wpAnyH_take (i := 2) (oi := { dst := some 60, op := Go.Op.fieldAddr 37 (Go.Operand.tmp 7) 1, type := 0, pos := "ref.go:218", after := #[], guard := none }) (v := ?_) rfl (by kernel_rfl) (by kernel_rfl) (by kernel_rfl) (fun _ _ _ h => h) (Or.inl ⟨rfl, ?_⟩) (by assumption) ?_
                rotate_left
                · intro wz hSw; (try dsimp only at hSw); go_simp; try (with_reducible rfl)
                try simp only [Act.put, List.setIfInBounds_toArray, List.set_cons_zero, List.set_cons_succ]
                refine wpAnyH_take (i := 3) (oi := { dst := some 61, op := Go.Op.load 3 (Go.Operand.tmp 60), type := 3, pos := "ref.go:218", after := #[{ on := 2, ground := Go.Ground.data }], guard := none }) (v := ?_) rfl (by kernel_rfl) (by kernel_rfl) (by kernel_rfl) (fun _ _ _ h => h) (Or.inl ⟨rfl, ?_⟩) (by assumption) ?_
                rotate_left
                · intro wz hSw; (try dsimp only at hSw); go_simp; try (with_reducible rfl)
                try simp only [Act.put, List.setIfInBounds_toArray, List.set_cons_zero, List.set_cons_succ]
                refine wpAnyH_take (i := 4) (oi := { dst := some 62, op := Go.Op.move (Go.Operand.tmp 0), type := 22, pos := "ref.go:218", after := #[], guard := none }) (v := ?_) rfl (by kernel_rfl) (by kernel_rfl) (by kernel_rfl) (fun _ _ _ h => h) (Or.inl ⟨rfl, ?_⟩) (by assumption) ?_
                rotate_left
                · intro wz hSw; (try dsimp only at hSw); go_simp; try (with_reducible rfl)
                try simp only [Act.put, List.setIfInBounds_toArray, List.set_cons_zero, List.set_cons_succ]
                refine wpAnyH_take (i := 5) (oi := { dst := some 63, op := Go.Op.move (Go.Operand.tmp 5), type := 3, pos := "ref.go:218", after := #[], guard := none }) (v := ?_) rfl (by kernel_rfl) (by kernel_rfl) (by kernel_rfl) (fun _ _ _ h => h) (Or.inl ⟨rfl, ?_⟩) (by assumption) ?_
                rotate_left
                · intro wz hSw; (try dsimp only at hSw); go_simp; try (with_reducible rfl)
                try simp only [Act.put, List.setIfInBounds_toArray, List.set_cons_zero, List.set_cons_succ]
                refine wpAnyH_take (i := 6) (oi := { dst := some 64, op := Go.Op.indexAddr 22 (Go.Operand.tmp 62) (Go.Operand.tmp 63), type := 0, pos := "ref.go:218", after := #[{ on := 4, ground := Go.Ground.data }, { on := 5, ground := Go.Ground.data }], guard := none }) (v := ?_) rfl (by kernel_rfl) (by kernel_rfl) (by kernel_rfl) (fun _ _ _ h => h) (Or.inl ⟨rfl, ?_⟩) (by assumption) ?_
                rotate_left
                · intro wz hSw; (try dsimp only at hSw); go_simp; try (with_reducible rfl)
                try simp only [Act.put, List.setIfInBounds_toArray, List.set_cons_zero, List.set_cons_succ]
                refine wpAnyH_take (i := 7) (oi := { dst := some 65, op := Go.Op.fieldAddr 59 (Go.Operand.tmp 64) 3, type := 0, pos := "ref.go:218", after := #[{ on := 6, ground := Go.Ground.data }], guard := none }) (v := ?_) rfl (by kernel_rfl) (by kernel_rfl) (by kernel_rfl) (fun _ _ _ h => h) (Or.inl ⟨rfl, ?_⟩) (by assumption) ?_
                rotate_left
                · intro wz hSw; (try dsimp only at hSw); go_simp; try (with_reducible rfl)
                try simp only [Act.put, List.setIfInBounds_toArray, List.set_cons_zero, List.set_cons_succ]
                refine wpAnyH_take (i := 8) (oi := { dst := some 66, op := Go.Op.load 3 (Go.Operand.tmp 65), type := 3, pos := "ref.go:218", after := #[{ on := 7, ground := Go.Ground.data }], guard := none }) (v := ?_) rfl (by kernel_rfl) (by kernel_rfl) (by kernel_rfl) (fun _ _ _ h => h) (Or.inl ⟨rfl, ?_⟩) (by assumption) ?_
                rotate_left
                · intro wz hSw; (try dsimp only at hSw); go_simp; try (with_reducible rfl)
                try simp only [Act.put, List.setIfInBounds_toArray, List.set_cons_zero, List.set_cons_succ]
                refine wpAnyH_take (i := 9) (oi := { dst := some 67, op := Go.Op.convert 3 56 (Go.Operand.tmp 66), type := 56, pos := "ref.go:218", after := #[{ on := 8, ground := Go.Ground.data }], guard := none }) (v := ?_) rfl (by kernel_rfl) (by kernel_rfl) (by kernel_rfl) (fun _ _ _ h => h) (Or.inl ⟨rfl, ?_⟩) (by assumption) ?_
                rotate_left
                · intro wz hSw; (try dsimp only at hSw); go_simp; try (with_reducible rfl)
                try simp only [Act.put, List.setIfInBounds_toArray, List.set_cons_zero, List.set_cons_succ]
                refine wpAnyH_take (i := 10) (oi := { dst := some 68, op := Go.Op.binOp Go.BinOp.rem 56 (Go.Operand.tmp 67) (Go.Operand.const (Go.Value.int Go.IntKind.u64 2001)) 56, type := 56, pos := "ref.go:218", after := #[{ on := 9, ground := Go.Ground.data }], guard := none }) (v := ?_) rfl (by kernel_rfl) (by kernel_rfl) (by kernel_rfl) (fun _ _ _ h => h) (Or.inl ⟨rfl, ?_⟩) (by assumption) ?_
                rotate_left
                · intro wz hSw; (try dsimp only at hSw); go_simp; try (with_reducible rfl)
                try simp only [Act.put, List.setIfInBounds_toArray, List.set_cons_zero, List.set_cons_succ]
                refine wpAnyH_take (i := 11) (oi := { dst := some 69, op := Go.Op.convert 56 3 (Go.Operand.tmp 68), type := 3, pos := "ref.go:218", after := #[{ on := 10, ground := Go.Ground.data }], guard := none }) (v := ?_) rfl (by kernel_rfl) (by kernel_rfl) (by kernel_rfl) (fun _ _ _ h => h) (Or.inl ⟨rfl, ?_⟩) (by assumption) ?_
                rotate_left
                · intro wz hSw; (try dsimp only at hSw); go_simp; try (with_reducible rfl)
                try simp only [Act.put, List.setIfInBounds_toArray, List.set_cons_zero, List.set_cons_succ]
                refine wpAnyH_take (i := 12) (oi := { dst := some 70, op := Go.Op.build 59 #[(0, Go.Operand.const (Go.Value.int Go.IntKind.i64 2)), (1, Go.Operand.tmp 59), (2, Go.Operand.tmp 61), (3, Go.Operand.tmp 69)], type := 59, pos := "ref.go:218", after := #[{ on := 1, ground := Go.Ground.data }, { on := 3, ground := Go.Ground.data }, { on := 11, ground := Go.Ground.data }], guard := none }) (v := ?_) rfl (by kernel_rfl) (by kernel_rfl) (by kernel_rfl) (fun _ _ _ h => h) (Or.inl ⟨rfl, ?_⟩) (by assumption) ?_
                rotate_left
                · intro wz hSw; (try dsimp only at hSw); go_simp; try (with_reducible rfl)
                try simp only [Act.put, List.setIfInBounds_toArray, List.set_cons_zero, List.set_cons_succ]
                refine wpAnyH_ready (rs := [13]) (by kernel_rfl) (by simp) ?_
                refine (AllReadyH.cons (o := { dst := none, op := Go.Op.store 59 (Go.Operand.tmp 8) (Go.Operand.tmp 70), type := 0, pos := "ref.go:218", after := #[{ on := 12, ground := Go.Ground.data }, { on := 0, ground := Go.Ground.phase }, { on := 1, ground := Go.Ground.phase }, { on := 2, ground := Go.Ground.phase }, { on := 3, ground := Go.Ground.phase }, { on := 4, ground := Go.Ground.phase }, { on := 5, ground := Go.Ground.phase }, { on := 6, ground := Go.Ground.phase }, { on := 7, ground := Go.Ground.phase }, { on := 8, ground := Go.Ground.phase }, { on := 9, ground := Go.Ground.phase }, { on := 10, ground := Go.Ground.phase }, { on := 11, ground := Go.Ground.phase }, { on := 12, ground := Go.Ground.phase }], guard := none }) rfl (fun K hK => ?_) AllReadyH.nil)
                go_simp
                try simp only [hz2]
                replace g0 : ((((W8.setCell ⟨X8, 0, none⟩ (.int .i64 2)).setCell ⟨X8, 1, none⟩ (.int .i64 sx)).setCell ⟨X8, 2, none⟩ (.int .i64 sy)).setCell ⟨X8, 3, none⟩ (.int .i64 z2)).drew.cell? ⟨G, 0, none⟩ = some (.int .i64 sx) := by first | (simp [go_sem, g0]; done) | (simp [go_sem, g0, hGX]; done) | (simp [go_sem, g0, hXG]; done) | (simp [go_sem, g0, hGX, hXG]; done)
                replace g1 : ((((W8.setCell ⟨X8, 0, none⟩ (.int .i64 2)).setCell ⟨X8, 1, none⟩ (.int .i64 sx)).setCell ⟨X8, 2, none⟩ (.int .i64 sy)).setCell ⟨X8, 3, none⟩ (.int .i64 z2)).drew.cell? ⟨G, 1, none⟩ = some (.int .i64 sy) := by first | (simp [go_sem, g1]; done) | (simp [go_sem, g1, hGX]; done) | (simp [go_sem, g1, hXG]; done) | (simp [go_sem, g1, hGX, hXG]; done)
                replace e3 : ((((W8.setCell ⟨X8, 0, none⟩ (.int .i64 2)).setCell ⟨X8, 1, none⟩ (.int .i64 sx)).setCell ⟨X8, 2, none⟩ (.int .i64 sy)).setCell ⟨X8, 3, none⟩ (.int .i64 z2)).drew.cell? ⟨blk, off + k * 4 + 3, none⟩ = some (.int .i64 z) := by first | (simp [go_sem, e3]; done) | (simp [go_sem, e3, hbX]; done) | (simp [go_sem, e3, hXb]; done) | (simp [go_sem, e3, hbX, hXb]; done)
                have t0 : ((((W8.setCell ⟨X8, 0, none⟩ (.int .i64 2)).setCell ⟨X8, 1, none⟩ (.int .i64 sx)).setCell ⟨X8, 2, none⟩ (.int .i64 sy)).setCell ⟨X8, 3, none⟩ (.int .i64 z2)).drew.cell? ⟨X8, 0, none⟩ = some (.int .i64 2) := by simp [go_sem, s0]
                have t1 : ((((W8.setCell ⟨X8, 0, none⟩ (.int .i64 2)).setCell ⟨X8, 1, none⟩ (.int .i64 sx)).setCell ⟨X8, 2, none⟩ (.int .i64 sy)).setCell ⟨X8, 3, none⟩ (.int .i64 z2)).drew.cell? ⟨X8, 1, none⟩ = some (.int .i64 sx) := by simp [go_sem, s1]
                have t2 : ((((W8.setCell ⟨X8, 0, none⟩ (.int .i64 2)).setCell ⟨X8, 1, none⟩ (.int .i64 sx)).setCell ⟨X8, 2, none⟩ (.int .i64 sy)).setCell ⟨X8, 3, none⟩ (.int .i64 z2)).drew.cell? ⟨X8, 2, none⟩ = some (.int .i64 sy) := by simp [go_sem, s2]
                have t3 : ((((W8.setCell ⟨X8, 0, none⟩ (.int .i64 2)).setCell ⟨X8, 1, none⟩ (.int .i64 sx)).setCell ⟨X8, 2, none⟩ (.int .i64 sy)).setCell ⟨X8, 3, none⟩ (.int .i64 z2)).drew.cell? ⟨X8, 3, none⟩ = some (.int .i64 z2) := by simp [go_sem, s3]
                replace HO := Lib.hid (rown_below (rown_grown (rown_grown (rown_grown (rown_grown HO.out (grown_set (p := ⟨X8, 0, none⟩) (.int .i64 2)) (Or.inr fun e => by have := HXS.out X8 e; omega)) (grown_set (p := ⟨X8, 1, none⟩) (.int .i64 sx)) (Or.inr fun e => by have := HXS.out X8 e; omega)) (grown_set (p := ⟨X8, 2, none⟩) (.int .i64 sy)) (Or.inr fun e => by have := HXS.out X8 e; omega)) (grown_set (p := ⟨X8, 3, none⟩) (.int .i64 z2)) (Or.inr fun e => by have := HXS.out X8 e; omega)) (below_drewz (Below.refl _ _)))
                replace HB : Hid (Below w.heap.size w ((((W8.setCell ⟨X8, 0, none⟩ (.int .i64 2)).setCell ⟨X8, 1, none⟩ (.int .i64 sx)).setCell ⟨X8, 2, none⟩ (.int .i64 sy)).setCell ⟨X8, 3, none⟩ (.int .i64 z2)).drew) := below_drewz ((((HB.out.setCell (by simpa using hwX) _).setCell (by simpa using hwX) _).setCell (by simpa using hwX) _).setCell (by simpa using hwX) _)
                clear s0 s1 s2 s3 sf0 sf1 sf2 sf3
                generalize ((((W8.setCell ⟨X8, 0, none⟩ (.int .i64 2)).setCell ⟨X8, 1, none⟩ (.int .i64 sx)).setCell ⟨X8, 2, none⟩ (.int .i64 sy)).setCell ⟨X8, 3, none⟩ (.int .i64 z2)).drew = W9 at *
                refine hK.out _ _ ⟨g0, g1, e3⟩ (fun hHeld => ?_)
                clear hK K
                try simp only [Act.put, List.setIfInBounds_toArray, List.set_cons_zero, List.set_cons_succ]
                refine wpAnyH_done (by kernel_rfl) ?_ _
                clear hHeld
                clear g0 g1 e3
                have hsz := HB.out.size
                have HR1 : Hid (RowAt cellsR 4 (W9.alloc (.cells #[.int .i64 2, .int .i64 sx, .int .i64 sy, .int .i64 z2] 59)) (W9.heap.size + 1) (some ⟨W9.heap.size, 0, none⟩) 1 [⟨2, sx, sy, z2⟩]) := one_row rowR (heap_alloc_new W9 _)
                have HO1 := Lib.hid (HO.out.alloc (.cells #[.int .i64 2, .int .i64 sx, .int .i64 sy, .int .i64 z2] 59))
                go_wp2_with (at_builtin; refine wpList_append_row rowR (B := w.heap.size) (v := .slice Av k cv) (n := k) (zs := fixL 0 (rs.take k)) (m := 1) (ys := [⟨2, sx, sy, z2⟩]) rfl _ _ rfl rfl HO1.out rfl HR1.out (by omega) (by simp; omega) ?_; intro A3 c3 w3 hown3 hg3 hat3)
                have HC3 : Hid (HalfF rs w (k + 1) A3 c3 w3) := ⟨by rw [HTS.out, HFS.out]; exact hown3, (HB.out.alloc hsz _).grown hg3 (Nat.le_trans hsz (by simp)) (fun g e => (HO.out.lt g e).1)⟩
                have HE3 : Hid (fixE 0 (rs.take (k + 1)) = m + 1) := HTE.out.trans HFM.out
                clear hown3 hg3 hat3 HTS HTE HFS HFM
                go_wp2
                go_roundw
                case rel => exact ⟨k + 1, A3, c3, m + 1, by omega, by omega, by go_num, rfl, rfl, by omega, by omega, HE3, HC3⟩
                case measure => simp [intOf]; omega
            · skip
              have HOX : Hid (ofx = 4) := by show _ = _; rw [HOF.out, if_neg (by omega)]
              as_aux_lemma =>
                skip
                have HFS : Hid (fs = ⟨4, 0, 0, 0⟩) := by show _ = _; rw [HST.out, HOX.out]; rfl
                have HFM : Hid (fm = m) := by show _ = _; rw [HFN.out, HOX.out]; rfl
                clear HOF HST HFN
                go_upto_region 11 with fail
                have hb1 : Below W7.heap.size W7 (W7.alloc (.cells #[.int .i64 4, .int .i64 0, .int .i64 0, .int .i64 0] 59)) := (Below.refl _ _).alloc (Nat.le_refl _) _
                replace e3 := (hb1.cell (p := ⟨blk, off + k * 4 + 3, none⟩) hbl).trans e3
                replace hbl := Nat.lt_of_lt_of_le hbl hb1.size
                replace g0 := (hb1.cell (p := ⟨G, 0, none⟩) gz).trans g0
                replace g1 := (hb1.cell (p := ⟨G, 1, none⟩) gz).trans g1
                have s0 : (W7.alloc (.cells #[.int .i64 4, .int .i64 0, .int .i64 0, .int .i64 0] 59)).cell? ⟨W7.heap.size, 0, none⟩ = some (.int .i64 4) := by simp [go_sem]
                have sf0 : (W7.alloc (.cells #[.int .i64 4, .int .i64 0, .int .i64 0, .int .i64 0] 59)).frozen? ⟨W7.heap.size, 0, none⟩ = false := by simp [go_sem]
                have s1 : (W7.alloc (.cells #[.int .i64 4, .int .i64 0, .int .i64 0, .int .i64 0] 59)).cell? ⟨W7.heap.size, 1, none⟩ = some (.int .i64 0) := by simp [go_sem]
                have sf1 : (W7.alloc (.cells #[.int .i64 4, .int .i64 0, .int .i64 0, .int .i64 0] 59)).frozen? ⟨W7.heap.size, 1, none⟩ = false := by simp [go_sem]
                have s2 : (W7.alloc (.cells #[.int .i64 4, .int .i64 0, .int .i64 0, .int .i64 0] 59)).cell? ⟨W7.heap.size, 2, none⟩ = some (.int .i64 0) := by simp [go_sem]
                have sf2 : (W7.alloc (.cells #[.int .i64 4, .int .i64 0, .int .i64 0, .int .i64 0] 59)).frozen? ⟨W7.heap.size, 2, none⟩ = false := by simp [go_sem]
                have s3 : (W7.alloc (.cells #[.int .i64 4, .int .i64 0, .int .i64 0, .int .i64 0] 59)).cell? ⟨W7.heap.size, 3, none⟩ = some (.int .i64 0) := by simp [go_sem]
                have sf3 : (W7.alloc (.cells #[.int .i64 4, .int .i64 0, .int .i64 0, .int .i64 0] 59)).frozen? ⟨W7.heap.size, 3, none⟩ = false := by simp [go_sem]
                have sz8 : W7.heap.size < (W7.alloc (.cells #[.int .i64 4, .int .i64 0, .int .i64 0, .int .i64 0] 59)).heap.size := by simp
                have HXS := Lib.hid (fun (g : Nat) (e : Value.ownBlock (.slice Av k cv) = some g) => (HO.out.lt g e).2)
                have hwX : w.heap.size ≤ W7.heap.size := HB.out.size
                replace HO := Lib.hid (rown_below HO.out hb1)
                replace HB := Lib.hid (HB.out.trans (hb1.mono HB.out.size))
                clear hb1 hbl gz
                generalize (W7.alloc (.cells #[.int .i64 4, .int .i64 0, .int .i64 0, .int .i64 0] 59)) = W8 at *
                generalize W7.heap.size = X8 at *
                have t0 := s0
                have t1 := s1
                have t2 := s2
                have t3 := s3
                clear g0 g1 e3
                have hsz := HB.out.size
                have HR1 : Hid (RowAt cellsR 4 (W8.alloc (.cells #[.int .i64 4, .int .i64 0, .int .i64 0, .int .i64 0] 59)) (W8.heap.size + 1) (some ⟨W8.heap.size, 0, none⟩) 1 [⟨4, 0, 0, 0⟩]) := one_row rowR (heap_alloc_new W8 _)
                have HO1 := Lib.hid (HO.out.alloc (.cells #[.int .i64 4, .int .i64 0, .int .i64 0, .int .i64 0] 59))
                go_wp2_with (at_builtin; refine wpList_append_row rowR (B := w.heap.size) (v := .slice Av k cv) (n := k) (zs := fixL 0 (rs.take k)) (m := 1) (ys := [⟨4, 0, 0, 0⟩]) rfl _ _ rfl rfl HO1.out rfl HR1.out (by omega) (by simp; omega) ?_; intro A3 c3 w3 hown3 hg3 hat3)
                have HC3 : Hid (HalfF rs w (k + 1) A3 c3 w3) := ⟨by rw [HTS.out, HFS.out]; exact hown3, (HB.out.alloc hsz _).grown hg3 (Nat.le_trans hsz (by simp)) (fun g e => (HO.out.lt g e).1)⟩
                have HE3 : Hid (fixE 0 (rs.take (k + 1)) = m) := HTE.out.trans HFM.out
                clear hown3 hg3 hat3 HTS HTE HFS HFM
                go_wp2
                go_roundw
                case rel => exact ⟨k + 1, A3, c3, m, by omega, by omega, by go_num, rfl, rfl, by omega, by omega, HE3, HC3⟩
                case measure => simp [intOf]; omega
          · by_cases hm2 : m < 2
            · skip
              have HOX : Hid (ofx = 2) := by show _ = _; rw [HOF.out, if_pos (by omega)]
              as_aux_lemma =>
                skip
                have HFS : Hid (fs = ⟨2, sx, sy, z2⟩) := by show _ = _; rw [HST.out, HOX.out]; rfl
                have HFM : Hid (fm = m + 1) := by show _ = _; rw [HFN.out, HOX.out]; rfl
                clear HOF HST HFN
                go_upto_region 11 with fail
                have hb1 : Below W7.heap.size W7 (W7.alloc (.cells #[.int .i64 2, .int .i64 0, .int .i64 0, .int .i64 0] 59)) := (Below.refl _ _).alloc (Nat.le_refl _) _
                have hGX : G ≠ W7.heap.size := by omega
                have hXG : W7.heap.size ≠ G := by omega
                have hbX : blk ≠ W7.heap.size := by omega
                have hXb : W7.heap.size ≠ blk := by omega
                replace e3 := (hb1.cell (p := ⟨blk, off + k * 4 + 3, none⟩) hbl).trans e3
                replace hbl := Nat.lt_of_lt_of_le hbl hb1.size
                replace g0 := (hb1.cell (p := ⟨G, 0, none⟩) gz).trans g0
                replace g1 := (hb1.cell (p := ⟨G, 1, none⟩) gz).trans g1
                have s0 : (W7.alloc (.cells #[.int .i64 2, .int .i64 0, .int .i64 0, .int .i64 0] 59)).cell? ⟨W7.heap.size, 0, none⟩ = some (.int .i64 2) := by simp [go_sem]
                have sf0 : (W7.alloc (.cells #[.int .i64 2, .int .i64 0, .int .i64 0, .int .i64 0] 59)).frozen? ⟨W7.heap.size, 0, none⟩ = false := by simp [go_sem]
                have s1 : (W7.alloc (.cells #[.int .i64 2, .int .i64 0, .int .i64 0, .int .i64 0] 59)).cell? ⟨W7.heap.size, 1, none⟩ = some (.int .i64 0) := by simp [go_sem]
                have sf1 : (W7.alloc (.cells #[.int .i64 2, .int .i64 0, .int .i64 0, .int .i64 0] 59)).frozen? ⟨W7.heap.size, 1, none⟩ = false := by simp [go_sem]
                have s2 : (W7.alloc (.cells #[.int .i64 2, .int .i64 0, .int .i64 0, .int .i64 0] 59)).cell? ⟨W7.heap.size, 2, none⟩ = some (.int .i64 0) := by simp [go_sem]
                have sf2 : (W7.alloc (.cells #[.int .i64 2, .int .i64 0, .int .i64 0, .int .i64 0] 59)).frozen? ⟨W7.heap.size, 2, none⟩ = false := by simp [go_sem]
                have s3 : (W7.alloc (.cells #[.int .i64 2, .int .i64 0, .int .i64 0, .int .i64 0] 59)).cell? ⟨W7.heap.size, 3, none⟩ = some (.int .i64 0) := by simp [go_sem]
                have sf3 : (W7.alloc (.cells #[.int .i64 2, .int .i64 0, .int .i64 0, .int .i64 0] 59)).frozen? ⟨W7.heap.size, 3, none⟩ = false := by simp [go_sem]
                have sz8 : W7.heap.size < (W7.alloc (.cells #[.int .i64 2, .int .i64 0, .int .i64 0, .int .i64 0] 59)).heap.size := by simp
                have HXS := Lib.hid (fun (g : Nat) (e : Value.ownBlock (.slice Av k cv) = some g) => (HO.out.lt g e).2)
                have hwX : w.heap.size ≤ W7.heap.size := HB.out.size
                replace HO := Lib.hid (rown_below HO.out hb1)
                replace HB := Lib.hid (HB.out.trans (hb1.mono HB.out.size))
                clear hb1 hbl gz
                generalize (W7.alloc (.cells #[.int .i64 2, .int .i64 0, .int .i64 0, .int .i64 0] 59)) = W8 at *
                generalize W7.heap.size = X8 at *
                go_upto_region 12 with fail
                refine wp_region_held_drew (S := fun w' => w'.cell? ⟨G, 0, none⟩ = some (.int .i64 sx) ∧ w'.cell? ⟨G, 1, none⟩ = some (.int .i64 sy) ∧ w'.cell? ⟨blk, off + k * 4 + 3, none⟩ = some (.int .i64 z)) (by kernel_rfl) ⟨g0, g1, e3⟩ (fun hHeld => ?_)
                refine wpAnyH_take (i := 0) (oi := { dst := some 58, op := Go.Op.fieldAddr 37 (Go.Operand.tmp 7) 0, type := 0, pos := "ref.go:218", after := #[], guard := none }) (v := ?_) rfl (by kernel_rfl) (by kernel_rfl) (by kernel_rfl) (fun _ _ _ h => h) (Or.inl ⟨rfl, ?_⟩) (by assumption) ?_
                rotate_left
                · intro wz hSw; (try dsimp only at hSw); go_simp; try (with_reducible rfl)
                try simp only [Act.put, List.setIfInBounds_toArray, List.set_cons_zero, List.set_cons_succ]
                refine wpAnyH_take (i := 1) (oi := { dst := some 59, op := Go.Op.load 3 (Go.Operand.tmp 58), type := 3, pos := "ref.go:218", after := #[{ on := 0, ground := Go.Ground.data }], guard := none }) (v := ?_) rfl (by kernel_rfl) (by kernel_rfl) (by kernel_rfl) (fun _ _ _ h => h) (Or.inl ⟨rfl, ?_⟩) (by assumption) ?_
                rotate_left
                · intro wz hSw; (try dsimp only at hSw); go_simp; try (with_reducible rfl)
                try simp only [Act.put, List.setIfInBounds_toArray, List.set_cons_zero, List.set_cons_succ]
                refine wpAnyH_take (i := 2) (oi := { dst := some 60, op := Go.Op.fieldAddr 37 (Go.Operand.tmp 7) 1, type := 0, pos := "ref.go:218", after := #[], guard := none }) (v := ?_) rfl (by kernel_rfl) (by kernel_rfl) (by kernel_rfl) (fun _ _ _ h => h) (Or.inl ⟨rfl, ?_⟩) (by assumption) ?_
                rotate_left
                · intro wz hSw; (try dsimp only at hSw); go_simp; try (with_reducible rfl)
                try simp only [Act.put, List.setIfInBounds_toArray, List.set_cons_zero, List.set_cons_succ]
                refine wpAnyH_take (i := 3) (oi := { dst := some 61, op := Go.Op.load 3 (Go.Operand.tmp 60), type := 3, pos := "ref.go:218", after := #[{ on := 2, ground := Go.Ground.data }], guard := none }) (v := ?_) rfl (by kernel_rfl) (by kernel_rfl) (by kernel_rfl) (fun _ _ _ h => h) (Or.inl ⟨rfl, ?_⟩) (by assumption) ?_
                rotate_left
                · intro wz hSw; (try dsimp only at hSw); go_simp; try (with_reducible rfl)
                try simp only [Act.put, List.setIfInBounds_toArray, List.set_cons_zero, List.set_cons_succ]
                refine wpAnyH_take (i := 4) (oi := { dst := some 62, op := Go.Op.move (Go.Operand.tmp 0), type := 22, pos := "ref.go:218", after := #[], guard := none }) (v := ?_) rfl (by kernel_rfl) (by kernel_rfl) (by kernel_rfl) (fun _ _ _ h => h) (Or.inl ⟨rfl, ?_⟩) (by assumption) ?_
                rotate_left
                · intro wz hSw; (try dsimp only at hSw); go_simp; try (with_reducible rfl)
                try simp only [Act.put, List.setIfInBounds_toArray, List.set_cons_zero, List.set_cons_succ]
                refine wpAnyH_take (i := 5) (oi := { dst := some 63, op := Go.Op.move (Go.Operand.tmp 5), type := 3, pos := "ref.go:218", after := #[], guard := none }) (v := ?_) rfl (by kernel_rfl) (by kernel_rfl) (by kernel_rfl) (fun _ _ _ h => h) (Or.inl ⟨rfl, ?_⟩) (by assumption) ?_
                rotate_left
                · intro wz hSw; (try dsimp only at hSw); go_simp; try (with_reducible rfl)
                try simp only [Act.put, List.setIfInBounds_toArray, List.set_cons_zero, List.set_cons_succ]
                refine wpAnyH_take (i := 6) (oi := { dst := some 64, op := Go.Op.indexAddr 22 (Go.Operand.tmp 62) (Go.Operand.tmp 63), type := 0, pos := "ref.go:218", after := #[{ on := 4, ground := Go.Ground.data }, { on := 5, ground := Go.Ground.data }], guard := none }) (v := ?_) rfl (by kernel_rfl) (by kernel_rfl) (by kernel_rfl) (fun _ _ _ h => h) (Or.inl ⟨rfl, ?_⟩) (by assumption) ?_
                rotate_left
                · intro wz hSw; (try dsimp only at hSw); go_simp; try (with_reducible rfl)
                try simp only [Act.put, List.setIfInBounds_toArray, List.set_cons_zero, List.set_cons_succ]
                refine wpAnyH_take (i := 7) (oi := { dst := some 65, op := Go.Op.fieldAddr 59 (Go.Operand.tmp 64) 3, type := 0, pos := "ref.go:218", after := #[{ on := 6, ground := Go.Ground.data }], guard := none }) (v := ?_) rfl (by kernel_rfl) (by kernel_rfl) (by kernel_rfl) (fun _ _ _ h => h) (Or.inl ⟨rfl, ?_⟩) (by assumption) ?_
                rotate_left
                · intro wz hSw; (try dsimp only at hSw); go_simp; try (with_reducible rfl)
                try simp only [Act.put, List.setIfInBounds_toArray, List.set_cons_zero, List.set_cons_succ]
                refine wpAnyH_take (i := 8) (oi := { dst := some 66, op := Go.Op.load 3 (Go.Operand.tmp 65), type := 3, pos := "ref.go:218", after := #[{ on := 7, ground := Go.Ground.data }], guard := none }) (v := ?_) rfl (by kernel_rfl) (by kernel_rfl) (by kernel_rfl) (fun _ _ _ h => h) (Or.inl ⟨rfl, ?_⟩) (by assumption) ?_
                rotate_left
                · intro wz hSw; (try dsimp only at hSw); go_simp; try (with_reducible rfl)
                try simp only [Act.put, List.setIfInBounds_toArray, List.set_cons_zero, List.set_cons_succ]
                refine wpAnyH_take (i := 9) (oi := { dst := some 67, op := Go.Op.convert 3 56 (Go.Operand.tmp 66), type := 56, pos := "ref.go:218", after := #[{ on := 8, ground := Go.Ground.data }], guard := none }) (v := ?_) rfl (by kernel_rfl) (by kernel_rfl) (by kernel_rfl) (fun _ _ _ h => h) (Or.inl ⟨rfl, ?_⟩) (by assumption) ?_
                rotate_left
                · intro wz hSw; (try dsimp only at hSw); go_simp; try (with_reducible rfl)
                try simp only [Act.put, List.setIfInBounds_toArray, List.set_cons_zero, List.set_cons_succ]
                refine wpAnyH_take (i := 10) (oi := { dst := some 68, op := Go.Op.binOp Go.BinOp.rem 56 (Go.Operand.tmp 67) (Go.Operand.const (Go.Value.int Go.IntKind.u64 2001)) 56, type := 56, pos := "ref.go:218", after := #[{ on := 9, ground := Go.Ground.data }], guard := none }) (v := ?_) rfl (by kernel_rfl) (by kernel_rfl) (by kernel_rfl) (fun _ _ _ h => h) (Or.inl ⟨rfl, ?_⟩) (by assumption) ?_
                rotate_left
                · intro wz hSw; (try dsimp only at hSw); go_simp; try (with_reducible rfl)
                try simp only [Act.put, List.setIfInBounds_toArray, List.set_cons_zero, List.set_cons_succ]
                refine wpAnyH_take (i := 11) (oi := { dst := some 69, op := Go.Op.convert 56 3 (Go.Operand.tmp 68), type := 3, pos := "ref.go:218", after := #[{ on := 10, ground := Go.Ground.data }], guard := none }) (v := ?_) rfl (by kernel_rfl) (by kernel_rfl) (by kernel_rfl) (fun _ _ _ h => h) (Or.inl ⟨rfl, ?_⟩) (by assumption) ?_
                rotate_left
                · intro wz hSw; (try dsimp only at hSw); go_simp; try (with_reducible rfl)
                try simp only [Act.put, List.setIfInBounds_toArray, List.set_cons_zero, List.set_cons_succ]
                refine wpAnyH_take (i := 12) (oi := { dst := some 70, op := Go.Op.build 59 #[(0, Go.Operand.const (Go.Value.int Go.IntKind.i64 2)), (1, Go.Operand.tmp 59), (2, Go.Operand.tmp 61), (3, Go.Operand.tmp 69)], type := 59, pos := "ref.go:218", after := #[{ on := 1, ground := Go.Ground.data }, { on := 3, ground := Go.Ground.data }, { on := 11, ground := Go.Ground.data }], guard := none }) (v := ?_) rfl (by kernel_rfl) (by kernel_rfl) (by kernel_rfl) (fun _ _ _ h => h) (Or.inl ⟨rfl, ?_⟩) (by assumption) ?_
                rotate_left
                · intro wz hSw; (try dsimp only at hSw); go_simp; try (with_reducible rfl)
                try simp only [Act.put, List.setIfInBounds_toArray, List.set_cons_zero, List.set_cons_succ]
                refine wpAnyH_ready (rs := [13]) (by kernel_rfl) (by simp) ?_
                refine (AllReadyH.cons (o := { dst := none, op := Go.Op.store 59 (Go.Operand.tmp 8) (Go.Operand.tmp 70), type := 0, pos := "ref.go:218", after := #[{ on := 12, ground := Go.Ground.data }, { on := 0, ground := Go.Ground.phase }, { on := 1, ground := Go.Ground.phase }, { on := 2, ground := Go.Ground.phase }, { on := 3, ground := Go.Ground.phase }, { on := 4, ground := Go.Ground.phase }, { on := 5, ground := Go.Ground.phase }, { on := 6, ground := Go.Ground.phase }, { on := 7, ground := Go.Ground.phase }, { on := 8, ground := Go.Ground.phase }, { on := 9, ground := Go.Ground.phase }, { on := 10, ground := Go.Ground.phase }, { on := 11, ground := Go.Ground.phase }, { on := 12, ground := Go.Ground.phase }], guard := none }) rfl (fun K hK => ?_) AllReadyH.nil)
                go_simp
                try simp only [hz2]
                replace g0 : ((((W8.setCell ⟨X8, 0, none⟩ (.int .i64 2)).setCell ⟨X8, 1, none⟩ (.int .i64 sx)).setCell ⟨X8, 2, none⟩ (.int .i64 sy)).setCell ⟨X8, 3, none⟩ (.int .i64 z2)).drew.cell? ⟨G, 0, none⟩ = some (.int .i64 sx) := by first | (simp [go_sem, g0]; done) | (simp [go_sem, g0, hGX]; done) | (simp [go_sem, g0, hXG]; done) | (simp [go_sem, g0, hGX, hXG]; done)
                replace g1 : ((((W8.setCell ⟨X8, 0, none⟩ (.int .i64 2)).setCell ⟨X8, 1, none⟩ (.int .i64 sx)).setCell ⟨X8, 2, none⟩ (.int .i64 sy)).setCell ⟨X8, 3, none⟩ (.int .i64 z2)).drew.cell? ⟨G, 1, none⟩ = some (.int .i64 sy) := by first | (simp [go_sem, g1]; done) | (simp [go_sem, g1, hGX]; done) | (simp [go_sem, g1, hXG]; done) | (simp [go_sem, g1, hGX, hXG]; done)
                replace e3 : ((((W8.setCell ⟨X8, 0, none⟩ (.int .i64 2)).setCell ⟨X8, 1, none⟩ (.int .i64 sx)).setCell ⟨X8, 2, none⟩ (.int .i64 sy)).setCell ⟨X8, 3, none⟩ (.int .i64 z2)).drew.cell? ⟨blk, off + k * 4 + 3, none⟩ = some (.int .i64 z) := by first | (simp [go_sem, e3]; done) | (simp [go_sem, e3, hbX]; done) | (simp [go_sem, e3, hXb]; done) | (simp [go_sem, e3, hbX, hXb]; done)
                have t0 : ((((W8.setCell ⟨X8, 0, none⟩ (.int .i64 2)).setCell ⟨X8, 1, none⟩ (.int .i64 sx)).setCell ⟨X8, 2, none⟩ (.int .i64 sy)).setCell ⟨X8, 3, none⟩ (.int .i64 z2)).drew.cell? ⟨X8, 0, none⟩ = some (.int .i64 2) := by simp [go_sem, s0]
                have t1 : ((((W8.setCell ⟨X8, 0, none⟩ (.int .i64 2)).setCell ⟨X8, 1, none⟩ (.int .i64 sx)).setCell ⟨X8, 2, none⟩ (.int .i64 sy)).setCell ⟨X8, 3, none⟩ (.int .i64 z2)).drew.cell? ⟨X8, 1, none⟩ = some (.int .i64 sx) := by simp [go_sem, s1]
                have t2 : ((((W8.setCell ⟨X8, 0, none⟩ (.int .i64 2)).setCell ⟨X8, 1, none⟩ (.int .i64 sx)).setCell ⟨X8, 2, none⟩ (.int .i64 sy)).setCell ⟨X8, 3, none⟩ (.int .i64 z2)).drew.cell? ⟨X8, 2, none⟩ = some (.int .i64 sy) := by simp [go_sem, s2]
                have t3 : ((((W8.setCell ⟨X8, 0, none⟩ (.int .i64 2)).setCell ⟨X8, 1, none⟩ (.int .i64 sx)).setCell ⟨X8, 2, none⟩ (.int .i64 sy)).setCell ⟨X8, 3, none⟩ (.int .i64 z2)).drew.cell? ⟨X8, 3, none⟩ = some (.int .i64 z2) := by simp [go_sem, s3]
                replace HO := Lib.hid (rown_below (rown_grown (rown_grown (rown_grown (rown_grown HO.out (grown_set (p := ⟨X8, 0, none⟩) (.int .i64 2)) (Or.inr fun e => by have := HXS.out X8 e; omega)) (grown_set (p := ⟨X8, 1, none⟩) (.int .i64 sx)) (Or.inr fun e => by have := HXS.out X8 e; omega)) (grown_set (p := ⟨X8, 2, none⟩) (.int .i64 sy)) (Or.inr fun e => by have := HXS.out X8 e; omega)) (grown_set (p := ⟨X8, 3, none⟩) (.int .i64 z2)) (Or.inr fun e => by have := HXS.out X8 e; omega)) (below_drewz (Below.refl _ _)))
                replace HB : Hid (Below w.heap.size w ((((W8.setCell ⟨X8, 0, none⟩ (.int .i64 2)).setCell ⟨X8, 1, none⟩ (.int .i64 sx)).setCell ⟨X8, 2, none⟩ (.int .i64 sy)).setCell ⟨X8, 3, none⟩ (.int .i64 z2)).drew) := below_drewz ((((HB.out.setCell (by simpa using hwX) _).setCell (by simpa using hwX) _).setCell (by simpa using hwX) _).setCell (by simpa using hwX) _)
                clear s0 s1 s2 s3 sf0 sf1 sf2 sf3
                generalize ((((W8.setCell ⟨X8, 0, none⟩ (.int .i64 2)).setCell ⟨X8, 1, none⟩ (.int .i64 sx)).setCell ⟨X8, 2, none⟩ (.int .i64 sy)).setCell ⟨X8, 3, none⟩ (.int .i64 z2)).drew = W9 at *
                refine hK.out _ _ ⟨g0, g1, e3⟩ (fun hHeld => ?_)
                clear hK K
                try simp only [Act.put, List.setIfInBounds_toArray, List.set_cons_zero, List.set_cons_succ]
                refine wpAnyH_done (by kernel_rfl) ?_ _
                clear hHeld
                clear g0 g1 e3
                have hsz := HB.out.size
                have HR1 : Hid (RowAt cellsR 4 (W9.alloc (.cells #[.int .i64 2, .int .i64 sx, .int .i64 sy, .int .i64 z2] 59)) (W9.heap.size + 1) (some ⟨W9.heap.size, 0, none⟩) 1 [⟨2, sx, sy, z2⟩]) := one_row rowR (heap_alloc_new W9 _)
                have HO1 := Lib.hid (HO.out.alloc (.cells #[.int .i64 2, .int .i64 sx, .int .i64 sy, .int .i64 z2] 59))
                go_wp2_with (at_builtin; refine wpList_append_row rowR (B := w.heap.size) (v := .slice Av k cv) (n := k) (zs := fixL 0 (rs.take k)) (m := 1) (ys := [⟨2, sx, sy, z2⟩]) rfl _ _ rfl rfl HO1.out rfl HR1.out (by omega) (by simp; omega) ?_; intro A3 c3 w3 hown3 hg3 hat3)
                have HC3 : Hid (HalfF rs w (k + 1) A3 c3 w3) := ⟨by rw [HTS.out, HFS.out]; exact hown3, (HB.out.alloc hsz _).grown hg3 (Nat.le_trans hsz (by simp)) (fun g e => (HO.out.lt g e).1)⟩
                have HE3 : Hid (fixE 0 (rs.take (k + 1)) = m + 1) := HTE.out.trans HFM.out
                clear hown3 hg3 hat3 HTS HTE HFS HFM
                go_wp2
                go_roundw
                case rel => exact ⟨k + 1, A3, c3, m + 1, by omega, by omega, by go_num, rfl, rfl, by omega, by omega, HE3, HC3⟩
                case measure => simp [intOf]; omega
            · skip
              have HOX : Hid (ofx = 5) := by show _ = _; rw [HOF.out, if_neg (by omega)]
              as_aux_lemma =>
                skip
                have HFS : Hid (fs = ⟨5, 0, 0, 0⟩) := by show _ = _; rw [HST.out, HOX.out]; rfl
                have HFM : Hid (fm = m - 1) := by show _ = _; rw [HFN.out, HOX.out]; rfl
                clear HOF HST HFN
                go_upto_region 11 with fail
                have hb1 : Below W7.heap.size W7 (W7.alloc (.cells #[.int .i64 5, .int .i64 0, .int .i64 0, .int .i64 0] 59)) := (Below.refl _ _).alloc (Nat.le_refl _) _
                replace e3 := (hb1.cell (p := ⟨blk, off + k * 4 + 3, none⟩) hbl).trans e3
                replace hbl := Nat.lt_of_lt_of_le hbl hb1.size
                replace g0 := (hb1.cell (p := ⟨G, 0, none⟩) gz).trans g0
                replace g1 := (hb1.cell (p := ⟨G, 1, none⟩) gz).trans g1
                have s0 : (W7.alloc (.cells #[.int .i64 5, .int .i64 0, .int .i64 0, .int .i64 0] 59)).cell? ⟨W7.heap.size, 0, none⟩ = some (.int .i64 5) := by simp [go_sem]
                have sf0 : (W7.alloc (.cells #[.int .i64 5, .int .i64 0, .int .i64 0, .int .i64 0] 59)).frozen? ⟨W7.heap.size, 0, none⟩ = false := by simp [go_sem]
                have s1 : (W7.alloc (.cells #[.int .i64 5, .int .i64 0, .int .i64 0, .int .i64 0] 59)).cell? ⟨W7.heap.size, 1, none⟩ = some (.int .i64 0) := by simp [go_sem]
                have sf1 : (W7.alloc (.cells #[.int .i64 5, .int .i64 0, .int .i64 0, .int .i64 0] 59)).frozen? ⟨W7.heap.size, 1, none⟩ = false := by simp [go_sem]
                have s2 : (W7.alloc (.cells #[.int .i64 5, .int .i64 0, .int .i64 0, .int .i64 0] 59)).cell? ⟨W7.heap.size, 2, none⟩ = some (.int .i64 0) := by simp [go_sem]
                have sf2 : (W7.alloc (.cells #[.int .i64 5, .int .i64 0, .int .i64 0, .int .i64 0] 59)).frozen? ⟨W7.heap.size, 2, none⟩ = false := by simp [go_sem]
                have s3 : (W7.alloc (.cells #[.int .i64 5, .int .i64 0, .int .i64 0, .int .i64 0] 59)).cell? ⟨W7.heap.size, 3, none⟩ = some (.int .i64 0) := by simp [go_sem]
                have sf3 : (W7.alloc (.cells #[.int .i64 5, .int .i64 0, .int .i64 0, .int .i64 0] 59)).frozen? ⟨W7.heap.size, 3, none⟩ = false := by simp [go_sem]
                have sz8 : W7.heap.size < (W7.alloc (.cells #[.int .i64 5, .int .i64 0, .int .i64 0, .int .i64 0] 59)).heap.size := by simp
                have HXS := Lib.hid (fun (g : Nat) (e : Value.ownBlock (.slice Av k cv) = some g) => (HO.out.lt g e).2)
                have hwX : w.heap.size ≤ W7.heap.size := HB.out.size
                replace HO := Lib.hid (rown_below HO.out hb1)
                replace HB := Lib.hid (HB.out.trans (hb1.mono HB.out.size))
                clear hb1 hbl gz
                generalize (W7.alloc (.cells #[.int .i64 5, .int .i64 0, .int .i64 0, .int .i64 0] 59)) = W8 at *
                generalize W7.heap.size = X8 at *
                have t0 := s0
                have t1 := s1
                have t2 := s2
                have t3 := s3
                clear g0 g1 e3
                have hsz := HB.out.size
                have HR1 : Hid (RowAt cellsR 4 (W8.alloc (.cells #[.int .i64 5, .int .i64 0, .int .i64 0, .int .i64 0] 59)) (W8.heap.size + 1) (some ⟨W8.heap.size, 0, none⟩) 1 [⟨5, 0, 0, 0⟩]) := one_row rowR (heap_alloc_new W8 _)
                have HO1 := Lib.hid (HO.out.alloc (.cells #[.int .i64 5, .int .i64 0, .int .i64 0, .int .i64 0] 59))
                go_wp2_with (at_builtin; refine wpList_append_row rowR (B := w.heap.size) (v := .slice Av k cv) (n := k) (zs := fixL 0 (rs.take k)) (m := 1) (ys := [⟨5, 0, 0, 0⟩]) rfl _ _ rfl rfl HO1.out rfl HR1.out (by omega) (by simp; omega) ?_; intro A3 c3 w3 hown3 hg3 hat3)
                have HC3 : Hid (HalfF rs w (k + 1) A3 c3 w3) := ⟨by rw [HTS.out, HFS.out]; exact hown3, (HB.out.alloc hsz _).grown hg3 (Nat.le_trans hsz (by simp)) (fun g e => (HO.out.lt g e).1)⟩
                have HE3 : Hid (fixE 0 (rs.take (k + 1)) = m - 1) := HTE.out.trans HFM.out
                clear hown3 hg3 hat3 HTS HTE HFS HFM
                go_wp2
                go_roundw
                case rel => exact ⟨k + 1, A3, c3, m - 1, by omega, by omega, by go_num, rfl, rfl, by omega, by omega, HE3, HC3⟩
                case measure => simp [intOf]; omega
          · by_cases hm2 : m < 2
            · skip
              have HOX : Hid (ofx = 2) := by show _ = _; rw [HOF.out, if_pos (by omega)]
              as_aux_lemma =>
                skip
                have HFS : Hid (fs = ⟨2, sx, sy, z2⟩) := by show _ = _; rw [HST.out, HOX.out]; rfl
                have HFM : Hid (fm = m + 1) := by show _ = _; rw [HFN.out, HOX.out]; rfl
                clear HOF HST HFN
                go_upto_region 11 with fail
                have hb1 : Below W7.heap.size W7 (W7.alloc (.cells #[.int .i64 2, .int .i64 0, .int .i64 0, .int .i64 0] 59)) := (Below.refl _ _).alloc (Nat.le_refl _) _
                have hGX : G ≠ W7.heap.size := by omega
                have hXG : W7.heap.size ≠ G := by omega
                have hbX : blk ≠ W7.heap.size := by omega
                have hXb : W7.heap.size ≠ blk := by omega
                replace e3 := (hb1.cell (p := ⟨blk, off + k * 4 + 3, none⟩) hbl).trans e3
                replace hbl := Nat.lt_of_lt_of_le hbl hb1.size
                replace g0 := (hb1.cell (p := ⟨G, 0, none⟩) gz).trans g0
                replace g1 := (hb1.cell (p := ⟨G, 1, none⟩) gz).trans g1
                have s0 : (W7.alloc (.cells #[.int .i64 2, .int .i64 0, .int .i64 0, .int .i64 0] 59)).cell? ⟨W7.heap.size, 0, none⟩ = some (.int .i64 2) := by simp [go_sem]
                have sf0 : (W7.alloc (.cells #[.int .i64 2, .int .i64 0, .int .i64 0, .int .i64 0] 59)).frozen? ⟨W7.heap.size, 0, none⟩ = false := by simp [go_sem]
                have s1 : (W7.alloc (.cells #[.int .i64 2, .int .i64 0, .int .i64 0, .int .i64 0] 59)).cell? ⟨W7.heap.size, 1, none⟩ = some (.int .i64 0) := by simp [go_sem]
                have sf1 : (W7.alloc (.cells #[.int .i64 2, .int .i64 0, .int .i64 0, .int .i64 0] 59)).frozen? ⟨W7.heap.size, 1, none⟩ = false := by simp [go_sem]
                have s2 : (W7.alloc (.cells #[.int .i64 2, .int .i64 0, .int .i64 0, .int .i64 0] 59)).cell? ⟨W7.heap.size, 2, none⟩ = some (.int .i64 0) := by simp [go_sem]
                have sf2 : (W7.alloc (.cells #[.int .i64 2, .int .i64 0, .int .i64 0, .int .i64 0] 59)).frozen? ⟨W7.heap.size, 2, none⟩ = false := by simp [go_sem]
                have s3 : (W7.alloc (.cells #[.int .i64 2, .int .i64 0, .int .i64 0, .int .i64 0] 59)).cell? ⟨W7.heap.size, 3, none⟩ = some (.int .i64 0) := by simp [go_sem]
                have sf3 : (W7.alloc (.cells #[.int .i64 2, .int .i64 0, .int .i64 0, .int .i64 0] 59)).frozen? ⟨W7.heap.size, 3, none⟩ = false := by simp [go_sem]
                have sz8 : W7.heap.size < (W7.alloc (.cells #[.int .i64 2, .int .i64 0, .int .i64 0, .int .i64 0] 59)).heap.size := by simp
                have HXS := Lib.hid (fun (g : Nat) (e : Value.ownBlock (.slice Av k cv) = some g) => (HO.out.lt g e).2)
                have hwX : w.heap.size ≤ W7.heap.size := HB.out.size
                replace HO := Lib.hid (rown_below HO.out hb1)
                replace HB := Lib.hid (HB.out.trans (hb1.mono HB.out.size))
                clear hb1 hbl gz
                generalize (W7.alloc (.cells #[.int .i64 2, .int .i64 0, .int .i64 0, .int .i64 0] 59)) = W8 at *
                generalize W7.heap.size = X8 at *
                go_upto_region 12 with fail
                refine wp_region_held_drew (S := fun w' => w'.cell? ⟨G, 0, none⟩ = some (.int .i64 sx) ∧ w'.cell? ⟨G, 1, none⟩ = some (.int .i64 sy) ∧ w'.cell? ⟨blk, off + k * 4 + 3, none⟩ = some (.int .i64 z)) (by kernel_rfl) ⟨g0, g1, e3⟩ (fun hHeld => ?_)
                refine wpAnyH_take (i := 0) (oi := { dst := some 58, op := Go.Op.fieldAddr 37 (Go.Operand.tmp 7) 0, type := 0, pos := "ref.go:218", after := #[], guard := none }) (v := ?_) rfl (by kernel_rfl) (by kernel_rfl) (by kernel_rfl) (fun _ _ _ h => h) (Or.inl ⟨rfl, ?_⟩) (by assumption) ?_
                rotate_left
                · intro wz hSw; (try dsimp only at hSw); go_simp; try (with_reducible rfl)
                try simp only [Act.put, List.setIfInBounds_toArray, List.set_cons_zero, List.set_cons_succ]
                refine wpAnyH_take (i := 1) (oi := { dst := some 59, op := Go.Op.load 3 (Go.Operand.tmp 58), type := 3, pos := "ref.go:218", after := #[{ on := 0, ground := Go.Ground.data }], guard := none }) (v := ?_) rfl (by kernel_rfl) (by kernel_rfl) (by kernel_rfl) (fun _ _ _ h => h) (Or.inl ⟨rfl, ?_⟩) (by assumption) ?_
                rotate_left
                · intro wz hSw; (try dsimp only at hSw); go_simp; try (with_reducible rfl)
                try simp only [Act.put, List.setIfInBounds_toArray, List.set_cons_zero, List.set_cons_succ]
                refine wpAnyH_take (i := 2) (oi := { dst := some 60, op := Go.Op.fieldAddr 37 (Go.Operand.tmp 7) 1, type := 0, pos := "ref.go:218", after := #[], guard := none }) (v := ?_) rfl (by kernel_rfl) (by kernel_rfl) (by kernel_rfl) (fun _ _ _ h => h) (Or.inl ⟨rfl, ?_⟩) (by assumption) ?_
                rotate_left
                · intro wz hSw; (try dsimp only at hSw); go_simp; try (with_reducible rfl)
                try simp only [Act.put, List.setIfInBounds_toArray, List.set_cons_zero, List.set_cons_succ]
                refine wpAnyH_take (i := 3) (oi := { dst := some 61, op := Go.Op.load 3 (Go.Operand.tmp 60), type := 3, pos := "ref.go:218", after := #[{ on := 2, ground := Go.Ground.data }], guard := none }) (v := ?_) rfl (by kernel_rfl) (by kernel_rfl) (by kernel_rfl) (fun _ _ _ h => h) (Or.inl ⟨rfl, ?_⟩) (by assumption) ?_
                rotate_left
                · intro wz hSw; (try dsimp only at hSw); go_simp; try (with_reducible rfl)
                try simp only [Act.put, List.setIfInBounds_toArray, List.set_cons_zero, List.set_cons_succ]
                refine wpAnyH_take (i := 4) (oi := { dst := some 62, op := Go.Op.move (Go.Operand.tmp 0), type := 22, pos := "ref.go:218", after := #[], guard := none }) (v := ?_) rfl (by kernel_rfl) (by kernel_rfl) (by kernel_rfl) (fun _ _ _ h => h) (Or.inl ⟨rfl, ?_⟩) (by assumption) ?_
                rotate_left
                · intro wz hSw; (try dsimp only at hSw); go_simp; try (with_reducible rfl)
                try simp only [Act.put, List.setIfInBounds_toArray, List.set_cons_zero, List.set_cons_succ]
                refine wpAnyH_take (i := 5) (oi := { dst := some 63, op := Go.Op.move (Go.Operand.tmp 5), type := 3, pos := "ref.go:218", after := #[], guard := none }) (v := ?_) rfl (by kernel_rfl) (by kernel_rfl) (by kernel_rfl) (fun _ _ _ h => h) (Or.inl ⟨rfl, ?_⟩) (by assumption) ?_
                rotate_left
                · intro wz hSw; (try dsimp only at hSw); go_simp; try (with_reducible rfl)
                try simp only [Act.put, List.setIfInBounds_toArray, List.set_cons_zero, List.set_cons_succ]
                refine wpAnyH_take (i := 6) (oi := { dst := some 64, op := Go.Op.indexAddr 22 (Go.Operand.tmp 62) (Go.Operand.tmp 63), type := 0, pos := "ref.go:218", after := #[{ on := 4, ground := Go.Ground.data }, { on := 5, ground := Go.Ground.data }], guard := none }) (v := ?_) rfl (by kernel_rfl) (by kernel_rfl) (by kernel_rfl) (fun _ _ _ h => h) (Or.inl ⟨rfl, ?_⟩) (by assumption) ?_
                rotate_left
                · intro wz hSw; (try dsimp only at hSw); go_simp; try (with_reducible rfl)
                try simp only [Act.put, List.setIfInBounds_toArray, List.set_cons_zero, List.set_cons_succ]
                refine wpAnyH_take (i := 7) (oi := { dst := some 65, op := Go.Op.fieldAddr 59 (Go.Operand.tmp 64) 3, type := 0, pos := "ref.go:218", after := #[{ on := 6, ground := Go.Ground.data }], guard := none }) (v := ?_) rfl (by kernel_rfl) (by kernel_rfl) (by kernel_rfl) (fun _ _ _ h => h) (Or.inl ⟨rfl, ?_⟩) (by assumption) ?_
                rotate_left
                · intro wz hSw; (try dsimp only at hSw); go_simp; try (with_reducible rfl)
                try simp only [Act.put, List.setIfInBounds_toArray, List.set_cons_zero, List.set_cons_succ]
                refine wpAnyH_take (i := 8) (oi := { dst := some 66, op := Go.Op.load 3 (Go.Operand.tmp 65), type := 3, pos := "ref.go:218", after := #[{ on := 7, ground := Go.Ground.data }], guard := none }) (v := ?_) rfl (by kernel_rfl) (by kernel_rfl) (by kernel_rfl) (fun _ _ _ h => h) (Or.inl ⟨rfl, ?_⟩) (by assumption) ?_
                rotate_left
                · intro wz hSw; (try dsimp only at hSw); go_simp; try (with_reducible rfl)
                try simp only [Act.put, List.setIfInBounds_toArray, List.set_cons_zero, List.set_cons_succ]
                refine wpAnyH_take (i := 9) (oi := { dst := some 67, op := Go.Op.convert 3 56 (Go.Operand.tmp 66), type := 56, pos := "ref.go:218", after := #[{ on := 8, ground := Go.Ground.data }], guard := none }) (v := ?_) rfl (by kernel_rfl) (by kernel_rfl) (by kernel_rfl) (fun _ _ _ h => h) (Or.inl ⟨rfl, ?_⟩) (by assumption) ?_
                rotate_left
                · intro wz hSw; (try dsimp only at hSw); go_simp; try (with_reducible rfl)
                try simp only [Act.put, List.setIfInBounds_toArray, List.set_cons_zero, List.set_cons_succ]
                refine wpAnyH_take (i := 10) (oi := { dst := some 68, op := Go.Op.binOp Go.BinOp.rem 56 (Go.Operand.tmp 67) (Go.Operand.const (Go.Value.int Go.IntKind.u64 2001)) 56, type := 56, pos := "ref.go:218", after := #[{ on := 9, ground := Go.Ground.data }], guard := none }) (v := ?_) rfl (by kernel_rfl) (by kernel_rfl) (by kernel_rfl) (fun _ _ _ h => h) (Or.inl ⟨rfl, ?_⟩) (by assumption) ?_
                rotate_left
                · intro wz hSw; (try dsimp only at hSw); go_simp; try (with_reducible rfl)
                try simp only [Act.put, List.setIfInBounds_toArray, List.set_cons_zero, List.set_cons_succ]
                refine wpAnyH_take (i := 11) (oi := { dst := some 69, op := Go.Op.convert 56 3 (Go.Operand.tmp 68), type := 3, pos := "ref.go:218", after := #[{ on := 10, ground := Go.Ground.data }], guard := none }) (v := ?_) rfl (by kernel_rfl) (by kernel_rfl) (by kernel_rfl) (fun _ _ _ h => h) (Or.inl ⟨rfl, ?_⟩) (by assumption) ?_
                rotate_left
                · intro wz hSw; (try dsimp only at hSw); go_simp; try (with_reducible rfl)
                try simp only [Act.put, List.setIfInBounds_toArray, List.set_cons_zero, List.set_cons_succ]
                refine wpAnyH_take (i := 12) (oi := { dst := some 70, op := Go.Op.build 59 #[(0, Go.Operand.const (Go.Value.int Go.IntKind.i64 2)), (1, Go.Operand.tmp 59), (2, Go.Operand.tmp 61), (3, Go.Operand.tmp 69)], type := 59, pos := "ref.go:218", after := #[{ on := 1, ground := Go.Ground.data }, { on := 3, ground := Go.Ground.data }, { on := 11, ground := Go.Ground.data }], guard := none }) (v := ?_) rfl (by kernel_rfl) (by kernel_rfl) (by kernel_rfl) (fun _ _ _ h => h) (Or.inl ⟨rfl, ?_⟩) (by assumption) ?_
                rotate_left
                · intro wz hSw; (try dsimp only at hSw); go_simp; try (with_reducible rfl)
                try simp only [Act.put, List.setIfInBounds_toArray, List.set_cons_zero, List.set_cons_succ]
                refine wpAnyH_ready (rs := [13]) (by kernel_rfl) (by simp) ?_
                refine (AllReadyH.cons (o := { dst := none, op := Go.Op.store 59 (Go.Operand.tmp 8) (Go.Operand.tmp 70), type := 0, pos := "ref.go:218", after := #[{ on := 12, ground := Go.Ground.data }, { on := 0, ground := Go.Ground.phase }, { on := 1, ground := Go.Ground.phase }, { on := 2, ground := Go.Ground.phase }, { on := 3, ground := Go.Ground.phase }, { on := 4, ground := Go.Ground.phase }, { on := 5, ground := Go.Ground.phase }, { on := 6, ground := Go.Ground.phase }, { on := 7, ground := Go.Ground.phase }, { on := 8, ground := Go.Ground.phase }, { on := 9, ground := Go.Ground.phase }, { on := 10, ground := Go.Ground.phase }, { on := 11, ground := Go.Ground.phase }, { on := 12, ground := Go.Ground.phase }], guard := none }) rfl (fun K hK => ?_) AllReadyH.nil)
                go_simp
                try simp only [hz2]
                replace g0 : ((((W8.setCell ⟨X8, 0, none⟩ (.int .i64 2)).setCell ⟨X8, 1, none⟩ (.int .i64 sx)).setCell ⟨X8, 2, none⟩ (.int .i64 sy)).setCell ⟨X8, 3, none⟩ (.int .i64 z2)).drew.cell? ⟨G, 0, none⟩ = some (.int .i64 sx) := by first | (simp [go_sem, g0]; done) | (simp [go_sem, g0, hGX]; done) | (simp [go_sem, g0, hXG]; done) | (simp [go_sem, g0, hGX, hXG]; done)
                replace g1 : ((((W8.setCell ⟨X8, 0, none⟩ (.int .i64 2)).setCell ⟨X8, 1, none⟩ (.int .i64 sx)).setCell ⟨X8, 2, none⟩ (.int .i64 sy)).setCell ⟨X8, 3, none⟩ (.int .i64 z2)).drew.cell? ⟨G, 1, none⟩ = some (.int .i64 sy) := by first | (simp [go_sem, g1]; done) | (simp [go_sem, g1, hGX]; done) | (simp [go_sem, g1, hXG]; done) | (simp [go_sem, g1, hGX, hXG]; done)
                replace e3 : ((((W8.setCell ⟨X8, 0, none⟩ (.int .i64 2)).setCell ⟨X8, 1, none⟩ (.int .i64 sx)).setCell ⟨X8, 2, none⟩ (.int .i64 sy)).setCell ⟨X8, 3, none⟩ (.int .i64 z2)).drew.cell? ⟨blk, off + k * 4 + 3, none⟩ = some (.int .i64 z) := by first | (simp [go_sem, e3]; done) | (simp [go_sem, e3, hbX]; done) | (simp [go_sem, e3, hXb]; done) | (simp [go_sem, e3, hbX, hXb]; done)
                have t0 : ((((W8.setCell ⟨X8, 0, none⟩ (.int .i64 2)).setCell ⟨X8, 1, none⟩ (.int .i64 sx)).setCell ⟨X8, 2, none⟩ (.int .i64 sy)).setCell ⟨X8, 3, none⟩ (.int .i64 z2)).drew.cell? ⟨X8, 0, none⟩ = some (.int .i64 2) := by simp [go_sem, s0]
                have t1 : ((((W8.setCell ⟨X8, 0, none⟩ (.int .i64 2)).setCell ⟨X8, 1, none⟩ (.int .i64 sx)).setCell ⟨X8, 2, none⟩ (.int .i64 sy)).setCell ⟨X8, 3, none⟩ (.int .i64 z2)).drew.cell? ⟨X8, 1, none⟩ = some (.int .i64 sx) := by simp [go_sem, s1]
                have t2 : ((((W8.setCell ⟨X8, 0, none⟩ (.int .i64 2)).setCell ⟨X8, 1, none⟩ (.int .i64 sx)).setCell ⟨X8, 2, none⟩ (.int .i64 sy)).setCell ⟨X8, 3, none⟩ (.int .i64 z2)).drew.cell? ⟨X8, 2, none⟩ = some (.int .i64 sy) := by simp [go_sem, s2]
                have t3 : ((((W8.setCell ⟨X8, 0, none⟩ (.int .i64 2)).setCell ⟨X8, 1, none⟩ (.int .i64 sx)).setCell ⟨X8, 2, none⟩ (.int .i64 sy)).setCell ⟨X8, 3, none⟩ (.int .i64 z2)).drew.cell? ⟨X8, 3, none⟩ = some (.int .i64 z2) := by simp [go_sem, s3]
                replace HO := Lib.hid (rown_below (rown_grown (rown_grown (rown_grown (rown_grown HO.out (grown_set (p := ⟨X8, 0, none⟩) (.int .i64 2)) (Or.inr fun e => by have := HXS.out X8 e; omega)) (grown_set (p := ⟨X8, 1, none⟩) (.int .i64 sx)) (Or.inr fun e => by have := HXS.out X8 e; omega)) (grown_set (p := ⟨X8, 2, none⟩) (.int .i64 sy)) (Or.inr fun e => by have := HXS.out X8 e; omega)) (grown_set (p := ⟨X8, 3, none⟩) (.int .i64 z2)) (Or.inr fun e => by have := HXS.out X8 e; omega)) (below_drewz (Below.refl _ _)))
                replace HB : Hid (Below w.heap.size w ((((W8.setCell ⟨X8, 0, none⟩ (.int .i64 2)).setCell ⟨X8, 1, none⟩ (.int .i64 sx)).setCell ⟨X8, 2, none⟩ (.int .i64 sy)).setCell ⟨X8, 3, none⟩ (.int .i64 z2)).drew) := below_drewz ((((HB.out.setCell (by simpa using hwX) _).setCell (by simpa using hwX) _).setCell (by simpa using hwX) _).setCell (by simpa using hwX) _)
                clear s0 s1 s2 s3 sf0 sf1 sf2 sf3
                generalize ((((W8.setCell ⟨X8, 0, none⟩ (.int .i64 2)).setCell ⟨X8, 1, none⟩ (.int .i64 sx)).setCell ⟨X8, 2, none⟩ (.int .i64 sy)).setCell ⟨X8, 3, none⟩ (.int .i64 z2)).drew = W9 at *
                refine hK.out _ _ ⟨g0, g1, e3⟩ (fun hHeld => ?_)
                clear hK K
                try simp only [Act.put, List.setIfInBounds_toArray, List.set_cons_zero, List.set_cons_succ]
                refine wpAnyH_done (by kernel_rfl) ?_ _
                clear hHeld
                clear g0 g1 e3
                have hsz := HB.out.size
                have HR1 : Hid (RowAt cellsR 4 (W9.alloc (.cells #[.int .i64 2, .int .i64 sx, .int .i64 sy, .int .i64 z2] 59)) (W9.heap.size + 1) (some ⟨W9.heap.size, 0, none⟩) 1 [⟨2, sx, sy, z2⟩]) := one_row rowR (heap_alloc_new W9 _)
                have HO1 := Lib.hid (HO.out.alloc (.cells #[.int .i64 2, .int .i64 sx, .int .i64 sy, .int .i64 z2] 59))
                go_wp2_with (at_builtin; refine wpList_append_row rowR (B := w.heap.size) (v := .slice Av k cv) (n := k) (zs := fixL 0 (rs.take k)) (m := 1) (ys := [⟨2, sx, sy, z2⟩]) rfl _ _ rfl rfl HO1.out rfl HR1.out (by omega) (by simp; omega) ?_; intro A3 c3 w3 hown3 hg3 hat3)
                have HC3 : Hid (HalfF rs w (k + 1) A3 c3 w3) := ⟨by rw [HTS.out, HFS.out]; exact hown3, (HB.out.alloc hsz _).grown hg3 (Nat.le_trans hsz (by simp)) (fun g e => (HO.out.lt g e).1)⟩
                have HE3 : Hid (fixE 0 (rs.take (k + 1)) = m + 1) := HTE.out.trans HFM.out
                clear hown3 hg3 hat3 HTS HTE HFS HFM
                go_wp2
                go_roundw
                case rel => exact ⟨k + 1, A3, c3, m + 1, by omega, by omega, by go_num, rfl, rfl, by omega, by omega, HE3, HC3⟩
                case measure => simp [intOf]; omega
            · skip
              have HOX : Hid (ofx = 6) := by show _ = _; rw [HOF.out, if_neg (by omega)]
              as_aux_lemma =>
                skip
                have HFS : Hid (fs = ⟨6, 0, 0, 0⟩) := by show _ = _; rw [HST.out, HOX.out]; rfl
                have HFM : Hid (fm = m - 1) := by show _ = _; rw [HFN.out, HOX.out]; rfl
                clear HOF HST HFN
                go_upto_region 11 with fail
                have hb1 : Below W7.heap.size W7 (W7.alloc (.cells #[.int .i64 6, .int .i64 0, .int .i64 0, .int .i64 0] 59)) := (Below.refl _ _).alloc (Nat.le_refl _) _
                replace e3 := (hb1.cell (p := ⟨blk, off + k * 4 + 3, none⟩) hbl).trans e3
                replace hbl := Nat.lt_of_lt_of_le hbl hb1.size
                replace g0 := (hb1.cell (p := ⟨G, 0, none⟩) gz).trans g0
                replace g1 := (hb1.cell (p := ⟨G, 1, none⟩) gz).trans g1
                have s0 : (W7.alloc (.cells #[.int .i64 6, .int .i64 0, .int .i64 0, .int .i64 0] 59)).cell? ⟨W7.heap.size, 0, none⟩ = some (.int .i64 6) := by simp [go_sem]
                have sf0 : (W7.alloc (.cells #[.int .i64 6, .int .i64 0, .int .i64 0, .int .i64 0] 59)).frozen? ⟨W7.heap.size, 0, none⟩ = false := by simp [go_sem]
                have s1 : (W7.alloc (.cells #[.int .i64 6, .int .i64 0, .int .i64 0, .int .i64 0] 59)).cell? ⟨W7.heap.size, 1, none⟩ = some (.int .i64 0) := by simp [go_sem]
                have sf1 : (W7.alloc (.cells #[.int .i64 6, .int .i64 0, .int .i64 0, .int .i64 0] 59)).frozen? ⟨W7.heap.size, 1, none⟩ = false := by simp [go_sem]
                have s2 : (W7.alloc (.cells #[.int .i64 6, .int .i64 0, .int .i64 0, .int .i64 0] 59)).cell? ⟨W7.heap.size, 2, none⟩ = some (.int .i64 0) := by simp [go_sem]
                have sf2 : (W7.alloc (.cells #[.int .i64 6, .int .i64 0, .int .i64 0, .int .i64 0] 59)).frozen? ⟨W7.heap.size, 2, none⟩ = false := by simp [go_sem]
                have s3 : (W7.alloc (.cells #[.int .i64 6, .int .i64 0, .int .i64 0, .int .i64 0] 59)).cell? ⟨W7.heap.size, 3, none⟩ = some (.int .i64 0) := by simp [go_sem]
                have sf3 : (W7.alloc (.cells #[.int .i64 6, .int .i64 0, .int .i64 0, .int .i64 0] 59)).frozen? ⟨W7.heap.size, 3, none⟩ = false := by simp [go_sem]
                have sz8 : W7.heap.size < (W7.alloc (.cells #[.int .i64 6, .int .i64 0, .int .i64 0, .int .i64 0] 59)).heap.size := by simp
                have HXS := Lib.hid (fun (g : Nat) (e : Value.ownBlock (.slice Av k cv) = some g) => (HO.out.lt g e).2)
                have hwX : w.heap.size ≤ W7.heap.size := HB.out.size
                replace HO := Lib.hid (rown_below HO.out hb1)
                replace HB := Lib.hid (HB.out.trans (hb1.mono HB.out.size))
                clear hb1 hbl gz
                generalize (W7.alloc (.cells #[.int .i64 6, .int .i64 0, .int .i64 0, .int .i64 0] 59)) = W8 at *
                generalize W7.heap.size = X8 at *
                have t0 := s0
                have t1 := s1
                have t2 := s2
                have t3 := s3
                clear g0 g1 e3
                have hsz := HB.out.size
                have HR1 : Hid (RowAt cellsR 4 (W8.alloc (.cells #[.int .i64 6, .int .i64 0, .int .i64 0, .int .i64 0] 59)) (W8.heap.size + 1) (some ⟨W8.heap.size, 0, none⟩) 1 [⟨6, 0, 0, 0⟩]) := one_row rowR (heap_alloc_new W8 _)
                have HO1 := Lib.hid (HO.out.alloc (.cells #[.int .i64 6, .int .i64 0, .int .i64 0, .int .i64 0] 59))
                go_wp2_with (at_builtin; refine wpList_append_row rowR (B := w.heap.size) (v := .slice Av k cv) (n := k) (zs := fixL 0 (rs.take k)) (m := 1) (ys := [⟨6, 0, 0, 0⟩]) rfl _ _ rfl rfl HO1.out rfl HR1.out (by omega) (by simp; omega) ?_; intro A3 c3 w3 hown3 hg3 hat3)
                have HC3 : Hid (HalfF rs w (k + 1) A3 c3 w3) := ⟨by rw [HTS.out, HFS.out]; exact hown3, (HB.out.alloc hsz _).grown hg3 (Nat.le_trans hsz (by simp)) (fun g e => (HO.out.lt g e).1)⟩
                have HE3 : Hid (fixE 0 (rs.take (k + 1)) = m - 1) := HTE.out.trans HFM.out
                clear hown3 hg3 hat3 HTS HTE HFS HFM
                go_wp2
                go_roundw
                case rel => exact ⟨k + 1, A3, c3, m - 1, by omega, by omega, by go_num, rfl, rfl, by omega, by omega, HE3, HC3⟩
                case measure => simp [intOf]; omega
      · obtain rfl : k = 12 := by omega
        have HT : Hid (rs.take 12 = rs.take 12) := rfl
        have hi1 : ((12 : Nat) : Int) < n := by omega
        obtain ⟨hown, hbel⟩ := (⟨HO.out, HB.out⟩ : _ ∧ _)
        clear hown hbel
        have HBB := HB
        rcases Int.lt_or_eq_of_le hm0 with hmp | hme
        · have HFZ : Hid (fixZ rs = fixL 0 (rs.take 12) ++ List.replicate (m - 1).toNat ⟨6, 0, 0, 0⟩) := by show _ = _; unfold fixZ; rw [HM.out, if_neg (by omega)]
          have hml : (fixL 0 (rs.take 12)).length = 12 := by rw [fixL_len, List.length_take]; have := HLN.out; omega
          have HML := Lib.hid hml
          have hmne : (m == 0) = false := by simp; omega
          clear hml
          go_wp2
          go_loopw [3, 4] (fun v t wq => ∃ (q : Nat) (Aq : Option Addr) (cq : Nat), (q : Int) + 1 ≤ m ∧ t = .int .i64 (m - q) ∧ v = .slice Aq (12 + q) cq ∧ Hid (wq.ownsRow w.heap.size 59 4 (.slice Aq (12 + q) cq) (12 + q) (rowCells cellsR (fixL 0 (rs.take 12) ++ List.replicate q ⟨6, 0, 0, 0⟩))) ∧ Hid (Below w.heap.size w wq)) (fun _ t _ => (intOf t).toNat)
          case atStart => exact ⟨0, Av, cv, by omega, by simp, rfl, by have := HO.out; simpa [Hid] using this, HB.out⟩
          case round =>
            clear HO HB HBB
            obtain ⟨q, Aq, cq, hq, rfl, rfl, HO, HB⟩ := hrel
            by_cases hgo : 1 < m - q
            · have hsz := HB.out.size
              have HR1 : Hid (RowAt cellsR 4 (wr.alloc (.cells #[.int .i64 6, .int .i64 0, .int .i64 0, .int .i64 0] 59)) (wr.heap.size + 1) (some ⟨wr.heap.size, 0, none⟩) 1 [⟨6, 0, 0, 0⟩]) := one_row rowR (heap_alloc_new wr _)
              have HO1 := Lib.hid (HO.out.alloc (.cells #[.int .i64 6, .int .i64 0, .int .i64 0, .int .i64 0] 59))
              go_wp2_with (at_builtin; refine wpList_append_row rowR (B := w.heap.size) (v := .slice Aq (12 + q) cq) (n := 12 + q) (zs := fixL 0 (rs.take 12) ++ List.replicate q ⟨6, 0, 0, 0⟩) (m := 1) (ys := [⟨6, 0, 0, 0⟩]) rfl _ _ rfl rfl HO1.out rfl HR1.out (by omega) (by simp; omega) ?_; intro A3 c3 w3 hown3 hg3 hat3)
              rw [List.append_assoc, ← List.replicate_succ'] at hown3
              have HO3 := Lib.hid hown3
              have HB3 := Lib.hid ((HB.out.alloc hsz (.cells #[.int .i64 6, .int .i64 0, .int .i64 0, .int .i64 0] 59)).grown hg3 (Nat.le_trans hsz (by simp)) (fun g e => (HO.out.lt g e).1))
              clear hown3 hg3 hat3
              go_wp2
              go_roundw
              case rel => exact ⟨q + 1, A3, c3, by omega, by go_num, rfl, HO3, HB3⟩
              case measure => simp [intOf]; omega
            · have hqe : (m - 1).toNat = q := by omega
              rw [hqe] at HFZ
              have HFL : Hid ((fixZ rs).length = 12 + q) := by show _ = _; rw [HFZ.out, List.length_append, HML.out, List.length_replicate]
              go_wp2
              go_ret
              refine ⟨Aq, cq, by rw [HFL.out]; rfl, ?_, HB.out⟩
              rw [HFL.out, HFZ.out]
              exact HO.out
        · have hm0' : m = 0 := hme.symm
          subst hm0'
          have HFZ : Hid (fixZ rs = [⟨1, 0, 0, 0⟩]) := by show _ = _; unfold fixZ; rw [HM.out, if_pos rfl]
          go_wp2
          go_ret
          rw [HFZ.out]
          refine ⟨some ⟨wr.heap.size, 0, none⟩, 1, rfl, ⟨rfl, .inr ⟨wr.heap.size, 1, _, rfl, HB.out.size, heap_alloc_new wr _, Nat.le_refl _, by decide, rfl, rfl⟩⟩, HB.out.alloc HB.out.size _⟩
    · obtain rfl : k = n := by omega
      have HT : Hid (rs.take k = rs.take 12) := by
        show _ = _
        rw [List.take_of_length_le (by have := HLN.out; omega), List.take_of_length_le (by have := HLN.out; omega)]
      rw [HT.out] at HM HO
      have HBB := HB
      rcases Int.lt_or_eq_of_le hm0 with hmp | hme
      · have HFZ : Hid (fixZ rs = fixL 0 (rs.take 12) ++ List.replicate (m - 1).toNat ⟨6, 0, 0, 0⟩) := by show _ = _; unfold fixZ; rw [HM.out, if_neg (by omega)]
        have hml : (fixL 0 (rs.take 12)).length = k := by rw [fixL_len, ← HT.out, List.length_take]; have := HLN.out; omega
        have HML := Lib.hid hml
        have hmne : (m == 0) = false := by simp; omega
        clear hml
        go_wp2
        go_loopw [3, 4] (fun v t wq => ∃ (q : Nat) (Aq : Option Addr) (cq : Nat), (q : Int) + 1 ≤ m ∧ t = .int .i64 (m - q) ∧ v = .slice Aq (k + q) cq ∧ Hid (wq.ownsRow w.heap.size 59 4 (.slice Aq (k + q) cq) (k + q) (rowCells cellsR (fixL 0 (rs.take 12) ++ List.replicate q ⟨6, 0, 0, 0⟩))) ∧ Hid (Below w.heap.size w wq)) (fun _ t _ => (intOf t).toNat)
        case atStart => exact ⟨0, Av, cv, by omega, by simp, rfl, by have := HO.out; simpa [Hid] using this, HB.out⟩
        case round =>
          clear HO HB HBB
          obtain ⟨q, Aq, cq, hq, rfl, rfl, HO, HB⟩ := hrel
          by_cases hgo : 1 < m - q
          · have hsz := HB.out.size
            have HR1 : Hid (RowAt cellsR 4 (wr.alloc (.cells #[.int .i64 6, .int .i64 0, .int .i64 0, .int .i64 0] 59)) (wr.heap.size + 1) (some ⟨wr.heap.size, 0, none⟩) 1 [⟨6, 0, 0, 0⟩]) := one_row rowR (heap_alloc_new wr _)
            have HO1 := Lib.hid (HO.out.alloc (.cells #[.int .i64 6, .int .i64 0, .int .i64 0, .int .i64 0] 59))
            go_wp2_with (at_builtin; refine wpList_append_row rowR (B := w.heap.size) (v := .slice Aq (k + q) cq) (n := k + q) (zs := fixL 0 (rs.take 12) ++ List.replicate q ⟨6, 0, 0, 0⟩) (m := 1) (ys := [⟨6, 0, 0, 0⟩]) rfl _ _ rfl rfl HO1.out rfl HR1.out (by omega) (by simp; omega) ?_; intro A3 c3 w3 hown3 hg3 hat3)
            rw [List.append_assoc, ← List.replicate_succ'] at hown3
            have HO3 := Lib.hid hown3
            have HB3 := Lib.hid ((HB.out.alloc hsz (.cells #[.int .i64 6, .int .i64 0, .int .i64 0, .int .i64 0] 59)).grown hg3 (Nat.le_trans hsz (by simp)) (fun g e => (HO.out.lt g e).1))
            clear hown3 hg3 hat3
            go_wp2
            go_roundw
            case rel => exact ⟨q + 1, A3, c3, by omega, by go_num, rfl, HO3, HB3⟩
            case measure => simp [intOf]; omega
          · have hqe : (m - 1).toNat = q := by omega
            rw [hqe] at HFZ
            have HFL : Hid ((fixZ rs).length = k + q) := by show _ = _; rw [HFZ.out, List.length_append, HML.out, List.length_replicate]
            go_wp2
            go_ret
            refine ⟨Aq, cq, by rw [HFL.out]; rfl, ?_, HB.out⟩
            rw [HFL.out, HFZ.out]
            exact HO.out
      · have hm0' : m = 0 := hme.symm
        subst hm0'
        have HFZ : Hid (fixZ rs = [⟨1, 0, 0, 0⟩]) := by show _ = _; unfold fixZ; rw [HM.out, if_pos rfl]
        go_wp2
        go_ret
        rw [HFZ.out]
        refine ⟨some ⟨wr.heap.size, 0, none⟩, 1, rfl, ⟨rfl, .inr ⟨wr.heap.size, 1, _, rfl, HB.out.size, heap_alloc_new wr _, Nat.le_refl _, by decide, rfl, rfl⟩⟩, HB.out.alloc HB.out.size _⟩
end Go.Proofs.YtkklikkmpmlnbaaDoor
