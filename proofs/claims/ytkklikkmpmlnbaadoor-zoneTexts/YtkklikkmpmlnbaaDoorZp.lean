/- When steps are the same: the document's, and the program's. -/
import Derived.Test.YtkklikkmpmlnbaaDoorZm
import Derived.Test.YtkklikkmpmlnbaaDoorSl
namespace Go.Proofs.YtkklikkmpmlnbaaDoor
open Go.RowKit

theorem ite_ok (p : Prop) [Decidable p] (a : Bool) (w : World) : (if p then Result.ok (Value.bool a) w else Result.ok (Value.bool false) w) = Result.ok (Value.bool (decide p && a)) w := by
  by_cases h : p <;> simp [h]
theorem ite_no (p : Prop) [Decidable p] (a : Bool) (w : World) : (if p then Result.ok (Value.bool false) w else Result.ok (Value.bool a) w) = Result.ok (Value.bool (decide (¬ p) && a)) w := by
  by_cases h : p <;> simp [h]
theorem run_equalIn_complex {P : Program} (w : World) (d : Nat) (t : TypeId) (k k' : FloatKind) (a b a' b' : Nat) (h : P.underlying t = some (.complex k')) : (Op.equalIn (d + 1) t (.complex k a b) (.complex k a' b')).run P w = .ok (Op.floatEq k a a' && Op.floatEq k b b') w := by
  simp [Op.equalIn, run_underlying h]
theorem run_equalIn_float {P : Program} (w : World) (d : Nat) (t : TypeId) (k k' : FloatKind) (a a' : Nat) (h : P.underlying t = some (.float k')) : (Op.equalIn (d + 1) t (.float k a) (.float k a')).run P w = .ok (Op.floatEq k a a') w := by
  simp [Op.equalIn, run_underlying h]
def eqR (i j : RSt) : Bool := (i.op == j.op) && ((i.x == j.x) && ((i.y == j.y) && (i.sz == j.sz)))
theorem eqR_iff (i j : RSt) : eqR i j = true ↔ i = j := by
  obtain ⟨i1, i2, i3, i4⟩ := i
  obtain ⟨j1, j2, j3, j4⟩ := j
  simp [eqR]
set_option maxRecDepth 100000 in
set_option maxHeartbeats 1000000 in
theorem eql_ref (i j : RSt) (w : World) : (binOp .eql 59 (refV i) (refV j)).run Tryd.prog w = .ok (.bool (eqR i j)) w := by
  obtain ⟨i1, i2, i3, i4⟩ := i
  obtain ⟨j1, j2, j3, j4⟩ := j
  unfold refV eqR
  simp only
  rw [run_eql_struct]
  go_simp
  simp only [ite_ok]
  congr 2
  rw [Bool.eq_iff_iff]
  simp
set_option maxRecDepth 100000 in
theorem neq_ref (i j : RSt) (w : World) : (binOp .neq 59 (refV i) (refV j)).run Tryd.prog w = .ok (.bool (!eqR i j)) w := by
  have h := eql_ref i j w
  unfold refV at *
  rw [run_eql_struct] at h
  rw [run_neq_struct]
  generalize (Op.equalIn 10000 59 _ _).run Tryd.prog w = r at *
  rcases r with ⟨b, w'⟩ | ⟨h', w'⟩
  · simp only [Result.andThen] at h ⊢
    injection h with h1 h2
    injection h1 with h1
    subst h1 h2
    rfl
  · simp [Result.andThen] at h
set_option maxRecDepth 100000 in
set_option maxHeartbeats 4000000 in
theorem rsame_any (A : Option Addr) (n c : Nat) (zs : List RSt) (A' : Option Addr) (n' c' : Nat) (ys : List RSt) (B : Nat) (w : World) (hz : RowAt cellsR 4 w B A n zs) (hy : RowAt cellsR 4 w B A' n' ys) (hn : n ≤ 1099511627776) :
    Calls Tryd.prog 19 #[.slice A n c, .slice A' n' c'] w fun e w' => e = .returned (.bool (decide (zs = ys))) ∧ ∃ m, w' = w.drewN m := by
  have HZ := Lib.hid hz
  have HY := Lib.hid hy
  have HL := Lib.hid hz.1
  have HL' := Lib.hid hy.1
  clear hz hy
  by_cases hnn : n = n'
  · subst hnn
    go_enter Tryd.func19, Tryd.ntmps19
    go_wp2
    go_loopw [5] (fun i wr => ∃ (j m : Nat), j ≤ n ∧ i = .int .i64 j ∧ Hid (∀ q, q < j → ∃ x y, zs[q]? = some x ∧ ys[q]? = some y ∧ x = y) ∧ wr = w.drewN m) (fun i _ => n - (intOf i).toNat)
    case atStart => exact ⟨0, 0, by omega, rfl, fun q hq => absurd hq (by omega), rfl⟩
    case round =>
      obtain ⟨j, m, hj, rfl, HE, rfl⟩ := hrel
      by_cases hlt : j < n
      · obtain ⟨b1, o1, rfl, _, x, hx, hc1⟩ := HZ.out.get hlt
        obtain ⟨b2, o2, rfl, _, y, hy, hc2⟩ := HY.out.get hlt
        obtain ⟨e0, e1, e2, e3⟩ := cellsR_at hc1
        obtain ⟨f0, f1, f2, f3⟩ := cellsR_at hc2
        have hi1 : (j : Int) < n := by omega
        have hne := neq_ref x y
        unfold refV at hne
        rcases he : eqR x y with _ | _
        · have HN : Hid (decide (zs = ys) = false) := by
            show _ = _
            rw [decide_eq_false_iff_not]
            rintro rfl
            rw [hx] at hy
            injection hy with hy
            rw [(eqR_iff x y).mpr hy] at he
            cases he
          rw [he] at hne
          clear hc1 hc2 hx hy he HE
          go_wp2
          go_quiet (fail)
          go_wp2
          go_ret
          exact ⟨ret_bool (by rw [HN.out]), ⟨_, World.drewN_drewN _ _ _⟩⟩
        · have HE' : Hid (∀ q, q < j + 1 → ∃ x y, zs[q]? = some x ∧ ys[q]? = some y ∧ x = y) := fun q hq => by
            rcases Nat.lt_or_ge q j with h | h
            · exact HE.out q h
            · obtain rfl : q = j := by omega
              exact ⟨x, y, hx, hy, (eqR_iff x y).mp he⟩
          rw [he] at hne
          clear hc1 hc2 hx hy he HE
          go_wp2
          go_quiet (fail)
          go_wp2
          go_roundw
          case rel => exact ⟨j + 1, _, by omega, by go_num, HE', rfl⟩
          case measure => simp [intOf]; omega
      · obtain rfl : j = n := by omega
        have HT : Hid (decide (zs = ys) = true) := by
          show _ = _
          rw [decide_eq_true_eq]
          refine List.ext_getElem? fun q => ?_
          rcases Nat.lt_or_ge q j with h | h
          · obtain ⟨x, y, h1, h2, h3⟩ := HE.out q h
            rw [h1, h2, h3]
          · rw [List.getElem?_eq_none (by rw [HL.out]; exact h), List.getElem?_eq_none (by rw [HL'.out]; exact h)]
        go_wp2
        go_ret
        exact ⟨ret_bool (by rw [HT.out]), ⟨_, rfl⟩⟩
  · have HF : Hid (decide (zs = ys) = false) := by
      show _ = _
      rw [decide_eq_false_iff_not]
      rintro rfl
      exact hnn (HL.out.symm.trans HL'.out)
    have hnn' : ((n : Int) != n') = true := by simp; omega
    go_enter Tryd.func19, Tryd.ntmps19
    go_wp2
    go_ret
    exact ⟨ret_bool (by rw [HF.out]), ⟨0, rfl⟩⟩

def eqS (a b : Stp) : Bool := (a.op == b.op) && ((Op.floatEq .f64 a.re b.re && Op.floatEq .f64 a.im b.im) && Op.floatEq .f64 a.sz b.sz)
set_option maxRecDepth 100000 in
set_option maxHeartbeats 1000000 in
theorem eql_stp (a b : Stp) (w : World) : (binOp .eql 54 (stpV a) (stpV b)).run Tryd.prog w = .ok (.bool (eqS a b)) w := by
  obtain ⟨a1, a2, a3, a4⟩ := a
  obtain ⟨b1, b2, b3, b4⟩ := b
  have hx := @run_equalIn_complex Tryd.prog
  have hy := @run_equalIn_float Tryd.prog
  unfold stpV eqS
  simp only
  rw [run_eql_struct]
  go_simp
  simp only [ite_ok, ite_no]
  congr 2
  rw [Bool.eq_iff_iff]
  simp [and_assoc]
set_option maxRecDepth 100000 in
theorem neq_stp (a b : Stp) (w : World) : (binOp .neq 54 (stpV a) (stpV b)).run Tryd.prog w = .ok (.bool (!eqS a b)) w := by
  have h := eql_stp a b w
  unfold stpV at *
  rw [run_eql_struct] at h
  rw [run_neq_struct]
  generalize (Op.equalIn 10000 54 _ _).run Tryd.prog w = r at *
  rcases r with ⟨b, w'⟩ | ⟨h', w'⟩
  · simp only [Result.andThen] at h ⊢
    injection h with h1 h2
    injection h1 with h1
    subst h1 h2
    rfl
  · simp [Result.andThen] at h
instance : Inhabited Stp := ⟨⟨0, 0, 0, 0⟩⟩
theorem eqS_like {a b : Stp} {r q : RSt} (h1 : Like a r) (h2 : Like b q) (s1 : SmallR r) (s2 : SmallR q) : eqS a b = decide (r = q) := by
  have e : eqS a b = eqR r q := by
    unfold eqS eqR Op.floatEq
    rw [h1.op, h2.op, num_eql (h1.re.num s1.1) (h2.re.num s2.1), num_eql (h1.im.num s1.2.1) (h2.im.num s2.2.1), num_eql (h1.sz.num s1.2.2) (h2.sz.num s2.2.2)]
    rw [Bool.eq_iff_iff]
    simp [and_assoc]
  rw [e, Bool.eq_iff_iff, eqR_iff, decide_eq_true_eq]
theorem allEq_like : ∀ (zs ys : List Stp) (rs qs : List RSt), LikeL zs rs → LikeL ys qs → (∀ r ∈ rs, SmallR r) → (∀ r ∈ qs, SmallR r) → Lib.allEq eqS zs ys = decide (rs = qs)
  | [], [], rs, qs, h1, h2, _, _ => by
    rw [List.eq_nil_of_length_eq_zero h1.1.symm, List.eq_nil_of_length_eq_zero h2.1.symm]
    rfl
  | [], y :: ys, rs, qs, h1, h2, _, _ => by
    rw [List.eq_nil_of_length_eq_zero h1.1.symm]
    symm
    show decide ([] = qs) = false
    rw [decide_eq_false_iff_not]
    rintro rfl
    exact absurd h2.1 (by simp)
  | z :: zs, [], rs, qs, h1, h2, _, _ => by
    rw [List.eq_nil_of_length_eq_zero h2.1.symm]
    symm
    show decide (rs = []) = false
    rw [decide_eq_false_iff_not]
    rintro rfl
    exact absurd h1.1 (by simp)
  | z :: zs, y :: ys, rs, qs, h1, h2, s1, s2 => by
    obtain ⟨r, rs, rfl⟩ : ∃ r l, rs = r :: l := by
      cases rs with
      | nil => exact absurd h1.1 (by simp)
      | cons r l => exact ⟨r, l, rfl⟩
    obtain ⟨q, qs, rfl⟩ : ∃ r l, qs = r :: l := by
      cases qs with
      | nil => exact absurd h2.1 (by simp)
      | cons r l => exact ⟨r, l, rfl⟩
    have e1 := eqS_like (h1.2 0 z r rfl rfl) (h2.2 0 y q rfl rfl) (s1 r (by simp)) (s2 q (by simp))
    have e2 := allEq_like zs ys rs qs ⟨by simpa using h1.1, fun k a b ha hb => h1.2 (k + 1) a b ha hb⟩ ⟨by simpa using h2.1, fun k a b ha hb => h2.2 (k + 1) a b ha hb⟩ (fun r hr => s1 r (by simp [hr])) (fun r hr => s2 r (by simp [hr]))
    show (eqS z y && Lib.allEq eqS zs ys) = _
    rw [e1, e2, Bool.eq_iff_iff]
    simp
theorem row_bang {w : World} {B b o n : Nat} {zs : List Stp} (h : RowAt cellsZ 3 w B (some ⟨b, o, none⟩) n zs) (hn : 0 < n) : ∀ j, j < zs.length → ∀ i v, (cellsZ zs[j]!)[i]? = some v → w.cell? ⟨b, o + j * 3 + i, none⟩ = some v := by
  obtain ⟨b', o', e, _, hc⟩ := h.2 hn
  injection e with e
  injection e with e1 e2
  subst e1 e2
  intro j hj i v hv
  rw [getElem!_pos zs j hj] at hv
  exact hc j hj i v hv
set_option maxRecDepth 100000 in
set_option maxHeartbeats 1000000 in
theorem zsame_any (b1 o1 n c b2 o2 m d : Nat) (zs ys : List Stp) (rs qs : List RSt) (B : Nat) (w : World) (hz : RowAt cellsZ 3 w B (some ⟨b1, o1, none⟩) n zs) (hy : RowAt cellsZ 3 w B (some ⟨b2, o2, none⟩) m ys) (hn : 0 < n) (hm : 0 < m) (hn' : n ≤ 1099511627776) (hm' : m ≤ 1099511627776)
    (h1 : LikeL zs rs) (h2 : LikeL ys qs) (s1 : ∀ r ∈ rs, SmallR r) (s2 : ∀ r ∈ qs, SmallR r) :
    Calls Tryd.prog 18 #[.slice (some ⟨b1, o1, none⟩) n c, .slice (some ⟨b2, o2, none⟩) m d] w fun e w' => e = .returned (.bool (decide (rs = qs))) ∧ ∃ q, w' = w.drewN q := by
  have hE := Tryd.slices_Equal 3 (fun w => Tryd.isAgg54 w) (fun w => Tryd.sizeOf54 w) cellsZ (fun _ => rfl) eqS ⟨fun x y w => neq_stp x y w, GuardAt.agg _ (by kernel_rfl)⟩ b1 o1 n c b2 o2 m d zs ys w (by rw [hz.1]; omega) (by rw [hy.1]; omega) (by omega) (by omega) (row_bang hz hn) (row_bang hy hm)
  rw [List.take_of_length_le (by rw [hz.1]; omega), List.take_of_length_le (by rw [hy.1]; omega), allEq_like zs ys rs qs h1 h2 s1 s2] at hE
  have HE := Lib.hid hE
  clear hE hz hy h1 h2 s1 s2
  go_enter Tryd.func18, Tryd.ntmps18
  go_wp2_with fail
  refine HE.out.mono ?_
  rintro e w1 ⟨rfl, q, rfl⟩
  go_wp2
  go_ret
  exact ⟨rfl, q, rfl⟩
end Go.Proofs.YtkklikkmpmlnbaaDoor
