/- zone.truth: what a step puts. -/
import Derived.Test.YtkklikkmpmlnbaaDoorZb
namespace Go.Proofs.YtkklikkmpmlnbaaDoor
open Go.RowKit

theorem quiet_same {P : Program} {f : FuncId} {args : Array Value} {w : World} {n : Nat} {v : Value} (h : Calls P f args (w.drewN n) fun e w' => e = .returned v ∧ w.drewN n = w') : Calls P f args (w.drewN n) fun e w'' => e = .returned v ∧ ∃ m, w'' = w.drewN m :=
  h.mono fun _ _ ⟨he, hm⟩ => ⟨he, n, hm.symm⟩
theorem below_via {B : Nat} {a w W w1 : World} (h : Below B a w) (hb : Below W.heap.size W w1) (hB : B ≤ w.heap.size) (hs : W.os = w.os ∧ W.tape = w.tape ∧ W.output = w.output ∧ W.heap = w.heap) : Below B a w1 := by
  obtain ⟨h1, h2, h3, h4⟩ := hs
  exact ⟨hb.os.trans (h1.trans h.os), hb.tape.trans (h2.trans h.tape), hb.output.trans (h3.trans h.output), Nat.le_trans h.size (by rw [← h4]; exact hb.size), fun k hk => (hb.block k (by rw [h4]; omega)).trans (by rw [h4]; exact h.block k hk)⟩
theorem below_dN {B : Nat} {a w : World} (h : Below B a w) (n : Nat) : Below B a (w.drewN n) := ⟨h.os, h.tape, h.output, h.size, h.block⟩
def cellsB (b : Bool) : List Value := [.bool b]
/-- What a step puts, of those that it takes. -/
def truthF (r : RSt) (ts : List Bool) (px py : Int) : Bool :=
  if r.op = 2 then decide ((px - r.x) * (px - r.x) + (py - r.y) * (py - r.y) ≤ r.sz * r.sz)
  else if r.op = 3 then decide (r.sz ≤ px * r.x + py * r.y)
  else if r.op = 4 then !ts.getD 0 false
  else if r.op = 5 then ts.getD 0 false && ts.getD 1 false
  else if r.op = 6 then ts.getD 0 false || ts.getD 1 false
  else true
theorem within_iff {n lo hi : Int} : withinF n lo hi = true ↔ lo ≤ n ∧ n ≤ hi := by unfold withinF; simp
theorem whole_iff {x y : Int} : wholeF x y = true ↔ (-1000 ≤ x ∧ x ≤ 1000) ∧ (-1000 ≤ y ∧ y ≤ 1000) := by unfold wholeF; rw [Bool.and_eq_true, within_iff, within_iff]
theorem sub_num {a b c d : Nat} {p q r s : Int} (ha : Num a p) (hb : Num b q) (hc : Num c r) (hd : Num d s) (h1 : p.natAbs < 2 ^ 52) (h2 : q.natAbs < 2 ^ 52) (h3 : r.natAbs < 2 ^ 52) (h4 : s.natAbs < 2 ^ 52) :
    ∃ re im, cSumBits .sub .f64 a b c d = some (re, im) ∧ Num re (p - r) ∧ Num im (q - s) := by
  obtain ⟨re, e1, n1⟩ := num_sub ha hc (by omega)
  obtain ⟨im, e2, n2⟩ := num_sub hb hd (by omega)
  exact ⟨re, im, by unfold cSumBits; simp [e1, e2], n1, n2⟩
theorem bool_at {w : World} {B : Nat} {A : Option Addr} {m : Nat} {ts : List Bool} (h : RowAt cellsB 1 w B A m ts) {k : Nat} (hk : k < m) : ∃ b o, A = some ⟨b, o, none⟩ ∧ b < B ∧ w.cell? ⟨b, o + k, none⟩ = some (.bool (ts.getD k false)) := by
  obtain ⟨b, o, e, hlt, z, hz, hc⟩ := h.get hk
  refine ⟨b, o, e, hlt, ?_⟩
  have := hc 0 (.bool z) rfl
  rw [show ts.getD k false = z by rw [List.getD_eq_getElem?_getD, hz]; rfl]
  simpa using this

set_option maxRecDepth 100000 in
set_option maxHeartbeats 4000000 in
theorem truth_any (s : Stp) (r : RSt) (h : Like s r) (hf : fitsR r = true) (pre pim : Nat) (px py : Int) (h1 : Num pre px) (h2 : Num pim py) (hp : wholeF px py = true) (A : Option Addr) (m c : Nat) (ts : List Bool) (B : Nat) (w : World) (hB : B ≤ w.heap.size) (hr : RowAt cellsB 1 w B A m ts) (hm : takesF r.op ≤ m) :
    Calls Tryd.prog 41 #[stpV s, .slice A m c, .complex .f64 pre pim] w fun e w' => e = .returned (.bool (truthF r ts px py)) ∧ Below w.heap.size w w' := by
  obtain ⟨op, re, im, sz⟩ := s
  obtain ⟨rop, x, y, z⟩ := r
  obtain ⟨rfl, n1, n2, n3⟩ := h
  simp only at n1 n2 n3 hm
  obtain ⟨⟨p1, p2⟩, p3, p4⟩ := whole_iff.mp hp
  unfold stpV
  simp only
  by_cases h2' : op = 2
  · subst h2'
    have hf' : (wholeF x y && withinF z 0 2000) = true := hf
    rw [Bool.and_eq_true, whole_iff, within_iff] at hf'
    obtain ⟨⟨⟨q1, q2⟩, q3, q4⟩, q5, q6⟩ := hf'
    replace n1 := n1.num (by unfold Small; omega)
    replace n2 := n2.num (by unfold Small; omega)
    replace n3 := n3.num (by unfold Small; omega)
    obtain ⟨dre, dim, es, m1, m2⟩ := sub_num h1 h2 n1 n2 (by omega) (by omega) (by omega) (by omega)
    obtain ⟨pr, pi, ep, m3⟩ := product_num m1 m2 m1 m2 (by omega) (by omega) (by omega) (by omega)
    have hzz : (z * z).natAbs < 2 ^ 53 := by
      rw [Int.natAbs_mul]
      have : z.natAbs ≤ 2000 := by omega
      calc z.natAbs * z.natAbs ≤ 2000 * 2000 := Nat.mul_le_mul this this
        _ < 2 ^ 53 := by decide
    obtain ⟨sq, eq, m4⟩ := num_mul n3 n3 hzz
    have hleq := num_leq m3 m4
    have HP := Lib.hid (product_any dre dim dre dim pr pi ep)
    have hsub := fun w => run_complex_sum (P := Tryd.prog) w .sub (Or.inr rfl) 41 .f64 pre pim re im dre dim es
    have hmul := fun w => run_float_arith (P := Tryd.prog) w .mul 47 .f64 sz sz sq eq
    have HF : Hid (truthF ⟨2, x, y, z⟩ ts px py = decide ((px - x) * (px - x) + (py - y) * (py - y) ≤ z * z)) := rfl
    generalize truthF ⟨2, x, y, z⟩ ts px py = R at *
    generalize decide ((px - x) * (px - x) + (py - y) * (py - y) ≤ z * z) = T at *
    clear n1 n2 n3 h1 h2 hp hm hr hf m1 m2 m3 m4 es ep eq hzz q1 q2 q3 q4 q5 q6 p1 p2 p3 p4
    go_enter Tryd.func41, Tryd.ntmps41
    go_upto_region 3 with fail
    have k0 : (w.alloc (.cells #[.int .i64 2, .complex .f64 re im, .float .f64 sz] 54)).cell? ⟨w.heap.size, 0, none⟩ = some (.int .i64 2) := by simp [go_sem]
    have k1 : (w.alloc (.cells #[.int .i64 2, .complex .f64 re im, .float .f64 sz] 54)).cell? ⟨w.heap.size, 1, none⟩ = some (.complex .f64 re im) := by simp [go_sem]
    have k2 : (w.alloc (.cells #[.int .i64 2, .complex .f64 re im, .float .f64 sz] 54)).cell? ⟨w.heap.size, 2, none⟩ = some (.float .f64 sz) := by simp [go_sem]
    have HB : Hid (Below w.heap.size w (w.alloc (.cells #[.int .i64 2, .complex .f64 re im, .float .f64 sz] 54))) := (Below.refl _ _).alloc (Nat.le_refl _) _
    generalize (w.alloc (.cells #[.int .i64 2, .complex .f64 re im, .float .f64 sz] 54)) = W1 at *
    go_quiet ((go_at_call 53; exact quiet_same (HP.out _)))
    go_wp2
    go_ret
    exact ⟨ret_bool HF.out.symm, below_dN HB.out _⟩
  by_cases h3' : op = 3
  · subst h3'
    clear h2'
    have hf' : (wholeF x y && withinF z (-2000000) 2000000) = true := hf
    rw [Bool.and_eq_true, whole_iff, within_iff] at hf'
    obtain ⟨⟨⟨q1, q2⟩, q3, q4⟩, q5, q6⟩ := hf'
    replace n1 := n1.num (by unfold Small; omega)
    replace n2 := n2.num (by unfold Small; omega)
    replace n3 := n3.num (by unfold Small; omega)
    obtain ⟨pr, pi, ep, m3⟩ := product_num h1 h2 n1 n2 (by omega) (by omega) (by omega) (by omega)
    have hgeq := num_geq m3 n3
    have HP := Lib.hid (product_any pre pim re im pr pi ep)
    have HF : Hid (truthF ⟨3, x, y, z⟩ ts px py = decide (z ≤ px * x + py * y)) := rfl
    generalize truthF ⟨3, x, y, z⟩ ts px py = R at *
    generalize decide (z ≤ px * x + py * y) = T at *
    clear n1 n2 n3 h1 h2 hp hm hr hf m3 ep q1 q2 q3 q4 q5 q6 p1 p2 p3 p4
    go_enter Tryd.func41, Tryd.ntmps41
    go_upto_region 5 with fail
    have k0 : (w.alloc (.cells #[.int .i64 3, .complex .f64 re im, .float .f64 sz] 54)).cell? ⟨w.heap.size, 0, none⟩ = some (.int .i64 3) := by simp [go_sem]
    have k1 : (w.alloc (.cells #[.int .i64 3, .complex .f64 re im, .float .f64 sz] 54)).cell? ⟨w.heap.size, 1, none⟩ = some (.complex .f64 re im) := by simp [go_sem]
    have k2 : (w.alloc (.cells #[.int .i64 3, .complex .f64 re im, .float .f64 sz] 54)).cell? ⟨w.heap.size, 2, none⟩ = some (.float .f64 sz) := by simp [go_sem]
    have HB : Hid (Below w.heap.size w (w.alloc (.cells #[.int .i64 3, .complex .f64 re im, .float .f64 sz] 54))) := (Below.refl _ _).alloc (Nat.le_refl _) _
    generalize (w.alloc (.cells #[.int .i64 3, .complex .f64 re im, .float .f64 sz] 54)) = W1 at *
    go_quiet ((go_at_call 53; exact quiet_same (HP.out _)))
    go_wp2
    go_ret
    exact ⟨ret_bool HF.out.symm, below_dN HB.out _⟩
  clear n1 n2 n3 h1 h2 hp hf p1 p2 p3 p4
  by_cases h4 : op = 4
  · subst h4
    have hm1 : 0 < m := by have : takesF 4 = 1 := rfl; omega
    obtain ⟨b, o, rfl, hb, c0⟩ := bool_at hr hm1
    have hm1' : (0 : Int) < m := by omega
    have HF : Hid (truthF ⟨4, x, y, z⟩ ts px py = !ts.getD 0 false) := rfl
    generalize truthF ⟨4, x, y, z⟩ ts px py = R at *
    generalize ts.getD 0 false = T at *
    clear hr hm h2' h3'
    have hbw : b < w.heap.size := by omega
    have c0' : (w.alloc (.cells #[.int .i64 4, .complex .f64 re im, .float .f64 sz] 54)).cell? ⟨b, o, none⟩ = some (.bool T) := (((Below.refl w.heap.size w).alloc (Nat.le_refl _) _).cell (p := ⟨b, o, none⟩) hbw).trans c0
    go_enter Tryd.func41, Tryd.ntmps41
    go_wp2
    go_ret
    exact ⟨ret_bool HF.out.symm, (Below.refl _ _).alloc (Nat.le_refl _) _⟩
  by_cases h5 : op = 5
  · subst h5
    have hm1 : 1 < m := by have : takesF 5 = 2 := rfl; omega
    obtain ⟨b, o, rfl, hb, c0⟩ := bool_at hr (k := 0) (by omega)
    obtain ⟨b', o', e', _, c1⟩ := bool_at hr hm1
    obtain ⟨rfl, rfl⟩ : b = b' ∧ o = o' := by injection e' with e'; injection e' with e1 e2; exact ⟨e1, e2⟩
    have hm1' : (1 : Int) < m := by omega
    have hm0' : (0 : Int) < m := by omega
    have HF : Hid (truthF ⟨5, x, y, z⟩ ts px py = (ts.getD 0 false && ts.getD 1 false)) := rfl
    generalize truthF ⟨5, x, y, z⟩ ts px py = R at *
    generalize ts.getD 0 false = T at *
    generalize ts.getD 1 false = U at *
    clear hr hm h2' h3' h4 e'
    have hbw : b < w.heap.size := by omega
    have c0' : (w.alloc (.cells #[.int .i64 5, .complex .f64 re im, .float .f64 sz] 54)).cell? ⟨b, o, none⟩ = some (.bool T) := (((Below.refl w.heap.size w).alloc (Nat.le_refl _) _).cell (p := ⟨b, o, none⟩) hbw).trans c0
    have c1' : (w.alloc (.cells #[.int .i64 5, .complex .f64 re im, .float .f64 sz] 54)).cell? ⟨b, o + 1, none⟩ = some (.bool U) := (((Below.refl w.heap.size w).alloc (Nat.le_refl _) _).cell (p := ⟨b, o + 1, none⟩) hbw).trans c1
    cases T
    all_goals
      go_enter Tryd.func41, Tryd.ntmps41
      go_wp2
      go_ret
      exact ⟨ret_bool (by rw [HF.out]; rfl), (Below.refl _ _).alloc (Nat.le_refl _) _⟩
  by_cases h6 : op = 6
  · subst h6
    have hm1 : 1 < m := by have : takesF 6 = 2 := rfl; omega
    obtain ⟨b, o, rfl, hb, c0⟩ := bool_at hr (k := 0) (by omega)
    obtain ⟨b', o', e', _, c1⟩ := bool_at hr hm1
    obtain ⟨rfl, rfl⟩ : b = b' ∧ o = o' := by injection e' with e'; injection e' with e1 e2; exact ⟨e1, e2⟩
    have hm1' : (1 : Int) < m := by omega
    have hm0' : (0 : Int) < m := by omega
    have HF : Hid (truthF ⟨6, x, y, z⟩ ts px py = (ts.getD 0 false || ts.getD 1 false)) := rfl
    generalize truthF ⟨6, x, y, z⟩ ts px py = R at *
    generalize ts.getD 0 false = T at *
    generalize ts.getD 1 false = U at *
    clear hr hm h2' h3' h4 h5 e'
    have hbw : b < w.heap.size := by omega
    have c0' : (w.alloc (.cells #[.int .i64 6, .complex .f64 re im, .float .f64 sz] 54)).cell? ⟨b, o, none⟩ = some (.bool T) := (((Below.refl w.heap.size w).alloc (Nat.le_refl _) _).cell (p := ⟨b, o, none⟩) hbw).trans c0
    have c1' : (w.alloc (.cells #[.int .i64 6, .complex .f64 re im, .float .f64 sz] 54)).cell? ⟨b, o + 1, none⟩ = some (.bool U) := (((Below.refl w.heap.size w).alloc (Nat.le_refl _) _).cell (p := ⟨b, o + 1, none⟩) hbw).trans c1
    cases T
    all_goals
      go_enter Tryd.func41, Tryd.ntmps41
      go_wp2
      go_ret
      exact ⟨ret_bool (by rw [HF.out]; rfl), (Below.refl _ _).alloc (Nat.le_refl _) _⟩
  have HF : Hid (truthF ⟨op, x, y, z⟩ ts px py = true) := by
    show _ = _
    unfold truthF
    simp only
    rw [if_neg h2', if_neg h3', if_neg h4, if_neg h5, if_neg h6]
  clear hr hm
  go_enter Tryd.func41, Tryd.ntmps41
  go_wp2
  go_ret
  exact ⟨ret_bool HF.out.symm, (Below.refl _ _).alloc (Nat.le_refl _) _⟩
end Go.Proofs.YtkklikkmpmlnbaaDoor
