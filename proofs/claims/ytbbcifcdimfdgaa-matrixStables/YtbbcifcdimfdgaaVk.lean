/- The document's put: one is just so far. -/
import Derived.Test.YtbbcifcdimfdgaaVj
import Derived.BigRegion
namespace Go.Proofs.Ytbbcifcdimfdgaa
open Go.RowKit

theorem own_set {w : World} {B : Nat} {e : TypeId} {g n c : Nat} {xs : List Value} (h : w.ownsRow B e 2 (.slice (some ⟨g, 0, none⟩) n c) n xs) (j : Nat) (u : Value) : (w.setCell ⟨g, j, none⟩ u).ownsRow B e 2 (.slice (some ⟨g, 0, none⟩) n c) n (xs.set j u) := by
  refine ⟨by rw [List.length_set]; exact h.1, ?_⟩
  rcases h.2 with ⟨hv, _⟩ | ⟨g', cap, cur, hv, hB, hh, hnc, hm, hs, ht⟩
  · cases hv
  · injection hv with e1 _ e3
    injection e1 with e1
    injection e1 with e1
    subst e1 e3
    refine .inr ⟨g, c, cur.setIfInBounds j u, rfl, hB, heap_setCell_same w g j cur e u hh, hnc, hm, by simp [hs], ?_⟩
    rw [Array.toList_setIfInBounds, ← ht, List.take_set]
theorem own_frozen {w : World} {B : Nat} {e : TypeId} {g n c : Nat} {xs : List Value} (h : w.ownsRow B e 2 (.slice (some ⟨g, 0, none⟩) n c) n xs) (j : Nat) : w.frozen? ⟨g, j, none⟩ = false := by
  rcases h.2 with ⟨hv, _⟩ | ⟨g', cap, cur, hv, hB, hh, hnc, hm, hs, ht⟩
  · cases hv
  · injection hv with e1 _ e3
    injection e1 with e1
    injection e1 with e1
    subst e1
    simp [World.frozen?, hh]
theorem set_mid {α : Type} (P : List α) (a b c d : α) (S : List α) (a' b' c' d' : α) :
    ((((P ++ a :: b :: c :: d :: S).set P.length c').set (P.length + 1) d').set (P.length + 2) a').set (P.length + 3) b' = P ++ c' :: d' :: a' :: b' :: S := by
  induction P with
  | nil => rfl
  | cons x P ih => simp
theorem swap_cells (pre post : List At) (x y : At) :
    ((((atCells (pre ++ y :: x :: post)).set (pre.length * 2) (.string x.1)).set (pre.length * 2 + 1) (.int .i64 x.2)).set (pre.length * 2 + 2) (.string y.1)).set (pre.length * 2 + 3) (.int .i64 y.2) = atCells (pre ++ x :: y :: post) := by
  have e1 : atCells (pre ++ y :: x :: post) = atCells pre ++ .string y.1 :: .int .i64 y.2 :: .string x.1 :: .int .i64 x.2 :: atCells post := by rw [atCells_append]; rfl
  have e2 : atCells (pre ++ x :: y :: post) = atCells pre ++ .string x.1 :: .int .i64 x.2 :: .string y.1 :: .int .i64 y.2 :: atCells post := by rw [atCells_append]; rfl
  rw [e1, e2, ← atCells_length]
  exact set_mid _ _ _ _ _ _ _ _ _ _

/-- The one that is put has gone left past post. -/
def PutRel (w : World) (d : List At) (x : At) (g N c : Nat) (pre post : List At) (wr : World) : Prop :=
  pre ++ post = d ∧ (∀ y ∈ post, 0 < cmpId y.1 x.1) ∧ wr.ownsRow w.heap.size 76 2 (.slice (some ⟨g, 0, none⟩) N c) N (atCells (pre ++ x :: post)) ∧ Below w.heap.size w wr
/-- What put leaves: the one stands where those behind it are greater, and the one ahead of it isn't. -/
def PutIs (d : List At) (x : At) (r : List At) : Prop :=
  ∃ pre post, pre ++ post = d ∧ r = pre ++ x :: post ∧ (∀ y ∈ post, 0 < cmpId y.1 x.1) ∧ (∀ y, pre.getLast? = some y → cmpId y.1 x.1 ≤ 0)

theorem PutRel.len {w : World} {d : List At} {x : At} {g N c : Nat} {pre post : List At} {wr : World} (h : PutRel w d x g N c pre post wr) : pre.length + 1 + post.length = N := by
  have := h.2.2.1.1
  rw [atCells_length] at this
  simp at this
  omega

theorem put_facts {w : World} {d : List At} {x y : At} {g N c : Nat} {pre post : List At} {wr : World} (h : PutRel w d x g N c (pre ++ [y]) post wr) {k : Nat} (hk : k = pre.length + 1) :
    (wr.cell? ⟨g, (k - 1) * 2, none⟩ = some (.string y.1) ∧ wr.cell? ⟨g, (k - 1) * 2 + 1, none⟩ = some (.int .i64 y.2)) ∧ (wr.cell? ⟨g, k * 2, none⟩ = some (.string x.1) ∧ wr.cell? ⟨g, k * 2 + 1, none⟩ = some (.int .i64 x.2)) ∧ g < wr.heap.size ∧ w.heap.size ≤ g := by
  have hv := own_vec h.2.2.1
  have hl := h.len
  simp at hl
  obtain ⟨b, off, e, hlt, hc⟩ := hv.2 (by omega)
  injection e with e
  injection e with e1 e2
  subst e1 e2
  have h1 := hc (k - 1) (by omega)
  have h2 := hc k (by omega)
  subst hk
  have g1 : (pre ++ [y] ++ x :: post).getD (pre.length + 1 - 1) atNil = y := by
    rw [List.getD_eq_getElem?_getD]; simp
  have g2 : (pre ++ [y] ++ x :: post).getD (pre.length + 1) atNil = x := by
    rw [List.getD_eq_getElem?_getD]; simp
  rw [g1] at h1
  rw [g2] at h2
  simp only [Nat.zero_add] at h1 h2
  exact ⟨h1, h2, hlt, (own_lt h.2.2.1 rfl).1⟩

theorem put_swap {w : World} {d : List At} {x y : At} {g N c : Nat} {pre post : List At} {wr wq w' : World} (h : PutRel w d x g N c (pre ++ [y]) post wr) {k : Nat} (hk : k = pre.length + 1) (hp : ∀ v ∈ y :: post, 0 < cmpId v.1 x.1)
    (hq : wq.heap = wr.heap ∧ wq.os = wr.os ∧ wq.tape = wr.tape ∧ wq.output = wr.output)
    (hw : w' = ((((wq.setCell ⟨g, (k - 1) * 2, none⟩ (.string x.1)).setCell ⟨g, (k - 1) * 2 + 1, none⟩ (.int .i64 x.2)).setCell ⟨g, k * 2, none⟩ (.string y.1)).setCell ⟨g, k * 2 + 1, none⟩ (.int .i64 y.2)).drew) :
    PutRel w d x g N c pre (y :: post) w' := by
  obtain ⟨h1, h2, h3, h4⟩ := h
  have hbq : Below wr.heap.size wr wq := ⟨hq.2.1, hq.2.2.1, hq.2.2.2, by rw [hq.1]; exact Nat.le_refl _, fun k _ => by rw [hq.1]⟩
  have hg := (own_lt h3 (show Value.ownBlock _ = some g from rfl)).1
  have h5 := own_below h3 hbq
  have h6 := own_set (own_set (own_set (own_set h5 ((k - 1) * 2) (.string x.1)) ((k - 1) * 2 + 1) (.int .i64 x.2)) (k * 2) (.string y.1)) (k * 2 + 1) (.int .i64 y.2)
  have e1 : (k - 1) * 2 = pre.length * 2 := by omega
  have e2 : k * 2 = pre.length * 2 + 2 := by omega
  rw [e1, e2] at h6
  rw [show pre.length * 2 + 2 + 1 = pre.length * 2 + 3 by omega, show pre ++ [y] ++ x :: post = pre ++ y :: x :: post by simp, swap_cells] at h6
  subst hw
  rw [e1, e2]
  refine ⟨by rw [← h1]; simp, hp, h6.drew, ?_⟩
  exact (((((h4.trans (hbq.mono h4.size)).setCell (p := ⟨g, pre.length * 2, none⟩) hg _).setCell (p := ⟨g, pre.length * 2 + 1, none⟩) hg _).setCell (p := ⟨g, pre.length * 2 + 2, none⟩) hg _).setCell (p := ⟨g, pre.length * 2 + 2 + 1, none⟩) hg _).drew

set_option maxRecDepth 100000 in
set_option maxHeartbeats 8000000 in
theorem put_loop (A : Option Addr) (n c : Nat) (zs : List At) (a : ByteArray) (z : Int) (B : Nat) (w : World) (hB : B ≤ w.heap.size) (hz : VecAt w B A n zs) (hn : n ≤ 1000000) (h1 : 1 ≤ z) (hsh : Short zs) :
    Calls Try.prog 42 #[.slice A n c, .string a, .int .i64 z] w fun e w' => ∃ r, PutIs (dropF zs a) (a, z) r ∧ OwnVec w.heap.size 76 r w e w' := by
  have HZ := Lib.hid hz
  have HSH := Lib.hid hsh
  have hlen : (dropF zs a).length ≤ 1000000 := by have := dropF_len zs a; have := hz.1; omega
  have h1' : ¬ z < 1 := by omega
  clear hz hsh
  go_enter Try.func42, Try.ntmps42
  go_wp2_with fail
  refine (rdrop_any A n c zs a B _ hB HZ.out (by omega)).mono ?_
  generalize hd : dropF zs a = d at hlen
  have HD := Lib.hid hd
  clear hd
  rintro e w1 ⟨A1, c1, rfl, hc1, ho1, hb1⟩
  have HO1 := Lib.hid ho1
  have HB1 := Lib.hid hb1
  have hs1 : w.heap.size ≤ w1.heap.size := hb1.size
  clear ho1 hb1 hc1
  go_wp2_with (at_builtin; refine wpList_append_at (B := w.heap.size) (v := .slice A1 d.length c1) (n := d.length) (zs := d) (m := 1) (ys := [(a, z)]) refTy rfl _ _ rfl rfl (HO1.out.alloc _) rfl (one_at (heap_alloc_new w1 _)) (by omega) (by simp; omega) ?_; intro A3 c3 w3 hown3 hg3 hat3; have HB3 : Hid (Below w.heap.size w w3) := (HB1.out.alloc hs1 _).trans (grown_below hg3 (by simp; omega) (fun g e => (own_lt HO1.out e).1)); have HO3 := Lib.hid hown3; clear hown3 hg3 hat3)
  obtain ⟨g, c4, hform, hgB, hglt⟩ := HO3.out.form (by omega)
  injection hform with hA hn3 hc3
  subst hA hc3
  go_loopw [8] (fun i wr => ∃ (k : Nat) (pre post : List At), pre.length = k ∧ k ≤ 1000000 ∧ i = .int .i64 k ∧ Hid (PutRel w d (a, z) g (d.length + 1) c3 pre post wr)) (fun i _ => (intOf i).toNat)
  case atStart => exact ⟨d.length, d, [], rfl, hlen, rfl, by simp, (fun y hy => by simp at hy), HO3.out, HB3.out⟩
  case round =>
    obtain ⟨k, pre, post, hpk, hk, rfl, HP⟩ := hrel
    by_cases h0 : k = 0
    · have hgd : decide (0 < k) = false := by simp; omega
      have hpre : pre = [] := List.eq_nil_of_length_eq_zero (by omega)
      subst hpre
      have HR : Hid (PutIs d (a, z) ((a, z) :: post)) := ⟨[], post, HP.out.1, rfl, HP.out.2.1, fun y hy => by simp at hy⟩
      have HLn : Hid (((a, z) :: post).length = d.length + 1) := by show _ = _; have := HP.out.len; simp at this ⊢; omega
      clear h0 hpk
      go_wp2_with fail
      go_quiet (fail)
      go_wp2
      go_ret
      exact ⟨_, by rw [HD.out]; exact HR.out, ownVec_ret HLn.out (own_cap HP.out.2.2.1) (own_below HP.out.2.2.1 (below_drewN (Below.refl _ _) _)) (below_drewN HP.out.2.2.2 _)⟩
    · rcases List.eq_nil_or_concat pre with e | ⟨pre', y, e⟩
      · subst e; simp at hpk; omega
      · rw [List.concat_eq_append] at e
        subst e
        have hk' : k = pre'.length + 1 := by simpa using hpk.symm
        obtain ⟨⟨hy0, hy1⟩, ⟨hx0, hx1⟩, hglt2, hgw⟩ := put_facts HP.out hk'
        have hN := HP.out.len
        simp at hN
        have hyz : y ∈ zs := by
          have : y ∈ d := by rw [← HP.out.1]; simp
          rw [← HD.out] at this
          exact (List.mem_filter.mp this).1
        have HSZ : Hid (y.1.size ≤ 9223372036854775807) := by
          obtain ⟨i, _, e⟩ := mem_getD hyz
          have := HSH.out i
          rw [e] at this
          exact this
        have hgd : decide (0 < k) = true := by simp; omega
        have hj0 : (1 : Int) ≤ (k : Int) := by omega
        have hj1 : (0 : Int) ≤ (k : Int) - 1 := by omega
        have hj2 : (k : Int) - 1 < (d.length : Int) + 1 := by omega
        have hj3 : ((k : Int) - 1).toNat = k - 1 := by omega
        have hj4 : IntKind.i64.wrap ((k : Int) - 1) = (k : Int) - 1 := IntWalk.i64_in _ (by omega)
        have hj5 : (0 : Int) ≤ (k : Int) := by omega
        have hj6 : (k : Int) < (d.length : Int) + 1 := by omega
        obtain ⟨q, hq⟩ : ∃ q, cmpId y.1 a = q := ⟨_, rfl⟩
        have HY : Hid (Lib.compareBytes y.1.data.toList a.data.toList = q) := hq
        by_cases hgt : 0 < q
        · have HPost : Hid (∀ v ∈ y :: post, 0 < cmpId v.1 a) := by
            intro v hv
            rcases List.mem_cons.mp hv with rfl | hv
            · rw [hq]; exact hgt
            · exact HP.out.2.1 v hv
          have HK := Lib.hid hk'
          clear hq hyz h0 hpk hk' hN
          go_wp2_with fail
          go_quiet ((go_at_call 40; exact quiet_drawn (rcompare_is _ _ _ HY _ HSZ)))
          go_wp2_with fail
          have hF := own_frozen HP.out.2.2.1
          generalize hwq : wr.drewN _ = wq
          have ey0 : wq.cell? ⟨g, (k - 1) * 2, none⟩ = some (.string y.1) := by rw [← hwq]; exact hy0
          have ey1 : wq.cell? ⟨g, (k - 1) * 2 + 1, none⟩ = some (.int .i64 y.2) := by rw [← hwq]; exact hy1
          have ex0 : wq.cell? ⟨g, k * 2, none⟩ = some (.string a) := by rw [← hwq]; exact hx0
          have ex1 : wq.cell? ⟨g, k * 2 + 1, none⟩ = some (.int .i64 z) := by rw [← hwq]; exact hx1
          have fy0 : wq.frozen? ⟨g, (k - 1) * 2, none⟩ = false := by rw [← hwq]; exact hF _
          have fy1 : wq.frozen? ⟨g, (k - 1) * 2 + 1, none⟩ = false := by rw [← hwq]; exact hF _
          have fx0 : wq.frozen? ⟨g, k * 2, none⟩ = false := by rw [← hwq]; exact hF _
          have fx1 : wq.frozen? ⟨g, k * 2 + 1, none⟩ = false := by rw [← hwq]; exact hF _
          have n1 : ((k - 1) * 2 = k * 2) = False := eq_false (by omega)
          have n2 : ((k - 1) * 2 = k * 2 + 1) = False := eq_false (by omega)
          have n3 : ((k - 1) * 2 + 1 = k * 2) = False := eq_false (by omega)
          have n4 : ((k - 1) * 2 + 1 = k * 2 + 1) = False := eq_false (by omega)
          have n5 : (k * 2 = (k - 1) * 2) = False := eq_false (by omega)
          have n6 : (k * 2 = (k - 1) * 2 + 1) = False := eq_false (by omega)
          have n7 : (k * 2 + 1 = (k - 1) * 2) = False := eq_false (by omega)
          have n8 : (k * 2 + 1 = (k - 1) * 2 + 1) = False := eq_false (by omega)
          have HWQ := Lib.hid hwq
          clear hwq hy0 hy1 hx0 hx1 hF
          go_region
          go_wp2_with fail
          go_roundw
          case rel => exact ⟨k - 1, pre', y :: post, by have := HK.out; omega, by omega, by go_num, put_swap HP.out HK.out HPost.out (by rw [← HWQ.out]; exact ⟨rfl, rfl, rfl, rfl⟩) rfl⟩
          case measure => simp [intOf]; omega
        · have HR : Hid (PutIs d (a, z) ((pre' ++ [y]) ++ (a, z) :: post)) := ⟨pre' ++ [y], post, HP.out.1, rfl, HP.out.2.1, fun v hv => by simp at hv; subst hv; show cmpId y.1 a ≤ 0; omega⟩
          have HLn : Hid (((pre' ++ [y]) ++ (a, z) :: post).length = d.length + 1) := by show _ = _; simp; omega
          clear hq hyz h0 hpk hk' hN
          go_wp2_with fail
          go_quiet ((go_at_call 40; exact quiet_drawn (rcompare_is _ _ _ HY _ HSZ)))
          go_wp2
          go_ret
          exact ⟨_, by rw [HD.out]; exact HR.out, ownVec_ret HLn.out (own_cap HP.out.2.2.1) (own_below HP.out.2.2.1 (below_drewN (Below.refl _ _) _)) (below_drewN HP.out.2.2.2 _)⟩
end Go.Proofs.Ytbbcifcdimfdgaa
