/- The reference's Put of a Matrix. -/
import Derived.Test.YtbbcifcdimfdgaaMj
import Derived.Test.YtbbcifcdimfdgaaMm
import Derived.Test.YtbbcifcdimfdgaaVk
import Derived.BigRegion
namespace Go.Proofs.Ytbbcifcdimfdgaa
open Go.RowKit

theorem frozenH {w : World} {B : Nat} {e : TypeId} {g n c : Nat} {rs : List Hd} (h : OwnsH w B e (some ⟨g, 0, none⟩) n c rs) (j : Nat) : w.frozen? ⟨g, j, none⟩ = false := by
  rcases h.own.2 with ⟨hv, _⟩ | ⟨g', cap, cur, hv, hB, hh, hnc, hm, hs, ht⟩
  · cases hv
  · injection hv with e1 _ e3
    injection e1 with e1
    injection e1 with e1
    subst e1
    simp [World.frozen?, hh]
/-- The Row that is put has gone left past post. -/
structure SinkH (w : World) (d : List Hd) (x : Hd) (g N c : Nat) (pre post : List Hd) (wr : World) : Prop where
  two : pre ++ post = d
  big : ∀ y ∈ post, 0 < cmpId y.id x.id
  own : OwnsH wr w.heap.size 25 (some ⟨g, 0, none⟩) N c (pre ++ x :: post)
  below : Below w.heap.size w wr
theorem SinkH.len {w : World} {d : List Hd} {x : Hd} {g N c : Nat} {pre post : List Hd} {wr : World} (h : SinkH w d x g N c pre post wr) : pre.length + 1 + post.length = N := by
  have := h.own.len
  simp at this
  omega
theorem sinkH_facts {w : World} {d : List Hd} {x y : Hd} {g N c : Nat} {pre post : List Hd} {wr : World} (h : SinkH w d x g N c (pre ++ [y]) post wr) {k : Nat} (hk : k = pre.length + 1) :
    (wr.cell? ⟨g, (k - 1) * 2, none⟩ = some (.string y.id) ∧ wr.cell? ⟨g, (k - 1) * 2 + 1, none⟩ = some (.slice y.A y.v.length y.c)) ∧ (wr.cell? ⟨g, k * 2, none⟩ = some (.string x.id) ∧ wr.cell? ⟨g, k * 2 + 1, none⟩ = some (.slice x.A x.v.length x.c)) ∧ g < wr.heap.size ∧ w.heap.size ≤ g := by
  have hv := h.own.row
  have hl := h.len
  simp at hl
  have hg := h.own.own.lt g rfl
  subst hk
  obtain ⟨b, off, e, _, z, hz, hc⟩ := hv.get (k := pre.length) (by omega)
  injection e with e
  injection e with e1 e2
  subst e1 e2
  obtain ⟨b, off, e, _, z', hz', hc'⟩ := hv.get (k := pre.length + 1) (by omega)
  injection e with e
  injection e with e1 e2
  subst e1 e2
  simp at hz hz'
  subst hz hz'
  have q0 := hc 0 _ rfl
  have q1 := hc 1 _ rfl
  have r0 := hc' 0 _ rfl
  have r1 := hc' 1 _ rfl
  simp only [Nat.zero_add, Nat.add_zero] at q0 q1 r0 r1
  rw [Nat.add_sub_cancel]
  exact ⟨⟨q0, q1⟩, ⟨r0, r1⟩, hg.2, hg.1⟩
theorem swapH_cells (pre post : List Hd) (x y : Hd) :
    ((((rowCells cellsH (pre ++ y :: x :: post)).set (pre.length * 2) (.string x.id)).set (pre.length * 2 + 1) (.slice x.A x.v.length x.c)).set (pre.length * 2 + 2) (.string y.id)).set (pre.length * 2 + 3) (.slice y.A y.v.length y.c) = rowCells cellsH (pre ++ x :: y :: post) := by
  have e1 : rowCells cellsH (pre ++ y :: x :: post) = rowCells cellsH pre ++ .string y.id :: .slice y.A y.v.length y.c :: .string x.id :: .slice x.A x.v.length x.c :: rowCells cellsH post := by rw [rowCells_append]; rfl
  have e2 : rowCells cellsH (pre ++ x :: y :: post) = rowCells cellsH pre ++ .string x.id :: .slice x.A x.v.length x.c :: .string y.id :: .slice y.A y.v.length y.c :: rowCells cellsH post := by rw [rowCells_append]; rfl
  rw [e1, e2, ← rowCells_length (cf := cellsH) (d := 2) (fun _ => rfl) pre]
  exact set_mid _ _ _ _ _ _ _ _ _ _
theorem sinkH_swap {w : World} {d : List Hd} {x y : Hd} {g N c : Nat} {pre post : List Hd} {wr wq w' : World} (h : SinkH w d x g N c (pre ++ [y]) post wr) {k : Nat} (hk : k = pre.length + 1) (hp : ∀ v ∈ y :: post, 0 < cmpId v.id x.id)
    (hq : wq.heap = wr.heap ∧ wq.os = wr.os ∧ wq.tape = wr.tape ∧ wq.output = wr.output)
    (hw : w' = ((((wq.setCell ⟨g, (k - 1) * 2, none⟩ (.string x.id)).setCell ⟨g, (k - 1) * 2 + 1, none⟩ (.slice x.A x.v.length x.c)).setCell ⟨g, k * 2, none⟩ (.string y.id)).setCell ⟨g, k * 2 + 1, none⟩ (.slice y.A y.v.length y.c)).drew) :
    SinkH w d x g N c pre (y :: post) w' := by
  obtain ⟨h1, h2, h3, h4⟩ := h
  have hbq : Below wr.heap.size wr wq := ⟨hq.2.1, hq.2.2.1, hq.2.2.2, by rw [hq.1]; exact Nat.le_refl _, fun k _ => by rw [hq.1]⟩
  have hg := (h3.own.lt g rfl).1
  have h5 := (h3.below hbq)
  have s1 := h5.own.stored ((k - 1) * 2) (.string x.id)
  have s2 := s1.1.stored ((k - 1) * 2 + 1) (.slice x.A x.v.length x.c)
  have s3 := s2.1.stored (k * 2) (.string y.id)
  have s4 := s3.1.stored (k * 2 + 1) (.slice y.A y.v.length y.c)
  have hgr := ((s1.2.trans s2.2).trans s3.2).trans s4.2
  have h6 := s4.1
  have e1 : (k - 1) * 2 = pre.length * 2 := by omega
  have e2 : k * 2 = pre.length * 2 + 2 := by omega
  rw [e1, e2] at h6 hgr
  rw [show pre.length * 2 + 2 + 1 = pre.length * 2 + 3 by omega] at h6 hgr
  rw [show pre ++ [y] ++ x :: post = pre ++ y :: x :: post by simp, swapH_cells] at h6
  subst hw
  rw [e1, e2, show pre.length * 2 + 2 + 1 = pre.length * 2 + 3 by omega]
  have hmem : ∀ r, r ∈ pre ++ x :: y :: post → r ∈ pre ++ [y] ++ x :: post := fun r hr => by simp at hr ⊢; rcases hr with h | h | h | h <;> simp [h]
  refine ⟨by rw [← h1]; simp, hp, ⟨h6.drew, fun r hr => ?_, fun r hr => h5.apart r (hmem r hr)⟩, ?_⟩
  · have := (h5.fine r (hmem r hr)).grown hgr (h5.apart r (hmem r hr))
    exact (this.keep (drew_below _ _)).more (Nat.le_refl _)
  · exact (((((h4.trans (hbq.mono h4.size)).setCell (p := ⟨g, pre.length * 2, none⟩) hg _).setCell (p := ⟨g, pre.length * 2 + 1, none⟩) hg _).setCell (p := ⟨g, pre.length * 2 + 2, none⟩) hg _).setCell (p := ⟨g, pre.length * 2 + 3, none⟩) hg _).drew
/-- What stands behind the loop. -/
theorem sinkH_put {w : World} {m : Mat} {d : List Hd} {x : Hd} {g N c : Nat} {pre post : List Hd} {wr : World} (h : SinkH w d x g N c pre post wr) (hd : absH d = dropM m x.id) (hm : GoodM m) {v : List At} (hv : Good v) (hx : x.v = joinF (mOf m x.id) v) (hr : rightL x.id.data.toList = true) (hne : x.v ≠ []) (hlast : ∀ y, pre.getLast? = some y → cmpId y.id x.id ≤ 0) :
    IsPut m x.id v (absH (pre ++ x :: post)) := by
  have hgd : GoodM (absH pre ++ absH post) := by rw [← absH_append, h.two, hd]; exact hm.drop _
  have hpost : ∀ y ∈ absH post, 0 < cmpId y.1 x.id := fun y hy => by
    simp only [absH, List.mem_map] at hy
    obtain ⟨r, hr, rfl⟩ := hy
    exact h.big r hr
  have hno : ∀ y ∈ absH pre ++ absH post, y.1 ≠ x.id := fun y hy => by
    rw [← absH_append, h.two, hd] at hy
    simpa [dropM] using (List.mem_filter.mp hy).2
  have hpre : ∀ y ∈ absH pre, cmpId y.1 x.id < 0 := fun y hy => by
    rcases List.eq_nil_or_concat pre with e | ⟨pre', z, e⟩
    · subst e; simp [absH] at hy
    · rw [List.concat_eq_append] at e
      subst e
      have hz := hlast z (by simp)
      have hzn : cmpId z.id x.id ≠ 0 := fun e => hno (z.id, z.v) (by simp [absH]) ((cmpId_zero _ _).mp e)
      rw [absH_append] at hy
      rcases List.mem_append.mp hy with hy' | hy'
      · have hri := List.pairwise_append.mp ((risingM_iff _).mp hgd.1)
        rw [absH_append] at hri
        have := (List.pairwise_append.mp hri.1).2.2 y hy' (z.id, z.v) (by simp [absH])
        exact cmpId_lt y.1 z.id x.id this (by omega)
      · simp [absH] at hy'
        subst hy'
        show cmpId z.id x.id < 0
        omega
  have hab : absH (pre ++ x :: post) = absH pre ++ (x.id, x.v) :: absH post := by simp [absH]
  rw [hab]
  refine ⟨sunk_good hgd hr (by rw [hx]; exact (hm.of _).join hv) hne hpost hpre, fun b => ?_⟩
  rw [mOf_sunk (fun y hy => hno y (by simp [hy]))]
  by_cases e : b = x.id
  · rw [if_pos e, if_pos ⟨e, hr⟩, hx]
  · rw [if_neg e, if_neg (fun h => e h.1), ← absH_append, h.two, hd, mOf_drop, if_neg e]
theorem right_size {a : ByteArray} (h : rightL a.data.toList = true) : a.size ≤ 9223372036854775807 := by
  have := ((rightL_iff _).mp h).1
  have e : a.data.toList.length = a.size := by simp
  omega
set_option maxRecDepth 100000 in
set_option maxHeartbeats 8000000 in
theorem rputM_any (A : Option Addr) (n c : Nat) (m : Mat) (a : ByteArray) (A' : Option Addr) (c' : Nat) (v : List At) (B : Nat) (w : World) (hB : B ≤ w.heap.size) (hz : MatAt w B A n m) (hy : VecAt w B A' v.length v) (hn : n ≤ 10000) (hv : Up 10000 m) (hvl : v.length ≤ 10000) (hm : GoodM m) (hgv : Good v) :
    Calls Try.prog 18 #[.slice A n c, .string a, .slice A' v.length c'] w (OwnMat 25 (putM m a v) w) := by
  have HL := Lib.hid hz.len
  have HZ := Lib.hid hz
  have HY := Lib.hid hy
  have HM := Lib.hid hm
  have HGV := Lib.hid hgv
  have hol := hv.of a
  have hjl := join_len (mOf m a) v
  have HGO := Lib.hid (hm.of a)
  have HPU := Lib.hid (putM_is hm hgv a)
  have HEQ : Hid (∀ r, IsPut m a v r → r = putM m a v) := fun r h => h.eq hm hgv
  generalize hr : putM m a v = res at *
  clear hz hy hr hm hgv
  go_enter Try.func18, Try.ntmps18
  go_wp2_with fail
  refine (rofM_any A n c m a B w HZ.out (by omega)).mono ?_
  rintro e w0 ⟨A1, c1, rfl, hc1, hv1, rfl⟩
  have HV1 := Lib.hid hv1
  clear hv1
  go_wp2_with fail
  refine (rjoin_any A1 (mOf m a).length c1 (mOf m a) A' v.length c' v B w hB HV1.out HY.out (by omega) (by omega) HGO.out HGV.out).mono ?_
  rintro e w1 ⟨A2, c2, rfl, hc2, ho, hb⟩
  obtain ⟨j, hj⟩ : ∃ j, joinF (mOf m a) v = j := ⟨_, rfl⟩
  rw [hj] at ho hc2 hjl ⊢
  have HJ := Lib.hid hj
  have HO := Lib.hid (own_vec ho)
  have HB := Lib.hid hb
  have hs1 := hb.size
  clear hj ho hb HV1
  obtain ⟨b, hbr⟩ : ∃ b, rightL a.data.toList = b := ⟨_, rfl⟩
  have HR := Lib.hid hbr
  clear hbr
  by_cases hyes : b = true ∧ j ≠ []
  · obtain ⟨rfl, hne⟩ := hyes
    have hjp : 0 < j.length := List.length_pos_iff.mpr hne
    have hjd : decide ((j.length : Int) < 1) = false := decide_eq_false (by omega)
    have hjd' : ¬ ((j.length : Int) < 1) := by omega
    go_wp2_with fail
    refine (rright_is _ true HR _).mono ?_
    rintro e w' ⟨rfl, rfl⟩
    go_wp2_with fail
    refine (rdropM_any A n c m a B w1 (Nat.le_trans hB hs1) (HZ.out.keep (HB.out.mono hB)) (by omega)).mono ?_
    rintro e w2 ⟨A3, c3, rfl, ⟨rs, habs, hown⟩, hb⟩
    have HAB := Lib.hid habs
    have hdl : (dropM m a).length ≤ 10000 := Nat.le_trans (dropM_len _ _) (by have := HL.out; omega)
    have HDS : Hid (∀ x ∈ dropM m a, x.1.size ≤ 9223372036854775807) := fun x hx => right_size (HM.out.2 x (List.mem_filter.mp hx).1).1
    obtain ⟨d, hd⟩ : ∃ d, dropM m a = d := ⟨_, rfl⟩
    rw [hd] at habs hown hdl HDS HAB ⊢
    have HD := Lib.hid hd
    clear hd
    have HF2 : Hid (Fine w2 w2.heap.size ⟨a, A2, c2, j⟩) := ⟨(HO.out.keep hb).more hb.size, hc2⟩
    have HAP := Lib.hid (apart_old hown (show Fine w1 w1.heap.size ⟨a, A2, c2, j⟩ from ⟨HO.out, hc2⟩) (Nat.le_refl _))
    have hb3 : Below w2.heap.size w2 (w2.alloc (.cells #[.string a, .slice A2 j.length c2] 25)) := (Below.refl _ _).alloc (Nat.le_refl _) _
    have HX : Hid (RowAt cellsH 2 (w2.alloc (.cells #[.string a, .slice A2 j.length c2] 25)) (w2.heap.size + 1) (some ⟨w2.heap.size, 0, none⟩) 1 [⟨a, A2, c2, j⟩]) := one_row rowN (heap_alloc_new w2 _)
    have hown' : OwnsH w2 w.heap.size 25 A3 d.length c3 rs := ⟨rown_base hown.own hs1, hown.fine, hown.apart⟩
    have HO2 := Lib.hid (hown'.below hb3)
    replace HF2 := Lib.hid ((HF2.out.keep hb3).more hb3.size)
    have HB2 := Lib.hid ((HB.out.trans (hb.mono hs1)).trans (hb3.mono (Nat.le_trans hs1 hb.size)))
    clear habs hown hb hb3 hown' HB HO
    go_wp2_with (at_builtin; refine wpList_append_row rowN (B := w.heap.size) (v := .slice A3 d.length c3) (n := d.length) (zs := rs) (m := 1) (ys := [⟨a, A2, c2, j⟩]) rfl _ _ rfl rfl HO2.out.own rfl HX.out (by omega) HB2.out.size ?_; intro A4 c4 w4 hown4 hg4 hat4; have HO4 := Lib.hid (HO2.out.snoc HF2.out HAP.out hown4 hg4 hat4); have HB4 := Lib.hid (HB2.out.grown hg4 HB2.out.size (fun g e => (HO2.out.own.lt g e).1)); clear hown4 hg4 hat4)
    obtain ⟨g, c5, hform, hgB, hglt⟩ := HO4.out.own.form (by omega)
    injection hform with hA hn4 hc4
    subst hA hc4
    have hrl : rs.length = d.length := by have := HO4.out.len; simp at this; omega
    have HI0 : Hid (SinkH w rs ⟨a, A2, c2, j⟩ g (d.length + 1) c4 rs [] w4) := ⟨by simp, fun y hy => by simp at hy, HO4.out, HB4.out⟩
    have HSI : Hid (∀ y ∈ rs, y.id.size ≤ 9223372036854775807) := fun y hy => by
      have hyd : (y.id, y.v) ∈ d := by rw [← HAB.out]; simp only [absH, List.mem_map]; exact ⟨y, hy, rfl⟩
      exact HDS.out _ hyd
    have HFIN : Hid (∀ pre post wr wq, SinkH w rs ⟨a, A2, c2, j⟩ g (d.length + 1) c4 pre post wr → (∀ y, pre.getLast? = some y → cmpId y.id a ≤ 0) → (wq.heap = wr.heap ∧ wq.os = wr.os ∧ wq.tape = wr.tape ∧ wq.output = wr.output) → OwnMat 25 res w (.returned (.slice (some ⟨g, 0, none⟩) (d.length + 1) c4)) wq) := fun pre post wr wq h hl hq => by
      have hbq : Below wr.heap.size wr wq := ⟨hq.2.1, hq.2.2.1, hq.2.2.2, by rw [hq.1]; exact Nat.le_refl _, fun k _ => by rw [hq.1]⟩
      have hp := sinkH_put (m := m) (v := v) h (by rw [HAB.out, HD.out]) HM.out HGV.out HJ.out.symm HR.out hne hl
      have e := HEQ.out _ hp
      have hlen : res.length = d.length + 1 := by rw [← e, absH_len]; exact h.own.len
      refine ⟨some ⟨g, 0, none⟩, c4, by rw [hlen], ?_, h.below.trans (hbq.mono h.below.size)⟩
      rw [hlen]
      exact ⟨_, e, h.own.below hbq⟩
    clear HO4 HB4 HX HF2 HAP HO2 HB2 HPU HEQ HGO HDS HD HAB HM HGV HJ
    go_loopw [9] (fun i wr => ∃ (k : Nat) (pre post : List Hd), pre.length = k ∧ k ≤ d.length ∧ i = .int .i64 k ∧ Hid (SinkH w rs ⟨a, A2, c2, j⟩ g (d.length + 1) c4 pre post wr)) (fun i _ => (intOf i).toNat)
    case atStart => exact ⟨d.length, rs, [], hrl, Nat.le_refl _, by go_num, HI0⟩
    case round =>
      obtain ⟨k, pre, post, hpk, hk, rfl, HI⟩ := hrel
      have hln := HI.out.len
      by_cases h0 : k = 0
      · have hgd : decide (0 < k) = false := by simp; omega
        have hpre : pre = [] := List.eq_nil_of_length_eq_zero (by omega)
        have HLast : Hid (∀ y, pre.getLast? = some y → cmpId y.id a ≤ 0) := fun y hy => by rw [hpre] at hy; simp at hy
        clear h0 hpk hpre
        go_wp2_with fail
        go_quiet (fail)
        go_wp2
        go_ret
        exact HFIN.out _ _ _ _ HI.out HLast.out ⟨rfl, rfl, rfl, rfl⟩
      · rcases List.eq_nil_or_concat pre with e | ⟨pre', y, e⟩
        · subst e; simp at hpk; omega
        · rw [List.concat_eq_append] at e
          subst e
          have hk' : k = pre'.length + 1 := by simpa using hpk.symm
          obtain ⟨⟨hy0, hy1⟩, ⟨hx0, hx1⟩, hglt2, hgw⟩ := sinkH_facts HI.out hk'
          simp at hln
          have hyo : y ∈ rs := by rw [← HI.out.two]; simp
          have HSZ : Hid (y.id.size ≤ 9223372036854775807) := HSI.out y hyo
          have hgd : decide (0 < k) = true := by simp; omega
          have hj0 : (1 : Int) ≤ (k : Int) := by omega
          have hj1 : (0 : Int) ≤ (k : Int) - 1 := by omega
          have hj2 : (k : Int) - 1 < (d.length : Int) + 1 := by omega
          have hj3 : ((k : Int) - 1).toNat = k - 1 := by omega
          have hj4 : IntKind.i64.wrap ((k : Int) - 1) = (k : Int) - 1 := IntWalk.i64_in _ (by omega)
          have hj5 : (0 : Int) ≤ (k : Int) := by omega
          have hj6 : (k : Int) < (d.length : Int) + 1 := by omega
          obtain ⟨q, hq⟩ : ∃ q, cmpId y.id a = q := ⟨_, rfl⟩
          have HYQ : Hid (Lib.compareBytes y.id.data.toList a.data.toList = q) := hq
          by_cases hgt : 0 < q
          · have HPost : Hid (∀ v ∈ y :: post, 0 < cmpId v.id a) := by
              intro v hv
              rcases List.mem_cons.mp hv with rfl | hv
              · rw [hq]; exact hgt
              · exact HI.out.big v hv
            have HK := Lib.hid hk'
            clear hq hyo h0 hpk hk' hln
            have hF := frozenH HI.out.own
            obtain ⟨idy, Ay, cy, vy⟩ := y
            simp only at hy0 hy1 hx0 hx1 HYQ HSZ
            go_wp2_with fail
            go_quiet ((go_at_call 40; exact quiet_drawn (rcompare_is _ _ _ HYQ _ HSZ)))
            go_wp2_with fail
            generalize hwq : wr.drewN _ = wq
            have ey0 : wq.cell? ⟨g, (k - 1) * 2, none⟩ = some (.string idy) := by rw [← hwq]; exact hy0
            have ey1 : wq.cell? ⟨g, (k - 1) * 2 + 1, none⟩ = some (.slice Ay vy.length cy) := by rw [← hwq]; exact hy1
            have ex0 : wq.cell? ⟨g, k * 2, none⟩ = some (.string a) := by rw [← hwq]; exact hx0
            have ex1 : wq.cell? ⟨g, k * 2 + 1, none⟩ = some (.slice A2 j.length c2) := by rw [← hwq]; exact hx1
            have fy0 : wq.frozen? ⟨g, (k - 1) * 2, none⟩ = false := by rw [← hwq]; exact hF _
            have fy1 : wq.frozen? ⟨g, (k - 1) * 2 + 1, none⟩ = false := by rw [← hwq]; exact hF _
            have fx0 : wq.frozen? ⟨g, k * 2, none⟩ = false := by rw [← hwq]; exact hF _
            have fx1 : wq.frozen? ⟨g, k * 2 + 1, none⟩ = false := by rw [← hwq]; exact hF _
            have n1 : ((k - 1) * 2 = k * 2) = False := eq_false (by omega)
            have n2 : ((k - 1) * 2 = k * 2 + 1) = False := eq_false (by omega)
            have n3 : ((k - 1) * 2 + 1 = k * 2) = False := eq_false (by omega)
            have n4 : ((k - 1) * 2 + 1 = k * 2 + 1) = False := eq_false (by omega)
            have n5 : (k * 2 = (k - 1) * 2) = False := eq_false (by omega)
            have n6 : (k * 2 = (k - 1) * 2 + 1) = False := eq_false (by omega)
            have n7 : (k * 2 + 1 = (k - 1) * 2) = False := eq_false (by omega)
            have n8 : (k * 2 + 1 = (k - 1) * 2 + 1) = False := eq_false (by omega)
            have HWQ := Lib.hid hwq
            clear hwq hy0 hy1 hx0 hx1 hF
            go_region
            go_wp2_with fail
            go_roundw
            case rel => exact ⟨k - 1, pre', ⟨idy, Ay, cy, vy⟩ :: post, by have := HK.out; omega, by omega, by go_num, sinkH_swap HI.out HK.out HPost.out (by rw [← HWQ.out]; exact ⟨rfl, rfl, rfl, rfl⟩) rfl⟩
            case measure => simp [intOf]; omega
          · have HLast : Hid (∀ v, (pre' ++ [y]).getLast? = some v → cmpId v.id a ≤ 0) := fun v hv => by simp at hv; subst hv; omega
            clear hq hyo h0 hpk hk' hln
            go_wp2_with fail
            go_quiet ((go_at_call 40; exact quiet_drawn (rcompare_is _ _ _ HYQ _ HSZ)))
            go_wp2
            go_ret
            exact HFIN.out _ _ _ _ HI.out HLast.out ⟨rfl, rfl, rfl, rfl⟩
  · have HRES : Hid (res = m) := by
      refine (HEQ.out m ⟨HM.out, fun x => ?_⟩).symm
      by_cases e : x = a ∧ rightL a.data.toList = true
      · have hj0 : j = [] := Classical.byContradiction fun h => hyes ⟨by rw [← HR.out]; exact e.2, h⟩
        rw [if_pos e, HJ.out, hj0, e.1]
        exact Classical.byContradiction fun h => join_ne (ys := v) h (by rw [HJ.out, hj0])
      · rw [if_neg e]
    obtain ⟨rs, habs, hrow, hfine⟩ := HZ.out.keep (HB.out.mono hB)
    have hb3 : Below w1.heap.size w1 (w1.alloc (.cells #[] 25)) := (Below.refl _ _).alloc (Nat.le_refl _) _
    have HO1 : Hid ((w1.alloc (.cells #[] 25)).ownsRow w1.heap.size 25 2 (.slice (some ⟨w1.heap.size, 0, none⟩) 0 0) 0 (rowCells cellsH [])) := ⟨by simp [rowCells], .inr ⟨w1.heap.size, 0, #[], rfl, Nat.le_refl _, heap_alloc_new w1 _, Nat.le_refl _, Nat.zero_le _, by simp, by simp [rowCells]⟩⟩
    have hBw : B ≤ w1.heap.size := Nat.le_trans hB hs1
    have HRW := Lib.hid (hrow.keep (hb3.mono hBw))
    have HFI : Hid (∀ r ∈ rs, Fine (w1.alloc (.cells #[] 25)) B r) := fun r hr => (hfine r hr).keep (hb3.mono hBw)
    have HAB := Lib.hid habs
    have HB3 := Lib.hid hb3
    have HFIN : Hid (∀ A4 c4 w4, w4.ownsRow w1.heap.size 25 2 (.slice A4 (0 + n) c4) (0 + n) (rowCells cellsH ([] ++ rs)) → (w1.alloc (.cells #[] 25)).grownBy w4 (Value.ownBlock (.slice (some ⟨w1.heap.size, 0, none⟩) 0 0)) → OwnMat 25 res w (.returned (.slice A4 n c4)) w4) := fun A4 c4 w4 hown hg => by
      rw [Nat.zero_add, List.nil_append] at hown
      have hbl : Below w1.heap.size (w1.alloc (.cells #[] 25)) w4 := grown_below hg HB3.out.size (fun g e => by injection e with e; simp only at e; omega)
      have hbw : Below w1.heap.size w1 w4 := HB3.out.trans hbl
      rw [HRES.out]
      have hl := HL.out
      unfold OwnMat
      rw [hl]
      refine ⟨A4, c4, rfl, ⟨rs, HAB.out, rown_base hown hs1, fun r hr => ?_, fun r hr => ?_⟩, HB.out.trans (hbw.mono hs1)⟩
      · exact ((HFI.out r hr).keep (hbl.mono hBw)).more (by have := hbw.size; omega)
      · intro hn ad e1 e2
        have h1 := (hown.lt ad.block e2).1
        obtain ⟨b, off, e3, hlt, _⟩ := (HFI.out r hr).vec.2 hn
        rw [e1] at e3
        injection e3 with e3
        subst e3
        simp only at h1 hlt
        omega
    clear habs hrow hfine hb3 HPU HEQ HGO HM HGV HJ HRES
    cases b with
    | false =>
      go_wp2_with fail
      refine (rright_is _ false HR _).mono ?_
      rintro e w' ⟨rfl, rfl⟩
      go_wp2_with (at_builtin; refine wpList_append_row rowN (B := w1.heap.size) (v := .slice (some ⟨w1.heap.size, 0, none⟩) 0 0) (n := 0) (zs := []) (m := n) (ys := rs) rfl _ _ rfl rfl HO1.out rfl HRW.out (by omega) HB3.out.size ?_; intro A4 c4 w4 hown4 hg4 _; have HR4 := Lib.hid (HFIN.out A4 c4 w4 hown4 hg4); clear hown4 hg4)
      go_ret
      exact HR4.out
    | true =>
      have hj0 : j = [] := Classical.byContradiction fun h => hyes ⟨rfl, h⟩
      subst hj0
      go_wp2_with fail
      refine (rright_is _ true HR _).mono ?_
      rintro e w' ⟨rfl, rfl⟩
      go_wp2_with (at_builtin; refine wpList_append_row rowN (B := w1.heap.size) (v := .slice (some ⟨w1.heap.size, 0, none⟩) 0 0) (n := 0) (zs := []) (m := n) (ys := rs) rfl _ _ rfl rfl HO1.out rfl HRW.out (by omega) HB3.out.size ?_; intro A4 c4 w4 hown4 hg4 _; have HR4 := Lib.hid (HFIN.out A4 c4 w4 hown4 hg4); clear hown4 hg4)
      go_ret
      exact HR4.out
end Go.Proofs.Ytbbcifcdimfdgaa
