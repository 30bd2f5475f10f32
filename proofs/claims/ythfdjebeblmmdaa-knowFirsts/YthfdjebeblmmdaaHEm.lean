/- The reference's put of a Know. -/
import Derived.Test.YthfdjebeblmmdaaHEl
import Derived.BigRegion
namespace Go.Proofs.Ythfdjebeblmmdaa
open Go.RowKit

theorem frozenH {w : World} {B : Nat} {e : TypeId} {g n c : Nat} {rs : List Hd} (h : OwnsH w B e (some ⟨g, 0, none⟩) n c rs) (j : Nat) : w.frozen? ⟨g, j, none⟩ = false := by
  rcases h.own.2 with ⟨hv, _⟩ | ⟨g', cap, cur, hv, hB, hh, hnc, hm, hs, ht⟩
  · cases hv
  · injection hv with e1 _ e3
    injection e1 with e1
    injection e1 with e1
    subst e1
    simp [World.frozen?, hh]
/-- The Row that is put has gone left past post. -/
structure SinkH (w : World) (d : List Hd) (x : Hd) (g N c : Nat) (pre post : List Hd) (wr : World) : Prop where
  two : pre ++ post = d
  big : ∀ y ∈ post, 0 < cmpId y.id x.id
  own : OwnsH wr w.heap.size 27 (some ⟨g, 0, none⟩) N c (pre ++ x :: post)
  below : Below w.heap.size w wr
theorem SinkH.len {w : World} {d : List Hd} {x : Hd} {g N c : Nat} {pre post : List Hd} {wr : World} (h : SinkH w d x g N c pre post wr) : pre.length + 1 + post.length = N := by
  have := h.own.len
  simp at this
  omega
theorem sinkH_facts {w : World} {d : List Hd} {x y : Hd} {g N c : Nat} {pre post : List Hd} {wr : World} (h : SinkH w d x g N c (pre ++ [y]) post wr) {k : Nat} (hk : k = pre.length + 1) :
    (wr.cell? ⟨g, (k - 1) * 3, none⟩ = some (.string y.id) ∧ wr.cell? ⟨g, (k - 1) * 3 + 1, none⟩ = some (.int .i64 y.u) ∧ wr.cell? ⟨g, (k - 1) * 3 + 2, none⟩ = some (.slice y.A y.v.length y.c)) ∧ (wr.cell? ⟨g, k * 3, none⟩ = some (.string x.id) ∧ wr.cell? ⟨g, k * 3 + 1, none⟩ = some (.int .i64 x.u) ∧ wr.cell? ⟨g, k * 3 + 2, none⟩ = some (.slice x.A x.v.length x.c)) ∧ g < wr.heap.size ∧ w.heap.size ≤ g := by
  have hv := h.own.row
  have hl := h.len
  simp at hl
  have hg := h.own.own.lt g rfl
  subst hk
  obtain ⟨b, off, e, _, z, hz, hc⟩ := hv.get (k := pre.length) (by omega)
  injection e with e
  injection e with e1 e2
  subst e1 e2
  obtain ⟨b, off, e, _, z', hz', hc'⟩ := hv.get (k := pre.length + 1) (by omega)
  injection e with e
  injection e with e1 e2
  subst e1 e2
  simp at hz hz'
  subst hz hz'
  have q0 := hc 0 _ rfl
  have q1 := hc 1 _ rfl
  have q2 := hc 2 _ rfl
  have r0 := hc' 0 _ rfl
  have r1 := hc' 1 _ rfl
  have r2 := hc' 2 _ rfl
  simp only [Nat.zero_add, Nat.add_zero] at q0 q1 q2 r0 r1 r2
  rw [Nat.add_sub_cancel]
  exact ⟨⟨q0, q1, q2⟩, ⟨r0, r1, r2⟩, hg.2, hg.1⟩
theorem set_mid6 {α : Type} (P : List α) (a b c d e f : α) (S : List α) (a' b' c' d' e' f' : α) :
    ((((((P ++ a :: b :: c :: d :: e :: f :: S).set P.length a').set (P.length + 1) b').set (P.length + 2) c').set (P.length + 3) d').set (P.length + 4) e').set (P.length + 5) f' = P ++ a' :: b' :: c' :: d' :: e' :: f' :: S := by
  induction P with
  | nil => rfl
  | cons x P ih => simp
theorem swapH_cells (pre post : List Hd) (x y : Hd) :
    ((((((rowCells cellsH (pre ++ y :: x :: post)).set (pre.length * 3) (.string x.id)).set (pre.length * 3 + 1) (.int .i64 x.u)).set (pre.length * 3 + 2) (.slice x.A x.v.length x.c)).set (pre.length * 3 + 3) (.string y.id)).set (pre.length * 3 + 4) (.int .i64 y.u)).set (pre.length * 3 + 5) (.slice y.A y.v.length y.c) = rowCells cellsH (pre ++ x :: y :: post) := by
  have e1 : rowCells cellsH (pre ++ y :: x :: post) = rowCells cellsH pre ++ .string y.id :: .int .i64 y.u :: .slice y.A y.v.length y.c :: .string x.id :: .int .i64 x.u :: .slice x.A x.v.length x.c :: rowCells cellsH post := by rw [rowCells_append]; rfl
  have e2 : rowCells cellsH (pre ++ x :: y :: post) = rowCells cellsH pre ++ .string x.id :: .int .i64 x.u :: .slice x.A x.v.length x.c :: .string y.id :: .int .i64 y.u :: .slice y.A y.v.length y.c :: rowCells cellsH post := by rw [rowCells_append]; rfl
  rw [e1, e2, ← rowCells_length (cf := cellsH) (d := 3) (fun _ => rfl) pre]
  exact set_mid6 _ _ _ _ _ _ _ _ _ _ _ _ _ _
theorem fine_drew {W : World} {r : Hd} (h : Fine W W.heap.size r) : Fine W.drew W.drew.heap.size r := (h.keep (drew_below _ _)).more (Nat.le_refl _)
theorem sinkH_swap {w : World} {d : List Hd} {x y : Hd} {g N c : Nat} {pre post : List Hd} {wr wq w' : World} (h : SinkH w d x g N c (pre ++ [y]) post wr) {k : Nat} (hk : k = pre.length + 1) (hp : ∀ v ∈ y :: post, 0 < cmpId v.id x.id)
    (hq : wq.heap = wr.heap ∧ wq.os = wr.os ∧ wq.tape = wr.tape ∧ wq.output = wr.output)
    (hw : w' = ((((((wq.setCell ⟨g, (k - 1) * 3, none⟩ (.string x.id)).setCell ⟨g, (k - 1) * 3 + 1, none⟩ (.int .i64 x.u)).setCell ⟨g, (k - 1) * 3 + 2, none⟩ (.slice x.A x.v.length x.c)).setCell ⟨g, k * 3, none⟩ (.string y.id)).setCell ⟨g, k * 3 + 1, none⟩ (.int .i64 y.u)).setCell ⟨g, k * 3 + 2, none⟩ (.slice y.A y.v.length y.c)).drew) :
    SinkH w d x g N c pre (y :: post) w' := by
  obtain ⟨h1, h2, h3, h4⟩ := h
  have hbq : Below wr.heap.size wr wq := ⟨hq.2.1, hq.2.2.1, hq.2.2.2, by rw [hq.1]; exact Nat.le_refl _, fun k _ => by rw [hq.1]⟩
  have hg := (h3.own.lt g rfl).1
  have h5 := (h3.below hbq)
  have s1 := h5.own.stored ((k - 1) * 3) (.string x.id)
  have s2 := s1.1.stored ((k - 1) * 3 + 1) (.int .i64 x.u)
  have s3 := s2.1.stored ((k - 1) * 3 + 2) (.slice x.A x.v.length x.c)
  have s4 := s3.1.stored (k * 3) (.string y.id)
  have s5 := s4.1.stored (k * 3 + 1) (.int .i64 y.u)
  have s6 := s5.1.stored (k * 3 + 2) (.slice y.A y.v.length y.c)
  have hgr := ((((s1.2.trans s2.2).trans s3.2).trans s4.2).trans s5.2).trans s6.2
  have h6 := s6.1
  have e1 : (k - 1) * 3 = pre.length * 3 := by omega
  have e2 : k * 3 = pre.length * 3 + 3 := by omega
  rw [e1, e2] at h6 hgr
  rw [show pre.length * 3 + 3 + 1 = pre.length * 3 + 4 by omega, show pre.length * 3 + 3 + 2 = pre.length * 3 + 5 by omega] at h6 hgr
  rw [show pre ++ [y] ++ x :: post = pre ++ y :: x :: post by simp, swapH_cells] at h6
  subst hw
  rw [e1, e2, show pre.length * 3 + 3 + 1 = pre.length * 3 + 4 by omega, show pre.length * 3 + 3 + 2 = pre.length * 3 + 5 by omega]
  have hmem : ∀ r, r ∈ pre ++ x :: y :: post → r ∈ pre ++ [y] ++ x :: post := fun r hr => by simp at hr ⊢; rcases hr with h | h | h | h <;> simp [h]
  refine ⟨by rw [← h1]; simp, hp, ⟨h6.drew, fun r hr => ?_, fun r hr => h5.apart r (hmem r hr)⟩, ?_⟩
  · have := (h5.fine r (hmem r hr)).grown hgr (h5.apart r (hmem r hr))
    exact fine_drew this
  · have hset : ∀ (W : World) (o : Nat) (v : Value), Below w.heap.size w W → Below w.heap.size w (W.setCell ⟨g, o, none⟩ v) := fun W o v h => h.setCell (p := ⟨g, o, none⟩) hg v
    exact Below.drew (hset _ _ _ (hset _ _ _ (hset _ _ _ (hset _ _ _ (hset _ _ _ (hset _ _ _ (h4.trans (hbq.mono h4.size))))))))
/-- What stands behind the loop. -/
theorem sinkH_put {w : World} {m : Mat} {d : List Hd} {x : Hd} {g N c : Nat} {pre post : List Hd} {wr : World} (h : SinkH w d x g N c pre post wr) (hd : absH d = dropM m x.id) {k : Nat} (hm : GK k m) (hx : Num k (x.u, x.v)) (hr : rightL x.id.data.toList = true) (hne : (x.u, x.v) ≠ (0, [])) (hlast : ∀ y, pre.getLast? = some y → cmpId y.id x.id ≤ 0) :
    absH (pre ++ x :: post) = putK m x.id (x.u, x.v) := by
  have hgd : GK k (absH pre ++ absH post) := by rw [← absH_append, h.two, hd]; exact hm.drop _
  have hpost : ∀ y ∈ absH post, 0 < cmpId y.1 x.id := fun y hy => by
    simp only [absH, List.mem_map] at hy
    obtain ⟨r, hr, rfl⟩ := hy
    exact h.big r hr
  have hno : ∀ y ∈ absH pre ++ absH post, y.1 ≠ x.id := fun y hy => by
    rw [← absH_append, h.two, hd] at hy
    simpa [dropM] using (List.mem_filter.mp hy).2
  have hpre : ∀ y ∈ absH pre, cmpId y.1 x.id < 0 := fun y hy => by
    rcases List.eq_nil_or_concat pre with e | ⟨pre', z, e⟩
    · subst e; simp [absH] at hy
    · rw [List.concat_eq_append] at e
      subst e
      have hz := hlast z (by simp)
      have hzn : cmpId z.id x.id ≠ 0 := fun e => hno (z.id, (z.u, z.v)) (by simp [absH]) ((cmpId_zero _ _).mp e)
      rw [absH_append] at hy
      rcases List.mem_append.mp hy with hy' | hy'
      · have hri := List.pairwise_append.mp ((risingM_iff _).mp hgd.up)
        rw [absH_append] at hri
        have := (List.pairwise_append.mp hri.1).2.2 y hy' (z.id, (z.u, z.v)) (by simp [absH])
        exact cmpId_lt y.1 z.id x.id this (by omega)
      · simp [absH] at hy'
        subst hy'
        show cmpId z.id x.id < 0
        omega
  have hab : absH (pre ++ x :: post) = absH pre ++ (x.id, (x.u, x.v)) :: absH post := by simp [absH]
  rw [hab]
  refine putK_eq hm hr hx (Nat.le_refl _) (sunk_good hgd hr hx hne hpost hpre) fun b => ?_
  rw [mOf_sunk (fun y hy => hno y (by simp [hy]))]
  by_cases e : b = x.id
  · rw [if_pos e, if_pos e]
  · rw [if_neg e, if_neg e, ← absH_append, h.two, hd, mOf_drop, if_neg e]
theorem right_size {a : ByteArray} (h : rightL a.data.toList = true) : a.size ≤ 9223372036854775807 := by
  have := ((rightL_iff _).mp h).1
  have e : a.data.toList.length = a.size := by simp
  omega
set_option maxRecDepth 100000 in
set_option maxHeartbeats 8000000 in
theorem rputM_any (A : Option Addr) (n c : Nat) (m : Mat) (a : ByteArray) (u : Int) (A' : Option Addr) (c' : Nat) (v : List Int) (B : Nat) (w : World) (hB : B ≤ w.heap.size) (hz : MatAt w B A n m) (hy : Sp.IntsAt w B A' v.length v) (hvc : v.length ≤ c') (hn : n ≤ 10000) (q : Nat) (hm : GK q m) (hs : Num q (u, v)) (hq : q ≤ 100000) (ha : rightL a.data.toList = true) :
    Calls Try.prog 56 #[.slice A n c, .string a, .agg #[.int .i64 u, .slice A' v.length c']] w (OwnMat 27 (putK m a (u, v)) w) := by
  have HL := Lib.hid hz.len
  have HZ := Lib.hid hz
  have HY := Lib.hid hy
  have HM := Lib.hid hm
  have HN := Lib.hid hs
  have HR := Lib.hid ha
  have hu0 := hs.ok.1
  have hu1 := hs.hi
  have hvl := Nat.le_trans hs.len hq
  have HC := Lib.hid (num_count hs)
  simp only at hu0 hu1 hvl
  have HPK : Hid (putK m a (u, v) = if (u, v) = ((0 : Int), ([] : List Int)) then dropM m a else mergeF (dropM m a) [(a, (u, v))]) := rfl
  have HEQ : Hid (∀ (g N c4 : Nat) (rs pre post : List Hd) (A2 : Option Addr) (c2 : Nat) (wr : World), SinkH w rs ⟨a, u, A2, c2, v⟩ g N c4 pre post wr → absH rs = dropM m a → (u, v) ≠ ((0 : Int), ([] : List Int)) → (∀ y, pre.getLast? = some y → cmpId y.id a ≤ 0) → absH (pre ++ ⟨a, u, A2, c2, v⟩ :: post) = putK m a (u, v)) := fun g N c4 rs pre post A2 c2 wr h hd hne hl => sinkH_put (x := ⟨a, u, A2, c2, v⟩) h hd hm hs ha hne hl
  generalize hr : putK m a (u, v) = res at *
  clear hz hy hr hm hs ha
  have hb0 : Below w.heap.size w (w.alloc (.cells #[.int .i64 u, .slice A' v.length c'] 25)) := (Below.refl _ _).alloc (Nat.le_refl _) _
  have HB0 := Lib.hid hb0
  have k0 : (w.alloc (.cells #[.int .i64 u, .slice A' v.length c'] 25)).cell? ⟨w.heap.size, 0, none⟩ = some (.int .i64 u) := by simp [go_sem]
  have k1 : (w.alloc (.cells #[.int .i64 u, .slice A' v.length c'] 25)).cell? ⟨w.heap.size, 1, none⟩ = some (.slice A' v.length c') := by simp [go_sem]
  have hk : w.heap.size < (w.alloc (.cells #[.int .i64 u, .slice A' v.length c'] 25)).heap.size := by simp
  have HD0 := Lib.hid (rdropM_any A n c m a B (w.alloc (.cells #[.int .i64 u, .slice A' v.length c'] 25)) (Nat.le_trans hB hb0.size) (HZ.out.keep (hb0.mono hB)) (by omega))
  have HY0 := Lib.hid (HY.out.keep (hb0.mono hB))
  clear hb0
  go_enter Try.func56, Try.ntmps56
  go_wp2_with fail
  refine HD0.out.mono ?_
  generalize w.alloc (.cells #[.int .i64 u, .slice A' v.length c'] 25) = w1 at *
  rintro e w2 ⟨A3, c3, rfl, hom, hb⟩
  have hs1 := HB0.out.size
  replace k0 := (hb.cell (p := ⟨w.heap.size, 0, none⟩) hk).trans k0
  replace k1 := (hb.cell (p := ⟨w.heap.size, 1, none⟩) hk).trans k1
  replace hk := Nat.lt_of_lt_of_le hk hb.size
  have HY2 := Lib.hid (HY0.out.keep (hb.mono (Nat.le_trans hB hs1)))
  have HB2 := Lib.hid (HB0.out.trans (hb.mono hs1))
  have HOM := Lib.hid (hom.base hs1)
  clear hom hb HD0 HY0
  have hdl : (dropM m a).length ≤ 10000 := Nat.le_trans (dropM_len _ _) (by have := HL.out; omega)
  go_wp2_with fail
  refine (Sp.refCount_any u A' v.length c' _ hu0 hu1 (by omega)).mono ?_
  rintro e w3 ⟨rfl, hb⟩
  replace k0 := (hb.cell (p := ⟨w.heap.size, 0, none⟩) hk).trans k0
  replace k1 := (hb.cell (p := ⟨w.heap.size, 1, none⟩) hk).trans k1
  replace hk := Nat.lt_of_lt_of_le hk hb.size
  have HOM3 := Lib.hid (HOM.out.below hb)
  have hs2 := HB2.out.size
  have HY3 := Lib.hid (HY2.out.keep (hb.mono (Nat.le_trans hB hs2)))
  have HB3 := Lib.hid (HB2.out.trans (hb.mono hs2))
  clear hb HOM HY2 HB2
  by_cases h0 : u + (v.length : Int) < 1
  · have HE : Hid (res = dropM m a) := by show _ = _; rw [HPK.out, if_pos (HC.out.mp h0)]
    have hg : decide (u + (v.length : Int) < 1) = true := decide_eq_true h0
    clear HEQ HPK HC
    go_wp2
    go_ret
    rw [HE.out]
    exact ⟨A3, c3, rfl, HOM3.out, HB3.out⟩
  · have HNE : Hid ((u, v) ≠ ((0 : Int), ([] : List Int))) := fun e => h0 (HC.out.mpr e)
    have hg : decide (u + (v.length : Int) < 1) = false := decide_eq_false h0
    obtain ⟨rs, habs, hown⟩ := HOM3.out
    have HAB := Lib.hid habs
    have HDS : Hid (∀ x ∈ dropM m a, x.1.size ≤ 9223372036854775807) := fun x hx => right_size (HM.out.row x (List.mem_filter.mp hx).1).1
    have hs3 := HB3.out.size
    have HAP := Lib.hid (apart_old hown (show Fine w3 B ⟨a, u, A', c', v⟩ from ⟨HY3.out, hvc⟩) hB)
    have HF2 : Hid (Fine w3 w3.heap.size ⟨a, u, A', c', v⟩) := ⟨HY3.out.more (Nat.le_trans hB hs3), hvc⟩
    have hb3 : Below w3.heap.size w3 (w3.alloc (.cells #[.string a, .int .i64 u, .slice A' v.length c'] 27)) := (Below.refl _ _).alloc (Nat.le_refl _) _
    have HX : Hid (RowAt cellsH 3 (w3.alloc (.cells #[.string a, .int .i64 u, .slice A' v.length c'] 27)) (w3.heap.size + 1) (some ⟨w3.heap.size, 0, none⟩) 1 [⟨a, u, A', c', v⟩]) := one_row rowN (heap_alloc_new w3 _)
    have HO2 := Lib.hid (hown.below hb3)
    replace HF2 := Lib.hid ((HF2.out.keep hb3).more hb3.size)
    have HB2 := Lib.hid (HB3.out.trans (hb3.mono hs3))
    obtain ⟨d, hd⟩ : ∃ d, dropM m a = d := ⟨_, rfl⟩
    rw [hd] at HDS HAB hdl HO2 HEQ HAP ⊢
    clear habs hown hb3 HB3 HOM3 HPK HC hd
    go_wp2_with (at_builtin; refine wpList_append_row rowN (B := w.heap.size) (v := .slice A3 d.length c3) (n := d.length) (zs := rs) (m := 1) (ys := [⟨a, u, A', c', v⟩]) rfl _ _ rfl rfl HO2.out.own rfl HX.out (by omega) HB2.out.size ?_; intro A4 c4 w4 hown4 hg4 hat4; have HO4 := Lib.hid (HO2.out.snoc HF2.out HAP.out hown4 hg4 hat4); have HB4 := Lib.hid (HB2.out.grown hg4 HB2.out.size (fun g e => (HO2.out.own.lt g e).1)); clear hown4 hg4 hat4)
    obtain ⟨g, c5, hform, hgB, hglt⟩ := HO4.out.own.form (by omega)
    injection hform with hA hn4 hc4
    subst hA hc4
    have hrl : rs.length = d.length := by have := HO4.out.len; simp at this; omega
    have HI0 : Hid (SinkH w rs ⟨a, u, A', c', v⟩ g (d.length + 1) c4 rs [] w4) := ⟨by simp, fun y hy => by simp at hy, HO4.out, HB4.out⟩
    have HSI : Hid (∀ y ∈ rs, y.id.size ≤ 9223372036854775807) := fun y hy => by
      have hyd : (y.id, (y.u, y.v)) ∈ d := by rw [← HAB.out]; simp only [absH, List.mem_map]; exact ⟨y, hy, rfl⟩
      exact HDS.out _ hyd
    have HFIN : Hid (∀ pre post wr wq, SinkH w rs ⟨a, u, A', c', v⟩ g (d.length + 1) c4 pre post wr → (∀ y, pre.getLast? = some y → cmpId y.id a ≤ 0) → (wq.heap = wr.heap ∧ wq.os = wr.os ∧ wq.tape = wr.tape ∧ wq.output = wr.output) → OwnMat 27 res w (.returned (.slice (some ⟨g, 0, none⟩) (d.length + 1) c4)) wq) := fun pre post wr wq h hl hq => by
      have hbq : Below wr.heap.size wr wq := ⟨hq.2.1, hq.2.2.1, hq.2.2.2, by rw [hq.1]; exact Nat.le_refl _, fun k _ => by rw [hq.1]⟩
      have e := HEQ.out _ _ _ _ _ _ _ _ _ h HAB.out HNE.out hl
      have hlen : res.length = d.length + 1 := by rw [← e, absH_len]; exact h.own.len
      refine ⟨some ⟨g, 0, none⟩, c4, by rw [hlen], ?_, h.below.trans (hbq.mono h.below.size)⟩
      rw [hlen]
      exact ⟨_, e, h.own.below hbq⟩
    clear HO4 HB4 HX HF2 HAP HO2 HB2 HEQ HDS HAB HM HN HNE HY HY3 HZ HL
    go_loopw [8] (fun i wr => ∃ (k : Nat) (pre post : List Hd), pre.length = k ∧ k ≤ d.length ∧ i = .int .i64 k ∧ Hid (SinkH w rs ⟨a, u, A', c', v⟩ g (d.length + 1) c4 pre post wr)) (fun i _ => (intOf i).toNat)
    case atStart => exact ⟨d.length, rs, [], hrl, Nat.le_refl _, by go_num, HI0⟩
    case round =>
      obtain ⟨k, pre, post, hpk, hk, rfl, HI⟩ := hrel
      have hln := HI.out.len
      by_cases h0 : k = 0
      · have hgd : decide (0 < k) = false := by simp; omega
        have hpre : pre = [] := List.eq_nil_of_length_eq_zero (by omega)
        have HLast : Hid (∀ y, pre.getLast? = some y → cmpId y.id a ≤ 0) := fun y hy => by rw [hpre] at hy; simp at hy
        clear h0 hpk hpre
        go_wp2_with fail
        go_quiet (fail)
        go_wp2
        go_ret
        exact HFIN.out _ _ _ _ HI.out HLast.out ⟨rfl, rfl, rfl, rfl⟩
      · rcases List.eq_nil_or_concat pre with e | ⟨pre', y, e⟩
        · subst e; simp at hpk; omega
        · rw [List.concat_eq_append] at e
          subst e
          have hk' : k = pre'.length + 1 := by simpa using hpk.symm
          obtain ⟨⟨hy0, hy1, hy2⟩, ⟨hx0, hx1, hx2⟩, hglt2, hgw⟩ := sinkH_facts HI.out hk'
          simp at hln
          have hyo : y ∈ rs := by rw [← HI.out.two]; simp
          have HSZ : Hid (y.id.size ≤ 9223372036854775807) := HSI.out y hyo
          have hgd : decide (0 < k) = true := by simp; omega
          have hj0 : (1 : Int) ≤ (k : Int) := by omega
          have hj1 : (0 : Int) ≤ (k : Int) - 1 := by omega
          have hj2 : (k : Int) - 1 < (d.length : Int) + 1 := by omega
          have hj3 : ((k : Int) - 1).toNat = k - 1 := by omega
          have hj4 : IntKind.i64.wrap ((k : Int) - 1) = (k : Int) - 1 := IntWalk.i64_in _ (by omega)
          have hj5 : (0 : Int) ≤ (k : Int) := by omega
          have hj6 : (k : Int) < (d.length : Int) + 1 := by omega
          obtain ⟨q, hq⟩ : ∃ q, cmpId y.id a = q := ⟨_, rfl⟩
          have HYQ : Hid (Lib.compareBytes y.id.data.toList a.data.toList = q) := hq
          by_cases hgt : 0 < q
          · have HPost : Hid (∀ v ∈ y :: post, 0 < cmpId v.id a) := by
              intro v hv
              rcases List.mem_cons.mp hv with rfl | hv
              · rw [hq]; exact hgt
              · exact HI.out.big v hv
            have HK := Lib.hid hk'
            clear hq hyo h0 hpk hk' hln
            have hF := frozenH HI.out.own
            obtain ⟨idy, uy, Ay, cy, vy⟩ := y
            simp only at hy0 hy1 hy2 hx0 hx1 hx2 HYQ HSZ
            go_wp2_with fail
            go_quiet ((go_at_call 55; exact quiet_drawn (rcompare_is _ _ _ HYQ _ HSZ)))
            go_wp2_with fail
            generalize hwq : wr.drewN _ = wq
            have ey0 : wq.cell? ⟨g, (k - 1) * 3, none⟩ = some (.string idy) := by rw [← hwq]; exact hy0
            have fy0 : wq.frozen? ⟨g, (k - 1) * 3, none⟩ = false := by rw [← hwq]; exact hF _
            have ey1 : wq.cell? ⟨g, (k - 1) * 3 + 1, none⟩ = some (.int .i64 uy) := by rw [← hwq]; exact hy1
            have fy1 : wq.frozen? ⟨g, (k - 1) * 3 + 1, none⟩ = false := by rw [← hwq]; exact hF _
            have ey2 : wq.cell? ⟨g, (k - 1) * 3 + 2, none⟩ = some (.slice Ay vy.length cy) := by rw [← hwq]; exact hy2
            have fy2 : wq.frozen? ⟨g, (k - 1) * 3 + 2, none⟩ = false := by rw [← hwq]; exact hF _
            have ex0 : wq.cell? ⟨g, k * 3, none⟩ = some (.string a) := by rw [← hwq]; exact hx0
            have fx0 : wq.frozen? ⟨g, k * 3, none⟩ = false := by rw [← hwq]; exact hF _
            have ex1 : wq.cell? ⟨g, k * 3 + 1, none⟩ = some (.int .i64 u) := by rw [← hwq]; exact hx1
            have fx1 : wq.frozen? ⟨g, k * 3 + 1, none⟩ = false := by rw [← hwq]; exact hF _
            have ex2 : wq.cell? ⟨g, k * 3 + 2, none⟩ = some (.slice A' v.length c') := by rw [← hwq]; exact hx2
            have fx2 : wq.frozen? ⟨g, k * 3 + 2, none⟩ = false := by rw [← hwq]; exact hF _
            have n1 : ((k - 1) * 3 = k * 3) = False := eq_false (by omega)
            have n2 : (k * 3 = (k - 1) * 3) = False := eq_false (by omega)
            have n3 : ((k - 1) * 3 = k * 3 + 1) = False := eq_false (by omega)
            have n4 : (k * 3 + 1 = (k - 1) * 3) = False := eq_false (by omega)
            have n5 : ((k - 1) * 3 = k * 3 + 2) = False := eq_false (by omega)
            have n6 : (k * 3 + 2 = (k - 1) * 3) = False := eq_false (by omega)
            have n7 : ((k - 1) * 3 + 1 = k * 3) = False := eq_false (by omega)
            have n8 : (k * 3 = (k - 1) * 3 + 1) = False := eq_false (by omega)
            have n9 : ((k - 1) * 3 + 1 = k * 3 + 1) = False := eq_false (by omega)
            have n10 : (k * 3 + 1 = (k - 1) * 3 + 1) = False := eq_false (by omega)
            have n11 : ((k - 1) * 3 + 1 = k * 3 + 2) = False := eq_false (by omega)
            have n12 : (k * 3 + 2 = (k - 1) * 3 + 1) = False := eq_false (by omega)
            have n13 : ((k - 1) * 3 + 2 = k * 3) = False := eq_false (by omega)
            have n14 : (k * 3 = (k - 1) * 3 + 2) = False := eq_false (by omega)
            have n15 : ((k - 1) * 3 + 2 = k * 3 + 1) = False := eq_false (by omega)
            have n16 : (k * 3 + 1 = (k - 1) * 3 + 2) = False := eq_false (by omega)
            have n17 : ((k - 1) * 3 + 2 = k * 3 + 2) = False := eq_false (by omega)
            have n18 : (k * 3 + 2 = (k - 1) * 3 + 2) = False := eq_false (by omega)
            have HWQ := Lib.hid hwq
            clear hwq hy0 hy1 hy2 hx0 hx1 hx2 hF
            go_region
            go_wp2_with fail
            go_roundw
            case rel => exact ⟨k - 1, pre', ⟨idy, uy, Ay, cy, vy⟩ :: post, by have := HK.out; omega, by omega, by go_num, sinkH_swap HI.out HK.out HPost.out (by rw [← HWQ.out]; exact ⟨rfl, rfl, rfl, rfl⟩) rfl⟩
            case measure => simp [intOf]; omega
          · have HLast : Hid (∀ v, (pre' ++ [y]).getLast? = some v → cmpId v.id a ≤ 0) := fun v hv => by simp at hv; subst hv; omega
            clear hq hyo h0 hpk hk' hln
            go_wp2_with fail
            go_quiet ((go_at_call 55; exact quiet_drawn (rcompare_is _ _ _ HYQ _ HSZ)))
            go_wp2
            go_ret
            exact HFIN.out _ _ _ _ HI.out HLast.out ⟨rfl, rfl, rfl, rfl⟩
end Go.Proofs.Ythfdjebeblmmdaa
