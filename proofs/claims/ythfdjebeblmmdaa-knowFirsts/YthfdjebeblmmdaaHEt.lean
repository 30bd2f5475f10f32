/- Unions of Knows: what is in them, and how many. Plain mathematics. -/
import Derived.Test.YthfdjebeblmmdaaHEq
namespace Go.Proofs.Ythfdjebeblmmdaa
open Go.RowKit

theorem within_union {k l j : Nat} {x y z : Mat} (hx : GK k x) (hy : GK l y) (hz : GK j z) : withinM (mergeF x y) z = (withinM x z && withinM y z) := by
  rw [Bool.eq_iff_iff, Bool.and_eq_true, withinM_iff (hx.merge hy) hz, withinM_iff hx hz, withinM_iff hy hz]
  constructor
  · exact fun h => ⟨fun a n hn => h a n ((mem_union hx hy a n).mpr (.inl hn)), fun a n hn => h a n ((mem_union hx hy a n).mpr (.inr hn))⟩
  · rintro ⟨h1, h2⟩ a n hn
    rcases (mem_union hx hy a n).mp hn with h | h
    · exact h1 a n h
    · exact h2 a n h
theorem within_left {k l : Nat} {x y : Mat} (hx : GK k x) (hy : GK l y) : withinM x (mergeF x y) = true := (withinM_iff hx (hx.merge hy)).mpr fun a n h => (mem_union hx hy a n).mpr (.inl h)
theorem within_right {k l : Nat} {x y : Mat} (hx : GK k x) (hy : GK l y) : withinM y (mergeF x y) = true := (withinM_iff hy (hx.merge hy)).mpr fun a n h => (mem_union hx hy a n).mpr (.inr h)
theorem same_within {k l : Nat} {x y : Mat} (hx : GK k x) (hy : GK l y) : sameM x y = (withinM x y && withinM y x) := by
  rw [Bool.eq_iff_iff, Bool.and_eq_true, ← within_both hx hy]
  unfold sameM
  exact decide_eq_true_iff
/-- How many numbers. -/
def cntS (s : Int × List Int) : Int := s.1 + (s.2.length : Int)
theorem top_le {k : Nat} {s : Int × List Int} (h : Num k s) : Sp.topOf s.1 s.2 ≤ (1048576 : Nat) := by
  by_cases e : s.2 = []
  · have := h.hi
    rw [e]
    unfold Sp.topOf
    simpa using this
  · exact h.top _ (.inr (Sp.top_mem e))
theorem cnt_eq {k : Nat} {s : Int × List Int} (h : Num k s) : cntS s = (((Sp.upL 1048576).filter (Sp.hasOf s.1 s.2)).length : Int) := by
  have e : ((Sp.upL 1048576).filter (Sp.hasOf s.1 s.2)).length = Sp.membF s 1048576 := (Sp.memb_len s 1048576).symm
  rw [e, Sp.memb_count h.ok 1048576 (top_le h)]
  rfl
theorem filter_or_le {α : Type} (p q r : α → Bool) (h : ∀ x, r x = (p x || q x)) : ∀ l : List α, (l.filter r).length ≤ (l.filter p).length + (l.filter q).length ∧ (l.filter p).length ≤ (l.filter r).length ∧ (l.filter q).length ≤ (l.filter r).length
  | [] => by simp
  | x :: l => by
    have ih := filter_or_le p q r h l
    have hx := h x
    rw [List.filter_cons, List.filter_cons, List.filter_cons]
    cases hp : p x <;> cases hq : q x <;> rw [hp, hq] at hx <;> simp only [hx, Bool.or_true, Bool.or_false, if_true, Bool.false_eq_true, if_false, List.length_cons] <;> omega
theorem cnt_union {k l : Nat} {s t : Int × List Int} (hs : Num k s) (ht : Num l t) : cntS (Sp.unionF s t) ≤ cntS s + cntS t ∧ cntS s ≤ cntS (Sp.unionF s t) ∧ cntS t ≤ cntS (Sp.unionF s t) := by
  have hu := hs.union ht
  have h : ∀ x, Sp.hasOf (Sp.unionF s t).1 (Sp.unionF s t).2 x = (Sp.hasOf s.1 s.2 x || Sp.hasOf t.1 t.2 x) := fun x => by
    rw [Bool.eq_iff_iff, Bool.or_eq_true, Sp.has_mem hu.ok, Sp.has_mem hs.ok, Sp.has_mem ht.ok]
    exact hs.mem_union ht x
  have h2 := filter_or_le _ _ _ h (Sp.upL 1048576)
  rw [cnt_eq hs, cnt_eq ht, cnt_eq hu]
  omega
theorem cnt_nonneg {k : Nat} {s : Int × List Int} (h : Num k s) : 0 ≤ cntS s := by
  have := h.ok.1
  unfold cntS
  omega
theorem countM_cons (x : ByteArray × (Int × List Int)) (m : Mat) : countM (x :: m) = cntS x.2 + countM m := by unfold countM cntS; simp
theorem countM_nonneg {k : Nat} : ∀ {m : Mat}, GK k m → 0 ≤ countM m
  | [], _ => by unfold countM; simp
  | x :: m, h => by
    rw [countM_cons]
    have := cnt_nonneg (h.row x (by simp)).2.1
    have := countM_nonneg h.tail
    omega
theorem count_union {k l : Nat} : ∀ {xs ys : Mat}, GK k xs → GK l ys → countM (mergeF xs ys) ≤ countM xs + countM ys ∧ countM xs ≤ countM (mergeF xs ys) ∧ countM ys ≤ countM (mergeF xs ys)
  | [], ys, _, hy => by
    have := countM_nonneg hy
    rw [mergeF, show countM [] = 0 from rfl]
    omega
  | x :: xs, [], hx, _ => by
    have := countM_nonneg hx
    rw [mergeF_nil, show countM [] = 0 from rfl]
    omega
  | x :: xs, y :: ys, hx, hy => by
    have nx := (hx.row x (by simp)).2.1
    have ny := (hy.row y (by simp)).2.1
    have cx := cnt_nonneg nx
    have cy := cnt_nonneg ny
    rcases cmpId_three x.1 y.1 with c | c | c
    · have ih := count_union hx.tail hy
      rw [mergeF_lt (by omega), countM_cons, countM_cons x]
      omega
    · have ih := count_union hx.tail hy.tail
      have hu := cnt_union nx ny
      rw [mergeF_eq c, countM_cons, countM_cons x, countM_cons y]
      simp only
      omega
    · have ih := count_union hx hy.tail
      rw [mergeF_gt (by omega), countM_cons, countM_cons y]
      omega
  termination_by xs ys => xs.length + ys.length
theorem count_bd {k : Nat} {m : Mat} (h : GK k m) (hk : k ≤ 100000) (hl : List.length m ≤ 10) : countM m ≤ 20000000 := by
  have := sum_bd (fun x => x.2.1 + (x.2.2.length : Int)) 2000000 (by omega) m (fun x hx => okS_bd (h.okS hk x hx))
  have h2 := this.2
  unfold countM
  omega
end Go.Proofs.Ythfdjebeblmmdaa
