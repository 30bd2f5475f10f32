/- Matrices that may be: what Merge says of each id; two that say the same are the same. Plain mathematics. -/
import Derived.Test.YtbbcifcdimfdgaaMf
namespace Go.Proofs.Ytbbcifcdimfdgaa
open Go.RowKit

theorem mOf_head (x : ByteArray × List At) (m : Mat) : mOf (x :: m) x.1 = x.2 := by rw [mOf, if_pos rfl]
theorem mOf_cons_ne {x : ByteArray × List At} {m : Mat} {a : ByteArray} (h : x.1 ≠ a) : mOf (x :: m) a = mOf m a := by rw [mOf, if_neg h]
theorem mOf_ahead {y : ByteArray × List At} {ys : Mat} (h : RisingM (y :: ys)) {a : ByteArray} (ha : cmpId a y.1 < 0) : mOf (y :: ys) a = [] := by
  refine mOf_none fun x hx e => ?_
  have h1 := (List.pairwise_cons.mp ((risingM_iff _).mp h)).1
  rcases List.mem_cons.mp hx with rfl | hx
  · rw [e, cmpId_self] at ha; omega
  · have := cmpId_lt a y.1 x.1 ha (by have := h1 x hx; omega)
    rw [e, cmpId_self] at this
    omega
theorem mOf_tail {x : ByteArray × List At} {m : Mat} (h : RisingM (x :: m)) : mOf m x.1 = [] := by
  refine mOf_none fun y hy e => ?_
  have h1 := (List.pairwise_cons.mp ((risingM_iff _).mp h)).1 y hy
  rw [e, cmpId_self] at h1
  omega
theorem RisingM.head {x : ByteArray × List At} {m : Mat} (h : RisingM (x :: m)) : ∀ y ∈ m, cmpId x.1 y.1 < 0 := (List.pairwise_cons.mp ((risingM_iff _).mp h)).1
theorem RisingM.cons {x : ByteArray × List At} {m : Mat} (h : ∀ y ∈ m, cmpId x.1 y.1 < 0) (hm : RisingM m) : RisingM (x :: m) := (risingM_iff _).mpr (List.pairwise_cons.mpr ⟨h, (risingM_iff _).mp hm⟩)
theorem mat_ext : ∀ {xs ys : Mat}, RisingM xs → RisingM ys → (∀ x ∈ xs, x.2 ≠ []) → (∀ y ∈ ys, y.2 ≠ []) → (∀ a, mOf xs a = mOf ys a) → xs = ys
  | [], [], _, _, _, _, _ => rfl
  | [], y :: ys, _, _, _, py, h => absurd (by have := h y.1; rw [mOf_head] at this; exact this.symm) (py y (by simp))
  | x :: xs, [], _, _, px, _, h => absurd (by have := h x.1; rw [mOf_head] at this; exact this) (px x (by simp))
  | x :: xs, y :: ys, hx, hy, px, py, h => by
    have p1 := px x (by simp)
    have p2 := py y (by simp)
    have h1 := h x.1
    have h2 := h y.1
    rw [mOf_head] at h1 h2
    rcases cmpId_three x.1 y.1 with c | c | c
    · rw [mOf_ahead hy (by omega)] at h1; exact absurd h1 p1
    · have e := (cmpId_zero _ _).mp c
      rw [e, mOf_head] at h1
      have exy : x = y := Prod.ext e h1
      subst exy
      congr 1
      refine mat_ext hx.tail hy.tail (fun z hz => px z (by simp [hz])) (fun z hz => py z (by simp [hz])) fun a => ?_
      by_cases ha : x.1 = a
      · rw [← ha, mOf_tail hx, mOf_tail hy]
      · have := h a
        rwa [mOf_cons_ne ha, mOf_cons_ne ha] at this
    · have c' := cmpId_neg x.1 y.1
      rw [mOf_ahead hx (by omega)] at h2; exact absurd h2.symm p2
theorem mem_merge : ∀ (xs ys : Mat) {z : ByteArray × List At}, z ∈ mergeF xs ys → z ∈ xs ∨ z ∈ ys ∨ ∃ x ∈ xs, ∃ y ∈ ys, x.1 = y.1 ∧ z = (x.1, joinF x.2 y.2)
  | [], ys, z, h => by rw [mergeF] at h; exact .inr (.inl h)
  | x :: xs, [], z, h => by rw [mergeF_nil] at h; exact .inl h
  | x :: xs, y :: ys, z, h => by
    rcases cmpId_three x.1 y.1 with c | c | c
    · rw [mergeF_lt (by omega)] at h
      rcases List.mem_cons.mp h with rfl | h
      · exact .inl (by simp)
      · rcases mem_merge xs (y :: ys) h with h | h | ⟨u, hu, v, hv, e⟩
        · exact .inl (by simp [h])
        · exact .inr (.inl h)
        · exact .inr (.inr ⟨u, by simp [hu], v, hv, e⟩)
    · rw [mergeF_eq c] at h
      rcases List.mem_cons.mp h with rfl | h
      · exact .inr (.inr ⟨x, by simp, y, by simp, (cmpId_zero _ _).mp c, rfl⟩)
      · rcases mem_merge xs ys h with h | h | ⟨u, hu, v, hv, e⟩
        · exact .inl (by simp [h])
        · exact .inr (.inl (by simp [h]))
        · exact .inr (.inr ⟨u, by simp [hu], v, by simp [hv], e⟩)
    · rw [mergeF_gt (by omega)] at h
      rcases List.mem_cons.mp h with rfl | h
      · exact .inr (.inl (by simp))
      · rcases mem_merge (x :: xs) ys h with h | h | ⟨u, hu, v, hv, e⟩
        · exact .inl h
        · exact .inr (.inl (by simp [h]))
        · exact .inr (.inr ⟨u, hu, v, by simp [hv], e⟩)
  termination_by xs ys => xs.length + ys.length
theorem merge_id {xs ys : Mat} {z : ByteArray × List At} (h : z ∈ mergeF xs ys) : (∃ x ∈ xs, x.1 = z.1) ∨ ∃ y ∈ ys, y.1 = z.1 := by
  rcases mem_merge xs ys h with h | h | ⟨u, hu, v, hv, e, rfl⟩
  · exact .inl ⟨z, h, rfl⟩
  · exact .inr ⟨z, h, rfl⟩
  · exact .inl ⟨u, hu, rfl⟩
theorem rising_merge : ∀ {xs ys : Mat}, RisingM xs → RisingM ys → RisingM (mergeF xs ys)
  | [], ys, _, hy => by rw [mergeF]; exact hy
  | x :: xs, [], hx, _ => by rw [mergeF_nil]; exact hx
  | x :: xs, y :: ys, hx, hy => by
    have hx1 := hx.head
    have hy1 := hy.head
    rcases cmpId_three x.1 y.1 with c | c | c
    · rw [mergeF_lt (by omega)]
      refine RisingM.cons (fun z hz => ?_) (rising_merge hx.tail hy)
      rcases merge_id hz with ⟨u, hu, e⟩ | ⟨u, hu, e⟩
      · rw [← e]; exact hx1 u hu
      · rw [← e]
        rcases List.mem_cons.mp hu with rfl | hu
        · omega
        · exact cmpId_lt _ _ _ (show cmpId x.1 y.1 < 0 by omega) (by have := hy1 u hu; omega)
    · rw [mergeF_eq c]
      have e := (cmpId_zero _ _).mp c
      refine RisingM.cons (fun z hz => ?_) (rising_merge hx.tail hy.tail)
      rcases merge_id hz with ⟨u, hu, e2⟩ | ⟨u, hu, e2⟩
      · rw [← e2]; exact hx1 u hu
      · rw [← e2]; show cmpId x.1 u.1 < 0; rw [e]; exact hy1 u hu
    · rw [mergeF_gt (by omega)]
      have c' := cmpId_neg x.1 y.1
      refine RisingM.cons (fun z hz => ?_) (rising_merge hx hy.tail)
      rcases merge_id hz with ⟨u, hu, e⟩ | ⟨u, hu, e⟩
      · rw [← e]
        rcases List.mem_cons.mp hu with rfl | hu
        · omega
        · exact cmpId_lt _ _ _ (show cmpId y.1 x.1 < 0 by omega) (by have := hx1 u hu; omega)
      · rw [← e]; exact hy1 u hu
  termination_by xs ys => xs.length + ys.length
theorem mOf_merge : ∀ {xs ys : Mat}, RisingM xs → RisingM ys → ∀ a, mOf (mergeF xs ys) a = joinF (mOf xs a) (mOf ys a)
  | [], ys, _, _, a => by rw [mergeF, mOf, joinF]
  | x :: xs, [], _, _, a => by rw [mergeF_nil, show mOf ([] : Mat) a = [] from rfl, joinF_nil]
  | x :: xs, y :: ys, hx, hy, a => by
    rcases cmpId_three x.1 y.1 with c | c | c
    · rw [mergeF_lt (by omega)]
      by_cases ha : x.1 = a
      · subst ha
        rw [mOf_head, mOf_head, mOf_ahead hy (by omega), joinF_nil]
      · rw [mOf_cons_ne ha, mOf_cons_ne ha, mOf_merge hx.tail hy a]
    · rw [mergeF_eq c]
      have e := (cmpId_zero _ _).mp c
      by_cases ha : x.1 = a
      · subst ha
        rw [mOf, if_pos rfl, mOf_head, e, mOf_head]
      · rw [mOf_cons_ne (x := (x.1, joinF x.2 y.2)) ha, mOf_cons_ne ha, mOf_cons_ne (show y.1 ≠ a by rw [← e]; exact ha), mOf_merge hx.tail hy.tail a]
    · rw [mergeF_gt (by omega)]
      have c' := cmpId_neg x.1 y.1
      by_cases ha : y.1 = a
      · subst ha
        rw [mOf_head, mOf_head, mOf_ahead hx (by omega), joinF]
      · rw [mOf_cons_ne ha, mOf_cons_ne (x := y) ha, mOf_merge hx hy.tail a]
  termination_by xs ys => xs.length + ys.length
theorem join_ne {xs ys : List At} (h : xs ≠ []) : joinF xs ys ≠ [] := by
  cases xs with
  | nil => exact absurd rfl h
  | cons x xs =>
    cases ys with
    | nil => rw [joinF_nil]; simp
    | cons y ys =>
      rw [joinF]
      split
      · simp
      · split <;> simp
theorem GoodM.merge {xs ys : Mat} (hx : GoodM xs) (hy : GoodM ys) : GoodM (mergeF xs ys) := ⟨rising_merge hx.1 hy.1, fun z hz => by
  rcases mem_merge xs ys hz with h | h | ⟨u, hu, v, hv, e, rfl⟩
  · exact hx.2 z h
  · exact hy.2 z h
  · exact ⟨(hx.2 u hu).1, (hx.2 u hu).2.1.join (hy.2 v hv).2.1, join_ne (hx.2 u hu).2.2⟩⟩
theorem GoodM.of {m : Mat} (h : GoodM m) (a : ByteArray) : Good (mOf m a) := by
  by_cases hx : ∃ x ∈ m, x.1 = a
  · obtain ⟨x, hx, rfl⟩ := hx
    rw [mOf_mem h.1 hx]; exact (h.2 x hx).2.1
  · rw [mOf_none (fun x hx' e => hx ⟨x, hx', e⟩)]; exact Good.nil
theorem GoodM.ext {xs ys : Mat} (hx : GoodM xs) (hy : GoodM ys) (h : ∀ a, mOf xs a = mOf ys a) : xs = ys := mat_ext hx.1 hy.1 (fun x hx' => (hx.2 x hx').2.2) (fun y hy' => (hy.2 y hy').2.2) h
theorem vjoin_three {x y z : List At} (hx : Good x) (hy : Good y) (hz : Good z) : joinF (joinF x y) z = joinF x (joinF y z) := ((hx.join hy).join hz).ext (hx.join (hy.join hz)) fun a => by
  rw [ofF_join (hx.join hy).1 hz.1 (hx.join hy).pos hz.pos, ofF_join hx.1 hy.1 hx.pos hy.pos, ofF_join hx.1 (hy.join hz).1 hx.pos (hy.join hz).pos, ofF_join hy.1 hz.1 hy.pos hz.pos]; omega
theorem vjoin_swap {x y : List At} (hx : Good x) (hy : Good y) : joinF x y = joinF y x := (hx.join hy).ext (hy.join hx) fun a => by
  rw [ofF_join hx.1 hy.1 hx.pos hy.pos, ofF_join hy.1 hx.1 hy.pos hx.pos]; omega
theorem vjoin_twice {x y : List At} (hx : Good x) (hy : Good y) : joinF (joinF x y) y = joinF x y := ((hx.join hy).join hy).ext (hx.join hy) fun a => by
  rw [ofF_join (hx.join hy).1 hy.1 (hx.join hy).pos hy.pos, ofF_join hx.1 hy.1 hx.pos hy.pos]; omega
theorem merge_three {x y z : Mat} (hx : GoodM x) (hy : GoodM y) (hz : GoodM z) : mergeF (mergeF x y) z = mergeF x (mergeF y z) := ((hx.merge hy).merge hz).ext (hx.merge (hy.merge hz)) fun a => by
  rw [mOf_merge (hx.merge hy).1 hz.1, mOf_merge hx.1 hy.1, mOf_merge hx.1 (hy.merge hz).1, mOf_merge hy.1 hz.1]
  exact vjoin_three (hx.of a) (hy.of a) (hz.of a)
theorem merge_swap {x y : Mat} (hx : GoodM x) (hy : GoodM y) : mergeF x y = mergeF y x := (hx.merge hy).ext (hy.merge hx) fun a => by
  rw [mOf_merge hx.1 hy.1, mOf_merge hy.1 hx.1]
  exact vjoin_swap (hx.of a) (hy.of a)
theorem merge_twice {x y : Mat} (hx : GoodM x) (hy : GoodM y) : mergeF (mergeF x y) y = mergeF x y := ((hx.merge hy).merge hy).ext (hx.merge hy) fun a => by
  rw [mOf_merge (hx.merge hy).1 hy.1, mOf_merge hx.1 hy.1]
  exact vjoin_twice (hx.of a) (hy.of a)
/-- No Vec is longer than that. -/
def Up (k : Nat) (m : Mat) : Prop := ∀ x ∈ m, x.2.length ≤ k
theorem Up.of {k : Nat} {m : Mat} (h : Up k m) (a : ByteArray) : (mOf m a).length ≤ k := by
  induction m with
  | nil => exact Nat.zero_le _
  | cons x r ih =>
    rw [mOf]
    split
    · exact h x (by simp)
    · exact ih fun y hy => h y (by simp [hy])
theorem Up.merge {k l : Nat} {x y : Mat} (hx : Up k x) (hy : Up l y) : Up (k + l) (mergeF x y) := fun z hz => by
  rcases mem_merge x y hz with h | h | ⟨u, hu, v, hv, _, rfl⟩
  · have := hx z h; omega
  · have := hy z h; omega
  · have h1 := join_len u.2 v.2
    have h2 := hx u hu
    have h3 := hy v hv
    simp only
    omega
/-- One Row put in its place. -/
theorem sunk_good {a : ByteArray} {v : List At} {pre post : Mat} (h : GoodM (pre ++ post)) (ha : rightL a.data.toList = true) (hv : Good v) (hne : v ≠ []) (hpost : ∀ y ∈ post, 0 < cmpId y.1 a) (hpre : ∀ y ∈ pre, cmpId y.1 a < 0) : GoodM (pre ++ (a, v) :: post) := by
  have hr := List.pairwise_append.mp ((risingM_iff _).mp h.1)
  refine ⟨(risingM_iff _).mpr (List.pairwise_append.mpr ⟨hr.1, List.pairwise_cons.mpr ⟨fun y hy => ?_, hr.2.1⟩, fun x hx y hy => ?_⟩), fun x hx => ?_⟩
  · have := hpost y hy; have := cmpId_neg y.1 a; simp only; omega
  · rcases List.mem_cons.mp hy with rfl | hy
    · exact hpre x hx
    · exact hr.2.2 x hx y hy
  · rcases List.mem_append.mp hx with hx | hx
    · exact h.2 x (by simp [hx])
    · rcases List.mem_cons.mp hx with rfl | hx
      · exact ⟨ha, hv, hne⟩
      · exact h.2 x (by simp [hx])
theorem mOf_sunk {a : ByteArray} {v : List At} {post : Mat} : ∀ {pre : Mat}, (∀ y ∈ pre, y.1 ≠ a) → ∀ b, mOf (pre ++ (a, v) :: post) b = if b = a then v else mOf (pre ++ post) b
  | [], _, b => by
    rw [List.nil_append, mOf]
    by_cases e : a = b
    · rw [if_pos e, if_pos e.symm]
    · rw [if_neg e, if_neg (fun h => e h.symm)]; rfl
  | x :: pre, h, b => by
    rw [List.cons_append, mOf, mOf_sunk (fun y hy => h y (by simp [hy])) b, List.cons_append]
    by_cases e : x.1 = b
    · rw [if_pos e, if_neg (fun e2 => h x (by simp) (e.trans e2)), mOf, if_pos e]
    · rw [if_neg e]
      by_cases e2 : b = a
      · rw [if_pos e2, if_pos e2]
      · rw [if_neg e2, if_neg e2, mOf, if_neg e]
theorem GoodM.drop {m : Mat} (h : GoodM m) (a : ByteArray) : GoodM (dropM m a) := ⟨(risingM_iff _).mpr (((risingM_iff _).mp h.1).filter _), fun x hx => h.2 x (List.mem_filter.mp hx).1⟩
theorem mOf_drop (m : Mat) (a b : ByteArray) : mOf (dropM m a) b = if b = a then [] else mOf m b := by
  induction m with
  | nil => simp [dropM, mOf]
  | cons x r ih =>
    unfold dropM at ih ⊢
    rw [List.filter_cons]
    by_cases e : x.1 = a
    · rw [if_neg (by simpa using e), ih, mOf]
      by_cases e2 : b = a
      · rw [if_pos e2, if_pos e2]
      · rw [if_neg e2, if_neg e2, if_neg (fun h => e2 (h.symm.trans e))]
    · rw [if_pos (by simpa using e), mOf, ih, mOf]
      by_cases e2 : x.1 = b
      · rw [if_pos e2, if_pos e2, if_neg (fun h => e (e2.trans h))]
      · rw [if_neg e2, if_neg e2]
/-- What the reference's Put leaves. -/
def IsPut (m : Mat) (a : ByteArray) (v : List At) (r : Mat) : Prop := GoodM r ∧ ∀ b, mOf r b = if b = a ∧ rightL a.data.toList = true then joinF (mOf m a) v else mOf m b
theorem putM_is {m : Mat} (h : GoodM m) {v : List At} (hv : Good v) (a : ByteArray) : IsPut m a v (putM m a v) := by
  unfold putM
  by_cases hr : rightL a.data.toList = true ∧ v ≠ []
  · rw [if_pos hr]
    have h1 : GoodM [(a, v)] := ⟨(risingM_iff _).mpr (List.pairwise_singleton _ _), fun x hx => by simp at hx; subst hx; exact ⟨hr.1, hv, hr.2⟩⟩
    refine ⟨h.merge h1, fun b => ?_⟩
    rw [mOf_merge h.1 h1.1]
    by_cases e : b = a
    · subst e
      rw [if_pos ⟨rfl, hr.1⟩, mOf_head (b, v) []]
    · rw [if_neg (fun h => e h.1), mOf_cons_ne (x := (a, v)) (fun h => e h.symm), show mOf ([] : Mat) b = [] from rfl, joinF_nil]
  · rw [if_neg hr]
    refine ⟨h, fun b => ?_⟩
    by_cases e : b = a ∧ rightL a.data.toList = true
    · have hv0 : v = [] := Classical.byContradiction fun h => hr ⟨e.2, h⟩
      rw [if_pos e, hv0, joinF_nil, e.1]
    · rw [if_neg e]
theorem IsPut.eq {m r : Mat} {a : ByteArray} {v : List At} (h : IsPut m a v r) (hm : GoodM m) (hv : Good v) : r = putM m a v := h.1.ext (putM_is hm hv a).1 fun b => (h.2 b).trans ((putM_is hm hv a).2 b).symm
end Go.Proofs.Ytbbcifcdimfdgaa
