/- Items that come in two orders leave the same: the newest of each key. Plain mathematics. -/
import Derived.Test.YtpaiigminmakgaaPk
namespace Go.Proofs.Ytpaiigminmakgaa
open Go.RowKit

/-- One event is of one item, but for its text. -/
def One (l : List Itm) : Prop := ∀ x ∈ l, ∀ y ∈ l, x.ver.stamp = y.ver.stamp → x.ver.id = y.ver.id → x.key = y.key ∧ x.ver = y.ver ∧ x.dead = y.dead
theorem One.sub {l m : List Itm} (h : One m) (hs : ∀ x ∈ l, x ∈ m) : One l := fun x hx y hy => h x (hs x hx) y (hs y hy)
theorem One.nil : One [] := fun x hx => by simp at hx
/-- What there is of a key: the newest; held, if one of its version was. -/
structure Newest (l s : List Itm) : Prop where
  keys : Keys s
  mem : ∀ z ∈ s, z ∈ l
  has : ∀ x ∈ l, ∃ z, getF s x.key = some z
  top : ∀ k z, getF s k = some z → ∀ x ∈ l, x.key = k → newerF x.ver z.ver = false ∧ (x.ver = z.ver → x.held = true → z.held = true)
theorem newer_self (a : Vrs) : newerF a a = false := by
  cases e : newerF a a with
  | false => rfl
  | true => have := newer_not e; rw [e] at this; exact this
theorem Newest.nil : Newest [] [] := ⟨List.Pairwise.nil, by simp, by simp, fun k z h => by simp [getF] at h⟩
theorem Newest.put {l s : List Itm} {x : Itm} (h : Newest l s) (ho : One (l ++ [x])) : Newest (l ++ [x]) (putF s x).1 := by
  have hins : getF (insF s x) x.key = some x := getF_some (ins_keys h.keys) (by unfold insF; simp) rfl
  have hmem : ∀ z ∈ insF s x, z ∈ l ++ [x] := fun z hz => by
    rcases ins_mem hz with rfl | hz
    · simp
    · simp [h.mem z hz]
  have hother : ∀ k, k ≠ x.key → getF (putF s x).1 k = getF s k := fun k hk => put_other h.keys hk
  have hkeys := put_keys (x := x) h.keys
  -- what stands under x's key then
  have hown : ∃ z, getF (putF s x).1 x.key = some z ∧ z ∈ l ++ [x] ∧ ∀ y ∈ l ++ [x], y.key = x.key → newerF y.ver z.ver = false ∧ (y.ver = z.ver → y.held = true → z.held = true) := by
    rcases e : getF s x.key with _ | y
    · refine ⟨x, by rw [put_new e]; exact hins, by simp, fun t ht hk => ?_⟩
      rcases List.mem_append.mp ht with ht | ht
      · obtain ⟨z, hz⟩ := h.has t ht
        rw [hk, e] at hz; cases hz
      · simp at ht; subst ht; exact ⟨newer_self _, fun _ h => h⟩
    · have hy := getF_mem e
      have hyl := h.mem y hy.1
      have htop := h.top x.key y e
      cases hr : replF x y with
      | true =>
        refine ⟨x, by rw [put_over e hr]; exact hins, by simp, fun t ht hk => ?_⟩
        rcases List.mem_append.mp ht with ht | ht
        · have h1 := htop t ht hk
          unfold replF at hr
          by_cases hv : eqV x.ver y.ver = true
          · rw [if_pos hv, Bool.and_eq_true] at hr
            have hv' := (eqV_iff _ _).mp hv
            rw [hv']
            exact ⟨h1.1, fun _ _ => hr.1⟩
          · rw [if_neg hv] at hr
            have hn : newerF y.ver x.ver = false := by simpa using hr
            have hx : newerF x.ver y.ver = true := by
              cases hx : newerF x.ver y.ver with
              | true => rfl
              | false =>
                obtain ⟨e1, e2⟩ := newer_same hx hn
                have := (ho x (by simp) y (by simp [hyl]) e1 e2).2.1
                exact absurd ((eqV_iff _ _).mpr this) hv
            refine ⟨?_, fun e1 _ => ?_⟩
            · cases ht2 : newerF t.ver x.ver with
              | false => rfl
              | true => have := newer_trans ht2 hx; rw [h1.1] at this; cases this
            · rw [e1, hx] at h1; cases h1.1
        · simp at ht; subst ht; exact ⟨newer_self _, fun _ h => h⟩
      | false =>
        refine ⟨y, by rw [put_not e hr]; exact e, by simp [hyl], fun t ht hk => ?_⟩
        rcases List.mem_append.mp ht with ht | ht
        · exact htop t ht hk
        · simp at ht
          subst ht
          unfold replF at hr
          by_cases hv : eqV t.ver y.ver = true
          · rw [if_pos hv] at hr
            have hv' := (eqV_iff _ _).mp hv
            rw [hv']
            refine ⟨newer_self _, fun _ hh => ?_⟩
            rw [hh] at hr
            simpa using hr
          · rw [if_neg hv] at hr
            have hn : newerF y.ver t.ver = true := by simpa using hr
            exact ⟨newer_not hn, fun e1 => absurd ((eqV_iff _ _).mpr e1) hv⟩
  obtain ⟨z0, hz0, hz0m, hz0t⟩ := hown
  refine ⟨hkeys, fun z hz => ?_, fun t ht => ?_, fun k z hz t ht hk => ?_⟩
  · unfold putF at hz
    split at hz
    · exact hmem z hz
    · split at hz
      · exact hmem z hz
      · simp [h.mem z hz]
  · by_cases hk : t.key = x.key
    · rw [hk]; exact ⟨z0, hz0⟩
    · rw [hother _ hk]
      rcases List.mem_append.mp ht with ht | ht
      · exact h.has t ht
      · simp at ht; subst ht; exact absurd rfl hk
  · by_cases hkx : k = x.key
    · subst hkx
      rw [hz0] at hz
      injection hz with hz
      subst hz
      exact hz0t t ht hk
    · rw [hother _ hkx] at hz
      rcases List.mem_append.mp ht with ht | ht
      · exact h.top k z hz t ht hk
      · simp at ht; subst ht; exact absurd hk.symm hkx
/-- What the law holds against each other. -/
def Like (x y : Itm) : Prop := x.key = y.key ∧ x.ver = y.ver ∧ x.held = y.held ∧ x.dead = y.dead
theorem Newest.like {l m s t : List Itm} (hs : Newest l s) (ht : Newest m t) (hm : ∀ z, z ∈ l ↔ z ∈ m) (ho : One l) {k : Int} {z : Itm} (hz : getF s k = some z) : ∃ y, getF t k = some y ∧ Like z y := by
  obtain ⟨hz1, hz2⟩ := getF_mem hz
  have hzl := hs.mem z hz1
  obtain ⟨y, hy⟩ := ht.has z ((hm z).mp hzl)
  rw [hz2] at hy
  obtain ⟨hy1, hy2⟩ := getF_mem hy
  have hyl := (hm y).mpr (ht.mem y hy1)
  have h1 := hs.top k z hz y hyl hy2
  have h2 := ht.top k y hy z ((hm z).mp hzl) hz2
  obtain ⟨e1, e2⟩ := newer_same h1.1 h2.1
  obtain ⟨e3, e4, e5⟩ := ho y hyl z hzl e1 e2
  refine ⟨y, hy, e3.symm, e4.symm, ?_, e5.symm⟩
  cases hzh : z.held with
  | true => exact (h2.2 e4.symm hzh).symm
  | false =>
    cases hyh : y.held with
    | false => rfl
    | true => rw [h1.2 e4 hyh] at hzh; cases hzh
theorem keys_ext : ∀ {s t : List Itm}, Keys s → Keys t → (∀ k z, getF s k = some z → ∃ y, getF t k = some y ∧ Like z y) → (∀ k z, getF t k = some z → ∃ y, getF s k = some y ∧ Like z y) → s.length = t.length ∧ ∀ (i : Nat) z y, s[i]? = some z → t[i]? = some y → Like z y
  | [], [], _, _, _, _ => ⟨rfl, fun i z y h => by simp at h⟩
  | [], y :: t, _, ht, _, h2 => by
    obtain ⟨z, hz, _⟩ := h2 y.key y (getF_some ht (by simp) rfl)
    simp [getF] at hz
  | z :: s, [], hs, _, h1, _ => by
    obtain ⟨y, hy, _⟩ := h1 z.key z (getF_some hs (by simp) rfl)
    simp [getF] at hy
  | z :: s, y :: t, hs, ht, h1, h2 => by
    obtain ⟨hs1, hs2⟩ := List.pairwise_cons.mp hs
    obtain ⟨ht1, ht2⟩ := List.pairwise_cons.mp ht
    obtain ⟨y', hy', ly⟩ := h1 z.key z (getF_some hs (by simp) rfl)
    obtain ⟨z', hz', lz⟩ := h2 y.key y (getF_some ht (by simp) rfl)
    obtain ⟨hy1, hy2⟩ := getF_mem hy'
    obtain ⟨hz1, hz2⟩ := getF_mem hz'
    have hk : z.key = y.key := by
      have a1 : y.key ≤ y'.key := by
        rcases List.mem_cons.mp hy1 with rfl | h
        · exact Int.le_refl _
        · exact Int.le_of_lt (ht1 _ h)
      have a2 : z.key ≤ z'.key := by
        rcases List.mem_cons.mp hz1 with rfl | h
        · exact Int.le_refl _
        · exact Int.le_of_lt (hs1 _ h)
      omega
    have hyy : y' = y := by
      have := getF_some ht (z := y) (by simp) hk.symm
      rw [hy'] at this
      injection this
    subst hyy
    have hs3 : ∀ k u, getF s k = some u → getF (z :: s) k = some u := fun k u hu => by
      obtain ⟨hu1, hu2⟩ := getF_mem hu
      exact getF_some hs (by simp [hu1]) hu2
    have ht3 : ∀ k u, getF t k = some u → getF (y' :: t) k = some u := fun k u hu => by
      obtain ⟨hu1, hu2⟩ := getF_mem hu
      exact getF_some ht (by simp [hu1]) hu2
    have ih := keys_ext hs2 ht2 (fun k u hu => by
        obtain ⟨v, hv, lv⟩ := h1 k u (hs3 k u hu)
        obtain ⟨hv1, hv2⟩ := getF_mem hv
        obtain ⟨hu1, hu2⟩ := getF_mem hu
        rcases List.mem_cons.mp hv1 with rfl | hv1
        · have := hs1 u hu1; omega
        · exact ⟨v, getF_some ht2 hv1 hv2, lv⟩) (fun k u hu => by
        obtain ⟨v, hv, lv⟩ := h2 k u (ht3 k u hu)
        obtain ⟨hv1, hv2⟩ := getF_mem hv
        obtain ⟨hu1, hu2⟩ := getF_mem hu
        rcases List.mem_cons.mp hv1 with rfl | hv1
        · have := ht1 u hu1; omega
        · exact ⟨v, getF_some hs2 hv1 hv2, lv⟩)
    refine ⟨by simp [ih.1], fun i a b ha hb => ?_⟩
    cases i with
    | zero => simp at ha hb; subst ha hb; exact ly
    | succ i => simp at ha hb; exact ih.2 i a b ha hb
theorem orders_like {l m s t : List Itm} (hs : Newest l s) (ht : Newest m t) (hm : ∀ z, z ∈ l ↔ z ∈ m) (ho : One l) : s.length = t.length ∧ ∀ (i : Nat) z y, s[i]? = some z → t[i]? = some y → Like z y :=
  keys_ext hs.keys ht.keys (fun _ _ hz => hs.like ht hm ho hz) (fun _ _ hz => ht.like hs (fun z => (hm z).symm) (ho.sub fun x hx => (hm x).mpr hx) hz)
/-- Two of them change places. -/
def swapL (o : List Itm) (k j : Nat) (a b : Itm) : List Itm := (o.set k b).set j a
theorem swapL_len (o : List Itm) (k j : Nat) (a b : Itm) : (swapL o k j a b).length = o.length := by simp [swapL]
theorem swapL_mem {o : List Itm} {k j : Nat} {a b : Itm} (ha : o[k]? = some a) (hb : o[j]? = some b) (z : Itm) : z ∈ swapL o k j a b ↔ z ∈ o := by
  have hk := (List.getElem?_eq_some_iff.mp ha).1
  have hj := (List.getElem?_eq_some_iff.mp hb).1
  have hg : ∀ i, (swapL o k j a b)[i]? = if i = j then some a else if i = k then some b else o[i]? := fun i => by
    unfold swapL
    rw [List.getElem?_set, List.getElem?_set]
    by_cases e1 : j = i
    · subst e1; simp [hj]
    · by_cases e2 : k = i
      · subst e2
        rw [if_neg e1, if_pos rfl, if_pos hk, if_neg (fun h => e1 h.symm), if_pos rfl]
      · rw [if_neg e1, if_neg e2, if_neg (fun h => e1 h.symm), if_neg (fun h => e2 h.symm)]
  constructor
  · intro h
    obtain ⟨i, hi⟩ := List.getElem?_of_mem h
    rw [hg i] at hi
    split at hi
    · injection hi with hi; subst hi; exact List.mem_of_getElem? ha
    · split at hi
      · injection hi with hi; subst hi; exact List.mem_of_getElem? hb
      · exact List.mem_of_getElem? hi
  · intro h
    obtain ⟨i, hi⟩ := List.getElem?_of_mem h
    by_cases e1 : i = j
    · subst e1
      rw [hb] at hi
      injection hi with hi
      subst hi
      refine List.mem_of_getElem? (i := k) ?_
      rw [hg k]
      by_cases e2 : k = i
      · subst e2; rw [if_pos rfl]; rw [ha] at hb; exact hb
      · rw [if_neg e2, if_pos rfl]
    · by_cases e2 : i = k
      · subst e2
        rw [ha] at hi
        injection hi with hi
        subst hi
        exact List.mem_of_getElem? (i := j) (by rw [hg j, if_pos rfl])
      · exact List.mem_of_getElem? (i := i) (by rw [hg i, if_neg e1, if_neg e2]; exact hi)
end Go.Proofs.Ytpaiigminmakgaa
