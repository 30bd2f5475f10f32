/- Plain mathematics of Vecs: a rising row of numbers from 1 on is told by how far each one is; Join, Meet, Drop and put in these words. -/
import Derived.Test.YtbbcifcdimfdgaaVk
namespace Go.Proofs.Ytbbcifcdimfdgaa

def Pos (zs : List At) : Prop := ∀ x ∈ zs, 1 ≤ x.2
theorem ofF_nonneg {zs : List At} (h : Pos zs) (a : ByteArray) : 0 ≤ ofF zs a := by
  induction zs with
  | nil => exact Int.le_refl _
  | cons x r ih =>
    unfold ofF
    split
    · have := h x (by simp); omega
    · exact ih fun y hy => h y (by simp [hy])
theorem ofF_ahead {y : At} {ys : List At} (h : Rising (y :: ys)) {a : ByteArray} (ha : cmpId a y.1 < 0) : ofF (y :: ys) a = 0 := by
  apply ofF_none
  rintro z hz rfl
  rcases List.mem_cons.mp hz with rfl | hz
  · rw [cmpId_self] at ha; omega
  · have h1 := (List.pairwise_cons.mp h).1 z hz
    have := cmpId_lt _ _ _ ha (show cmpId y.1 z.1 ≤ 0 by omega)
    rw [cmpId_self] at this; omega
theorem ofF_tail {x : At} {xs : List At} (h : Rising (x :: xs)) : ofF xs x.1 = 0 := by
  apply ofF_none
  intro z hz e
  have h1 := (List.pairwise_cons.mp h).1 z hz
  rw [e, cmpId_self] at h1; omega
theorem Rising.tail {x : At} {xs : List At} (h : Rising (x :: xs)) : Rising xs := (List.pairwise_cons.mp h).2
theorem Pos.tail {x : At} {xs : List At} (h : Pos (x :: xs)) : Pos xs := fun y hy => h y (by simp [hy])
theorem ofF_head (x : At) (xs : List At) : ofF (x :: xs) x.1 = x.2 := by unfold ofF; rw [if_pos rfl]
theorem ofF_cons_ne {x : At} {xs : List At} {a : ByteArray} (h : x.1 ≠ a) : ofF (x :: xs) a = ofF xs a := by rw [ofF, if_neg h]

/-- Two rising rows of numbers from 1 on in which each one is as far are the same. -/
theorem vec_ext : ∀ {xs ys : List At}, Rising xs → Rising ys → Pos xs → Pos ys → (∀ a, ofF xs a = ofF ys a) → xs = ys
  | [], [], _, _, _, _, _ => rfl
  | [], y :: ys, _, _, _, py, h => by
    have := h y.1
    rw [ofF_head] at this
    have := py y (by simp)
    simp only [ofF] at *
    omega
  | x :: xs, [], _, _, px, _, h => by
    have := h x.1
    rw [ofF_head] at this
    have := px x (by simp)
    simp only [ofF] at *
    omega
  | x :: xs, y :: ys, hx, hy, px, py, h => by
    have p1 := px x (by simp)
    have p2 := py y (by simp)
    have h1 := h x.1
    have h2 := h y.1
    rw [ofF_head] at h1 h2
    rcases cmpId_three x.1 y.1 with c | c | c
    · rw [ofF_ahead hy (by omega)] at h1; omega
    · have e := (cmpId_zero _ _).mp c
      rw [e, ofF_head] at h1
      have exy : x = y := Prod.ext e h1
      subst exy
      congr 1
      refine vec_ext hx.tail hy.tail px.tail py.tail fun a => ?_
      by_cases ha : x.1 = a
      · rw [← ha, ofF_tail hx, ofF_tail hy]
      · have := h a
        rwa [ofF_cons_ne ha, ofF_cons_ne ha] at this
    · have c' := cmpId_neg x.1 y.1
      rw [ofF_ahead hx (by omega)] at h2; omega

theorem mem_join : ∀ (xs ys : List At) {z : At}, z ∈ joinF xs ys → z ∈ xs ∨ z ∈ ys ∨ ∃ x ∈ xs, ∃ y ∈ ys, x.1 = y.1 ∧ z = (x.1, max x.2 y.2)
  | [], ys, z, h => by rw [joinF] at h; exact Or.inr (Or.inl h)
  | x :: xs, [], z, h => by rw [joinF_nil] at h; exact Or.inl h
  | x :: xs, y :: ys, z, h => by
    rcases cmpId_three x.1 y.1 with c | c | c
    · rw [joinF_lt (by omega)] at h
      rcases List.mem_cons.mp h with rfl | h
      · exact Or.inl (by simp)
      · rcases mem_join xs (y :: ys) h with h | h | ⟨u, hu, v, hv, e⟩
        · exact Or.inl (by simp [h])
        · exact Or.inr (Or.inl h)
        · exact Or.inr (Or.inr ⟨u, by simp [hu], v, hv, e⟩)
    · rw [joinF_eq c] at h
      rcases List.mem_cons.mp h with rfl | h
      · exact Or.inr (Or.inr ⟨x, by simp, y, by simp, (cmpId_zero _ _).mp c, rfl⟩)
      · rcases mem_join xs ys h with h | h | ⟨u, hu, v, hv, e⟩
        · exact Or.inl (by simp [h])
        · exact Or.inr (Or.inl (by simp [h]))
        · exact Or.inr (Or.inr ⟨u, by simp [hu], v, by simp [hv], e⟩)
    · rw [joinF_gt (by omega)] at h
      rcases List.mem_cons.mp h with rfl | h
      · exact Or.inr (Or.inl (by simp))
      · rcases mem_join (x :: xs) ys h with h | h | ⟨u, hu, v, hv, e⟩
        · exact Or.inl h
        · exact Or.inr (Or.inl (by simp [h]))
        · exact Or.inr (Or.inr ⟨u, hu, v, by simp [hv], e⟩)
  termination_by xs ys => xs.length + ys.length
theorem join_id {xs ys : List At} {z : At} (h : z ∈ joinF xs ys) : (∃ x ∈ xs, x.1 = z.1) ∨ ∃ y ∈ ys, y.1 = z.1 := by
  rcases mem_join xs ys h with h | h | ⟨u, hu, v, hv, e, rfl⟩
  · exact Or.inl ⟨z, h, rfl⟩
  · exact Or.inr ⟨z, h, rfl⟩
  · exact Or.inl ⟨u, hu, rfl⟩
theorem rising_join : ∀ {xs ys : List At}, Rising xs → Rising ys → Rising (joinF xs ys)
  | [], ys, _, hy => by rw [joinF]; exact hy
  | x :: xs, [], hx, _ => by rw [joinF_nil]; exact hx
  | x :: xs, y :: ys, hx, hy => by
    have hx1 := (List.pairwise_cons.mp hx).1
    have hy1 := (List.pairwise_cons.mp hy).1
    rcases cmpId_three x.1 y.1 with c | c | c
    · rw [joinF_lt (by omega)]
      refine List.pairwise_cons.mpr ⟨fun z hz => ?_, rising_join hx.tail hy⟩
      rcases join_id hz with ⟨u, hu, e⟩ | ⟨u, hu, e⟩
      · rw [← e]; exact hx1 u hu
      · rw [← e]
        rcases List.mem_cons.mp hu with rfl | hu
        · omega
        · exact cmpId_lt _ _ _ (show cmpId x.1 y.1 < 0 by omega) (by have := hy1 u hu; omega)
    · rw [joinF_eq c]
      have e := (cmpId_zero _ _).mp c
      refine List.pairwise_cons.mpr ⟨fun z hz => ?_, rising_join hx.tail hy.tail⟩
      rcases join_id hz with ⟨u, hu, e2⟩ | ⟨u, hu, e2⟩
      · rw [← e2]; exact hx1 u hu
      · rw [← e2]; show cmpId x.1 u.1 < 0; rw [e]; exact hy1 u hu
    · rw [joinF_gt (by omega)]
      have c' := cmpId_neg x.1 y.1
      refine List.pairwise_cons.mpr ⟨fun z hz => ?_, rising_join hx hy.tail⟩
      rcases join_id hz with ⟨u, hu, e⟩ | ⟨u, hu, e⟩
      · rw [← e]
        rcases List.mem_cons.mp hu with rfl | hu
        · omega
        · exact cmpId_lt _ _ _ (show cmpId y.1 x.1 < 0 by omega) (by have := hx1 u hu; omega)
      · rw [← e]; exact hy1 u hu
  termination_by xs ys => xs.length + ys.length
theorem pos_join {xs ys : List At} (px : Pos xs) (py : Pos ys) : Pos (joinF xs ys) := fun z hz => by
  rcases mem_join xs ys hz with h | h | ⟨u, hu, v, hv, _, rfl⟩
  · exact px z h
  · exact py z h
  · have := px u hu; show 1 ≤ max u.2 v.2; omega
theorem ofF_join : ∀ {xs ys : List At}, Rising xs → Rising ys → Pos xs → Pos ys → ∀ a, ofF (joinF xs ys) a = max (ofF xs a) (ofF ys a)
  | [], ys, _, _, _, py, a => by rw [joinF]; have := ofF_nonneg py a; simp only [ofF]; omega
  | x :: xs, [], _, _, px, _, a => by rw [joinF_nil]; have := ofF_nonneg px a; simp only [ofF] at *; omega
  | x :: xs, y :: ys, hx, hy, px, py, a => by
    have p1 := px x (by simp)
    have p2 := py y (by simp)
    rcases cmpId_three x.1 y.1 with c | c | c
    · rw [joinF_lt (by omega)]
      by_cases ha : x.1 = a
      · subst ha
        rw [ofF_head, ofF_head, ofF_ahead hy (by omega)]; omega
      · rw [ofF_cons_ne ha, ofF_cons_ne ha, ofF_join hx.tail hy px.tail py a]
    · rw [joinF_eq c]
      have e := (cmpId_zero _ _).mp c
      by_cases ha : x.1 = a
      · subst ha
        rw [ofF, if_pos rfl, ofF_head, e, ofF_head]
      · rw [ofF_cons_ne (x := (x.1, max x.2 y.2)) ha, ofF_cons_ne ha, ofF_cons_ne (show y.1 ≠ a by rw [← e]; exact ha), ofF_join hx.tail hy.tail px.tail py.tail a]
    · rw [joinF_gt (by omega)]
      have c' := cmpId_neg x.1 y.1
      by_cases ha : y.1 = a
      · subst ha
        rw [ofF_head, ofF_head, ofF_ahead hx (by omega)]; omega
      · rw [ofF_cons_ne ha, ofF_cons_ne (x := y) ha, ofF_join hx hy.tail px py.tail a]
  termination_by xs ys => xs.length + ys.length
theorem join_len : ∀ (xs ys : List At), (joinF xs ys).length ≤ xs.length + ys.length
  | [], ys => by rw [joinF]; simp
  | x :: xs, [] => by rw [joinF_nil]; simp
  | x :: xs, y :: ys => by
    rcases cmpId_three x.1 y.1 with c | c | c
    · rw [joinF_lt (by omega)]; have := join_len xs (y :: ys); simp at this ⊢; omega
    · rw [joinF_eq c]; have := join_len xs ys; simp at this ⊢; omega
    · rw [joinF_gt (by omega)]; have := join_len (x :: xs) ys; simp at this ⊢; omega
  termination_by xs ys => xs.length + ys.length

theorem rising_drop {zs : List At} (h : Rising zs) (a : ByteArray) : Rising (dropF zs a) := List.Pairwise.filter _ h
theorem pos_drop {zs : List At} (h : Pos zs) (a : ByteArray) : Pos (dropF zs a) := fun x hx => h x (List.mem_filter.mp hx).1
theorem drop_ne {zs : List At} {a : ByteArray} {x : At} (h : x ∈ dropF zs a) : x.1 ≠ a := by
  have := (List.mem_filter.mp h).2; simpa using this
theorem ofF_drop (zs : List At) (a b : ByteArray) : ofF (dropF zs a) b = if b = a then 0 else ofF zs b := by
  by_cases e : b = a
  · subst e; rw [if_pos rfl]; exact ofF_none fun x hx => drop_ne hx
  · rw [if_neg e]
    induction zs with
    | nil => rfl
    | cons x r ih =>
      by_cases hx : x.1 = a
      · rw [dropF, List.filter_cons, if_neg (by simpa using hx), ofF_cons_ne (fun h => e (h.symm.trans hx))]; exact ih
      · rw [dropF, List.filter_cons, if_pos (by simpa using hx)]
        by_cases hb : x.1 = b
        · rw [ofF, if_pos hb, ofF, if_pos hb]
        · rw [ofF_cons_ne hb, ofF_cons_ne hb]; exact ih

theorem mem_meet {zs ys : List At} {z : At} (h : z ∈ meetF zs ys) : ∃ x ∈ zs, x.1 = z.1 ∧ z.2 = min x.2 (ofF ys x.1) ∧ 1 ≤ z.2 := by
  obtain ⟨x, hx, e⟩ := List.mem_filterMap.mp h
  by_cases hp : 0 < min x.2 (ofF ys x.1)
  · rw [if_pos hp] at e; injection e with e; subst e; exact ⟨x, hx, rfl, rfl, by show 1 ≤ min x.2 (ofF ys x.1); omega⟩
  · rw [if_neg hp] at e; cases e
theorem rising_meet : ∀ {zs : List At} (ys : List At), Rising zs → Rising (meetF zs ys)
  | [], _, _ => List.Pairwise.nil
  | x :: zs, ys, h => by
    have ih := rising_meet ys h.tail
    rw [meetF, List.filterMap_cons]
    split
    · exact ih
    · rename_i b hb
      refine List.pairwise_cons.mpr ⟨fun z hz => ?_, ih⟩
      have hb1 : b.1 = x.1 := by
        split at hb
        · injection hb with hb; rw [← hb]
        · cases hb
      obtain ⟨u, hu, e, _⟩ := mem_meet hz
      rw [hb1, ← e]
      exact (List.pairwise_cons.mp h).1 u hu
theorem pos_meet {zs ys : List At} : Pos (meetF zs ys) := fun z hz => by obtain ⟨_, _, _, _, h⟩ := mem_meet hz; exact h
theorem ofF_meet : ∀ {zs ys : List At}, Rising zs → Pos zs → Pos ys → ∀ a, ofF (meetF zs ys) a = min (ofF zs a) (ofF ys a)
  | [], ys, _, _, py, a => by have := ofF_nonneg py a; simp only [meetF, List.filterMap_nil, ofF]; omega
  | x :: zs, ys, h, px, py, a => by
    have ih := ofF_meet h.tail px.tail py a
    have p1 := px x (by simp)
    have py0 := ofF_nonneg py a
    have e : meetF (x :: zs) ys = if 0 < min x.2 (ofF ys x.1) then (x.1, min x.2 (ofF ys x.1)) :: meetF zs ys else meetF zs ys := by
      rw [meetF, List.filterMap_cons]
      by_cases hp : 0 < min x.2 (ofF ys x.1)
      · simp only [hp, if_true]; rfl
      · simp only [hp, if_false]; rfl
    rw [e]
    by_cases ha : x.1 = a
    · subst ha
      rw [ofF_head]
      by_cases hp : 0 < min x.2 (ofF ys x.1)
      · rw [if_pos hp, ofF, if_pos rfl]
      · rw [if_neg hp, ih, ofF_tail h]; omega
    · rw [ofF_cons_ne ha]
      by_cases hp : 0 < min x.2 (ofF ys x.1)
      · rw [if_pos hp, ofF_cons_ne (x := (x.1, min x.2 (ofF ys x.1))) ha, ih]
      · rw [if_neg hp, ih]

/-- One is just so far. -/
def putV (zs : List At) (a : ByteArray) (z : Int) : List At := if z < 1 then dropF zs a else joinF (dropF zs a) [(a, z)]
theorem rising_one (x : At) : Rising [x] := List.pairwise_singleton _ _
theorem pos_one {x : At} (h : 1 ≤ x.2) : Pos [x] := fun y hy => by simp at hy; subst hy; exact h
theorem rising_put {zs : List At} (h : Rising zs) (a : ByteArray) (z : Int) : Rising (putV zs a z) := by
  unfold putV; split
  · exact rising_drop h a
  · exact rising_join (rising_drop h a) (rising_one _)
theorem pos_put {zs : List At} (h : Pos zs) (a : ByteArray) (z : Int) : Pos (putV zs a z) := by
  unfold putV; split
  · exact pos_drop h a
  · exact pos_join (pos_drop h a) (pos_one (by show 1 ≤ z; omega))
theorem ofF_put {zs : List At} (h : Rising zs) (p : Pos zs) (a : ByteArray) (z : Int) (b : ByteArray) : ofF (putV zs a z) b = if b = a then max z 0 else ofF zs b := by
  unfold putV
  split
  · rw [ofF_drop]; split <;> omega
  · rw [ofF_join (rising_drop h a) (rising_one _) (pos_drop p a) (pos_one (by show 1 ≤ z; omega)), ofF_drop]
    by_cases e : b = a
    · subst e; rw [if_pos rfl, if_pos rfl, ofF, if_pos rfl]; omega
    · rw [if_neg e, if_neg e, ofF_cons_ne (fun h => e h.symm)]
      have := ofF_nonneg p b
      simp only [ofF]; omega
theorem put_len (zs : List At) (a : ByteArray) (z : Int) : (putV zs a z).length ≤ zs.length + 1 := by
  unfold putV; have := dropF_len zs a; split
  · omega
  · have := join_len (dropF zs a) [(a, z)]; simp at this; omega

theorem ofF_split (pre post : List At) (x : At) (b : ByteArray) (h : ∀ y ∈ pre ++ post, y.1 ≠ x.1) : ofF (pre ++ x :: post) b = if b = x.1 then x.2 else ofF (pre ++ post) b := by
  induction pre with
  | nil =>
    simp only [List.nil_append]
    by_cases e : b = x.1
    · subst e; rw [if_pos rfl, ofF_head]
    · rw [if_neg e, ofF_cons_ne (fun h => e h.symm)]
  | cons y r ih =>
    have hy := h y (by simp)
    have ih' := ih fun z hz => h z (by simp at hz ⊢; exact Or.inr hz)
    rw [List.cons_append, List.cons_append]
    by_cases hb : y.1 = b
    · rw [ofF, if_pos hb, ofF, if_pos hb, if_neg (fun e => hy (hb.trans e))]
    · rw [ofF_cons_ne hb, ofF_cons_ne hb]; exact ih'
/-- What put leaves of a rising row. -/
theorem put_is {zs : List At} {a : ByteArray} {z : Int} {r : List At} (h : Rising zs) (p : Pos zs) (hz : 1 ≤ z) (hr : PutIs (dropF zs a) (a, z) r) : r = putV zs a z := by
  obtain ⟨pre, post, hd, rfl, hpost, hlast⟩ := hr
  have hR := rising_drop h a
  have hP := pos_drop p a
  have hne : ∀ y ∈ pre ++ post, y.1 ≠ a := fun y hy => by rw [hd] at hy; exact drop_ne hy
  rw [← hd] at hR hP
  have hR2 := List.pairwise_append.mp hR
  refine vec_ext ?_ (rising_put h a z) ?_ (pos_put p a z) fun b => ?_
  · refine List.pairwise_append.mpr ⟨hR2.1, List.pairwise_cons.mpr ⟨fun y hy => ?_, hR2.2.1⟩, fun y hy v hv => ?_⟩
    · have h1 : 0 < cmpId y.1 a := hpost y hy
      have h2 := cmpId_neg y.1 a
      show cmpId a y.1 < 0
      omega
    · rcases List.mem_cons.mp hv with rfl | hv
      · show cmpId y.1 a < 0
        rcases List.eq_nil_or_concat pre with e | ⟨p', l, e⟩
        · subst e; simp at hy
        · rw [List.concat_eq_append] at e
          subst e
          have h1 : cmpId l.1 a ≤ 0 := hlast l (by simp)
          have h2 : cmpId l.1 a ≠ 0 := fun e => hne l (by simp) ((cmpId_zero _ _).mp e)
          rcases List.mem_append.mp hy with hy | hy
          · have h3 := (List.pairwise_append.mp hR2.1).2.2 y hy l (by simp)
            exact cmpId_lt _ _ _ h3 h1
          · simp at hy; subst hy; omega
      · exact hR2.2.2 y hy v hv
  · intro y hy
    rcases List.mem_append.mp hy with hy | hy
    · exact hP y (by simp [hy])
    · rcases List.mem_cons.mp hy with rfl | hy
      · exact hz
      · exact hP y (by simp [hy])
  · rw [ofF_put h p, ofF_split _ _ _ _ hne, hd, ofF_drop]
    by_cases e : b = a
    · subst e; rw [if_pos rfl, if_pos rfl]; show z = max z 0; omega
    · rw [if_neg e, if_neg e, if_neg e]

theorem within_iff {xs ys : List At} (hx : Rising xs) (py : Pos ys) : withinF xs ys = true ↔ ∀ a, ofF xs a ≤ ofF ys a := by
  unfold withinF
  rw [List.all_eq_true]
  constructor
  · intro h a
    by_cases h0 : ofF xs a = 0
    · rw [h0]; exact ofF_nonneg py a
    · obtain ⟨x, hxm, rfl⟩ := ofF_pos h0
      rw [ofF_mem hx hxm]
      simpa using h x hxm
  · intro h x hxm
    have := h x.1
    rw [ofF_mem hx hxm] at this
    simpa using this

theorem right_iff (zs : List At) : rightV zs = true ↔ Rising zs ∧ ∀ x ∈ zs, okAt x = true := by
  rw [rightV_iff]
  constructor
  · intro h
    refine ⟨List.pairwise_iff_getElem.mpr fun i j hi hj hij => ?_, fun x hx => ?_⟩
    · have key : ∀ m, i + m + 1 < zs.length → cmpId (zs.getD i atNil).1 (zs.getD (i + m + 1) atNil).1 < 0 := by
        intro m
        induction m with
        | zero => intro hm; have := (h (i + 1) hm).2 (by omega); simpa using this
        | succ m ih =>
          intro hm
          have h1 := ih (by omega)
          have h2 := (h (i + (m + 1) + 1) hm).2 (by omega)
          exact cmpId_lt _ _ _ h1 (by rw [show i + (m + 1) + 1 - 1 = i + m + 1 by omega] at h2; omega)
      have := key (j - i - 1) (by omega)
      rw [show i + (j - i - 1) + 1 = j by omega] at this
      simpa [List.getD_eq_getElem?_getD, hi, hj] using this
    · obtain ⟨k, hk, e⟩ := mem_getD hx
      rw [← e]; exact (h k hk).1
  · rintro ⟨h1, h2⟩ j hj
    exact ⟨h2 _ (getD_mem hj), fun h0 => rising_lt h1 (j - 1) j (by omega) hj⟩
theorem okAt_pos {x : At} (h : okAt x = true) : 1 ≤ x.2 ∧ x.2 ≤ 1048576 ∧ rightL x.1.data.toList = true := by
  unfold okAt at h; simp at h; exact ⟨h.2.1, h.2.2, h.1⟩
end Go.Proofs.Ytbbcifcdimfdgaa
