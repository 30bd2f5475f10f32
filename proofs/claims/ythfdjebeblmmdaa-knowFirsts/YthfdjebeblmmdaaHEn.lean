/- Knows that may be: what Union says of each id; two that say the same are the same. Plain mathematics. -/
import Derived.Test.YthfdjebeblmmdaaHEf
namespace Go.Proofs.Ythfdjebeblmmdaa
open Go.RowKit

theorem mOf_head (x : ByteArray × (Int × List Int)) (m : Mat) : mOf (x :: m) x.1 = x.2 := by rw [mOf, if_pos rfl]
theorem mOf_cons_ne {x : ByteArray × (Int × List Int)} {m : Mat} {a : ByteArray} (h : x.1 ≠ a) : mOf (x :: m) a = mOf m a := by rw [mOf, if_neg h]
theorem mOf_ahead {y : ByteArray × (Int × List Int)} {ys : Mat} (h : RisingM (y :: ys)) {a : ByteArray} (ha : cmpId a y.1 < 0) : mOf (y :: ys) a = (0, []) := by
  refine mOf_none fun x hx e => ?_
  have h1 := (List.pairwise_cons.mp ((risingM_iff _).mp h)).1
  rcases List.mem_cons.mp hx with rfl | hx
  · rw [e, cmpId_self] at ha; omega
  · have := cmpId_lt a y.1 x.1 ha (by have := h1 x hx; omega)
    rw [e, cmpId_self] at this
    omega
theorem mOf_tail {x : ByteArray × (Int × List Int)} {m : Mat} (h : RisingM (x :: m)) : mOf m x.1 = (0, []) := by
  refine mOf_none fun y hy e => ?_
  have h1 := (List.pairwise_cons.mp ((risingM_iff _).mp h)).1 y hy
  rw [e, cmpId_self] at h1
  omega
theorem RisingM.head {x : ByteArray × (Int × List Int)} {m : Mat} (h : RisingM (x :: m)) : ∀ y ∈ m, cmpId x.1 y.1 < 0 := (List.pairwise_cons.mp ((risingM_iff _).mp h)).1
theorem RisingM.cons {x : ByteArray × (Int × List Int)} {m : Mat} (h : ∀ y ∈ m, cmpId x.1 y.1 < 0) (hm : RisingM m) : RisingM (x :: m) := (risingM_iff _).mpr (List.pairwise_cons.mpr ⟨h, (risingM_iff _).mp hm⟩)
theorem mat_ext : ∀ {xs ys : Mat}, RisingM xs → RisingM ys → (∀ x ∈ xs, x.2 ≠ (0, [])) → (∀ y ∈ ys, y.2 ≠ (0, [])) → (∀ a, mOf xs a = mOf ys a) → xs = ys
  | [], [], _, _, _, _, _ => rfl
  | [], y :: ys, _, _, _, py, h => absurd (by have := h y.1; rw [mOf_head] at this; exact this.symm) (py y (by simp))
  | x :: xs, [], _, _, px, _, h => absurd (by have := h x.1; rw [mOf_head] at this; exact this) (px x (by simp))
  | x :: xs, y :: ys, hx, hy, px, py, h => by
    have p1 := px x (by simp)
    have p2 := py y (by simp)
    have h1 := h x.1
    have h2 := h y.1
    rw [mOf_head] at h1 h2
    rcases cmpId_three x.1 y.1 with c | c | c
    · rw [mOf_ahead hy (by omega)] at h1; exact absurd h1 p1
    · have e := (cmpId_zero _ _).mp c
      rw [e, mOf_head] at h1
      have exy : x = y := Prod.ext e h1
      subst exy
      congr 1
      refine mat_ext hx.tail hy.tail (fun z hz => px z (by simp [hz])) (fun z hz => py z (by simp [hz])) fun a => ?_
      by_cases ha : x.1 = a
      · rw [← ha, mOf_tail hx, mOf_tail hy]
      · have := h a
        rwa [mOf_cons_ne ha, mOf_cons_ne ha] at this
    · have c' := cmpId_neg x.1 y.1
      rw [mOf_ahead hx (by omega)] at h2; exact absurd h2.symm p2
theorem mem_merge : ∀ (xs ys : Mat) {z : ByteArray × (Int × List Int)}, z ∈ mergeF xs ys → z ∈ xs ∨ z ∈ ys ∨ ∃ x ∈ xs, ∃ y ∈ ys, x.1 = y.1 ∧ z = (x.1, Sp.unionF x.2 y.2)
  | [], ys, z, h => by rw [mergeF] at h; exact .inr (.inl h)
  | x :: xs, [], z, h => by rw [mergeF_nil] at h; exact .inl h
  | x :: xs, y :: ys, z, h => by
    rcases cmpId_three x.1 y.1 with c | c | c
    · rw [mergeF_lt (by omega)] at h
      rcases List.mem_cons.mp h with rfl | h
      · exact .inl (by simp)
      · rcases mem_merge xs (y :: ys) h with h | h | ⟨u, hu, v, hv, e⟩
        · exact .inl (by simp [h])
        · exact .inr (.inl h)
        · exact .inr (.inr ⟨u, by simp [hu], v, hv, e⟩)
    · rw [mergeF_eq c] at h
      rcases List.mem_cons.mp h with rfl | h
      · exact .inr (.inr ⟨x, by simp, y, by simp, (cmpId_zero _ _).mp c, rfl⟩)
      · rcases mem_merge xs ys h with h | h | ⟨u, hu, v, hv, e⟩
        · exact .inl (by simp [h])
        · exact .inr (.inl (by simp [h]))
        · exact .inr (.inr ⟨u, by simp [hu], v, by simp [hv], e⟩)
    · rw [mergeF_gt (by omega)] at h
      rcases List.mem_cons.mp h with rfl | h
      · exact .inr (.inl (by simp))
      · rcases mem_merge (x :: xs) ys h with h | h | ⟨u, hu, v, hv, e⟩
        · exact .inl h
        · exact .inr (.inl (by simp [h]))
        · exact .inr (.inr ⟨u, hu, v, by simp [hv], e⟩)
  termination_by xs ys => xs.length + ys.length
theorem merge_id {xs ys : Mat} {z : ByteArray × (Int × List Int)} (h : z ∈ mergeF xs ys) : (∃ x ∈ xs, x.1 = z.1) ∨ ∃ y ∈ ys, y.1 = z.1 := by
  rcases mem_merge xs ys h with h | h | ⟨u, hu, v, hv, e, rfl⟩
  · exact .inl ⟨z, h, rfl⟩
  · exact .inr ⟨z, h, rfl⟩
  · exact .inl ⟨u, hu, rfl⟩
theorem rising_merge : ∀ {xs ys : Mat}, RisingM xs → RisingM ys → RisingM (mergeF xs ys)
  | [], ys, _, hy => by rw [mergeF]; exact hy
  | x :: xs, [], hx, _ => by rw [mergeF_nil]; exact hx
  | x :: xs, y :: ys, hx, hy => by
    have hx1 := hx.head
    have hy1 := hy.head
    rcases cmpId_three x.1 y.1 with c | c | c
    · rw [mergeF_lt (by omega)]
      refine RisingM.cons (fun z hz => ?_) (rising_merge hx.tail hy)
      rcases merge_id hz with ⟨u, hu, e⟩ | ⟨u, hu, e⟩
      · rw [← e]; exact hx1 u hu
      · rw [← e]
        rcases List.mem_cons.mp hu with rfl | hu
        · omega
        · exact cmpId_lt _ _ _ (show cmpId x.1 y.1 < 0 by omega) (by have := hy1 u hu; omega)
    · rw [mergeF_eq c]
      have e := (cmpId_zero _ _).mp c
      refine RisingM.cons (fun z hz => ?_) (rising_merge hx.tail hy.tail)
      rcases merge_id hz with ⟨u, hu, e2⟩ | ⟨u, hu, e2⟩
      · rw [← e2]; exact hx1 u hu
      · rw [← e2]; show cmpId x.1 u.1 < 0; rw [e]; exact hy1 u hu
    · rw [mergeF_gt (by omega)]
      have c' := cmpId_neg x.1 y.1
      refine RisingM.cons (fun z hz => ?_) (rising_merge hx hy.tail)
      rcases merge_id hz with ⟨u, hu, e⟩ | ⟨u, hu, e⟩
      · rw [← e]
        rcases List.mem_cons.mp hu with rfl | hu
        · omega
        · exact cmpId_lt _ _ _ (show cmpId y.1 x.1 < 0 by omega) (by have := hx1 u hu; omega)
      · rw [← e]; exact hy1 u hu
  termination_by xs ys => xs.length + ys.length
/-- Numbers that may be, with no more than k beyond a hole. -/
structure Num (k : Nat) (s : Int × List Int) : Prop where
  ok : Sp.Ok s
  top : ∀ x, Sp.Mem x s → x ≤ 1048576
  len : s.2.length ≤ k
theorem ok_nil : Sp.Ok (0, []) := ⟨Int.le_refl _, List.Pairwise.nil, by simp⟩
theorem mem_nil {x : Int} (h : Sp.Mem x (0, [])) : False := by
  rcases h with h | h
  · simp at h; omega
  · simp at h
theorem Num.nil (k : Nat) : Num k (0, []) := ⟨ok_nil, fun _ h => (mem_nil h).elim, Nat.zero_le _⟩
theorem Num.more {k l : Nat} {s : Int × List Int} (h : Num k s) (hl : k ≤ l) : Num l s := ⟨h.ok, h.top, Nat.le_trans h.len hl⟩
theorem Num.hi {k : Nat} {s : Int × List Int} (h : Num k s) : s.1 ≤ 1048576 := by
  rcases Int.lt_or_le s.1 1 with h1 | h1
  · omega
  · exact h.top _ (.inl ⟨h1, Int.le_refl _⟩)
theorem Num.okS {k : Nat} {s : Int × List Int} (h : Num k s) (hk : k ≤ 100000) : OkS s := ⟨h.ok, h.hi, Nat.le_trans h.len hk⟩
theorem union_len (s t : Int × List Int) : (Sp.unionF s t).2.length ≤ s.2.length + t.2.length := by
  have h := (Sp.fold_lo (Sp.mergeF s.2 t.2) (Sp.firstU (max s.1 t.1), [])).2.2
  have h2 : (Sp.mergeF s.2 t.2).length = s.2.length + t.2.length := by unfold Sp.mergeF; rw [List.length_merge]
  unfold Sp.unionF
  rw [h2] at h
  simpa using h
theorem Num.mem_union {k l : Nat} {s t : Int × List Int} (hs : Num k s) (ht : Num l t) (x : Int) : Sp.Mem x (Sp.unionF s t) ↔ Sp.Mem x s ∨ Sp.Mem x t := (Sp.union_ok hs.ok ht.ok hs.hi ht.hi).2 x
theorem Num.union {k l : Nat} {s t : Int × List Int} (hs : Num k s) (ht : Num l t) : Num (k + l) (Sp.unionF s t) :=
  ⟨(Sp.union_ok hs.ok ht.ok hs.hi ht.hi).1, fun x hx => by
    rcases (hs.mem_union ht x).mp hx with h | h
    · exact hs.top x h
    · exact ht.top x h, by have := union_len s t; have := hs.len; have := ht.len; omega⟩
theorem Num.ext {k l : Nat} {s t : Int × List Int} (hs : Num k s) (ht : Num l t) (h : ∀ x, Sp.Mem x s ↔ Sp.Mem x t) : s = t := Sp.Ok.ext hs.ok ht.ok h
theorem Num.union_nil {k : Nat} {s : Int × List Int} (h : Num k s) : Sp.unionF s (0, []) = s := clone_same h.ok h.hi
theorem Num.nil_union {k : Nat} {s : Int × List Int} (h : Num k s) : Sp.unionF (0, []) s = s := ((Num.nil k).union h).ext h fun x => by
  rw [(Num.nil k).mem_union h x]
  exact ⟨fun h => h.elim (fun h => (mem_nil h).elim) id, .inr⟩
theorem Num.some {k : Nat} {s : Int × List Int} (h : Num k s) (hne : s ≠ (0, [])) : ∃ x, Sp.Mem x s := by
  obtain ⟨u, l⟩ := s
  rcases Int.lt_or_le u 1 with h1 | h1
  · have h0 := h.ok.1
    simp only at h0
    obtain rfl : u = 0 := by omega
    cases l with
    | nil => exact absurd rfl hne
    | cons z r => exact ⟨z, .inr (by simp)⟩
  · exact ⟨u, .inl ⟨h1, Int.le_refl _⟩⟩
theorem union_ne {k l : Nat} {s t : Int × List Int} (hs : Num k s) (ht : Num l t) (hne : s ≠ (0, [])) : Sp.unionF s t ≠ (0, []) := fun e => by
  obtain ⟨x, hx⟩ := hs.some hne
  have := (hs.mem_union ht x).mpr (.inl hx)
  rw [e] at this
  exact mem_nil this
theorem num_count {k : Nat} {s : Int × List Int} (h : Num k s) : s.1 + (s.2.length : Int) < 1 ↔ s = (0, []) := by
  have h0 := h.ok.1
  constructor
  · intro hc
    obtain ⟨u, l⟩ := s
    simp only at hc h0
    have : l = [] := List.eq_nil_of_length_eq_zero (by omega)
    subst this
    simp at hc
    rw [show u = 0 by omega]
  · rintro rfl; simp
/-- Rows that may be, each with no more than k beyond a hole. -/
structure GK (k : Nat) (m : Mat) : Prop where
  up : RisingM m
  row : ∀ x ∈ m, rightL x.1.data.toList = true ∧ Num k x.2 ∧ x.2 ≠ (0, [])
theorem GK.nil (k : Nat) : GK k [] := ⟨(risingM_iff _).mpr List.Pairwise.nil, by simp⟩
theorem GK.more {k l : Nat} {m : Mat} (h : GK k m) (hl : k ≤ l) : GK l m := ⟨h.up, fun x hx => ⟨(h.row x hx).1, (h.row x hx).2.1.more hl, (h.row x hx).2.2⟩⟩
theorem GK.of {k : Nat} {m : Mat} (h : GK k m) (a : ByteArray) : Num k (mOf m a) := by
  by_cases hx : ∃ x ∈ m, x.1 = a
  · obtain ⟨x, hx, rfl⟩ := hx
    rw [mOf_mem h.up hx]; exact (h.row x hx).2.1
  · rw [mOf_none (fun x hx' e => hx ⟨x, hx', e⟩)]; exact Num.nil k
theorem GK.okS {k : Nat} {m : Mat} (h : GK k m) (hk : k ≤ 100000) : ∀ x ∈ m, OkS x.2 := fun x hx => (h.row x hx).2.1.okS hk
theorem GK.len {k : Nat} {m : Mat} (h : GK k m) : ∀ x ∈ m, x.2.2.length ≤ k := fun x hx => (h.row x hx).2.1.len
theorem GK.tail {k : Nat} {x : ByteArray × (Int × List Int)} {m : Mat} (h : GK k (x :: m)) : GK k m := ⟨h.up.tail, fun y hy => h.row y (by simp [hy])⟩
theorem mOf_merge {k l : Nat} : ∀ {xs ys : Mat}, GK k xs → GK l ys → ∀ a, mOf (mergeF xs ys) a = Sp.unionF (mOf xs a) (mOf ys a)
  | [], ys, _, hy, a => by rw [mergeF, mOf, (hy.of a).nil_union]
  | x :: xs, [], hx, _, a => by rw [mergeF_nil, show mOf ([] : Mat) a = (0, []) from rfl, (hx.of a).union_nil]
  | x :: xs, y :: ys, hx, hy, a => by
    have nx := (hx.row x (by simp)).2.1
    have ny := (hy.row y (by simp)).2.1
    rcases cmpId_three x.1 y.1 with c | c | c
    · rw [mergeF_lt (by omega)]
      by_cases ha : x.1 = a
      · subst ha
        rw [mOf_head, mOf_head, mOf_ahead hy.up (by omega), nx.union_nil]
      · rw [mOf_cons_ne ha, mOf_cons_ne ha, mOf_merge hx.tail hy a]
    · rw [mergeF_eq c]
      have e := (cmpId_zero _ _).mp c
      by_cases ha : x.1 = a
      · subst ha
        rw [mOf, if_pos rfl, mOf_head, e, mOf_head]
      · rw [mOf_cons_ne (x := (x.1, Sp.unionF x.2 y.2)) ha, mOf_cons_ne ha, mOf_cons_ne (show y.1 ≠ a by rw [← e]; exact ha), mOf_merge hx.tail hy.tail a]
    · rw [mergeF_gt (by omega)]
      have c' := cmpId_neg x.1 y.1
      by_cases ha : y.1 = a
      · subst ha
        rw [mOf_head, mOf_head, mOf_ahead hx.up (by omega), ny.nil_union]
      · rw [mOf_cons_ne ha, mOf_cons_ne (x := y) ha, mOf_merge hx hy.tail a]
  termination_by xs ys => xs.length + ys.length
theorem GK.merge {k l : Nat} {xs ys : Mat} (hx : GK k xs) (hy : GK l ys) : GK (k + l) (mergeF xs ys) := ⟨rising_merge hx.up hy.up, fun z hz => by
  rcases mem_merge xs ys hz with h | h | ⟨u, hu, v, hv, e, rfl⟩
  · exact ⟨(hx.row z h).1, (hx.row z h).2.1.more (by omega), (hx.row z h).2.2⟩
  · exact ⟨(hy.row z h).1, (hy.row z h).2.1.more (by omega), (hy.row z h).2.2⟩
  · exact ⟨(hx.row u hu).1, (hx.row u hu).2.1.union (hy.row v hv).2.1, union_ne (hx.row u hu).2.1 (hy.row v hv).2.1 (hx.row u hu).2.2⟩⟩
theorem GK.ext {k l : Nat} {xs ys : Mat} (hx : GK k xs) (hy : GK l ys) (h : ∀ a, mOf xs a = mOf ys a) : xs = ys := mat_ext hx.up hy.up (fun x hx' => (hx.row x hx').2.2) (fun y hy' => (hy.row y hy').2.2) h
/-- The event is known. -/
def MemM (a : ByteArray) (x : Int) (m : Mat) : Prop := Sp.Mem x (mOf m a)
theorem GK.sets {k l : Nat} {xs ys : Mat} (hx : GK k xs) (hy : GK l ys) (h : ∀ a x, MemM a x xs ↔ MemM a x ys) : xs = ys := hx.ext hy fun a => (hx.of a).ext (hy.of a) (h a)
theorem mem_union {k l : Nat} {xs ys : Mat} (hx : GK k xs) (hy : GK l ys) (a : ByteArray) (x : Int) : MemM a x (mergeF xs ys) ↔ MemM a x xs ∨ MemM a x ys := by
  unfold MemM
  rw [mOf_merge hx hy a]
  exact (hx.of a).mem_union (hy.of a) x
theorem union_swap {k l : Nat} {x y : Mat} (hx : GK k x) (hy : GK l y) : mergeF x y = mergeF y x := (hx.merge hy).sets (hy.merge hx) fun a n => by
  rw [mem_union hx hy, mem_union hy hx]; exact Or.comm
theorem union_three {j k l : Nat} {x y z : Mat} (hx : GK j x) (hy : GK k y) (hz : GK l z) : mergeF (mergeF x y) z = mergeF x (mergeF y z) := ((hx.merge hy).merge hz).sets (hx.merge (hy.merge hz)) fun a n => by
  rw [mem_union (hx.merge hy) hz, mem_union hx hy, mem_union hx (hy.merge hz), mem_union hy hz]; exact or_assoc
theorem union_self {k : Nat} {x : Mat} (hx : GK k x) : mergeF x x = x := (hx.merge hx).sets hx fun a n => by
  rw [mem_union hx hx]; exact or_self_iff
/-- Does the second know all that the first does? -/
def withinM (x y : Mat) : Bool := x.all fun r => Sp.withinF r.2 (mOf y r.1)
theorem withinM_iff {k l : Nat} {x y : Mat} (hx : GK k x) (hy : GK l y) : withinM x y = true ↔ ∀ a n, MemM a n x → MemM a n y := by
  unfold withinM
  rw [List.all_eq_true]
  constructor
  · intro h a n hn
    by_cases hr : ∃ r ∈ x, r.1 = a
    · obtain ⟨r, hr, rfl⟩ := hr
      have h1 := (Sp.within_mem (hy.of r.1).ok).mp (h r hr) n
      unfold MemM at hn ⊢
      rw [mOf_mem hx.up hr] at hn
      exact h1 hn
    · unfold MemM at hn
      rw [mOf_none (fun r hr' e => hr ⟨r, hr', e⟩)] at hn
      exact (mem_nil hn).elim
  · intro h r hr
    refine (Sp.within_mem (hy.of r.1).ok).mpr fun n hn => h r.1 n ?_
    unfold MemM
    rw [mOf_mem hx.up hr]
    exact hn
theorem within_both {k l : Nat} {x y : Mat} (hx : GK k x) (hy : GK l y) : x = y ↔ withinM x y = true ∧ withinM y x = true := by
  rw [withinM_iff hx hy, withinM_iff hy hx]
  constructor
  · rintro rfl; exact ⟨fun _ _ h => h, fun _ _ h => h⟩
  · rintro ⟨h1, h2⟩; exact hx.sets hy fun a n => ⟨h1 a n, h2 a n⟩
theorem num_right {k : Nat} {s : Int × List Int} (h : Num k s) (hk : k ≤ 4096) : Sp.rightF s.1 s.2 = true := by
  have hc : ∀ (l : List Int) (a : Int), l.Pairwise (· < ·) → (∀ z ∈ l, a < z ∧ z ≤ 1048576) → Sp.chainB a l = true := by
    intro l
    induction l with
    | nil => intro a _ _; rfl
    | cons z t ih =>
      intro a hs hb
      rw [List.pairwise_cons] at hs
      have h1 := hb z (by simp)
      unfold Sp.chainB
      rw [decide_eq_true (by omega), ih z hs.2 (fun y hy => ⟨hs.1 y hy, (hb y (by simp [hy])).2⟩)]
      rfl
  unfold Sp.rightF
  have h0 := h.ok.1
  have h2 := h.hi
  have h3 := h.len
  rw [decide_eq_true (by omega), hc s.2 (s.1 + 1) h.ok.2.1 (fun z hz => ⟨h.ok.2.2 z hz, h.top z (.inr hz)⟩)]
  rfl
theorem GK.right {k : Nat} {m : Mat} (h : GK k m) (hk : k ≤ 4096) : rightM m = true := by
  rw [rightM_iff]
  refine ⟨h.up, fun x hx => ⟨(h.row x hx).1, num_right (h.row x hx).2.1 hk, fun e => ?_⟩⟩
  exact (h.row x hx).2.2 ((num_count (h.row x hx).2.1).mp (by omega))
theorem GK.drop {k : Nat} {m : Mat} (h : GK k m) (a : ByteArray) : GK k (dropM m a) := ⟨(risingM_iff _).mpr (((risingM_iff _).mp h.up).filter _), fun x hx => h.row x (List.mem_filter.mp hx).1⟩
theorem GK.filter {k : Nat} {m : Mat} (h : GK k m) (p : ByteArray × (Int × List Int) → Bool) : GK k (m.filter p) := ⟨(risingM_iff _).mpr (((risingM_iff _).mp h.up).filter _), fun x hx => h.row x (List.mem_filter.mp hx).1⟩
theorem mOf_drop (m : Mat) (a b : ByteArray) : mOf (dropM m a) b = if b = a then (0, []) else mOf m b := by
  induction m with
  | nil => simp [dropM, mOf]
  | cons x r ih =>
    unfold dropM at ih ⊢
    rw [List.filter_cons]
    by_cases e : x.1 = a
    · rw [if_neg (by simpa using e), ih, mOf]
      by_cases e2 : b = a
      · rw [if_pos e2, if_pos e2]
      · rw [if_neg e2, if_neg e2, if_neg (fun h => e2 (h.symm.trans e))]
    · rw [if_pos (by simpa using e), mOf, ih, mOf]
      by_cases e2 : x.1 = b
      · rw [if_pos e2, if_pos e2, if_neg (fun h => e (e2.trans h))]
      · rw [if_neg e2, if_neg e2]
/-- One's numbers are just these. -/
def putK (m : Mat) (a : ByteArray) (s : Int × List Int) : Mat := if s = (0, []) then dropM m a else mergeF (dropM m a) [(a, s)]
theorem gk_one {k : Nat} {a : ByteArray} {s : Int × List Int} (ha : rightL a.data.toList = true) (hs : Num k s) (hne : s ≠ (0, [])) : GK k [(a, s)] := ⟨(risingM_iff _).mpr (List.pairwise_singleton _ _), fun x hx => by simp at hx; subst hx; exact ⟨ha, hs, hne⟩⟩
theorem GK.put {k l : Nat} {m : Mat} (h : GK k m) {a : ByteArray} {s : Int × List Int} (ha : rightL a.data.toList = true) (hs : Num l s) (hl : k ≤ l) : GK l (putK m a s) ∧ ∀ b, mOf (putK m a s) b = if b = a then s else mOf m b := by
  unfold putK
  by_cases e : s = (0, [])
  · rw [if_pos e]
    refine ⟨(h.drop a).more hl, fun b => ?_⟩
    rw [mOf_drop, e]
  · rw [if_neg e]
    have h1 := gk_one ha hs e
    have h2 := (h.drop a).merge h1
    have h3 : ∀ b, mOf (mergeF (dropM m a) [(a, s)]) b = if b = a then s else mOf m b := fun b => by
      rw [mOf_merge (h.drop a) h1, mOf_drop]
      by_cases e2 : b = a
      · subst e2
        rw [if_pos rfl, if_pos rfl, mOf_head (b, s) [], hs.nil_union]
      · rw [if_neg e2, if_neg e2, mOf_cons_ne (x := (a, s)) (fun h => e2 h.symm), show mOf ([] : Mat) b = (0, []) from rfl, (h.of b).union_nil]
    refine ⟨⟨h2.up, fun x hx => ⟨(h2.row x hx).1, ?_, (h2.row x hx).2.2⟩⟩, h3⟩
    have h4 := h3 x.1
    rw [mOf_mem h2.up hx] at h4
    rw [h4]
    split
    · exact hs
    · exact (h.of x.1).more hl
theorem putK_eq {k l j : Nat} {m r : Mat} (h : GK k m) {a : ByteArray} {s : Int × List Int} (ha : rightL a.data.toList = true) (hs : Num l s) (hl : k ≤ l) (hr : GK j r) (hb : ∀ b, mOf r b = if b = a then s else mOf m b) : r = putK m a s :=
  hr.ext (h.put ha hs hl).1 fun b => (hb b).trans ((h.put ha hs hl).2 b).symm
/-- One Row put in its place. -/
theorem sunk_good {k : Nat} {a : ByteArray} {v : Int × List Int} {pre post : Mat} (h : GK k (pre ++ post)) (ha : rightL a.data.toList = true) (hv : Num k v) (hne : v ≠ (0, [])) (hpost : ∀ y ∈ post, 0 < cmpId y.1 a) (hpre : ∀ y ∈ pre, cmpId y.1 a < 0) : GK k (pre ++ (a, v) :: post) := by
  have hr := List.pairwise_append.mp ((risingM_iff _).mp h.up)
  refine ⟨(risingM_iff _).mpr (List.pairwise_append.mpr ⟨hr.1, List.pairwise_cons.mpr ⟨fun y hy => ?_, hr.2.1⟩, fun x hx y hy => ?_⟩), fun x hx => ?_⟩
  · have := hpost y hy; have := cmpId_neg y.1 a; simp only; omega
  · rcases List.mem_cons.mp hy with rfl | hy
    · exact hpre x hx
    · exact hr.2.2 x hx y hy
  · rcases List.mem_append.mp hx with hx | hx
    · exact h.row x (by simp [hx])
    · rcases List.mem_cons.mp hx with rfl | hx
      · exact ⟨ha, hv, hne⟩
      · exact h.row x (by simp [hx])
theorem mOf_sunk {a : ByteArray} {v : Int × List Int} {post : Mat} : ∀ {pre : Mat}, (∀ y ∈ pre, y.1 ≠ a) → ∀ b, mOf (pre ++ (a, v) :: post) b = if b = a then v else mOf (pre ++ post) b
  | [], _, b => by
    rw [List.nil_append, mOf]
    by_cases e : a = b
    · rw [if_pos e, if_pos e.symm]
    · rw [if_neg e, if_neg (fun h => e h.symm)]; rfl
  | x :: pre, h, b => by
    rw [List.cons_append, mOf, mOf_sunk (fun y hy => h y (by simp [hy])) b, List.cons_append]
    by_cases e : x.1 = b
    · rw [if_pos e, if_neg (fun e2 => h x (by simp) (e.trans e2)), mOf, if_pos e]
    · rw [if_neg e]
      by_cases e2 : b = a
      · rw [if_pos e2, if_pos e2]
      · rw [if_neg e2, if_neg e2, mOf, if_neg e]
end Go.Proofs.Ythfdjebeblmmdaa
