/- Spans as sets of numbers: plain facts on lists and integers, no program in them. -/
import Derived.Test.YtlalonchdfcjgaaSe
namespace Go.Proofs.Ytlalonchdfcjgaa

/-- A Span that is the one of its set. -/
def Ok (s : Int × List Int) : Prop := 0 ≤ s.1 ∧ s.2.Pairwise (· < ·) ∧ ∀ z ∈ s.2, s.1 + 1 < z
def Mem (x : Int) (s : Int × List Int) : Prop := (1 ≤ x ∧ x ≤ s.1) ∨ x ∈ s.2

theorem sorted_ext : ∀ {a b : List Int}, a.Pairwise (· < ·) → b.Pairwise (· < ·) → (∀ x, x ∈ a ↔ x ∈ b) → a = b
  | [], [], _, _, _ => rfl
  | [], y :: ys, _, _, h => by have := (h y).2 (by simp); simp at this
  | x :: xs, [], _, _, h => by have := (h x).1 (by simp); simp at this
  | x :: xs, y :: ys, ha, hb, h => by
    rw [List.pairwise_cons] at ha hb
    have e : x = y := by
      have h1 := (h x).1 (by simp)
      have h2 := (h y).2 (by simp)
      simp only [List.mem_cons] at h1 h2
      rcases h1 with h1 | h1
      · exact h1
      · rcases h2 with h2 | h2
        · exact h2.symm
        · have := hb.1 x h1; have := ha.1 y h2; omega
    subst e
    congr 1
    refine sorted_ext ha.2 hb.2 fun z => ?_
    have hz := h z
    simp only [List.mem_cons] at hz
    constructor
    · intro hm
      rcases hz.1 (.inr hm) with e | e
      · have := ha.1 z hm; omega
      · exact e
    · intro hm
      rcases hz.2 (.inr hm) with e | e
      · have := hb.1 z hm; omega
      · exact e

theorem not_next {s : Int × List Int} (h : Ok s) : ¬ Mem (s.1 + 1) s := by
  rintro (h1 | h1)
  · omega
  · have := h.2.2 _ h1; omega

theorem Ok.ext {s t : Int × List Int} (hs : Ok s) (ht : Ok t) (h : ∀ x, Mem x s ↔ Mem x t) : s = t := by
  have hu : s.1 = t.1 := by
    rcases Int.lt_trichotomy s.1 t.1 with h1 | h1 | h1
    · exact absurd ((h _).2 (.inl ⟨by have := hs.1; omega, by omega⟩)) (not_next hs)
    · exact h1
    · exact absurd ((h _).1 (.inl ⟨by have := ht.1; omega, by omega⟩)) (not_next ht)
  have hz : s.2 = t.2 := by
    refine sorted_ext hs.2.1 ht.2.1 fun x => ?_
    constructor
    · intro hx
      rcases (h x).1 (.inr hx) with h1 | h1
      · have := hs.2.2 x hx; omega
      · exact h1
    · intro hx
      rcases (h x).2 (.inr hx) with h1 | h1
      · have := ht.2.2 x hx; omega
      · exact h1
  exact Prod.ext hu hz

theorem top_ge {s : Int × List Int} (h : Ok s) : s.1 ≤ topOf s.1 s.2 := by
  unfold topOf
  rcases e : s.2.getLast? with _ | z
  · simp
  · have := h.2.2 z (List.mem_of_getLast? e); simp; omega

theorem top_mem {u : Int} {zs : List Int} (h : zs ≠ []) : topOf u zs ∈ zs := by
  unfold topOf
  rw [List.getLast?_eq_some_getLast h]
  exact List.getLast_mem h

theorem le_top {u : Int} {zs : List Int} (hs : zs.Pairwise (· < ·)) {z : Int} (hz : z ∈ zs) : z ≤ topOf u zs := by
  unfold topOf
  rcases List.eq_nil_or_concat zs with rfl | ⟨l, y, rfl⟩
  · simp at hz
  · simp only [List.concat_eq_append] at *
    rw [List.getLast?_append]
    simp only [List.getLast?_singleton, Option.some_or, Option.getD_some]
    rw [List.pairwise_append] at hs
    simp only [List.mem_append, List.mem_singleton] at hz
    rcases hz with hz | rfl
    · have := hs.2.2 z hz y (by simp); omega
    · omega

theorem push_ok {s : Int × List Int} {m : Int} (h : Ok s) (hb : ∀ z ∈ s.2, z ≤ m) (h1 : 1 ≤ m) :
    Ok (pushF s m) ∧ (∀ x, Mem x (pushF s m) ↔ Mem x s ∨ x = m) ∧ ∀ z ∈ (pushF s m).2, z ≤ m := by
  unfold pushF
  split
  · rename_i ht
    refine ⟨h, fun x => ⟨.inl, ?_⟩, hb⟩
    rintro (hx | rfl)
    · exact hx
    · by_cases he : s.2 = []
      · refine .inl ⟨h1, ?_⟩
        rw [he] at ht
        simpa [topOf] using ht
      · have h2 := top_mem (u := s.1) he
        have h3 := hb _ h2
        have : x = topOf s.1 s.2 := by omega
        rw [this]
        exact .inr h2
  · rename_i ht
    have hge := top_ge h
    split
    · rename_i he
      have hnil : s.2 = [] := by
        rcases e : s.2 with _ | ⟨z, t⟩
        · rfl
        · have h2 := h.2.2 z (by simp [e]); have h3 := hb z (by simp [e]); omega
      refine ⟨⟨by have := h.1; simp; omega, by simp [hnil], by simp [hnil]⟩, fun x => ?_, by simp [hnil]⟩
      unfold Mem
      simp only [hnil, List.not_mem_nil, or_false]
      omega
    · rename_i he
      refine ⟨⟨h.1, ?_, ?_⟩, fun x => ?_, ?_⟩
      · simp only
        rw [List.pairwise_append]
        refine ⟨h.2.1, by simp, fun a ha b hb2 => ?_⟩
        simp only [List.mem_singleton] at hb2
        subst hb2
        have := le_top (u := s.1) h.2.1 ha
        omega
      · intro z hz
        simp only [List.mem_append, List.mem_singleton] at hz
        rcases hz with hz | rfl
        · exact h.2.2 z hz
        · simp only; omega
      · unfold Mem
        simp only [List.mem_append, List.mem_singleton]
        constructor
        · rintro (a | a | a)
          · exact .inl (.inl a)
          · exact .inl (.inr a)
          · exact .inr a
        · rintro ((a | a) | a)
          · exact .inl a
          · exact .inr (.inl a)
          · exact .inr (.inr a)
      · intro z hz
        simp only [List.mem_append, List.mem_singleton] at hz
        rcases hz with hz | rfl
        · exact hb z hz
        · omega

theorem fold_ok : ∀ (l : List Int) {s : Int × List Int}, Ok s → l.Pairwise (· ≤ ·) → (∀ z ∈ s.2, ∀ m ∈ l, z ≤ m) → (∀ m ∈ l, 1 ≤ m) → Ok (l.foldl pushF s) ∧ ∀ x, Mem x (l.foldl pushF s) ↔ Mem x s ∨ x ∈ l
  | [], s, h, _, _, _ => ⟨h, fun x => by simp⟩
  | m :: l, s, h, hs, hb, h1 => by
    rw [List.pairwise_cons] at hs
    obtain ⟨a, b, c⟩ := push_ok (m := m) h (fun z hz => hb z hz m (by simp)) (h1 m (by simp))
    obtain ⟨d, e⟩ := fold_ok l a hs.2 (fun z hz k hk => by have := c z hz; have := hs.1 k hk; omega) (fun k hk => h1 k (by simp [hk]))
    refine ⟨d, fun x => ?_⟩
    rw [List.foldl_cons, e x, b x, List.mem_cons, or_assoc]

theorem pw_le {zs : List Int} (h : zs.Pairwise (· < ·)) : zs.Pairwise (· ≤ ·) := h.imp (fun h => by omega)

theorem merge_sorted {xs ys : List Int} (hx : xs.Pairwise (· ≤ ·)) (hy : ys.Pairwise (· ≤ ·)) : (mergeF xs ys).Pairwise (· ≤ ·) := by
  unfold mergeF
  have := List.pairwise_merge (le := fun x y : Int => decide (x ≤ y)) (fun a b c => by simp; omega) (fun a b => by simp; omega) xs ys (hx.imp (fun h => by simpa using h)) (hy.imp (fun h => by simpa using h))
  exact this.imp (fun h => by simpa using h)

theorem mem_mergeF {xs ys : List Int} {x : Int} : x ∈ mergeF xs ys ↔ x ∈ xs ∨ x ∈ ys := by unfold mergeF; exact List.mem_merge

theorem union_ok {a b : Int × List Int} (ha : Ok a) (hb : Ok b) (ba : a.1 ≤ 1048576) (bb : b.1 ≤ 1048576) : Ok (unionF a b) ∧ ∀ x, Mem x (unionF a b) ↔ Mem x a ∨ Mem x b := by
  unfold unionF
  have hf : firstU (max a.1 b.1) = max a.1 b.1 := by have := ha.1; unfold firstU; omega
  rw [hf]
  obtain ⟨h1, h2⟩ := fold_ok (mergeF a.2 b.2) (s := (max a.1 b.1, [])) ⟨by have := ha.1; simp; omega, by simp, by simp⟩ (merge_sorted (pw_le ha.2.1) (pw_le hb.2.1)) (by simp)
    (fun m hm => by
      rcases mem_mergeF.1 hm with h | h
      · have := ha.2.2 m h; have := ha.1; omega
      · have := hb.2.2 m h; have := hb.1; omega)
  refine ⟨h1, fun x => ?_⟩
  rw [h2 x, mem_mergeF]
  unfold Mem
  simp only [List.not_mem_nil, or_false]
  constructor
  · rintro (h | h | h)
    · rcases Int.le_total a.1 b.1 with h3 | h3
      · exact .inr (.inl ⟨h.1, by omega⟩)
      · exact .inl (.inl ⟨h.1, by omega⟩)
    · exact .inl (.inr h)
    · exact .inr (.inr h)
  · rintro ((h | h) | (h | h))
    · exact .inl ⟨h.1, by omega⟩
    · exact .inr (.inl h)
    · exact .inl ⟨h.1, by omega⟩
    · exact .inr (.inr h)

theorem has_mem {s : Int × List Int} (h : Ok s) (t : Int) : hasOf s.1 s.2 t = true ↔ Mem t s := by
  unfold hasOf Mem
  split
  · rename_i ht
    simp only [decide_eq_true_eq]
    constructor
    · intro h1; exact .inl ⟨h1, ht⟩
    · rintro (h1 | h1)
      · exact h1.1
      · have := h.2.2 t h1; omega
  · rename_i ht
    simp only [decide_eq_true_eq]
    constructor
    · exact .inr
    · rintro (h1 | h1)
      · omega
      · exact h1

/-- span.Within, as it is reckoned. -/
def withinF (a b : Int × List Int) : Bool := decide (a.1 ≤ b.1) && a.2.all (fun n => hasOf b.1 b.2 n)

theorem within_mem {a b : Int × List Int} (hb : Ok b) : withinF a b = true ↔ ∀ x, Mem x a → Mem x b := by
  unfold withinF
  simp only [Bool.and_eq_true, decide_eq_true_eq, List.all_eq_true]
  constructor
  · rintro ⟨h1, h2⟩ x (hx | hx)
    · exact .inl ⟨hx.1, by omega⟩
    · exact (has_mem hb x).1 (h2 x hx)
  · intro h
    refine ⟨?_, fun x hx => (has_mem hb x).2 (h x (.inr hx))⟩
    rcases Int.lt_or_le b.1 a.1 with h1 | h1
    · exact absurd (h (b.1 + 1) (.inl ⟨by have := hb.1; omega, by omega⟩)) (not_next hb)
    · exact h1

/-- The document's Add: the number put in, then what is side by side taken in. -/
def insF (n : Int) : List Int → List Int
  | [] => [n]
  | z :: t => if n < z then n :: z :: t else z :: insF n t
def absF (u : Int) : List Int → Int × List Int
  | [] => (u, [])
  | z :: t => if z = u + 1 then absF (u + 1) t else (u, z :: t)
def refHasF (s : Int × List Int) (n : Int) : Bool := decide (1 ≤ n ∧ n ≤ s.1) || decide (n ∈ s.2)
def refAddF (s : Int × List Int) (n : Int) : Int × List Int := if n < 1 ∨ 1048576 < n ∨ refHasF s n = true then s else absF s.1 (insF n s.2)

theorem refHas_mem (s : Int × List Int) (n : Int) : refHasF s n = true ↔ Mem n s := by unfold refHasF Mem; simp

theorem ins_mem (n x : Int) : ∀ l : List Int, x ∈ insF n l ↔ x = n ∨ x ∈ l
  | [] => by simp [insF]
  | z :: t => by
    unfold insF
    split
    · simp
    · simp only [List.mem_cons, ins_mem n x t]
      constructor
      · rintro (h | h | h)
        · exact .inr (.inl h)
        · exact .inl h
        · exact .inr (.inr h)
      · rintro (h | h | h)
        · exact .inr (.inl h)
        · exact .inl h
        · exact .inr (.inr h)

theorem ins_sorted (n : Int) : ∀ l : List Int, l.Pairwise (· < ·) → n ∉ l → (insF n l).Pairwise (· < ·)
  | [], _, _ => by simp [insF]
  | z :: t, h, hn => by
    rw [List.pairwise_cons] at h
    simp only [List.mem_cons, not_or] at hn
    unfold insF
    split
    · rename_i hz
      rw [List.pairwise_cons]
      refine ⟨fun y hy => ?_, List.pairwise_cons.2 h⟩
      simp only [List.mem_cons] at hy
      rcases hy with rfl | hy
      · exact hz
      · have := h.1 y hy; omega
    · rename_i hz
      rw [List.pairwise_cons]
      refine ⟨fun y hy => ?_, ins_sorted n t h.2 hn.2⟩
      rcases (ins_mem n y t).1 hy with rfl | hy
      · omega
      · exact h.1 y hy

theorem abs_ok : ∀ (l : List Int) (u : Int), 0 ≤ u → l.Pairwise (· < ·) → (∀ z ∈ l, u < z) → Ok (absF u l) ∧ ∀ x, Mem x (absF u l) ↔ Mem x (u, l)
  | [], u, h0, _, _ => ⟨⟨h0, by simp [absF], by simp [absF]⟩, fun x => Iff.rfl⟩
  | z :: t, u, h0, hs, hb => by
    rw [List.pairwise_cons] at hs
    unfold absF
    split
    · rename_i hz
      obtain ⟨a, b⟩ := abs_ok t (u + 1) (by omega) hs.2 (fun y hy => by have := hs.1 y hy; omega)
      refine ⟨a, fun x => ?_⟩
      rw [b x]
      unfold Mem
      simp only [List.mem_cons]
      constructor
      · rintro (h | h)
        · by_cases hx : x ≤ u
          · exact .inl ⟨h.1, hx⟩
          · exact .inr (.inl (by omega))
        · exact .inr (.inr h)
      · rintro (h | h | h)
        · exact .inl ⟨h.1, by omega⟩
        · exact .inl ⟨by omega, by omega⟩
        · exact .inr h
    · rename_i hz
      refine ⟨⟨h0, List.pairwise_cons.2 hs, fun y hy => ?_⟩, fun x => Iff.rfl⟩
      simp only [List.mem_cons] at hy
      have h1 := hb z (by simp)
      rcases hy with rfl | hy
      · simp only; omega
      · have := hs.1 y hy; simp only; omega

theorem refAdd_ok {s : Int × List Int} (h : Ok s) (n : Int) : Ok (refAddF s n) ∧ ∀ x, Mem x (refAddF s n) ↔ Mem x s ∨ (x = n ∧ 1 ≤ n ∧ n ≤ 1048576) := by
  unfold refAddF
  split
  · rename_i hc
    refine ⟨h, fun x => ⟨.inl, ?_⟩⟩
    rintro (hx | ⟨rfl, h1, h2⟩)
    · exact hx
    · rcases hc with hc | hc | hc
      · omega
      · omega
      · exact (refHas_mem s x).1 hc
  · rename_i hc
    simp only [not_or] at hc
    have hn : ¬ Mem n s := fun hm => hc.2.2 ((refHas_mem s n).2 hm)
    have hns : n ∉ s.2 := fun hm => hn (.inr hm)
    obtain ⟨a, b⟩ := abs_ok (insF n s.2) s.1 h.1 (ins_sorted n s.2 h.2.1 hns) (fun z hz => by
      rcases (ins_mem n z s.2).1 hz with rfl | hz
      · rcases Int.lt_or_le s.1 z with h1 | h1
        · exact h1
        · exact absurd (.inl ⟨by omega, h1⟩) hn
      · have := h.2.2 z hz; omega)
    refine ⟨a, fun x => ?_⟩
    rw [b x]
    unfold Mem
    simp only [ins_mem]
    constructor
    · rintro (h1 | rfl | h1)
      · exact .inl (.inl h1)
      · exact .inr ⟨rfl, by omega, by omega⟩
      · exact .inl (.inr h1)
    · rintro ((h1 | h1) | ⟨rfl, _, _⟩)
      · exact .inl h1
      · exact .inr (.inr h1)
      · exact .inr (.inl rfl)

/-- span.Add, as it is reckoned, of a number that may be. -/
theorem addF_ok {s : Int × List Int} (h : Ok s) (hb : s.1 ≤ 1048576) {m : Int} (h1 : 1 ≤ m) : Ok (unionF s (0, [m])) ∧ ∀ x, Mem x (unionF s (0, [m])) ↔ Mem x s ∨ x = m := by
  unfold unionF
  have hf : firstU (max s.1 0) = s.1 := by have := h.1; unfold firstU; omega
  simp only [hf]
  obtain ⟨a, b⟩ := fold_ok (mergeF s.2 [m]) (s := (s.1, [])) ⟨h.1, by simp, by simp⟩ (merge_sorted (pw_le h.2.1) (by simp)) (by simp)
    (fun k hk => by
      rcases mem_mergeF.1 hk with h3 | h3
      · have := h.2.2 k h3; have := h.1; omega
      · simp at h3; omega)
  refine ⟨a, fun x => ?_⟩
  rw [b x, mem_mergeF]
  unfold Mem
  simp only [List.not_mem_nil, or_false, List.mem_singleton, or_assoc]

theorem add_eq {s : Int × List Int} (h : Ok s) (hb : s.1 ≤ 1048576) {m : Int} (h1 : 1 ≤ m) (h2 : m ≤ 1048576) : unionF s (0, [m]) = refAddF s m := by
  obtain ⟨a, b⟩ := addF_ok h hb h1
  obtain ⟨c, d⟩ := refAdd_ok h m
  refine Ok.ext a c fun x => ?_
  rw [b x, d x]
  constructor
  · rintro (h3 | h3)
    · exact .inl h3
    · exact .inr ⟨h3, h1, h2⟩
  · rintro (h3 | h3)
    · exact .inl h3
    · exact .inr h3.1
end Go.Proofs.Ytlalonchdfcjgaa
