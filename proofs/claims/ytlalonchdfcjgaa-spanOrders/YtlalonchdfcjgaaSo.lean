/- The calls' answers said in one form, for the laws: a Span that reads so in the world at hand; the calls turn nothing that was there. And what Fix makes. -/
import Derived.Test.YtlalonchdfcjgaaSn
namespace Go.Proofs.Ytlalonchdfcjgaa
open Go.RowKit

/-- In w the slice (A, c) holds the Extra of the Span s. -/
def SpanIn (w : World) (A : Option Addr) (c : Nat) (s : Int × List Int) : Prop := IntsAt w w.heap.size A s.2.length s.2 ∧ s.2.length ≤ c
def RetSpan (s : Int × List Int) (W : World) (e : Ending) (w' : World) : Prop := ∃ A c, e = .returned (.agg #[.int .i64 s.1, .slice A s.2.length c]) ∧ SpanIn w' A c s ∧ Below W.heap.size W w'

theorem SpanIn.on {W W' w1 : World} {A : Option Addr} {c : Nat} {s : Int × List Int} (h : SpanIn W A c s) (hb : Below W'.heap.size W' w1) (e : SameW W W') : SpanIn w1 A c s :=
  ⟨(ints_via h.1 hb (Nat.le_refl _) e).more (by have := hb.size; rw [e.1] at this; exact this), h.2⟩
theorem SpanIn.same {W W' : World} {A : Option Addr} {c : Nat} {s : Int × List Int} (h : SpanIn W A c s) (e : W'.heap = W.heap) : SpanIn W' A c s := by
  refine ⟨?_, h.2⟩
  have h1 := ints_same h.1 e
  rw [e]
  exact h1
theorem SpanIn.keep {W w1 : World} {A : Option Addr} {c : Nat} {s : Int × List Int} (h : SpanIn W A c s) (hb : Below W.heap.size W w1) : SpanIn w1 A c s := h.on hb ⟨rfl, rfl, rfl, rfl⟩

theorem ret_of_own {W : World} {s : Int × List Int} {e : Ending} {w' : World} (h : OwnSpan W.heap.size none s W e w') : RetSpan s W e w' := by
  obtain ⟨A, c, he, ho, hg, _⟩ := h
  exact ⟨A, c, he, ⟨own_ints ho, own_cap ho⟩, grown_none hg⟩

section
variable {W : World} {A A' : Option Addr} {c c' : Nat} {s t : Int × List Int}
theorem cTo (h : SpanIn W A c s) (hn : s.2.length ≤ 100000) : Calls Try.prog 12 #[.agg #[.int .i64 s.1, .slice A s.2.length c]] W (RetSpan s W) :=
  (to_any s.1 A s.2.length c s.2 W.heap.size W (Nat.le_refl _) h.1 (by omega)).mono fun _ _ h => ret_of_own h
theorem cFrom (h : SpanIn W A c s) (hn : s.2.length ≤ 100000) : Calls Try.prog 18 #[.agg #[.int .i64 s.1, .slice A s.2.length c]] W (RetSpan s W) :=
  (from_any s.1 A s.2.length c s.2 W.heap.size W (Nat.le_refl _) h.1 (by omega)).mono fun _ _ h => ret_of_own h
theorem cUnion (h : SpanIn W A c s) (h' : SpanIn W A' c' t) (hn : s.2.length ≤ 100000) (hm : t.2.length ≤ 100000) : Calls Try.prog 25 #[.agg #[.int .i64 s.1, .slice A s.2.length c], .agg #[.int .i64 t.1, .slice A' t.2.length c']] W (RetSpan (unionF s t) W) :=
  (union_any s.1 t.1 A s.2.length c s.2 A' t.2.length c' t.2 W.heap.size W (Nat.le_refl _) h.1 h'.1 h.2 h'.2 (by omega) (by omega)).mono fun _ _ h => ret_of_own h
theorem cAdd (h : SpanIn W A c s) (hn : s.2.length ≤ 100000) (m : Int) (h1 : 1 ≤ m) (h2 : m ≤ 1048576) : Calls Try.prog 15 #[.agg #[.int .i64 s.1, .slice A s.2.length c], .int .i64 m] W (RetSpan (unionF s (0, [m])) W) :=
  (add_yes s.1 A s.2.length c s.2 m W.heap.size W (Nat.le_refl _) h.1 h.2 (by omega) h1 h2).mono fun _ _ h => ret_of_own h
theorem cRefAdd (h : SpanIn W A c s) (hn : s.2.length ≤ 100000) (h0 : 0 ≤ s.1) (h1 : s.1 ≤ 100000) (m : Int) : Calls Try.prog 16 #[.agg #[.int .i64 s.1, .slice A s.2.length c], .int .i64 m] W (RetSpan (refAddF s m) W) :=
  (refAdd_any s.1 A s.2.length c s.2 m W.heap.size W (Nat.le_refl _) h.1 (by omega) h0 (by omega)).mono fun _ _ h => ret_of_own h
theorem cSame (h : SpanIn W A c s) (h' : SpanIn W A' c' t) (hn : s.2.length ≤ 100000) : Calls Try.prog 27 #[.agg #[.int .i64 s.1, .slice A s.2.length c], .agg #[.int .i64 t.1, .slice A' t.2.length c']] W fun e w' => e = .returned (.bool (sameF s t)) ∧ Below W.heap.size W w' :=
  same_any s.1 A s.2.length c s.2 t.1 A' t.2.length c' t.2 W.heap.size W (Nat.le_refl _) h.1 h'.1 (by omega)
theorem cRefSame (h : SpanIn W A c s) (h' : SpanIn W A' c' t) (hn : s.2.length ≤ 100000) : Calls Try.prog 17 #[.agg #[.int .i64 s.1, .slice A s.2.length c], .agg #[.int .i64 t.1, .slice A' t.2.length c']] W fun e w' => e = .returned (.bool (sameF s t)) ∧ Below W.heap.size W w' :=
  refSame_any s.1 A s.2.length c s.2 t.1 A' t.2.length c' t.2 W.heap.size W (Nat.le_refl _) h.1 h'.1 (by omega)
theorem cWithin (h : SpanIn W A c s) (h' : SpanIn W A' c' t) (hn : s.2.length ≤ 100000) (hm : t.2.length ≤ 100000) (hs : Ok t) : Calls Try.prog 28 #[.agg #[.int .i64 s.1, .slice A s.2.length c], .agg #[.int .i64 t.1, .slice A' t.2.length c']] W fun e w' => e = .returned (.bool (withinF s t)) ∧ Below W.heap.size W w' :=
  within_any s.1 A s.2.length c s.2 t.1 A' t.2.length c' t.2 W.heap.size W (Nat.le_refl _) h.1 h'.1 (by omega) (by omega) hs.2.1
theorem cHas (h : SpanIn W A c s) (hn : s.2.length ≤ 100000) (hs : Ok s) (m : Int) : Calls Try.prog 19 #[.agg #[.int .i64 s.1, .slice A s.2.length c], .int .i64 m] W fun e w' => e = .returned (.bool (hasOf s.1 s.2 m)) ∧ Below W.heap.size W w' :=
  has_any s.1 A s.2.length c s.2 m W.heap.size W (Nat.le_refl _) h.1 (by omega) hs.2.1
theorem cRefHas (h : SpanIn W A c s) (hn : s.2.length ≤ 100000) (m : Int) : Calls Try.prog 20 #[.agg #[.int .i64 s.1, .slice A s.2.length c], .int .i64 m] W fun e w' => e = .returned (.bool (refHasF s m)) ∧ Below W.heap.size W w' :=
  refHas_any s.1 A s.2.length c s.2 m W.heap.size W (Nat.le_refl _) h.1 (by omega)
theorem cTop (h : SpanIn W A c s) (hn : s.2.length ≤ 100000) : Calls Try.prog 23 #[.agg #[.int .i64 s.1, .slice A s.2.length c]] W fun e w' => e = .returned (.int .i64 (topOf s.1 s.2)) ∧ Below W.heap.size W w' :=
  top_any s.1 A s.2.length c s.2 W.heap.size W (Nat.le_refl _) h.1 (by omega)
theorem cRefTop (h : SpanIn W A c s) (hn : s.2.length ≤ 100000) : Calls Try.prog 24 #[.agg #[.int .i64 s.1, .slice A s.2.length c]] W fun e w' => e = .returned (.int .i64 (topOf s.1 s.2)) ∧ Below W.heap.size W w' :=
  refTop_any s.1 A s.2.length c s.2 W.heap.size W (Nat.le_refl _) h.1 (by omega)
theorem cCount (h0 : 0 ≤ s.1) (h1 : s.1 ≤ 100000) (hn : s.2.length ≤ 100000) : Calls Try.prog 21 #[.agg #[.int .i64 s.1, .slice A s.2.length c]] W fun e w' => e = .returned (.int .i64 (s.1 + s.2.length)) ∧ Below W.heap.size W w' :=
  count_any s.1 A s.2.length c W h0 (by omega) (by omega)
theorem cRefCount (h0 : 0 ≤ s.1) (h1 : s.1 ≤ 100000) (hn : s.2.length ≤ 100000) : Calls Try.prog 22 #[.agg #[.int .i64 s.1, .slice A s.2.length c]] W fun e w' => e = .returned (.int .i64 (s.1 + s.2.length)) ∧ Below W.heap.size W w' :=
  refCount_any s.1 A s.2.length c W h0 (by omega) (by omega)
theorem cRight (h : SpanIn W A c s) (hn : s.2.length ≤ 100000) : Calls Try.prog 11 #[.agg #[.int .i64 s.1, .slice A s.2.length c]] W fun e w' => e = .returned (.bool (rightF s.1 s.2)) ∧ Below W.heap.size W w' :=
  right_any s.1 A s.2.length c s.2 W.heap.size W (Nat.le_refl _) h.1 (by omega)
end

theorem cFix (u : Int) (A : Option Addr) (n c : Nat) (zs : List Int) {B : Nat} {W : World} (hB : B ≤ W.heap.size) (h : IntsAt W B A n zs) (hn : n ≤ 9223372036854775807) : Calls Try.prog 14 #[.agg #[.int .i64 u, .slice A n c]] W (RetSpan (fixF u zs) W) :=
  (fix_any u A n c zs B W hB h hn).mono fun _ _ h => ret_of_own h

/-- Spans as Fix makes them. -/
def Small (s : Int × List Int) : Prop := Ok s ∧ (∀ x, Mem x s → x ≤ 60) ∧ s.1 ≤ 60 ∧ s.2.length ≤ 60

theorem small_u {s : Int × List Int} (hm : ∀ x, Mem x s → x ≤ 60) : s.1 ≤ 60 := by
  rcases Int.lt_or_le s.1 1 with h1 | h1
  · omega
  · exact hm _ (.inl ⟨h1, by omega⟩)

theorem sorted_len : ∀ (l : List Int) (a b : Int), l.Pairwise (· < ·) → (∀ z ∈ l, a < z ∧ z ≤ b) → a ≤ b → (l.length : Int) ≤ b - a
  | [], a, b, _, _, hab => by simp; omega
  | z :: t, a, b, hs, hb, hab => by
    rw [List.pairwise_cons] at hs
    have h1 := hb z (by simp)
    have := sorted_len t z b hs.2 (fun y hy => ⟨hs.1 y hy, (hb y (by simp [hy])).2⟩) h1.2
    simp only [List.length_cons]
    omega

theorem small_of {s : Int × List Int} (h : Ok s) (hm : ∀ x, Mem x s → x ≤ 60) : Small s := by
  have hu := small_u hm
  have hl := sorted_len s.2 s.1 60 h.2.1 (fun z hz => ⟨by have := h.2.2 z hz; omega, hm z (.inr hz)⟩) hu
  have := h.1
  exact ⟨h, hm, hu, by omega⟩

theorem fix_small (u : Int) (zs : List Int) : Small (fixF u zs) := by
  unfold fixF
  have hm := mod_bd u 40 (by omega) (by omega)
  have h0 : Ok (modF u 40, ([] : List Int)) ∧ ∀ x, Mem x (modF u 40, ([] : List Int)) → x ≤ 60 := ⟨⟨hm.1, by simp, by simp⟩, fun x hx => by rcases hx with hx | hx; (simp only at hx; omega); simp at hx⟩
  have hind : ∀ (l : List Int) (s : Int × List Int), (Ok s ∧ ∀ x, Mem x s → x ≤ 60) → (Ok (l.foldl (fun s x => refAddF s (elF x)) s) ∧ ∀ x, Mem x (l.foldl (fun s x => refAddF s (elF x)) s) → x ≤ 60) := by
    intro l
    induction l with
    | nil => intro s h; exact h
    | cons y l ih =>
      intro s h
      refine ih _ ?_
      obtain ⟨a, b⟩ := refAdd_ok h.1 (elF y)
      refine ⟨a, fun x hx => ?_⟩
      rcases (b x).1 hx with hx | ⟨rfl, _, _⟩
      · exact h.2 x hx
      · have := mod_bd y 60 (by omega) (by omega); unfold elF; omega
  obtain ⟨a, b⟩ := hind (zs.take 30) _ h0
  exact small_of a b

theorem union_small {s t : Int × List Int} (hs : Small s) (ht : Small t) : Small (unionF s t) ∧ ∀ x, Mem x (unionF s t) ↔ Mem x s ∨ Mem x t := by
  obtain ⟨a, b⟩ := union_ok hs.1 ht.1 (by have := hs.2.2.1; omega) (by have := ht.2.2.1; omega)
  exact ⟨small_of a (fun x hx => by rcases (b x).1 hx with h | h; exact hs.2.1 x h; exact ht.2.1 x h), b⟩

theorem same_true {s t : Int × List Int} (h : s = t) : sameF s t = true := by unfold sameF; simp [h]
theorem small_right {s : Int × List Int} (h : Small s) : rightF s.1 s.2 = true := by
  have hc : ∀ (l : List Int) (a : Int), l.Pairwise (· < ·) → (∀ z ∈ l, a < z ∧ z ≤ 60) → chainB a l = true := by
    intro l
    induction l with
    | nil => intro a _ _; rfl
    | cons z t ih =>
      intro a hs hb
      rw [List.pairwise_cons] at hs
      have h1 := hb z (by simp)
      unfold chainB
      rw [decide_eq_true (by omega), ih z hs.2 (fun y hy => ⟨hs.1 y hy, (hb y (by simp [hy])).2⟩)]
      rfl
  unfold rightF
  have h0 := h.1.1
  have h2 := h.2.2.1
  have h3 := h.2.2.2
  rw [decide_eq_true (by omega), hc s.2 (s.1 + 1) h.1.2.1 (fun z hz => ⟨h.1.2.2 z hz, h.2.1 z (.inr hz)⟩)]
  rfl
end Go.Proofs.Ytlalonchdfcjgaa
