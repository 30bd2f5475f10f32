/- The library's binary search over rising numbers, and span.Has. -/
import Derived.Test.YtlalonchdfcjgaaSa
namespace Go.Proofs.Ytlalonchdfcjgaa
open Go.RowKit

set_option maxHeartbeats 400000 in
theorem less_any (x y : Int) (w : World) :
    Calls Try.prog 37 #[.int .i64 x, .int .i64 y] w fun e w' => e = .returned (.bool (decide (x < y))) ∧ w = w' := by
  have nan : ∀ (z : Int) (w : World), Calls Try.prog 39 #[.int .i64 z] w fun e w' => e = .returned (.bool false) ∧ w = w' := by
    intro z w
    go_enter Try.func39, Try.ntmps39
    go_wp2
    go_ret
    exact ⟨by simp, rfl⟩
  have N := Lib.hid nan
  clear nan
  go_enter Try.func37, Try.ntmps37
  go_wp2_with (go_at_call 39; refine (N.out _ _).mono ?_; rintro e w' ⟨rfl, rfl⟩)
  go_ret
  exact ⟨rfl, rfl⟩

set_option maxHeartbeats 400000 in
theorem nan_any (z : Int) (w : World) : Calls Try.prog 38 #[.int .i64 z] w fun e w' => e = .returned (.bool false) ∧ w = w' := by
  go_enter Try.func38, Try.ntmps38
  go_wp2
  go_ret
  exact ⟨by simp, rfl⟩

/-- Found, if the number is there. -/
def Found (t : Int) (zs : List Int) (e : Ending) : Prop := ∃ i : Int, e = .returned (.tuple #[.int .i64 i, .bool (decide (t ∈ zs))])

theorem pw_lt {zs : List Int} (hs : zs.Pairwise (· < ·)) (i j : Nat) (hij : i < j) (hj : j < zs.length) : zs.getD i 0 < zs.getD j 0 := by
  have := List.pairwise_iff_getElem.1 hs i j (by omega) hj hij
  simpa [List.getD_eq_getElem?_getD, List.getElem?_eq_getElem hj, List.getElem?_eq_getElem (show i < zs.length by omega)] using this

theorem mem_getD {zs : List Int} {t : Int} : t ∈ zs ↔ ∃ k, k < zs.length ∧ zs.getD k 0 = t := by
  rw [List.mem_iff_getElem]
  constructor
  · rintro ⟨k, hk, e⟩
    exact ⟨k, hk, by simp [List.getD_eq_getElem?_getD, List.getElem?_eq_getElem hk, e]⟩
  · rintro ⟨k, hk, e⟩
    exact ⟨k, hk, by simpa [List.getD_eq_getElem?_getD, List.getElem?_eq_getElem hk] using e⟩

theorem search_lo {zs : List Int} {t : Int} {m : Nat} {n : Nat} (hs : zs.Pairwise (· < ·)) (hl : zs.length = n) (hm : m < n) (h : zs.getD m 0 < t) : ∀ k, k < m + 1 → zs.getD k 0 < t := by
  intro k hk
  rcases Nat.lt_or_ge k m with h1 | h1
  · exact Int.lt_trans (pw_lt hs k m h1 (by omega)) h
  · rw [show k = m by omega]; exact h

theorem search_hi {zs : List Int} {t : Int} {m : Nat} {n : Nat} (hs : zs.Pairwise (· < ·)) (hl : zs.length = n) (h : ¬ zs.getD m 0 < t) : ∀ k, m ≤ k → k < n → t ≤ zs.getD k 0 := by
  intro k hk hkn
  rcases Nat.lt_or_ge m k with h1 | h1
  · have := pw_lt hs m k h1 (by omega); omega
  · rw [show k = m by omega]; omega

theorem search_end {zs : List Int} {t : Int} {a n : Nat} (hs : zs.Pairwise (· < ·)) (hl : zs.length = n) (h : (∀ k, k < a → zs.getD k 0 < t) ∧ ∀ k, a ≤ k → k < n → t ≤ zs.getD k 0) : t ∈ zs ↔ a < n ∧ zs.getD a 0 = t := by
  rw [mem_getD, hl]
  constructor
  · rintro ⟨k, hk, e⟩
    rcases Nat.lt_trichotomy k a with h1 | h1 | h1
    · have := h.1 k h1; omega
    · subst h1; exact ⟨hk, e⟩
    · have h2 := h.2 a (Nat.le_refl _) (by omega)
      have h3 := pw_lt hs a k h1 (by omega)
      omega
  · rintro ⟨h1, h2⟩
    exact ⟨a, h1, h2⟩

set_option maxHeartbeats 1000000 in
theorem search_any (A : Option Addr) (n c : Nat) (zs : List Int) (t : Int) (B : Nat) (w : World) (hz : IntsAt w B A n zs) (hn : n ≤ 1099511627776) (hs : zs.Pairwise (· < ·)) :
    Calls Try.prog 32 #[.slice A n c, .int .i64 t] w fun e w' => Found t zs e ∧ w = w' := by
  have hl : zs.length = n := hz.1
  have HL := Lib.hid hl
  have HS := Lib.hid hs
  clear hl hs
  go_enter Try.func32, Try.ntmps32
  go_wp2
  go_loop [7, 8, 9] (fun i j _ => ∃ a b : Nat, a ≤ b ∧ b ≤ n ∧ i = .int .i64 a ∧ j = .int .i64 b ∧ Hid ((∀ k, k < a → zs.getD k 0 < t) ∧ ∀ k, b ≤ k → k < n → t ≤ zs.getD k 0)) (fun i j _ => ((intOf j) - (intOf i)).toNat)
  case atStart => exact ⟨0, n, by omega, by omega, rfl, rfl, fun k hk => by omega, fun k hk hk2 => by omega⟩
  case round =>
    obtain ⟨a, b, hab, hbn, rfl, rfl, HQ⟩ := hrel
    by_cases hlt : a < b
    · obtain ⟨blk, off, rfl, hbB, hc⟩ := hz.2 (by omega)
      have hc1 := hc ((a + b) / 2) (by omega)
      clear hc hz
      by_cases hm : zs.getD ((a + b) / 2) 0 < t
      · have HN : Hid ((∀ k, k < (a + b) / 2 + 1 → zs.getD k 0 < t) ∧ ∀ k, b ≤ k → k < n → t ≤ zs.getD k 0) := ⟨search_lo HS.out HL.out (by omega) hm, HQ.out.2⟩
        have hm' : zs[(a + b) / 2]?.getD 0 < t := by simpa [List.getD_eq_getElem?_getD] using hm
        clear hm
        go_wp2_with (go_at_call 37; refine (less_any _ _ _).mono ?_; rintro e w' ⟨rfl, rfl⟩)
        go_round
        case rel => exact ⟨(a + b) / 2 + 1, b, by omega, by omega, by go_num, rfl, HN⟩
        case measure => simp [intOf]; omega
      · have HN : Hid ((∀ k, k < a → zs.getD k 0 < t) ∧ ∀ k, (a + b) / 2 ≤ k → k < n → t ≤ zs.getD k 0) := ⟨HQ.out.1, search_hi HS.out HL.out hm⟩
        have hm' : ¬ zs[(a + b) / 2]?.getD 0 < t := by simpa [List.getD_eq_getElem?_getD] using hm
        clear hm
        go_wp2_with (go_at_call 37; refine (less_any _ _ _).mono ?_; rintro e w' ⟨rfl, rfl⟩)
        go_round
        case rel => exact ⟨a, (a + b) / 2, by omega, by omega, rfl, by go_num, HN⟩
        case measure => simp [intOf]; omega
    · have e : b = a := by omega
      subst e
      have HE : Hid (t ∈ zs ↔ b < n ∧ zs.getD b 0 = t) := search_end HS.out HL.out HQ.out
      by_cases hbn' : b < n
      · obtain ⟨blk, off, rfl, hbB, hc⟩ := hz.2 (by omega)
        have hc1 := hc b hbn'
        clear hc hz
        by_cases he : zs.getD b 0 = t
        · have he' : (zs[b]?.getD 0 == t) = true := by simpa [List.getD_eq_getElem?_getD] using he
          have HF : Hid (decide (t ∈ zs) = true) := by
            show decide (t ∈ zs) = true
            rw [decide_eq_true_eq, HE.out]; exact ⟨hbn', he⟩
          clear he
          go_wp2_with (go_at_call 38; refine (nan_any _ _).mono ?_; rintro e w' ⟨rfl, rfl⟩)
          go_ret2
          exact ⟨⟨_, by rw [HF.out]; rfl⟩, rfl⟩
        · have he' : (zs[b]?.getD 0 == t) = false := by simpa [List.getD_eq_getElem?_getD] using he
          have HF : Hid (decide (t ∈ zs) = false) := by
            show decide (t ∈ zs) = false
            rw [decide_eq_false_iff_not, HE.out]; exact fun h => he h.2
          clear he
          go_wp2_with (go_at_call 38; refine (nan_any _ _).mono ?_; rintro e w' ⟨rfl, rfl⟩)
          go_ret2
          exact ⟨⟨_, by rw [HF.out]; rfl⟩, rfl⟩
      · have HF : Hid (decide (t ∈ zs) = false) := by
          show decide (t ∈ zs) = false
          rw [decide_eq_false_iff_not, HE.out]; exact fun h => hbn' h.1
        clear hz
        go_wp2_with (go_at_call 38; refine (nan_any _ _).mono ?_; rintro e w' ⟨rfl, rfl⟩)
        go_ret2
        exact ⟨⟨_, by rw [HF.out]; rfl⟩, rfl⟩

def hasOf (u : Int) (zs : List Int) (t : Int) : Bool := if t ≤ u then decide (1 ≤ t) else decide (t ∈ zs)

set_option maxHeartbeats 400000 in
theorem has_any (u : Int) (A : Option Addr) (n c : Nat) (zs : List Int) (t : Int) (B : Nat) (w : World) (hB : B ≤ w.heap.size) (hz : IntsAt w B A n zs) (hn : n ≤ 1099511627776) (hs : zs.Pairwise (· < ·)) :
    Calls Try.prog 19 #[.agg #[.int .i64 u, .slice A n c], .int .i64 t] w fun e w' => e = .returned (.bool (hasOf u zs t)) ∧ Below w.heap.size w w' := by
  have HS := Lib.hid hs
  have HZ := Lib.hid hz
  clear hs hz
  by_cases h : t ≤ u
  · have HF : Hid (hasOf u zs t = decide (1 ≤ t)) := if_pos h
    go_enter Try.func19, Try.ntmps19
    go_wp2
    go_ret
    exact ⟨ret_bool (by rw [HF.out]), (Below.refl _ _).alloc (Nat.le_refl _) _⟩
  · have HF : Hid (hasOf u zs t = decide (t ∈ zs)) := if_neg h
    go_enter Try.func19, Try.ntmps19
    go_wp2_with fail
    refine (search_any A n c zs t B _ (HZ.out.keep ((Below.refl _ _).alloc hB _)) hn HS.out).mono ?_
    rintro e w' ⟨⟨i, rfl⟩, rfl⟩
    go_wp2
    go_ret
    exact ⟨ret_bool (by rw [HF.out]), (Below.refl _ _).alloc (Nat.le_refl _) _⟩
end Go.Proofs.Ytlalonchdfcjgaa
