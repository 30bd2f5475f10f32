/- Versions: Newer, as the program has it and as the document does; what an item that may be keeps to. -/
import Derived.Test.YtpaiigminmakgaaLj
import Derived.Deep.MidRow
import Derived.Deep.CutBlock
import Derived.Deep.DeepCutAuto
import Derived.Deep.RegionHeld3
namespace Go.Proofs.Ytpaiigminmakgaa
open Go.RowKit

theorem store_complex (W : World) (a : Addr) (k : FloatKind) (x y : Nat) (m : Mode) : (store a (.complex k x y) m).run Try.prog W = stored Try.prog W a (.complex k x y) m := run_store _ W a _ m rfl
theorem zero_fl : fl 0 = 0 := by decide
/-- Does a win against b? -/
def newerF (a b : Vrs) : Bool := if a.stamp = b.stamp then decide (0 < Lib.compareBytes a.id.data.toList b.id.data.toList) else decide (b.stamp < a.stamp)
set_option maxRecDepth 100000 in
set_option maxHeartbeats 1000000 in
theorem newer_any (a b : Vrs) (w : World) : Calls Try.prog 63 #[vrsV a, vrsV b] w fun e w' => e = .returned (.bool (newerF a b)) ∧ Below w.heap.size w w' := by
  obtain ⟨d1, a1, s1⟩ := a
  obtain ⟨d2, a2, s2⟩ := b
  have HN := Lib.hid (show newerF ⟨d1, a1, s1⟩ ⟨d2, a2, s2⟩ = if s1 = s2 then decide (0 < Lib.compareBytes d1.data.toList d2.data.toList) else decide (s2 < s1) from rfl)
  generalize newerF ⟨d1, a1, s1⟩ ⟨d2, a2, s2⟩ = N at *
  have HC := Lib.hid (compare_any d1 d2)
  generalize Lib.compareBytes d1.data.toList d2.data.toList = c at *
  unfold vrsV
  by_cases h : s1 = s2
  · subst h
    rw [if_pos rfl] at HN
    go_enter Try.func63, Try.ntmps63
    go_wp2_with fail
    refine (HC.out _).mono ?_
    rintro e w1 ⟨rfl, rfl⟩
    go_wp2
    go_ret
    exact ⟨ret_bool (by rw [HN.out]), ((Below.refl _ _).alloc (Nat.le_refl _) _).alloc (by simp) _⟩
  · rw [if_neg h] at HN
    have h1 : (s1 != s2) = true := by simpa using h
    go_enter Try.func63, Try.ntmps63
    go_wp2
    go_ret
    exact ⟨ret_bool (by rw [HN.out]), ((Below.refl _ _).alloc (Nat.le_refl _) _).alloc (by simp) _⟩
theorem right_bounds {i : Itm} (h : rightI i = true) : 0 ≤ i.key ∧ i.key < 32 ∧ rightV i.ver = true ∧ wholeF i.x i.y = true ∧ i.text.size ≤ 16 ∧ (i.dead = true → i.x = 0 ∧ i.y = 0 ∧ i.held = false) ∧ (i.held = false → i.text.size = 0) := by
  unfold rightI at h
  simp only [Bool.and_eq_true, decide_eq_true_eq, Bool.not_eq_true', Bool.or_eq_true] at h
  obtain ⟨h1, h2, h3, h4, h5, h6, h7⟩ := h
  refine ⟨h1, h2, h3, h4, h5, fun hd => ?_, fun hh => ?_⟩
  · rw [hd] at h6
    simp at h6
    exact ⟨h6.1.1, h6.1.2, h6.2⟩
  · rw [hh] at h7
    simpa using h7
theorem rightV_bounds {v : Vrs} (h : rightV v = true) : rightL v.id.data.toList = true ∧ v.id.size ≤ 6 ∧ 1 ≤ v.seq ∧ v.seq ≤ 1048576 ∧ 1 ≤ v.stamp ∧ v.stamp ≤ 1048576 := by
  unfold rightV countsF at h
  simp only [Bool.and_eq_true, decide_eq_true_eq] at h
  have h1 := (rightL_iff _).mp h.1
  have hl : v.id.data.toList.length = v.id.size := by simp
  exact ⟨h.1, by omega, h.2.1.1, h.2.1.2, h.2.2.1, h.2.2.2⟩
theorem whole_bounds {x y : Int} (h : wholeF x y = true) : -1000 ≤ x ∧ x ≤ 1000 ∧ -1000 ≤ y ∧ y ≤ 1000 := by
  unfold wholeF withinF at h
  simp only [Bool.and_eq_true, decide_eq_true_eq] at h
  omega


set_option maxRecDepth 100000 in
set_option maxHeartbeats 1000000 in
theorem ver_raw (d : ByteArray) (a s : Int) (w : World) : Calls Try.prog 42 #[.agg #[.string d, .int .i64 a, .int .i64 s]] w fun e w' => e = .returned (.agg #[.string d, .int .i64 a, .int .i64 s]) ∧ Below w.heap.size w w' := by
  go_enter Try.func42, Try.ntmps42
  go_wp2
  refine bodyPost_ret (v := .agg #[.string d, .int .i64 a, .int .i64 s]) ?_ rfl ?_
  · simp [results, Try.results42, go_sem]
  · exact ⟨rfl, ((Below.refl _ _).alloc (Nat.le_refl _) _).alloc (by simp) _⟩
theorem newer_raw (d1 : ByteArray) (a1 s1 : Int) (d2 : ByteArray) (a2 s2 : Int) (w : World) : Calls Try.prog 63 #[.agg #[.string d1, .int .i64 a1, .int .i64 s1], .agg #[.string d2, .int .i64 a2, .int .i64 s2]] w fun e w' => e = .returned (.bool (newerF ⟨d1, a1, s1⟩ ⟨d2, a2, s2⟩)) ∧ Below w.heap.size w w' := newer_any ⟨d1, a1, s1⟩ ⟨d2, a2, s2⟩ w

theorem below_drawn {w w1 w2 : World} (h : Below w.heap.size w w1) (hd : Drawn w1 w2) : Below w.heap.size w w2 := by
  obtain ⟨n, rfl⟩ := hd
  exact h.trans ⟨rfl, rfl, rfl, Nat.le_refl _, fun _ _ => rfl⟩

set_option maxRecDepth 100000 in
set_option maxHeartbeats 1000000 in
theorem rnewer_raw (d1 : ByteArray) (a1 s1 : Int) (d2 : ByteArray) (a2 s2 : Int) (h1 : d1.size ≤ 9223372036854775807) (w : World) : Calls Try.prog 32 #[.agg #[.string d1, .int .i64 a1, .int .i64 s1], .agg #[.string d2, .int .i64 a2, .int .i64 s2]] w fun e w' => e = .returned (.bool (newerF ⟨d1, a1, s1⟩ ⟨d2, a2, s2⟩)) ∧ Below w.heap.size w w' := by
  have HN := Lib.hid (show newerF ⟨d1, a1, s1⟩ ⟨d2, a2, s2⟩ = if s1 = s2 then decide (0 < Lib.compareBytes d1.data.toList d2.data.toList) else decide (s2 < s1) from rfl)
  generalize newerF ⟨d1, a1, s1⟩ ⟨d2, a2, s2⟩ = N at *
  have HC : Hid (∀ w, Calls Try.prog 55 #[.string d1, .string d2] w fun e w' => e = .returned (.int .i64 (Lib.compareBytes d1.data.toList d2.data.toList)) ∧ Hid (Drawn w w')) := fun w => rcompare_any d1 d2 w h1
  generalize Lib.compareBytes d1.data.toList d2.data.toList = c at *
  clear h1
  by_cases h : s1 = s2
  · subst h
    rw [if_pos rfl] at HN
    go_enter Try.func32, Try.ntmps32
    go_wp2_with fail
    refine (HC.out _).mono ?_
    rintro e w1 ⟨rfl, hd⟩
    have HB : Hid (Below w.heap.size w w1) := below_drawn (((Below.refl _ _).alloc (Nat.le_refl _) _).alloc (by simp) _) hd.out
    clear hd
    go_wp2
    go_ret
    exact ⟨ret_bool (by rw [HN.out]), HB.out⟩
  · rw [if_neg h] at HN
    by_cases h2 : s2 < s1
    · rw [decide_eq_true h2] at HN
      have h1 : (s1 == s2) = false := by simpa using h
      go_enter Try.func32, Try.ntmps32
      go_wp2
      go_ret
      exact ⟨ret_bool (by rw [HN.out]), ((Below.refl _ _).alloc (Nat.le_refl _) _).alloc (by simp) _⟩
    · rw [decide_eq_false h2] at HN
      have h1 : (s1 == s2) = false := by simpa using h
      go_enter Try.func32, Try.ntmps32
      go_wp2
      go_ret
      exact ⟨ret_bool (by rw [HN.out]), ((Below.refl _ _).alloc (Nat.le_refl _) _).alloc (by simp) _⟩

theorem newer_true {a b : Vrs} (h : newerF a b = true) : b.stamp < a.stamp ∨ a.stamp = b.stamp ∧ 0 < Lib.compareBytes a.id.data.toList b.id.data.toList := by
  unfold newerF at h
  split at h
  · exact .inr ⟨by assumption, by simpa using h⟩
  · exact .inl (by simpa using h)
theorem newer_of {a b : Vrs} (h : b.stamp < a.stamp ∨ a.stamp = b.stamp ∧ 0 < Lib.compareBytes a.id.data.toList b.id.data.toList) : newerF a b = true := by
  unfold newerF
  split
  · rcases h with h | h
    · omega
    · simpa using h.2
  · rcases h with h | h
    · simpa using h
    · omega
theorem newer_not {a b : Vrs} (h : newerF a b = true) : newerF b a = false := by
  cases e : newerF b a with
  | false => rfl
  | true =>
    have h1 := newer_true h
    have h2 := newer_true e
    have h3 := cmp_neg a.id.data.toList b.id.data.toList
    omega
theorem newer_same {a b : Vrs} (h : newerF a b = false) (h' : newerF b a = false) : a.stamp = b.stamp ∧ a.id = b.id := by
  have h1 : ¬ (b.stamp < a.stamp ∨ a.stamp = b.stamp ∧ 0 < Lib.compareBytes a.id.data.toList b.id.data.toList) := fun x => by rw [newer_of x] at h; cases h
  have h2 : ¬ (a.stamp < b.stamp ∨ b.stamp = a.stamp ∧ 0 < Lib.compareBytes b.id.data.toList a.id.data.toList) := fun x => by rw [newer_of x] at h'; cases h'
  have h3 := cmp_neg a.id.data.toList b.id.data.toList
  have hs : a.stamp = b.stamp := by omega
  have h0 : Lib.compareBytes a.id.data.toList b.id.data.toList = 0 := by
    have h4 : ¬ 0 < Lib.compareBytes a.id.data.toList b.id.data.toList := fun x => h1 (.inr ⟨hs, x⟩)
    have h5 : ¬ 0 < Lib.compareBytes b.id.data.toList a.id.data.toList := fun x => h2 (.inr ⟨hs.symm, x⟩)
    omega
  exact ⟨hs, ByteArray.ext (Array.ext' ((cmp_zero _ _).mp h0))⟩
theorem cmp_pos_trans (a b c : List UInt8) (h1 : 0 < Lib.compareBytes a b) (h2 : 0 < Lib.compareBytes b c) : 0 < Lib.compareBytes a c := by
  have n1 := cmp_neg a b
  have n2 := cmp_neg b c
  have n3 := cmp_neg a c
  have t1 := cmp_trans c b a (by omega) (by omega)
  rcases cmp_three c a with e | e | e
  · omega
  · have := (cmp_zero c a).mp e
    subst this
    have := cmp_trans c b c (by omega) (by omega)
    have h3 := cmp_trans b c b
    omega
  · omega
theorem newer_trans {a b c : Vrs} (h1 : newerF a b = true) (h2 : newerF b c = true) : newerF a c = true := by
  have h3 := newer_true h1
  have h4 := newer_true h2
  apply newer_of
  rcases h3 with h3 | h3
  · left; omega
  · rcases h4 with h4 | h4
    · left; omega
    · exact .inr ⟨by omega, cmp_pos_trans _ _ _ h3.2 h4.2⟩
theorem below_via {B : Nat} {a w W w1 : World} (h : Below B a w) (hb : Below W.heap.size W w1) (hB : B ≤ w.heap.size) (hs : W.os = w.os ∧ W.tape = w.tape ∧ W.output = w.output ∧ W.heap = w.heap) : Below B a w1 := by
  obtain ⟨h1, h2, h3, h4⟩ := hs
  exact ⟨hb.os.trans (h1.trans h.os), hb.tape.trans (h2.trans h.tape), hb.output.trans (h3.trans h.output), Nat.le_trans h.size (by rw [← h4]; exact hb.size), fun k hk => (hb.block k (by rw [h4]; omega)).trans (by rw [h4]; exact h.block k hk)⟩

end Go.Proofs.Ytpaiigminmakgaa
