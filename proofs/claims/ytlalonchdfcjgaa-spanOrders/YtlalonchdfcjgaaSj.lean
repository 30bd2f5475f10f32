/- The document's Has, Count, Top and Same; the program's Same (slices.Equal) and Within. -/
import Derived.Test.YtlalonchdfcjgaaSi
namespace Go.Proofs.Ytlalonchdfcjgaa
open Go.RowKit

theorem mem_drop_iff {zs : List Int} {t : Int} {k : Nat} (h : ∀ j, j < k → j < zs.length → zs.getD j 0 ≠ t) (hk : k = zs.length) : t ∉ zs := by
  rw [mem_getD]
  rintro ⟨j, hj, e⟩
  exact h j (by omega) hj e

set_option maxHeartbeats 1000000 in
theorem refHas_any (u : Int) (A : Option Addr) (n c : Nat) (zs : List Int) (t : Int) (B : Nat) (w : World) (hB : B ≤ w.heap.size) (hz : IntsAt w B A n zs) (hn : n ≤ 1073741824) :
    Calls Try.prog 20 #[.agg #[.int .i64 u, .slice A n c], .int .i64 t] w fun e w' => e = .returned (.bool (refHasF (u, zs) t)) ∧ Below w.heap.size w w' := by
  have HL : Hid (zs.length = n) := hz.1
  have HZ := Lib.hid hz
  clear hz
  by_cases h1 : 1 ≤ t ∧ t ≤ u
  · have HF : Hid (refHasF (u, zs) t = true) := by show refHasF (u, zs) t = true; unfold refHasF; rw [decide_eq_true h1]; rfl
    obtain ⟨h1a, h1b⟩ := h1
    go_enter Try.func20, Try.ntmps20
    go_wp2
    go_ret
    exact ⟨ret_bool HF.out.symm, (Below.refl _ _).alloc (Nat.le_refl _) _⟩
  have HF : Hid (refHasF (u, zs) t = decide (t ∈ zs)) := by show refHasF (u, zs) t = _; unfold refHasF; rw [decide_eq_false h1]; rfl
  have rest : ∀ (P : Prop), (P ↔ 1 ≤ t) → P ∨ ¬ P := fun P _ => Classical.em P
  clear rest
  by_cases h2 : 1 ≤ t
  all_goals
    first
      | (have h3 : decide (t ≤ u) = false := by simp; omega)
      | (have h3 : decide (1 ≤ t) = false := by simp; omega)
    go_enter Try.func20, Try.ntmps20
    go_wp2
    go_loop [5] (fun i => ∃ k : Nat, k ≤ n ∧ i = .int .i64 k ∧ Hid (∀ j, j < k → j < zs.length → zs.getD j 0 ≠ t)) (fun i => n - (intOf i).toNat)
    case atStart => exact ⟨0, by omega, rfl, fun j hj => by omega⟩
    case round =>
      obtain ⟨k, hk, rfl, HQ⟩ := hrel
      by_cases hlt : k < n
      · obtain ⟨b, off, rfl, hbB, hc⟩ := HZ.out.2 (by omega)
        have hc1 := hc k hlt
        have hb' : b < w.heap.size := by omega
        clear hc
        by_cases he : zs.getD k 0 = t
        · have he' : (zs[k]?.getD 0 == t) = true := by simpa [List.getD_eq_getElem?_getD] using he
          have HE : Hid (refHasF (u, zs) t = true) := by show refHasF (u, zs) t = _; rw [HF.out, decide_eq_true_eq, mem_getD]; exact ⟨k, by rw [HL.out]; exact hlt, he⟩
          clear he
          go_wp2
          go_ret
          exact ⟨ret_bool HE.out.symm, (Below.refl _ _).alloc (Nat.le_refl _) _⟩
        · have he' : (zs[k]?.getD 0 == t) = false := by simpa [List.getD_eq_getElem?_getD] using he
          have HE : Hid (∀ j, j < k + 1 → j < zs.length → zs.getD j 0 ≠ t) := fun j hj hj2 => by
            rcases Nat.lt_or_ge j k with h | h
            · exact HQ.out j h hj2
            · rw [show j = k by omega]; exact he
          clear he
          go_wp2
          go_round
          case rel => exact ⟨k + 1, by omega, by go_num, HE⟩
          case measure => simp [intOf]; omega
      · have HE : Hid (refHasF (u, zs) t = false) := by
          show refHasF (u, zs) t = _
          rw [HF.out, decide_eq_false_iff_not]
          exact mem_drop_iff HQ.out (by rw [HL.out]; omega)
        go_wp2
        go_ret
        exact ⟨ret_bool HE.out.symm, (Below.refl _ _).alloc (Nat.le_refl _) _⟩

set_option maxHeartbeats 400000 in
theorem refCount_any (u : Int) (A : Option Addr) (n c : Nat) (w : World) (h0 : 0 ≤ u) (h1 : u ≤ 1048576) (hn : n ≤ 1099511627776) :
    Calls Try.prog 22 #[.agg #[.int .i64 u, .slice A n c]] w fun e w' => e = .returned (.int .i64 (u + n)) ∧ Below w.heap.size w w' := by
  go_enter Try.func22, Try.ntmps22
  go_wp2
  go_ret
  exact ⟨rfl, (Below.refl _ _).alloc (Nat.le_refl _) _⟩

set_option maxHeartbeats 400000 in
theorem refTop_any (u : Int) (A : Option Addr) (n c : Nat) (zs : List Int) (B : Nat) (w : World) (hB : B ≤ w.heap.size) (hz : IntsAt w B A n zs) (hn : n ≤ 1099511627776) :
    Calls Try.prog 24 #[.agg #[.int .i64 u, .slice A n c]] w fun e w' => e = .returned (.int .i64 (topOf u zs)) ∧ Below w.heap.size w w' := by
  rcases Nat.eq_zero_or_pos n with h0 | h0
  · subst h0
    have : zs = [] := List.eq_nil_of_length_eq_zero hz.1
    subst this
    go_enter Try.func24, Try.ntmps24
    go_wp2
    go_ret
    exact ⟨rfl, (Below.refl _ _).alloc (Nat.le_refl _) _⟩
  · obtain ⟨b, off, rfl, hlt, hc⟩ := hz.2 h0
    have hne : (0 : Int) < n := by omega
    have hp : (0 : Int) ≤ (n : Int) - 1 := by omega
    have hp1 : (1 : Int) ≤ (n : Int) := by omega
    have hq : (n : Int) - 1 < n := by omega
    have hl : zs.length = n := hz.1
    have hc1 := hc (n - 1) (by omega)
    have HT : Hid (zs.getD (n - 1) 0 = topOf u zs) := by
      show zs.getD (n - 1) 0 = topOf u zs
      unfold topOf
      rw [List.getLast?_eq_getElem?, hl, List.getD_eq_getElem?_getD, List.getElem?_eq_getElem (by omega)]
      rfl
    have hbl : b < w.heap.size := by omega
    clear hc hl hz
    go_enter Try.func24, Try.ntmps24
    go_wp2
    go_ret
    exact ⟨ret_int (by simpa using HT.out), (Below.refl _ _).alloc (Nat.le_refl _) _⟩

theorem eq_of_cells {xs ys : List Int} {n : Nat} (hx : xs.length = n) (hy : ys.length = n) (h : ∀ j, j < n → xs.getD j 0 = ys.getD j 0) : xs = ys := by
  refine List.ext_getElem (by omega) fun i h1 h2 => ?_
  have := h i (by omega)
  simpa [List.getD_eq_getElem?_getD, List.getElem?_eq_getElem h1, List.getElem?_eq_getElem h2] using this

set_option maxHeartbeats 1000000 in
theorem equal_any (A : Option Addr) (n c : Nat) (xs : List Int) (A' : Option Addr) (m c' : Nat) (ys : List Int) (B : Nat) (w : World) (hx : IntsAt w B A n xs) (hy : IntsAt w B A' m ys) (hn : n ≤ 1073741824) :
    Calls Try.prog 35 #[.slice A n c, .slice A' m c'] w fun e w' => e = .returned (.bool (decide (xs = ys))) ∧ Below w.heap.size w w' := by
  have HX := Lib.hid hx
  have HY := Lib.hid hy
  clear hx hy
  by_cases hnm : n = m
  · subst hnm
    go_enter Try.func35, Try.ntmps35
    go_wp2
    go_loopw [13] (fun i wr => ∃ (k q : Nat), k ≤ n ∧ i = .int .i64 k ∧ Hid (∀ j, j < k → xs.getD j 0 = ys.getD j 0) ∧ wr = w.drewN q) (fun i _ => n - (intOf i).toNat)
    case atStart => exact ⟨0, 0, by omega, rfl, fun j hj => by omega, rfl⟩
    case round =>
      obtain ⟨k, q, hk, rfl, HQ, rfl⟩ := hrel
      by_cases hlt : k < n
      · obtain ⟨b, off, rfl, hbB, hc⟩ := HX.out.2 (by omega)
        obtain ⟨b', off', rfl, hbB', hc'⟩ := HY.out.2 (by omega)
        have hc1 := hc k hlt
        have hc2 := hc' k hlt
        have hkI : (k : Int) < n := by omega
        clear hc hc'
        generalize hp : xs.getD k 0 = x at hc1
        generalize hr : ys.getD k 0 = y at hc2
        have HP := Lib.hid hp
        have HRr := Lib.hid hr
        clear hp hr
        by_cases he : x = y
        · have he' : (x != y) = false := by simp [he]
          have HE : Hid (∀ j, j < k + 1 → xs.getD j 0 = ys.getD j 0) := fun j hj => by
            rcases Nat.lt_or_ge j k with h | h
            · exact HQ.out j h
            · rw [show j = k by omega, HP.out, HRr.out, he]
          clear he
          go_wp2_with fail
          go_quiet (fail)
          go_wp2
          go_roundw
          case rel => exact ⟨k + 1, _, by omega, by go_num, HE, rfl⟩
          case measure => simp [intOf]; omega
        · have he' : (x != y) = true := by simpa using he
          have HE : Hid (decide (xs = ys) = false) := by
            show decide (xs = ys) = false
            rw [decide_eq_false_iff_not]
            intro h
            rw [← HP.out, ← HRr.out, h] at he
            exact he rfl
          clear he
          go_wp2_with fail
          go_quiet (fail)
          go_wp2
          go_ret
          exact ⟨ret_bool HE.out.symm, by repeat (first | exact Below.refl _ _ | refine below_d ?_ _)⟩
      · have HE : Hid (decide (xs = ys) = true) := by
          show decide (xs = ys) = true
          rw [decide_eq_true_eq]
          exact eq_of_cells HX.out.1 HY.out.1 (fun j hj => HQ.out j (by omega))
        go_wp2
        go_ret
        exact ⟨ret_bool HE.out.symm, by repeat (first | exact Below.refl _ _ | refine below_d ?_ _)⟩
  · have hd : ((n : Int) != (m : Int)) = true := by simp; omega
    have HE : Hid (decide (xs = ys) = false) := by
      show decide (xs = ys) = false
      rw [decide_eq_false_iff_not]
      intro h
      exact hnm (by rw [← HX.out.1, ← HY.out.1, h])
    go_enter Try.func35, Try.ntmps35
    go_wp2
    go_ret
    exact ⟨ret_bool HE.out.symm, Below.refl _ _⟩

def sameF (a b : Int × List Int) : Bool := decide (a = b)

set_option maxHeartbeats 1000000 in
theorem same_any (a : Int) (A : Option Addr) (n c : Nat) (xs : List Int) (b : Int) (A' : Option Addr) (m c' : Nat) (ys : List Int) (B : Nat) (w : World) (hB : B ≤ w.heap.size) (hx : IntsAt w B A n xs) (hy : IntsAt w B A' m ys) (hn : n ≤ 1073741824) :
    Calls Try.prog 27 #[.agg #[.int .i64 a, .slice A n c], .agg #[.int .i64 b, .slice A' m c']] w fun e w' => e = .returned (.bool (sameF (a, xs) (b, ys))) ∧ Below w.heap.size w w' := by
  have HX := Lib.hid hx
  have HY := Lib.hid hy
  clear hx hy
  by_cases h : a = b
  · have h' : (a == b) = true := by simp [h]
    have HF : Hid (sameF (a, xs) (b, ys) = decide (xs = ys)) := by show sameF (a, xs) (b, ys) = _; unfold sameF; simp [h]
    clear h
    go_enter Try.func27, Try.ntmps27
    go_wp2_with fail
    refine (equal_any A n c xs A' m c' ys B _ (HX.out.keep (((Below.refl _ _).alloc hB _).alloc (by simp; omega) _)) (HY.out.keep (((Below.refl _ _).alloc hB _).alloc (by simp; omega) _)) hn).mono ?_
    rintro e w1 ⟨rfl, hb1⟩
    have HB1 : Hid (Below w.heap.size w w1) := (((Below.refl _ _).alloc (Nat.le_refl _) _).alloc (by simp) _).trans (hb1.mono (by simp; omega))
    clear hb1
    go_wp2
    go_ret
    exact ⟨ret_bool HF.out.symm, HB1.out⟩
  · have h' : (a == b) = false := by simpa using h
    have HF : Hid (sameF (a, xs) (b, ys) = false) := by show sameF (a, xs) (b, ys) = _; unfold sameF; simp [h]
    clear h
    go_enter Try.func27, Try.ntmps27
    go_wp2
    go_ret
    exact ⟨ret_bool HF.out.symm, ((Below.refl _ _).alloc (Nat.le_refl _) _).alloc (by simp) _⟩
end Go.Proofs.Ytlalonchdfcjgaa
