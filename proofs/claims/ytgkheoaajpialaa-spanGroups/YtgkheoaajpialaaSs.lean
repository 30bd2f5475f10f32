/- The library's Grow of no slice, its Concat of one, and span.Add of a number that can't be: a copy. -/
import Derived.Test.YtgkheoaajpialaaSp
import Derived.Lib.AppendZerosOnto
import Derived.Lib.SliceRun
namespace Go.Proofs.Ytgkheoaajpialaa
open Go.RowKit

/-- A row of the call's own, empty, with room. -/
def EmptyRow (w : World) (e : Ending) (w' : World) : Prop := ∃ A c, e = .returned (.slice A 0 c) ∧ w'.ownsRow w.heap.size 3 1 (.slice A 0 c) 0 (([] : List Int).map (.int .i64)) ∧ Below w.heap.size w w'

set_option maxHeartbeats 1000000 in
theorem grow_nil (n : Nat) (w : World) (hn : n ≤ 1073741824) : Calls Try.prog 36 #[.slice none 0 0, .int .i64 n] w (EmptyRow w) := by
  rcases Nat.eq_zero_or_pos n with h0 | h0
  · subst h0
    go_enter Try.func36, Try.ntmps36
    go_wp2
    go_ret
    exact ⟨none, 0, rfl, World.ownsRow_nil _ _ _ _, Below.refl _ _⟩
  · obtain ⟨i0, hi, hz0, hz1, hz2⟩ := info_parts Try.info3
    have hold : (Builtin.firstCells i0.size 0 (.slice none 0 0)).run Try.prog w.drew = .ok (([] : List Value).toArray) w.drew := run_firstCells_none w.drew i0.size 0 0 0
    have hrz : ∀ ty, (Builtin.append_ #[22, 3] ty #[.slice none 0 0, .int .i64 (n : Int)]).run Try.prog w =
        .ok (.slice (some ⟨w.heap.size, 0, none⟩) n (grownCap w n 0 3)) (w.drew.alloc (.cells (([] : List Value).toArray ++ Builtin.zeroCells (Value.int .i64 0).cells n ++ Builtin.zeroCells (Value.int .i64 0).cells (grownCap w n 0 3 - n)) 3)) := fun ty => by
      have h := Lib.run_append_grow_zeros (P := Try.prog) w 22 3 ty 3 i0 (.int .i64 0) .i64 .i64 Try.underlying22 Try.underlying3 hi hz0 none 0 0 [] hold n h0 (by omega) (by omega) (by omega) (by rw [hz2]; omega)
        (by rw [Nat.zero_add]; exact growslice_fits h0 (by rw [hz2]; omega))
      rw [Nat.zero_add] at h
      exact h
    have hG := grownCap_ge w n 0 3
    have hGm := grownCap_le_maxLen w n 0 3 (by unfold maxLen; omega)
    have hsz : (([] : List Value).toArray ++ Builtin.zeroCells (Value.int .i64 0).cells n ++ Builtin.zeroCells (Value.int .i64 0).cells (grownCap w n 0 3 - n)).size = grownCap w n 0 3 * 1 := by
      simp only [Array.size_append, size_zeroCells]
      simp [Value.cells]
      omega
    generalize hcs : ([] : List Value).toArray ++ Builtin.zeroCells (Value.int .i64 0).cells n ++ Builtin.zeroCells (Value.int .i64 0).cells (grownCap w n 0 3 - n) = cs at hrz hsz
    generalize hg : grownCap w n 0 3 = G at hrz hsz hG hGm
    clear hcs hg hold
    have HR := Lib.hid hrz
    have HSz := Lib.hid hsz
    clear hrz hsz
    have hp : (0 : Int) < n := by omega
    have hG63 : G ≤ 9223372036854775807 := by unfold maxLen at hGm; omega
    have HO : Hid ((w.drew.alloc (.cells cs 3)).ownsRow w.heap.size 3 1 (.slice (some ⟨w.heap.size, 0, none⟩) 0 G) 0 (([] : List Int).map (.int .i64))) :=
      ⟨rfl, .inr ⟨w.heap.size, G, cs, rfl, Nat.le_refl _, heap_alloc_new w.drew _, Nat.zero_le _, hGm, HSz.out, rfl⟩⟩
    go_enter Try.func36, Try.ntmps36
    go_wp2_with (at_builtin; refine Lib.wpList_append_run _ rfl _ _ _ _ rfl _ _ rfl rfl _ _ (HR.out _) ?_)
    all_goals
      go_ret
      exact ⟨_, _, rfl, HO.out, (Below.refl _ _).drew.alloc (by simp) _⟩

/-- A copy in a row of the call's own. -/
def CopyRow (zs : List Int) (w : World) (e : Ending) (w' : World) : Prop := ∃ A c, e = .returned (.slice A zs.length c) ∧ w'.ownsRow w.heap.size 3 1 (.slice A zs.length c) zs.length (zs.map (.int .i64)) ∧ Below w.heap.size w w'

set_option maxHeartbeats 2000000 in
theorem concat_one (g : Nat) (A : Option Addr) (c : Nat) (zs : List Int) (w : World) (hg : w.cell? ⟨g, 0, none⟩ = some (.slice A zs.length c)) (hgl : g < w.heap.size) (hz : IntsAt w w.heap.size A zs.length zs) (hn : zs.length ≤ 100000) :
    Calls Try.prog 31 #[.slice (some ⟨g, 0, none⟩) 1 1] w (CopyRow zs w) := by
  have HZ := Lib.hid hz
  clear hz
  have hnn : ¬ ((zs.length : Int) < 0) := by omega
  go_enter Try.func31, Try.ntmps31
  go_wp2
  go_loop [3, 11] (fun sz i => ∃ k : Nat, k ≤ 1 ∧ i = .int .i64 k ∧ sz = .int .i64 ((k * zs.length : Nat) : Int)) (fun _ i => 1 - (intOf i).toNat)
  case atStart => exact ⟨0, by omega, rfl, by simp⟩
  case round =>
    obtain ⟨k, hk, rfl, rfl⟩ := hrel
    rcases (show k = 0 ∨ k = 1 by omega) with rfl | rfl
    · rw [show ((0 * zs.length : Nat) : Int) = 0 by simp]
      go_wp2
      go_round
      case rel => exact ⟨1, by omega, rfl, by simp⟩
      case measure => simp [intOf]
    · rw [show ((1 * zs.length : Nat) : Int) = zs.length by simp]
      go_wp2_with fail
      refine (grow_nil zs.length _ (by omega)).mono ?_
      rintro e w1 ⟨A1, c1, rfl, hown1, hb1⟩
      have HO1 := Lib.hid hown1
      have HB1 := Lib.hid hb1
      have q0 := (hb1.cell (p := ⟨g, 0, none⟩) hgl).trans hg
      clear hown1 hb1
      go_wp2
      go_loopw [6, 27] (fun ns i wr => ∃ (k : Nat) (A2 : Option Addr) (c2 : Nat), k ≤ 1 ∧ i = .int .i64 k ∧ ns = .slice A2 (k * zs.length) c2 ∧ wr.cell? ⟨g, 0, none⟩ = some (.slice A zs.length c) ∧ Hid (wr.ownsRow w.heap.size 3 1 (.slice A2 (k * zs.length) c2) (k * zs.length) ((if k = 0 then ([] : List Int) else zs).map (.int .i64))) ∧ Hid (Below w.heap.size w wr)) (fun _ i _ => 1 - (intOf i).toNat)
      case atStart => exact ⟨0, A1, c1, by omega, rfl, by simp, q0, by simpa [Hid] using HO1.out, HB1.out⟩
      case round =>
        obtain ⟨k, A2, c2, hk, rfl, rfl, r0, HO2, HB2⟩ := hrel
        rcases (show k = 0 ∨ k = 1 by omega) with rfl | rfl
        · have HO2' : Hid (wr.ownsRow w.heap.size 3 1 (.slice A2 0 c2) 0 (([] : List Int).map (.int .i64))) := by have := HO2.out; simpa [Hid] using this
          rw [show 0 * zs.length = 0 by omega]
          go_wp2_with (at_builtin; refine wpList_append_ints (w := wr) (B := w.heap.size) (B' := w.heap.size) (v := .slice A2 0 c2) (n := 0) (zs := []) (A := A) (m := zs.length) (c := c) (ys := zs) rfl _ _ rfl rfl HO2'.out rfl (HZ.out.keep HB2.out) (by omega) HB2.out.size ?_; intro A3 c3 w3 hown3 hg3 _; have HO3 := Lib.hid hown3; have HB3 : Hid (Below w.heap.size w w3) := HB2.out.grown hg3 HB2.out.size (fun i hi => (HO2'.out.lt i hi).1); have s0 : w3.cell? ⟨g, 0, none⟩ = some (.slice A zs.length c) := (HB3.out.cell (p := ⟨g, 0, none⟩) hgl).trans hg; clear hown3 hg3)
          go_roundw
          case rel => exact ⟨1, A3, c3, by omega, rfl, by simp, s0, by simpa [Hid] using HO3.out, HB3⟩
          case measure => simp [intOf]
        · have HO2' : Hid (wr.ownsRow w.heap.size 3 1 (.slice A2 zs.length c2) zs.length (zs.map (.int .i64))) := by have := HO2.out; simpa [Hid] using this
          rw [show 1 * zs.length = zs.length by omega]
          go_wp2
          go_ret
          exact ⟨A2, c2, rfl, HO2'.out, HB2.out⟩
end Go.Proofs.Ytgkheoaajpialaa
