/- slices.Grow and Concat over rows of ids. -/
import Derived.Test.YtkdeiljbjpefhaaDoorUa
import Derived.Lib.AppendZerosOnto
import Derived.Lib.SliceRun
namespace Go.Proofs.YtkdeiljbjpefhaaDoor
open Go.RowKit

/-- A row of the call's own, empty, with room. -/
def EmptyRowT (w : World) (e : Ending) (w' : World) : Prop := ∃ A c, e = .returned (.slice A 0 c) ∧ w'.ownsRow w.heap.size 28 1 (.slice A 0 c) 0 (rowCells cellsT []) ∧ Below w.heap.size w w'

set_option maxRecDepth 100000 in
set_option maxHeartbeats 1000000 in
theorem growT_nil (n : Nat) (w : World) (hn : n ≤ 1073741824) : Calls Tryd.prog 24 #[.slice none 0 0, .int .i64 n] w (EmptyRowT w) := by
  rcases Nat.eq_zero_or_pos n with h0 | h0
  · subst h0
    go_enter Tryd.func24, Tryd.ntmps24
    go_wp2
    go_ret
    exact ⟨none, 0, rfl, rown_nil _ _, Below.refl _ _⟩
  · obtain ⟨i0, hi, hz0, hz1, hz2⟩ := info_parts rowT.i
    have hold : (Builtin.firstCells i0.size 0 (.slice none 0 0)).run Tryd.prog w.drew = .ok (([] : List Value).toArray) w.drew := run_firstCells_none w.drew i0.size 0 0 0
    have hrz : ∀ ty, (Builtin.append_ #[23, 3] ty #[.slice none 0 0, .int .i64 (n : Int)]).run Tryd.prog w =
        .ok (.slice (some ⟨w.heap.size, 0, none⟩) n (grownCap w n 0 28)) (w.drew.alloc (.cells (([] : List Value).toArray ++ Builtin.zeroCells zeroT.cells n ++ Builtin.zeroCells zeroT.cells (grownCap w n 0 28 - n)) 28)) := fun ty => by
      have h := Lib.run_append_grow_zeros (P := Tryd.prog) w 23 3 ty 28 i0 zeroT .i64 .i64 Tryd.underlying23 Tryd.underlying3 hi hz0 none 0 0 [] hold n h0 (by omega) (by omega) (by omega) (by rw [hz2]; omega)
        (by rw [Nat.zero_add]; exact growslice_fits h0 (by rw [hz2]; omega))
      rw [Nat.zero_add] at h
      exact h
    have hG := grownCap_ge w n 0 28
    have hGm := grownCap_le_maxLen w n 0 28 (by unfold maxLen; omega)
    have hsz : (([] : List Value).toArray ++ Builtin.zeroCells zeroT.cells n ++ Builtin.zeroCells zeroT.cells (grownCap w n 0 28 - n)).size = grownCap w n 0 28 * 1 := by
      simp only [Array.size_append, size_zeroCells]
      simp [Value.cells, zeroT]
      omega
    generalize hcs : ([] : List Value).toArray ++ Builtin.zeroCells zeroT.cells n ++ Builtin.zeroCells zeroT.cells (grownCap w n 0 28 - n) = cs at hrz hsz
    generalize hg : grownCap w n 0 28 = G at hrz hsz hG hGm
    clear hcs hg hold
    have HR := Lib.hid hrz
    have HSz := Lib.hid hsz
    clear hrz hsz
    have hp : (0 : Int) < n := by omega
    have hG63 : G ≤ 9223372036854775807 := by unfold maxLen at hGm; omega
    have HO : Hid ((w.drew.alloc (.cells cs 28)).ownsRow w.heap.size 28 1 (.slice (some ⟨w.heap.size, 0, none⟩) 0 G) 0 (rowCells cellsT [])) :=
      ⟨by simp [rowCells], .inr ⟨w.heap.size, G, cs, rfl, Nat.le_refl _, heap_alloc_new w.drew _, Nat.zero_le _, hGm, HSz.out, by simp [rowCells]⟩⟩
    go_enter Tryd.func24, Tryd.ntmps24
    go_wp2_with (at_builtin; refine Lib.wpList_append_run _ rfl _ _ _ _ rfl _ _ rfl rfl _ _ (HR.out _) ?_)
    all_goals
      go_ret
      exact ⟨_, _, rfl, HO.out, (Below.refl _ _).drew.alloc (by simp) _⟩

/-- A part of what is put together: where it lies, its room, its items. -/
structure PartT where
  A : Option Addr
  c : Nat
  zs : List ByteArray
def allT (ps : List PartT) : List ByteArray := ps.flatMap (·.zs)
theorem allT_take (ps : List PartT) (k : Nat) (h : k < ps.length) : allT (ps.take (k + 1)) = allT (ps.take k) ++ ps[k].zs := by
  unfold allT
  rw [List.take_succ_eq_append_getElem h, List.flatMap_append]
  simp
theorem allT_le (ps : List PartT) (k : Nat) : (allT (ps.take k)).length ≤ (allT ps).length := by
  conv => rhs; rw [← List.take_append_drop k ps]
  unfold allT
  rw [List.flatMap_append, List.length_append]
  omega

set_option maxRecDepth 100000 in
set_option maxHeartbeats 2000000 in
theorem concatT_any (G L C : Nat) (ps : List PartT) (B : Nat) (w : World) (hB : B ≤ w.heap.size) (hL : ps.length = L) (hc : ∀ k (h : k < ps.length), w.cell? ⟨G, k, none⟩ = some (.slice ps[k].A ps[k].zs.length ps[k].c)) (hG : G < w.heap.size) (hz : ∀ k (h : k < ps.length), RowAt cellsT 1 w B ps[k].A ps[k].zs.length ps[k].zs)
    (hn : (allT ps).length ≤ 1073741824) (hL1 : L ≤ 1000) (_hL0 : 0 < L) :
    Calls Tryd.prog 13 #[.slice (some ⟨G, 0, none⟩) L C] w (OwnRow cellsT 1 28 (allT ps) w) := by
  have HC := Lib.hid hc
  have HZ := Lib.hid hz
  have HL := Lib.hid hL
  clear hc hz hL
  go_enter Tryd.func13, Tryd.ntmps13
  go_wp2
  go_loop [3, 11] (fun sz i => ∃ k : Nat, k ≤ L ∧ i = .int .i64 k ∧ sz = .int .i64 ((allT (ps.take k)).length : Int)) (fun _ i => L - (intOf i).toNat)
  case atStart => exact ⟨0, by omega, rfl, by simp [allT]⟩
  case round =>
    obtain ⟨k, hk, rfl, rfl⟩ := hrel
    rcases Nat.lt_or_ge k L with hlt | hge
    · have h1 : (k : Int) < L := by omega
      have hkp : k < ps.length := by rw [HL.out]; exact hlt
      have q0 := HC.out k hkp
      have hle := allT_le ps (k + 1)
      have he : (allT (ps.take (k + 1))).length = (allT (ps.take k)).length + ps[k].zs.length := by rw [allT_take ps k hkp]; simp
      have HE := Lib.hid he
      rw [he] at hle
      clear he
      generalize (allT (ps.take k)).length = a at *
      generalize hb : ps[k].zs.length = b at *
      generalize ps[k].A = A0 at *
      generalize ps[k].c = c0 at *
      have h2 : ¬ ((a : Int) + b < 0) := by omega
      go_wp2
      go_round
      case rel => exact ⟨k + 1, by omega, by go_num, by rw [HE.out]; go_num⟩
      case measure => simp [intOf]; omega
    · obtain rfl : k = L := by omega
      rw [show ps.take k = ps by rw [← HL.out]; exact List.take_length]
      have h1 : ¬ ((k : Int) < k) := by omega
      go_wp2_with fail
      refine (growT_nil (allT ps).length _ (by omega)).mono ?_
      rintro e w1 ⟨A1, c1, rfl, hown1, hb1⟩
      have HO1 := Lib.hid hown1
      have HB1 := Lib.hid hb1
      clear hown1 hb1
      go_wp2
      go_loopw [6, 27] (fun ns i wr => ∃ (j : Nat) (A2 : Option Addr) (c2 : Nat), j ≤ k ∧ i = .int .i64 j ∧ ns = .slice A2 (allT (ps.take j)).length c2 ∧ Hid (wr.ownsRow w.heap.size 28 1 (.slice A2 (allT (ps.take j)).length c2) (allT (ps.take j)).length (rowCells cellsT (allT (ps.take j)))) ∧ Hid (Below w.heap.size w wr)) (fun _ i _ => k - (intOf i).toNat)
      case atStart => exact ⟨0, A1, c1, by omega, rfl, rfl, HO1.out, HB1.out⟩
      case round =>
        obtain ⟨j, A2, c2, hj, rfl, rfl, HO2, HB2⟩ := hrel
        rcases Nat.lt_or_ge j k with hlt | hge
        · have h3 : (j : Int) < k := by omega
          have hjp : j < ps.length := by rw [HL.out]; exact hlt
          have r0 : wr.cell? ⟨G, j, none⟩ = some (.slice ps[j].A ps[j].zs.length ps[j].c) := (HB2.out.cell (p := ⟨G, j, none⟩) hG).trans (HC.out j hjp)
          have HZj : Hid (RowAt cellsT 1 wr B ps[j].A ps[j].zs.length ps[j].zs) := (HZ.out j hjp).keep (HB2.out.mono hB)
          have HE := Lib.hid (allT_take ps j hjp)
          have hle := allT_le ps (j + 1)
          rw [HE.out, List.length_append] at hle
          generalize allT (ps.take j) = bs at *
          generalize ps[j] = pj at *
          obtain ⟨A0, c0, b0⟩ := pj
          simp only at r0 HZj HE hle
          go_wp2_with (at_builtin; refine wpList_append_row rowT (w := wr) (B := w.heap.size) (v := .slice A2 bs.length c2) (n := bs.length) (zs := bs) (A := A0) (m := b0.length) (c := c0) (ys := b0) rfl _ _ rfl rfl HO2.out rfl HZj.out (by omega) HB2.out.size ?_; intro A3 c3 w3 hown3 hg3 _; have HO3 := Lib.hid hown3; have HB3 : Hid (Below w.heap.size w w3) := HB2.out.grown hg3 HB2.out.size (fun i hi => (HO2.out.lt i hi).1); clear hown3 hg3)
          go_roundw
          case rel =>
            refine ⟨j + 1, A3, c3, by omega, by go_num, ?_, ?_, HB3⟩
            · rw [HE.out]; simp
            · rw [HE.out]; simpa [Hid] using HO3.out
          case measure => simp [intOf]; omega
        · obtain rfl : j = k := by omega
          rw [show ps.take j = ps by rw [← HL.out]; exact List.take_length] at HO2
          rw [show ps.take j = ps by rw [← HL.out]; exact List.take_length]
          go_wp2
          go_ret
          exact ⟨A2, c2, rfl, HO2.out, HB2.out⟩
end Go.Proofs.YtkdeiljbjpefhaaDoor
