/- slices.Clone, Grow and Concat over rows of items. -/
import Derived.Test.YtpaiigminmakgaaPb
import Derived.Lib.AppendZerosOnto
import Derived.Lib.SliceRun
namespace Go.Proofs.Ytpaiigminmakgaa
open Go.RowKit

theorem rown_empty {cf : Itm → List Value} {d : Nat} (e : TypeId) (w : World) : (w.alloc (.cells #[] e)).ownsRow w.heap.size e d (.slice (some ⟨w.heap.size, 0, none⟩) 0 0) 0 (rowCells cf []) :=
  ⟨by simp [rowCells], .inr ⟨w.heap.size, 0, #[], rfl, Nat.le_refl _, heap_alloc_new w _, Nat.le_refl _, Nat.zero_le _, by simp, by simp [rowCells]⟩⟩
set_option maxRecDepth 100000 in
set_option maxHeartbeats 1000000 in
theorem cloneR_any (A : Option Addr) (n c : Nat) (zs : List Itm) (B : Nat) (w : World) (hB : B ≤ w.heap.size) (hz : RowAt cellsP 8 w B A n zs) (hn : n ≤ 1073741824) :
    Calls Try.prog 41 #[.slice A n c] w (OwnRow cellsP 8 46 zs w) := by
  have hl := hz.1
  have hq : ∀ w, (binOp .eql 38 (.slice A n c) (.slice none 0 0)).run Try.prog w = .ok (.bool A.isNone) w := fun w => Lib.run_eql_slice_nil w 38 46 A n c 0 0 Try.underlying38
  rcases A with _ | ad
  · have h0 : n = 0 := by
      rcases Nat.eq_zero_or_pos n with h | h
      · exact h
      · obtain ⟨_, _, h, _⟩ := hz.2 h
        cases h
    subst h0
    have hnil : zs = [] := List.eq_nil_of_length_eq_zero hl
    subst hnil
    clear hz
    go_enter Try.func41, Try.ntmps41
    go_wp2
    go_ret
    exact ⟨none, 0, rfl, rown_nil _ _, Below.refl _ _⟩
  · have HB1 : Hid (Below w.heap.size w (w.alloc (.cells #[] 46))) := (Below.refl _ _).alloc (Nat.le_refl _) _
    have HO1 : Hid ((w.alloc (.cells #[] 46)).ownsRow w.heap.size 46 8 (.slice (some ⟨w.heap.size, 0, none⟩) 0 0) 0 (rowCells cellsP [])) := rown_empty 46 w
    have HZ1 : Hid (RowAt cellsP 8 (w.alloc (.cells #[] 46)) B (some ad) n zs) := hz.keep (HB1.out.mono hB)
    have HL := Lib.hid hl
    clear hz hl
    go_enter Try.func41, Try.ntmps41
    go_wp2_with (at_builtin; refine wpList_append_row rowS (B := w.heap.size) (v := .slice (some ⟨w.heap.size, 0, none⟩) 0 0) (n := 0) (zs := []) (m := n) (ys := zs) rfl _ _ rfl rfl HO1.out rfl HZ1.out (by omega) HB1.out.size ?_; intro A3 c3 w3 hown3 hg3 _; have HO3 := Lib.hid hown3; have HB3 : Hid (Below w.heap.size w w3) := HB1.out.grown hg3 HB1.out.size (fun i hi => (HO1.out.lt i hi).1); clear hown3 hg3)
    go_ret
    have h3 := HO3.out
    rw [Nat.zero_add, List.nil_append, ← HL.out] at h3
    exact ⟨A3, c3, by rw [HL.out]; rfl, h3, HB3.out⟩

/-- A row of the call's own, empty, with room. -/
def EmptyRowP (w : World) (e : Ending) (w' : World) : Prop := ∃ A c, e = .returned (.slice A 0 c) ∧ w'.ownsRow w.heap.size 46 8 (.slice A 0 c) 0 (rowCells cellsP []) ∧ Below w.heap.size w w'

set_option maxRecDepth 100000 in
set_option maxHeartbeats 1000000 in
theorem growR_nil (n : Nat) (w : World) (hn : n ≤ 1073741824) : Calls Try.prog 62 #[.slice none 0 0, .int .i64 n] w (EmptyRowP w) := by
  rcases Nat.eq_zero_or_pos n with h0 | h0
  · subst h0
    go_enter Try.func62, Try.ntmps62
    go_wp2
    go_ret
    exact ⟨none, 0, rfl, rown_nil _ _, Below.refl _ _⟩
  · obtain ⟨i0, hi, hz0, hz1, hz2⟩ := info_parts rowS.i
    have hold : (Builtin.firstCells i0.size 0 (.slice none 0 0)).run Try.prog w.drew = .ok (([] : List Value).toArray) w.drew := run_firstCells_none w.drew i0.size 0 0 0
    have hrz : ∀ ty, (Builtin.append_ #[38, 3] ty #[.slice none 0 0, .int .i64 (n : Int)]).run Try.prog w =
        .ok (.slice (some ⟨w.heap.size, 0, none⟩) n (grownCap w n 0 46)) (w.drew.alloc (.cells (([] : List Value).toArray ++ Builtin.zeroCells zeroP.cells n ++ Builtin.zeroCells zeroP.cells (grownCap w n 0 46 - n)) 46)) := fun ty => by
      have h := Lib.run_append_grow_zeros (P := Try.prog) w 38 3 ty 46 i0 zeroP .i64 .i64 Try.underlying38 Try.underlying3 hi hz0 none 0 0 [] hold n h0 (by omega) (by omega) (by omega) (by rw [hz2]; omega)
        (by rw [Nat.zero_add]; exact growslice_fits h0 (by rw [hz2]; omega))
      rw [Nat.zero_add] at h
      exact h
    have hG := grownCap_ge w n 0 46
    have hGm := grownCap_le_maxLen w n 0 46 (by unfold maxLen; omega)
    have hsz : (([] : List Value).toArray ++ Builtin.zeroCells zeroP.cells n ++ Builtin.zeroCells zeroP.cells (grownCap w n 0 46 - n)).size = grownCap w n 0 46 * 8 := by
      simp only [Array.size_append, size_zeroCells]
      simp [Value.cells, zeroP]
      omega
    generalize hcs : ([] : List Value).toArray ++ Builtin.zeroCells zeroP.cells n ++ Builtin.zeroCells zeroP.cells (grownCap w n 0 46 - n) = cs at hrz hsz
    generalize hg : grownCap w n 0 46 = G at hrz hsz hG hGm
    clear hcs hg hold
    have HR := Lib.hid hrz
    have HSz := Lib.hid hsz
    clear hrz hsz
    have hp : (0 : Int) < n := by omega
    have hG63 : G ≤ 9223372036854775807 := by unfold maxLen at hGm; omega
    have HO : Hid ((w.drew.alloc (.cells cs 46)).ownsRow w.heap.size 46 8 (.slice (some ⟨w.heap.size, 0, none⟩) 0 G) 0 (rowCells cellsP [])) :=
      ⟨by simp [rowCells], .inr ⟨w.heap.size, G, cs, rfl, Nat.le_refl _, heap_alloc_new w.drew _, Nat.zero_le _, hGm, HSz.out, by simp [rowCells]⟩⟩
    go_enter Try.func62, Try.ntmps62
    go_wp2_with (at_builtin; refine Lib.wpList_append_run _ rfl _ _ _ _ rfl _ _ rfl rfl _ _ (HR.out _) ?_)
    all_goals
      go_ret
      exact ⟨_, _, rfl, HO.out, (Below.refl _ _).drew.alloc (by simp) _⟩

/-- A part of what is put together: where it lies, its room, its items. -/
structure PartP where
  A : Option Addr
  c : Nat
  zs : List Itm
def allP (ps : List PartP) : List Itm := ps.flatMap (·.zs)
theorem allP_take (ps : List PartP) (k : Nat) (h : k < ps.length) : allP (ps.take (k + 1)) = allP (ps.take k) ++ ps[k].zs := by
  unfold allP
  rw [List.take_succ_eq_append_getElem h, List.flatMap_append]
  simp
theorem allP_le (ps : List PartP) (k : Nat) : (allP (ps.take k)).length ≤ (allP ps).length := by
  conv => rhs; rw [← List.take_append_drop k ps]
  unfold allP
  rw [List.flatMap_append, List.length_append]
  omega

set_option maxRecDepth 100000 in
set_option maxHeartbeats 2000000 in
theorem concatR_any (G L C : Nat) (ps : List PartP) (B : Nat) (w : World) (hB : B ≤ w.heap.size) (hL : ps.length = L) (hc : ∀ k (h : k < ps.length), w.cell? ⟨G, k, none⟩ = some (.slice ps[k].A ps[k].zs.length ps[k].c)) (hG : G < w.heap.size) (hz : ∀ k (h : k < ps.length), RowAt cellsP 8 w B ps[k].A ps[k].zs.length ps[k].zs)
    (hn : (allP ps).length ≤ 1073741824) (hL1 : L ≤ 1000) (_hL0 : 0 < L) :
    Calls Try.prog 39 #[.slice (some ⟨G, 0, none⟩) L C] w (OwnRow cellsP 8 46 (allP ps) w) := by
  have HC := Lib.hid hc
  have HZ := Lib.hid hz
  have HL := Lib.hid hL
  clear hc hz hL
  go_enter Try.func39, Try.ntmps39
  go_wp2
  go_loop [3, 11] (fun sz i => ∃ k : Nat, k ≤ L ∧ i = .int .i64 k ∧ sz = .int .i64 ((allP (ps.take k)).length : Int)) (fun _ i => L - (intOf i).toNat)
  case atStart => exact ⟨0, by omega, rfl, by simp [allP]⟩
  case round =>
    obtain ⟨k, hk, rfl, rfl⟩ := hrel
    rcases Nat.lt_or_ge k L with hlt | hge
    · have h1 : (k : Int) < L := by omega
      have hkp : k < ps.length := by rw [HL.out]; exact hlt
      have q0 := HC.out k hkp
      have hle := allP_le ps (k + 1)
      have he : (allP (ps.take (k + 1))).length = (allP (ps.take k)).length + ps[k].zs.length := by rw [allP_take ps k hkp]; simp
      have HE := Lib.hid he
      rw [he] at hle
      clear he
      generalize (allP (ps.take k)).length = a at *
      generalize hb : ps[k].zs.length = b at *
      generalize ps[k].A = A0 at *
      generalize ps[k].c = c0 at *
      have h2 : ¬ ((a : Int) + b < 0) := by omega
      go_wp2
      go_round
      case rel => exact ⟨k + 1, by omega, by go_num, by rw [HE.out]; go_num⟩
      case measure => simp [intOf]; omega
    · obtain rfl : k = L := by omega
      rw [show ps.take k = ps by rw [← HL.out]; exact List.take_length]
      have h1 : ¬ ((k : Int) < k) := by omega
      go_wp2_with fail
      refine (growR_nil (allP ps).length _ (by omega)).mono ?_
      rintro e w1 ⟨A1, c1, rfl, hown1, hb1⟩
      have HO1 := Lib.hid hown1
      have HB1 := Lib.hid hb1
      clear hown1 hb1
      go_wp2
      go_loopw [6, 27] (fun ns i wr => ∃ (j : Nat) (A2 : Option Addr) (c2 : Nat), j ≤ k ∧ i = .int .i64 j ∧ ns = .slice A2 (allP (ps.take j)).length c2 ∧ Hid (wr.ownsRow w.heap.size 46 8 (.slice A2 (allP (ps.take j)).length c2) (allP (ps.take j)).length (rowCells cellsP (allP (ps.take j)))) ∧ Hid (Below w.heap.size w wr)) (fun _ i _ => k - (intOf i).toNat)
      case atStart => exact ⟨0, A1, c1, by omega, rfl, rfl, HO1.out, HB1.out⟩
      case round =>
        obtain ⟨j, A2, c2, hj, rfl, rfl, HO2, HB2⟩ := hrel
        rcases Nat.lt_or_ge j k with hlt | hge
        · have h3 : (j : Int) < k := by omega
          have hjp : j < ps.length := by rw [HL.out]; exact hlt
          have r0 : wr.cell? ⟨G, j, none⟩ = some (.slice ps[j].A ps[j].zs.length ps[j].c) := (HB2.out.cell (p := ⟨G, j, none⟩) hG).trans (HC.out j hjp)
          have HZj : Hid (RowAt cellsP 8 wr B ps[j].A ps[j].zs.length ps[j].zs) := (HZ.out j hjp).keep (HB2.out.mono hB)
          have HE := Lib.hid (allP_take ps j hjp)
          have hle := allP_le ps (j + 1)
          rw [HE.out, List.length_append] at hle
          generalize allP (ps.take j) = bs at *
          generalize ps[j] = pj at *
          obtain ⟨A0, c0, b0⟩ := pj
          simp only at r0 HZj HE hle
          go_wp2_with (at_builtin; refine wpList_append_row rowS (w := wr) (B := w.heap.size) (v := .slice A2 bs.length c2) (n := bs.length) (zs := bs) (A := A0) (m := b0.length) (c := c0) (ys := b0) rfl _ _ rfl rfl HO2.out rfl HZj.out (by omega) HB2.out.size ?_; intro A3 c3 w3 hown3 hg3 _; have HO3 := Lib.hid hown3; have HB3 : Hid (Below w.heap.size w w3) := HB2.out.grown hg3 HB2.out.size (fun i hi => (HO2.out.lt i hi).1); clear hown3 hg3)
          go_roundw
          case rel =>
            refine ⟨j + 1, A3, c3, by omega, by go_num, ?_, ?_, HB3⟩
            · rw [HE.out]; simp
            · rw [HE.out]; simpa [Hid] using HO3.out
          case measure => simp [intOf]; omega
        · obtain rfl : j = k := by omega
          rw [show ps.take j = ps by rw [← HL.out]; exact List.take_length] at HO2
          rw [show ps.take j = ps by rw [← HL.out]; exact List.take_length]
          go_wp2
          go_ret
          exact ⟨A2, c2, rfl, HO2.out, HB2.out⟩
end Go.Proofs.Ytpaiigminmakgaa
