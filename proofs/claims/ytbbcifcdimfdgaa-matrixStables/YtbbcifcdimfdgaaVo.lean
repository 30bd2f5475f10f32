/- The law's From; whether two Vecs are the same. -/
import Derived.Test.YtbbcifcdimfdgaaVn
import Derived.Laws.StructEq
namespace Go.Proofs.Ytbbcifcdimfdgaa
open Go.RowKit

set_option maxRecDepth 100000 in
set_option maxHeartbeats 4000000 in
theorem from_any (A : Option Addr) (n c : Nat) (zs : List At) (B : Nat) (w : World) (hB : B ≤ w.heap.size) (hz : VecAt w B A n zs) (hn : n ≤ 1073741824) :
    Calls Try.prog 22 #[.slice A n c] w (OwnVec w.heap.size 76 zs w) := by
  have hl : zs.length = n := hz.1
  have HL := Lib.hid hl
  have HZ := Lib.hid hz
  clear hl hz
  go_enter Try.func22, Try.ntmps22
  go_wp2
  go_loopw [3, 4] (fun v i wr => ∃ (k : Nat) (Av : Option Addr) (cv : Nat), k ≤ n ∧ i = .int .i64 k ∧ v = .slice Av k cv ∧ Hid (CopyRel w 76 zs k Av cv wr)) (fun _ i _ => n - (intOf i).toNat)
  case atStart => exact ⟨0, none, 0, by omega, rfl, rfl, own_nil _ _ _, Below.refl _ _⟩
  case round =>
    obtain ⟨k, Av, cv, hk, rfl, rfl, HC⟩ := hrel
    obtain ⟨hown, hbel⟩ := HC.out
    have HOw := Lib.hid hown
    have HB := Lib.hid hbel
    have hsz : w.heap.size ≤ wr.heap.size := hbel.size
    clear hown hbel HC
    by_cases hlt : k < n
    · obtain ⟨blk, off, rfl, hbB, hc1, hc2⟩ := HZ.out.cells (HB.out.mono hB) (k := k) hlt
      have hts := take_snoc (zs := zs) (k := k) (by have := HL.out; omega)
      generalize zs.getD k atNil = x at hc1 hc2 hts
      have HTS := Lib.hid hts
      have hblk : blk < wr.heap.size := by omega
      have hne : some blk ≠ Value.ownBlock (.slice Av k cv) := fun e => by have := (own_lt HOw.out e.symm).1; omega
      have hi0 : (0 : Int) ≤ (k : Int) := by omega
      have hi1 : (k : Int) < (n : Int) := by omega
      clear hts
      go_wp2_with fail
      go_region_held3 (fun w' => w'.cell? ⟨blk, off + k * 2, none⟩ = some (.string x.1) ∧ w'.cell? ⟨blk, off + k * 2 + 1, none⟩ = some (.int .i64 x.2))
        (first | go_keep | (go_split_ands; refine ⟨(hg3.cell_far _ (by simp; omega) hne).trans (by assumption), (hg3.cell_far _ (by simp; omega) hne).trans (by assumption)⟩))
        ((refine step_append_at (B := w.heap.size) (v := .slice Av k cv) (n := k) (zs := zs.take k) (m := 1) (ys := [x]) refTy (by rfl) _ _ (by rfl) (by rfl) (HOw.out.alloc _).drew (by rfl) (one_at (heap_alloc_new wr _)) (by omega) (by simp; omega) ?_; intro A3 c3 w3 hown3 hg3 hat3))
      rw [← HTS.out] at hown3
      have HC3 : Hid (CopyRel w 76 zs (k + 1) A3 c3 w3) := ⟨hown3, (HB.out.alloc hsz _).drew.trans (grown_below hg3 (by simp; omega) (fun g e => (own_lt HOw.out e).1))⟩
      clear hown3 hg3 hat3
      go_wp2_with fail
      go_roundw
      case rel => exact ⟨k + 1, A3, c3, by omega, by go_num, rfl, HC3⟩
      case measure => simp [intOf]; omega
    · obtain rfl : k = n := by omega
      have HT : Hid (zs.take k = zs) := List.take_of_length_le (by have := HL.out; omega)
      go_wp2
      go_ret
      exact ownVec_ret HL.out (own_cap HOw.out) (by have := HOw.out; rwa [HT.out] at this) HB.out


theorem fields_ref : Try.prog.fieldsOf 76 = #[{ name := "Id", type := 9, offset := 0, embedded := false, tag := "", pkgPath := "", byteOffset := 0 }, { name := "N", type := 3, offset := 1, embedded := false, tag := "", pkgPath := "", byteOffset := 16 }] := by
  unfold Program.fieldsOf
  rw [Try.underlying76]
theorem neq_ref (x y : At) (w : World) : (binOp .neq 76 (.agg #[.string x.1, .int .i64 x.2]) (.agg #[.string y.1, .int .i64 y.2])).run Try.prog w = .ok (.bool (!((x.1.toList == y.1.toList) && (x.2 == y.2)))) w := by
  rw [run_neq_struct, run_equalIn_struct w 9999 76 _ _ (by rw [fields_ref]; exact Try.underlying76) (by kernel_rfl), fields_ref]
  cases h1 : (x.1.toList == y.1.toList)
  · simp [Op.eqFields, go_sem, h1, Try.underlying9]
  · cases h2 : (x.2 == y.2)
    · simp [Op.eqFields, go_sem, h1, h2, Try.underlying9, Try.underlying3]
    · simp [Op.eqFields, go_sem, h1, h2, Try.underlying9, Try.underlying3]
theorem neq_same_ref (x : At) : ∀ W, (binOp .neq 76 (.agg #[.string x.1, .int .i64 x.2]) (.agg #[.string x.1, .int .i64 x.2])).run Try.prog W = .ok (.bool false) W := fun W => by
  rw [neq_ref x x W, beq_yes rfl]; simp
theorem neq_other_ref {x y : At} (h : ¬ x = y) : ∀ W, (binOp .neq 76 (.agg #[.string x.1, .int .i64 x.2]) (.agg #[.string y.1, .int .i64 y.2])).run Try.prog W = .ok (.bool true) W := fun W => by
  rw [neq_ref x y W]
  by_cases h1 : x.1 = y.1
  · have h2 : (x.2 == y.2) = false := by simp; exact fun e => h (Prod.ext h1 e)
    rw [beq_yes h1, h2]; rfl
  · rw [beq_no h1]; rfl
theorem guard_ref (op : BinOp) (p q : Operand) (xs ys : Array Value) (W : World) : (eqGuard op 76 p q (.agg xs) (.agg ys)).run Try.prog W = .ok () W := run_eqGuard_agg (P := Try.prog) W op 76 p q xs ys (by kernel_rfl)

theorem fields_vec : Try.prog.fieldsOf 67 = #[{ name := "Id", type := 35, offset := 0, embedded := false, tag := "", pkgPath := "", byteOffset := 0 }, { name := "N", type := 3, offset := 1, embedded := false, tag := "", pkgPath := "", byteOffset := 16 }] := by
  unfold Program.fieldsOf
  rw [Try.underlying67]
theorem neq_vec (x y : At) (w : World) : (binOp .neq 67 (.agg #[.string x.1, .int .i64 x.2]) (.agg #[.string y.1, .int .i64 y.2])).run Try.prog w = .ok (.bool (!((x.1.toList == y.1.toList) && (x.2 == y.2)))) w := by
  rw [run_neq_struct, run_equalIn_struct w 9999 67 _ _ (by rw [fields_vec]; exact Try.underlying67) (by kernel_rfl), fields_vec]
  cases h1 : (x.1.toList == y.1.toList)
  · simp [Op.eqFields, go_sem, h1, Try.underlying35]
  · cases h2 : (x.2 == y.2)
    · simp [Op.eqFields, go_sem, h1, h2, Try.underlying35, Try.underlying3]
    · simp [Op.eqFields, go_sem, h1, h2, Try.underlying35, Try.underlying3]
theorem neq_same_vec (x : At) : ∀ W, (binOp .neq 67 (.agg #[.string x.1, .int .i64 x.2]) (.agg #[.string x.1, .int .i64 x.2])).run Try.prog W = .ok (.bool false) W := fun W => by
  rw [neq_vec x x W, beq_yes rfl]; simp
theorem neq_other_vec {x y : At} (h : ¬ x = y) : ∀ W, (binOp .neq 67 (.agg #[.string x.1, .int .i64 x.2]) (.agg #[.string y.1, .int .i64 y.2])).run Try.prog W = .ok (.bool true) W := fun W => by
  rw [neq_vec x y W]
  by_cases h1 : x.1 = y.1
  · have h2 : (x.2 == y.2) = false := by simp; exact fun e => h (Prod.ext h1 e)
    rw [beq_yes h1, h2]; rfl
  · rw [beq_no h1]; rfl
theorem guard_vec (op : BinOp) (p q : Operand) (xs ys : Array Value) (W : World) : (eqGuard op 67 p q (.agg xs) (.agg ys)).run Try.prog W = .ok () W := run_eqGuard_agg (P := Try.prog) W op 67 p q xs ys (by kernel_rfl)

set_option maxRecDepth 100000 in
set_option maxHeartbeats 4000000 in
theorem rsame_any (A : Option Addr) (n c : Nat) (zs : List At) (A' : Option Addr) (n' c' : Nat) (ys : List At) (B : Nat) (w : World) (hz : VecAt w B A n zs) (hy : VecAt w B A' n' ys) (hn : n ≤ 1099511627776) (hn' : n' ≤ 1099511627776) :
    Calls Try.prog 21 #[.slice A n c, .slice A' n' c'] w fun e w' => e = .returned (.bool (decide (zs = ys))) ∧ Hid (Drawn w w') := by
  have hl : zs.length = n := hz.1
  have hl' : ys.length = n' := hy.1
  by_cases hnn : n = n'
  · subst hnn
    have HL := Lib.hid hl
    have HL' := Lib.hid hl'
    have HZ := Lib.hid hz
    have HY := Lib.hid hy
    clear hl hl' hz hy
    go_enter Try.func21, Try.ntmps21
    go_wp2
    go_loopw [5] (fun i wr => ∃ k : Nat, k ≤ n ∧ i = .int .i64 k ∧ Hid (zs.take k = ys.take k) ∧ Hid (Drawn w wr)) (fun i _ => n - (intOf i).toNat)
    case atStart => exact ⟨0, by omega, rfl, rfl, Drawn.refl w⟩
    case round =>
      obtain ⟨k, hk, rfl, HA, HD⟩ := hrel
      by_cases hlt : k < n
      · obtain ⟨b1, o1, rfl, hb1, hc1, hc2⟩ := HZ.out.cells (drawn_below HD.out B) (k := k) hlt
        obtain ⟨b2, o2, rfl, hb2, hd1, hd2⟩ := HY.out.cells (drawn_below HD.out B) (k := k) hlt
        have hi0 : (0 : Int) ≤ (k : Int) := by omega
        have hi1 : (k : Int) < (n : Int) := by omega
        have hkz : k < zs.length := by have := HL.out; omega
        have hky : k < ys.length := by have := HL'.out; omega
        by_cases he : zs.getD k atNil = ys.getD k atNil
        · have HN : Hid (zs.take (k + 1) = ys.take (k + 1)) := by show _ = _; rw [take_snoc hkz, take_snoc hky, HA.out, he]
          rw [← he] at hd1 hd2
          generalize zs.getD k atNil = x at hc1 hc2 hd1 hd2
          have hq := neq_same_ref x
          have hgu := guard_ref
          clear he hkz hky
          go_wp2_with fail
          go_quiet (fail)
          go_wp2
          go_roundw
          case rel => exact ⟨k + 1, by omega, by go_num, HN, HD.out.more _⟩
          case measure => simp [intOf]; omega
        · have HF : Hid (decide (zs = ys) = false) := decide_eq_false (fun e => he (by rw [e]))
          generalize zs.getD k atNil = x at hc1 hc2 he
          generalize ys.getD k atNil = y at hd1 hd2 he
          have hq := neq_other_ref he
          have hgu := guard_ref
          clear he hkz hky
          go_wp2_with fail
          go_quiet (fail)
          go_wp2
          go_ret
          exact ⟨ret_bool HF.out.symm, HD.out.more _⟩
      · have HF : Hid (decide (zs = ys) = true) := decide_eq_true (by
          have := HA.out
          rwa [List.take_of_length_le (by have := HL.out; omega), List.take_of_length_le (by have := HL'.out; omega)] at this)
        go_wp2
        go_ret
        exact ⟨ret_bool HF.out.symm, HD.out⟩
  · have HF : Hid (decide (zs = ys) = false) := decide_eq_false (fun e => hnn (by rw [← hl, ← hl', e]))
    have hne : ((n : Int) != (n' : Int)) = true := by simp; omega
    have hne' : (n != n') = true := by simp [hnn]
    clear hl hl' hz hy hnn
    go_enter Try.func21, Try.ntmps21
    go_wp2
    go_ret
    exact ⟨ret_bool HF.out.symm, Drawn.refl w⟩



set_option maxRecDepth 100000 in
set_option maxHeartbeats 4000000 in
theorem equal_any (A : Option Addr) (n c : Nat) (zs : List At) (A' : Option Addr) (n' c' : Nat) (ys : List At) (B : Nat) (w : World) (hz : VecAt w B A n zs) (hy : VecAt w B A' n' ys) (hn : n ≤ 1099511627776) (hn' : n' ≤ 1099511627776) :
    Calls Try.prog 55 #[.slice A n c, .slice A' n' c'] w fun e w' => e = .returned (.bool (decide (zs = ys))) ∧ Hid (Drawn w w') := by
  have hl : zs.length = n := hz.1
  have hl' : ys.length = n' := hy.1
  by_cases hnn : n = n'
  · subst hnn
    have HL := Lib.hid hl
    have HL' := Lib.hid hl'
    have HZ := Lib.hid hz
    have HY := Lib.hid hy
    clear hl hl' hz hy
    go_enter Try.func55, Try.ntmps55
    go_wp2
    go_loopw [13] (fun i wr => ∃ k : Nat, k ≤ n ∧ i = .int .i64 k ∧ Hid (zs.take k = ys.take k) ∧ Hid (Drawn w wr)) (fun i _ => n - (intOf i).toNat)
    case atStart => exact ⟨0, by omega, rfl, rfl, Drawn.refl w⟩
    case round =>
      obtain ⟨k, hk, rfl, HA, HD⟩ := hrel
      by_cases hlt : k < n
      · obtain ⟨b1, o1, rfl, hb1, hc1, hc2⟩ := HZ.out.cells (drawn_below HD.out B) (k := k) hlt
        obtain ⟨b2, o2, rfl, hb2, hd1, hd2⟩ := HY.out.cells (drawn_below HD.out B) (k := k) hlt
        have hi0 : (0 : Int) ≤ (k : Int) := by omega
        have hi1 : (k : Int) < (n : Int) := by omega
        have hkz : k < zs.length := by have := HL.out; omega
        have hky : k < ys.length := by have := HL'.out; omega
        by_cases he : zs.getD k atNil = ys.getD k atNil
        · have HN : Hid (zs.take (k + 1) = ys.take (k + 1)) := by show _ = _; rw [take_snoc hkz, take_snoc hky, HA.out, he]
          rw [← he] at hd1 hd2
          generalize zs.getD k atNil = x at hc1 hc2 hd1 hd2
          have hq := neq_same_vec x
          have hgu := guard_vec
          clear he hkz hky
          go_wp2_with fail
          go_quiet (fail)
          go_wp2
          go_roundw
          case rel => exact ⟨k + 1, by omega, by go_num, HN, HD.out.more _⟩
          case measure => simp [intOf]; omega
        · have HF : Hid (decide (zs = ys) = false) := decide_eq_false (fun e => he (by rw [e]))
          generalize zs.getD k atNil = x at hc1 hc2 he
          generalize ys.getD k atNil = y at hd1 hd2 he
          have hq := neq_other_vec he
          have hgu := guard_vec
          clear he hkz hky
          go_wp2_with fail
          go_quiet (fail)
          go_wp2
          go_ret
          exact ⟨ret_bool HF.out.symm, HD.out.more _⟩
      · have HF : Hid (decide (zs = ys) = true) := decide_eq_true (by
          have := HA.out
          rwa [List.take_of_length_le (by have := HL.out; omega), List.take_of_length_le (by have := HL'.out; omega)] at this)
        go_wp2
        go_ret
        exact ⟨ret_bool HF.out.symm, HD.out⟩
  · have HF : Hid (decide (zs = ys) = false) := decide_eq_false (fun e => hnn (by rw [← hl, ← hl', e]))
    have hne : ((n : Int) != (n' : Int)) = true := by simp; omega
    have hne' : (n != n') = true := by simp [hnn]
    clear hl hl' hz hy hnn
    go_enter Try.func55, Try.ntmps55
    go_wp2
    go_ret
    exact ⟨ret_bool HF.out.symm, Drawn.refl w⟩

set_option maxHeartbeats 1000000 in
theorem same_any (A : Option Addr) (n c : Nat) (zs : List At) (A' : Option Addr) (n' c' : Nat) (ys : List At) (B : Nat) (w : World) (hz : VecAt w B A n zs) (hy : VecAt w B A' n' ys) (hn : n ≤ 1099511627776) (hn' : n' ≤ 1099511627776) :
    Calls Try.prog 34 #[.slice A n c, .slice A' n' c'] w fun e w' => e = .returned (.bool (decide (zs = ys))) ∧ Hid (Drawn w w') := by
  have HZ := Lib.hid hz
  have HY := Lib.hid hy
  clear hz hy
  go_enter Try.func34, Try.ntmps34
  go_wp2_with fail
  refine (equal_any A n c zs A' n' c' ys B _ HZ.out HY.out hn hn').mono ?_
  rintro e w1 ⟨rfl, hd⟩
  go_wp2
  go_ret
  exact ⟨rfl, hd⟩
end Go.Proofs.Ytbbcifcdimfdgaa
