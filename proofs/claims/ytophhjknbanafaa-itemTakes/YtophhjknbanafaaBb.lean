/- wire.digits; the library's Clone and Grow of bytes. -/
import Derived.Test.YtophhjknbanafaaBm
import Derived.Lib.AppendZerosOnto
namespace Go.Proofs.Ytophhjknbanafaa
open Go.RowKit

/-- The row of one byte that append lays first. -/
theorem one_byte {w : World} {g : Nat} {e : TypeId} {x : UInt8} {fr : Nat × Nat} {v : Int} (hv : v = (x.toNat : Int)) (h : w.heap[g]? = some (.cells #[.int .u8 v] e fr)) : BytesAt w g (some ⟨g, 0, none⟩) 1 [x] :=
  ⟨rfl, fun _ => ⟨0, rfl, fun k hk => by
    obtain rfl : k = 0 := by omega
    have := cell_of_row w g 0 _ _ _ h
    subst hv
    simpa using this⟩⟩

set_option maxRecDepth 100000 in
set_option maxHeartbeats 1000000 in
theorem digits_any (n : Int) (w : World) (hn : n ≤ 9223372036854775807) : Calls Try.prog 64 #[.int .i64 n] w (OwnBytes (digitsF n.toNat) w) := by
  go_enter Try.func64, Try.ntmps64
  go_wp2
  all_goals
    go_loopw [0, 3] (fun x s wr => ∃ (m : Nat) (A : Option Addr) (c : Nat) (bs : List UInt8), x = .int .i64 m ∧ s = .slice A bs.length c ∧ m ≤ 9223372036854775807 ∧ Hid (bs ++ digitsF m = digitsF n.toNat) ∧ Hid (wr.ownsRow w.heap.size 5 1 (.slice A bs.length c) bs.length (bytesV bs)) ∧ Hid (Below w.heap.size w wr)) (fun x _ _ => (intOf x).toNat)
    case atStart => exact ⟨n.toNat, none, 0, [], by congr 1; omega, rfl, by omega, rfl, World.ownsRow_nil _ _ _ _, Below.refl _ _⟩
    case round =>
      obtain ⟨m, A, c, bs, rfl, rfl, hm, HD, HO, HB⟩ := hrel
      have hl : bs.length ≤ 10 := by
        have h1 := digitsF_len 9 n.toNat (by have : (128 : Nat) ^ 10 = 1180591620717411303424 := by decide
                                             omega)
        rw [← HD.out] at h1
        simp at h1
        omega
      by_cases h128 : 128 ≤ m
      · have h1 : (128 : Int) ≤ m := by omega
        have HD2 : Hid ((bs ++ [UInt8.ofNat (m % 128 + 128)]) ++ digitsF (m / 128) = digitsF n.toNat) := by
          show _ = _
          rw [← HD.out, digitsF_big h128]; simp
        have HR : Hid (BytesAt (wr.alloc (.cells #[.int .u8 ((m : Int) % 128 + 128)] 5)) wr.heap.size (some ⟨wr.heap.size, 0, none⟩) 1 [UInt8.ofNat (m % 128 + 128)]) :=
          one_byte (by rw [toNat_ofNat (by omega)]; omega) (heap_alloc_new wr _)
        have HO1 : Hid ((wr.alloc (.cells #[.int .u8 ((m : Int) % 128 + 128)] 5)).ownsRow w.heap.size 5 1 (.slice A bs.length c) bs.length (bytesV bs)) := own_below HO.out ((Below.refl _ _).alloc (Nat.le_refl _) _)
        have HB1 : Hid (Below w.heap.size w (wr.alloc (.cells #[.int .u8 ((m : Int) % 128 + 128)] 5))) := HB.out.alloc HB.out.size _
        have q1 : ((m : Int)).tdiv 128 = ((m / 128 : Nat) : Int) := by rw [Int.tdiv_eq_ediv_of_nonneg (by omega)]; omega
        go_wp2_with (at_builtin; refine wpList_append_bytes (B := w.heap.size) (g := wr.heap.size) (v := .slice A bs.length c) (n := bs.length) (zs := bs) (A := some ⟨wr.heap.size, 0, none⟩) (m := 1) (c := 1) (ys := [UInt8.ofNat (m % 128 + 128)]) rfl _ _ rfl rfl HO1.out rfl HR.out (by omega) HB1.out.size ?_; intro A3 c3 w3 hown3 hg3 _; have HO3 := Lib.hid hown3; have HB3 : Hid (Below w.heap.size w w3) := HB1.out.grown hg3 HB1.out.size (fun i hi => (HO1.out.lt i hi).1); clear hown3 hg3)
        go_roundw
        case rel =>
          exact ⟨m / 128, A3, c3, bs ++ [UInt8.ofNat (m % 128 + 128)], by go_num, by simp, by omega, HD2, by simpa [Hid] using HO3.out, HB3⟩
        case measure => simp [intOf]; omega
      · have h1 : ¬ ((128 : Int) ≤ m) := by omega
        have h2 : (m : Int) % 256 = m := by omega
        have HD2 : Hid (bs ++ [UInt8.ofNat m] = digitsF n.toNat) := by
          show _ = _
          rw [← HD.out, digitsF_small (by omega)]
        have HR : Hid (BytesAt (wr.alloc (.cells #[.int .u8 (m : Int)] 5)) wr.heap.size (some ⟨wr.heap.size, 0, none⟩) 1 [UInt8.ofNat m]) :=
          one_byte (by rw [toNat_ofNat (by omega)]) (heap_alloc_new wr _)
        have HO1 : Hid ((wr.alloc (.cells #[.int .u8 (m : Int)] 5)).ownsRow w.heap.size 5 1 (.slice A bs.length c) bs.length (bytesV bs)) := own_below HO.out ((Below.refl _ _).alloc (Nat.le_refl _) _)
        have HB1 : Hid (Below w.heap.size w (wr.alloc (.cells #[.int .u8 (m : Int)] 5))) := HB.out.alloc HB.out.size _
        go_wp2_with (at_builtin; refine wpList_append_bytes (B := w.heap.size) (g := wr.heap.size) (v := .slice A bs.length c) (n := bs.length) (zs := bs) (A := some ⟨wr.heap.size, 0, none⟩) (m := 1) (c := 1) (ys := [UInt8.ofNat m]) rfl _ _ rfl rfl HO1.out rfl HR.out (by omega) HB1.out.size ?_; intro A3 c3 w3 hown3 hg3 _; have HO3 := Lib.hid hown3; have HB3 : Hid (Below w.heap.size w w3) := HB1.out.grown hg3 HB1.out.size (fun i hi => (HO1.out.lt i hi).1); clear hown3 hg3)
        go_ret
        have e : (digitsF n.toNat).length = bs.length + 1 := by rw [← HD2.out]; simp
        refine ⟨A3, c3, ?_, ?_, HB3.out⟩
        · rw [e]; rfl
        · rw [e, ← HD2.out]; exact HO3.out

/-- The empty row that a copy begins with. -/
theorem own_empty (w : World) : (w.alloc (.cells #[] 5)).ownsRow w.heap.size 5 1 (.slice (some ⟨w.heap.size, 0, none⟩) 0 0) 0 (bytesV []) :=
  ⟨rfl, .inr ⟨w.heap.size, 0, #[], rfl, Nat.le_refl _, heap_alloc_new w _, Nat.zero_le _, by unfold maxLen; omega, rfl, rfl⟩⟩

set_option maxRecDepth 100000 in
set_option maxHeartbeats 1000000 in
theorem clone_any (A : Option Addr) (c g : Nat) (bs : List UInt8) (w : World) (hz : BytesAt w g A bs.length bs) (hn : bs.length ≤ 1099511627776) :
    Calls Try.prog 37 #[.slice A bs.length c] w (OwnBytes bs w) := by
  have hq : ∀ w, (binOp .eql 47 (.slice A bs.length c) (.slice none 0 0)).run Try.prog w = .ok (.bool A.isNone) w := fun w => Lib.run_eql_slice_nil w 47 5 A bs.length c 0 0 Try.underlying47
  have HZ := Lib.hid hz
  clear hz
  rcases A with _ | ad
  · have : bs = [] := by
      rcases Nat.eq_zero_or_pos bs.length with h0 | h0
      · exact List.eq_nil_of_length_eq_zero h0
      · obtain ⟨_, h, _⟩ := HZ.out.2 h0; cases h
    subst this
    simp only [List.length_nil, Option.isNone_none] at hq
    rw [show ([] : List UInt8).length = 0 from rfl]
    go_enter Try.func37, Try.ntmps37
    go_wp2
    go_ret
    exact ⟨none, 0, rfl, World.ownsRow_nil _ _ _ _, Below.refl _ _⟩
  · have HB1 : Hid (Below w.heap.size w (w.alloc (.cells #[] 5))) := (Below.refl _ _).alloc (Nat.le_refl _) _
    have HO1 : Hid ((w.alloc (.cells #[] 5)).ownsRow w.heap.size 5 1 (.slice (some ⟨w.heap.size, 0, none⟩) 0 0) 0 (bytesV [])) := own_empty w
    have HZ1 : Hid (BytesAt (w.alloc (.cells #[] 5)) g (some ad) bs.length bs) := HZ.out.keep HB1.out
    go_enter Try.func37, Try.ntmps37
    go_wp2_with (at_builtin; refine wpList_append_bytes (B := w.heap.size) (g := g) (v := .slice (some ⟨w.heap.size, 0, none⟩) 0 0) (n := 0) (zs := []) (A := some ad) (m := bs.length) (c := c) (ys := bs) rfl _ _ rfl rfl HO1.out rfl HZ1.out (by omega) HB1.out.size ?_; intro A3 c3 w3 hown3 hg3 _; have HO3 := Lib.hid hown3; have HB3 : Hid (Below w.heap.size w w3) := HB1.out.grown hg3 HB1.out.size (fun i hi => (HO1.out.lt i hi).1); clear hown3 hg3)
    go_ret
    refine ⟨A3, c3, ?_, ?_, HB3.out⟩
    · rfl
    · have := HO3.out; rw [Nat.zero_add] at this; exact this

/-- A row of the call's own, empty, with room. -/
def EmptyRow (w : World) (e : Ending) (w' : World) : Prop := ∃ A c, e = .returned (.slice A 0 c) ∧ w'.ownsRow w.heap.size 5 1 (.slice A 0 c) 0 (bytesV []) ∧ Below w.heap.size w w'

set_option maxRecDepth 100000 in
set_option maxHeartbeats 1000000 in
theorem grow_nil (n : Nat) (w : World) (hn : n ≤ 1073741824) : Calls Try.prog 55 #[.slice none 0 0, .int .i64 n] w (EmptyRow w) := by
  rcases Nat.eq_zero_or_pos n with h0 | h0
  · subst h0
    go_enter Try.func55, Try.ntmps55
    go_wp2
    go_ret
    exact ⟨none, 0, rfl, World.ownsRow_nil _ _ _ _, Below.refl _ _⟩
  · obtain ⟨i0, hi, hz0, hz1, hz2⟩ := info_parts Try.infoB
    have hold : (Builtin.firstCells i0.size 0 (.slice none 0 0)).run Try.prog w.drew = .ok (([] : List Value).toArray) w.drew := run_firstCells_none w.drew i0.size 0 0 0
    have hrz : ∀ ty, (Builtin.append_ #[47, 3] ty #[.slice none 0 0, .int .i64 (n : Int)]).run Try.prog w =
        .ok (.slice (some ⟨w.heap.size, 0, none⟩) n (grownCap w n 0 5)) (w.drew.alloc (.cells (([] : List Value).toArray ++ Builtin.zeroCells (Value.int .u8 0).cells n ++ Builtin.zeroCells (Value.int .u8 0).cells (grownCap w n 0 5 - n)) 5)) := fun ty => by
      have h := Lib.run_append_grow_zeros (P := Try.prog) w 47 3 ty 5 i0 (.int .u8 0) .i64 .i64 Try.underlying47 Try.underlying3 hi hz0 none 0 0 [] hold n h0 (by omega) (by omega) (by omega) (by rw [hz2]; omega)
        (by rw [Nat.zero_add]; exact growslice_fits h0 (by rw [hz2]; omega))
      rw [Nat.zero_add] at h
      exact h
    have hG := grownCap_ge w n 0 5
    have hGm := grownCap_le_maxLen w n 0 5 (by unfold maxLen; omega)
    have hsz : (([] : List Value).toArray ++ Builtin.zeroCells (Value.int .u8 0).cells n ++ Builtin.zeroCells (Value.int .u8 0).cells (grownCap w n 0 5 - n)).size = grownCap w n 0 5 * 1 := by
      simp only [Array.size_append, size_zeroCells]
      simp [Value.cells]
      omega
    generalize hcs : ([] : List Value).toArray ++ Builtin.zeroCells (Value.int .u8 0).cells n ++ Builtin.zeroCells (Value.int .u8 0).cells (grownCap w n 0 5 - n) = cs at hrz hsz
    generalize hg : grownCap w n 0 5 = G at hrz hsz hG hGm
    clear hcs hg hold
    have HR := Lib.hid hrz
    have HSz := Lib.hid hsz
    clear hrz hsz
    have hp : (0 : Int) < n := by omega
    have hG63 : G ≤ 9223372036854775807 := by unfold maxLen at hGm; omega
    have HO : Hid ((w.drew.alloc (.cells cs 5)).ownsRow w.heap.size 5 1 (.slice (some ⟨w.heap.size, 0, none⟩) 0 G) 0 (bytesV [])) :=
      ⟨rfl, .inr ⟨w.heap.size, G, cs, rfl, Nat.le_refl _, heap_alloc_new w.drew _, Nat.zero_le _, hGm, HSz.out, rfl⟩⟩
    go_enter Try.func55, Try.ntmps55
    go_wp2_with (at_builtin; refine Lib.wpList_append_run _ rfl _ _ _ _ rfl _ _ rfl rfl _ _ (HR.out _) ?_)
    all_goals
      go_ret
      exact ⟨_, _, rfl, HO.out, (Below.refl _ _).drew.alloc (by simp) _⟩
end Go.Proofs.Ytophhjknbanafaa
