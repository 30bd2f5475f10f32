/- The document's Put and PutText. -/
import Derived.Test.YtophhjknbanafaaBe
import Derived.Lib.AppendStr
namespace Go.Proofs.Ytophhjknbanafaa
open Go.RowKit

set_option maxRecDepth 100000 in
set_option maxHeartbeats 1000000 in
theorem refPut_any (A : Option Addr) (c g : Nat) (b0 : List UInt8) (n : Int) (w : World) (hz : BytesAt w g A b0.length b0) (hl0 : b0.length ≤ 1000000000) (hn : n ≤ 9223372036854775807) :
    Calls Try.prog 40 #[.slice A b0.length c, .int .i64 n] w (OwnBytes (b0 ++ digitsF n.toNat) w) := by
  have HB0 : Hid (Below w.heap.size w (w.alloc (.cells #[] 5))) := (Below.refl _ _).alloc (Nat.le_refl _) _
  have HO0 : Hid ((w.alloc (.cells #[] 5)).ownsRow w.heap.size 5 1 (.slice (some ⟨w.heap.size, 0, none⟩) 0 0) 0 (bytesV [])) := own_empty w
  have HZ0 : Hid (BytesAt (w.alloc (.cells #[] 5)) g A b0.length b0) := hz.keep HB0.out
  clear hz
  go_enter Try.func40, Try.ntmps40
  go_wp2_with (at_builtin; refine wpList_append_bytes (B := w.heap.size) (g := g) (v := .slice (some ⟨w.heap.size, 0, none⟩) 0 0) (n := 0) (zs := []) (A := A) (m := b0.length) (c := c) (ys := b0) rfl _ _ rfl rfl HO0.out rfl HZ0.out (by omega) HB0.out.size ?_; intro A3 c3 w3 hown3 hg3 _; have HO3 := Lib.hid hown3; have HB3 : Hid (Below w.heap.size w w3) := HB0.out.grown hg3 HB0.out.size (fun i hi => (HO0.out.lt i hi).1); clear hown3 hg3)
  all_goals
    go_loopw [1, 5] (fun x s wr => ∃ (m : Nat) (A : Option Addr) (c : Nat) (bs : List UInt8), x = .int .i64 m ∧ s = .slice A bs.length c ∧ m ≤ 9223372036854775807 ∧ Hid (bs ++ digitsF m = b0 ++ digitsF n.toNat) ∧ Hid (wr.ownsRow w.heap.size 5 1 (.slice A bs.length c) bs.length (bytesV bs)) ∧ Hid (Below w.heap.size w wr)) (fun x _ _ => (intOf x).toNat)
    case atStart => exact ⟨n.toNat, A3, c3, b0, by congr 1; omega, by simp, by omega, rfl, by have := HO3.out; rwa [Nat.zero_add] at this, HB3⟩
    case round =>
      obtain ⟨m, A, c, bs, rfl, rfl, hm, HD, HO, HB⟩ := hrel
      have hl : bs.length ≤ 1000000010 := by
        have h1 := digits_le n hn
        have h2 := congrArg List.length HD.out
        simp at h2
        omega
      by_cases h128 : 128 ≤ m
      · have h1 : (128 : Int) ≤ m := by omega
        have HD2 : Hid ((bs ++ [UInt8.ofNat (m % 128 + 128)]) ++ digitsF (m / 128) = b0 ++ digitsF n.toNat) := by
          show _ = _
          rw [← HD.out, digitsF_big h128]; simp
        have HR : Hid (BytesAt (wr.alloc (.cells #[.int .u8 ((m : Int) % 128 + 128)] 5)) wr.heap.size (some ⟨wr.heap.size, 0, none⟩) 1 [UInt8.ofNat (m % 128 + 128)]) :=
          one_byte (by rw [toNat_ofNat (by omega)]; omega) (heap_alloc_new wr _)
        have HO1 : Hid ((wr.alloc (.cells #[.int .u8 ((m : Int) % 128 + 128)] 5)).ownsRow w.heap.size 5 1 (.slice A bs.length c) bs.length (bytesV bs)) := own_below HO.out ((Below.refl _ _).alloc (Nat.le_refl _) _)
        have HB1 : Hid (Below w.heap.size w (wr.alloc (.cells #[.int .u8 ((m : Int) % 128 + 128)] 5))) := HB.out.alloc HB.out.size _
        have q1 : ((m : Int)).tdiv 128 = ((m / 128 : Nat) : Int) := by rw [Int.tdiv_eq_ediv_of_nonneg (by omega)]; omega
        go_wp2_with (at_builtin; refine wpList_append_bytes (B := w.heap.size) (g := wr.heap.size) (v := .slice A bs.length c) (n := bs.length) (zs := bs) (A := some ⟨wr.heap.size, 0, none⟩) (m := 1) (c := 1) (ys := [UInt8.ofNat (m % 128 + 128)]) rfl _ _ rfl rfl HO1.out rfl HR.out (by omega) HB1.out.size ?_; intro A3 c3 w3 hown3 hg3 _; have HO3 := Lib.hid hown3; have HB3 : Hid (Below w.heap.size w w3) := HB1.out.grown hg3 HB1.out.size (fun i hi => (HO1.out.lt i hi).1); clear hown3 hg3)
        go_roundw
        case rel =>
          exact ⟨m / 128, A3, c3, bs ++ [UInt8.ofNat (m % 128 + 128)], by go_num, by simp, by omega, HD2, by simpa [Hid] using HO3.out, HB3⟩
        case measure => simp [intOf]; omega
      · have h1 : ¬ ((128 : Int) ≤ m) := by omega
        have h2 : (m : Int) % 256 = m := by omega
        have HD2 : Hid (bs ++ [UInt8.ofNat m] = b0 ++ digitsF n.toNat) := by
          show _ = _
          rw [← HD.out, digitsF_small (by omega)]
        have HR : Hid (BytesAt (wr.alloc (.cells #[.int .u8 (m : Int)] 5)) wr.heap.size (some ⟨wr.heap.size, 0, none⟩) 1 [UInt8.ofNat m]) :=
          one_byte (by rw [toNat_ofNat (by omega)]) (heap_alloc_new wr _)
        have HO1 : Hid ((wr.alloc (.cells #[.int .u8 (m : Int)] 5)).ownsRow w.heap.size 5 1 (.slice A bs.length c) bs.length (bytesV bs)) := own_below HO.out ((Below.refl _ _).alloc (Nat.le_refl _) _)
        have HB1 : Hid (Below w.heap.size w (wr.alloc (.cells #[.int .u8 (m : Int)] 5))) := HB.out.alloc HB.out.size _
        go_wp2_with (at_builtin; refine wpList_append_bytes (B := w.heap.size) (g := wr.heap.size) (v := .slice A bs.length c) (n := bs.length) (zs := bs) (A := some ⟨wr.heap.size, 0, none⟩) (m := 1) (c := 1) (ys := [UInt8.ofNat m]) rfl _ _ rfl rfl HO1.out rfl HR.out (by omega) HB1.out.size ?_; intro A3 c3 w3 hown3 hg3 _; have HO3 := Lib.hid hown3; have HB3 : Hid (Below w.heap.size w w3) := HB1.out.grown hg3 HB1.out.size (fun i hi => (HO1.out.lt i hi).1); clear hown3 hg3)
        go_ret
        have e : (b0 ++ digitsF n.toNat).length = bs.length + 1 := by rw [← HD2.out]; simp
        refine ⟨A3, c3, ?_, ?_, HB3.out⟩
        · rw [e]; rfl
        · rw [e, ← HD2.out]; exact HO3.out

theorem wpList_append_text {ops : Array Oper} {rest : List Oper} {o : Oper} {a : Act} {Q : Exit → Act → World → Prop} (hgd : o.guard = none) (sl x : Operand) (ho : o.op = .call { callee := .builtin .append, args := #[sl, x], argTypes := #[47, 9] })
    {w : World} {B : Nat} {v : Value} {n : Nat} {zs : List UInt8} (hs : a.eval sl = v) (hown : w.ownsRow B 5 1 v n (bytesV zs)) {s : ByteArray} (hx : a.eval x = .string s) (hb : n + s.size ≤ 8796093022208) (hB : B ≤ w.heap.size)
    (h : ∀ A' c' w', w'.ownsRow B 5 1 (.slice A' (n + s.size) c') (n + s.size) (bytesV (zs ++ s.data.toList)) → w.grownBy w' v.ownBlock → wpList Try.prog ops Q rest (a.put o.dst (.slice A' (n + s.size) c')) w') :
    wpList Try.prog ops Q (o :: rest) a w := by
  obtain ⟨i0, hi, hz0, hz1, hz2⟩ := info_parts Try.infoB
  refine Lib.wpList_append_own_string w hgd sl x 47 9 ho B 5 i0 Try.underlying47 Try.underlying9 hi hz0 hz1 hz2 v n (bytesV zs) hs hown s hx (by unfold maxLen; omega) (by omega) hB ?_
  intro v' w' h1 h2 _
  obtain ⟨A', c', rfl⟩ := own_form h1
  exact h A' c' w' (by rw [bytesV_append]; exact h1) h2
set_option maxRecDepth 100000 in
set_option maxHeartbeats 1000000 in
theorem refPutText_any (A : Option Addr) (c g : Nat) (b0 : List UInt8) (s : ByteArray) (w : World) (hz : BytesAt w g A b0.length b0) (hl0 : b0.length ≤ 500000000) (hs : s.size ≤ 500000000) :
    Calls Try.prog 41 #[.slice A b0.length c, .string s] w (OwnBytes (b0 ++ (digitsF s.size ++ s.data.toList)) w) := by
  have HZ := Lib.hid hz
  clear hz
  rw [← List.append_assoc]
  go_enter Try.func41, Try.ntmps41
  go_wp2_with fail
  refine (refPut_any A c g b0 s.size _ HZ.out (by omega) (by omega)).mono ?_
  have hd := digits_le s.size (by omega)
  rw [Int.toNat_natCast] at *
  have hl : (b0 ++ digitsF s.size).length ≤ 500000010 := by simp; omega
  generalize b0 ++ digitsF s.size = zs at *
  rintro e w1 ⟨A1, c1, rfl, hown1, hb1⟩
  have HO1 := Lib.hid hown1
  have HB1 := Lib.hid hb1
  clear hown1 hb1
  go_wp2_with (at_builtin; refine wpList_append_text (B := w.heap.size) (v := .slice A1 zs.length c1) (n := zs.length) (zs := zs) (s := s) rfl _ _ rfl rfl HO1.out rfl (by omega) HB1.out.size ?_; intro A3 c3 w3 hown3 hg3; have HO3 := Lib.hid hown3; have HB3 : Hid (Below w.heap.size w w3) := HB1.out.grown hg3 HB1.out.size (fun i hi => (HO1.out.lt i hi).1); clear hown3 hg3)
  go_ret
  have e : (zs ++ s.data.toList).length = zs.length + s.size := by simp
  refine ⟨A3, c3, ?_, ?_, HB3.out⟩
  · rw [e]; rfl
  · rw [e]; exact HO3.out
end Go.Proofs.Ytophhjknbanafaa
