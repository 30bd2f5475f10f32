/- Rows of items: how they lie; the law's To and From. -/
import Derived.Test.YtpaiigminmakgaaLe
import Derived.Test.YtpaiigminmakgaaGb
namespace Go.Proofs.Ytpaiigminmakgaa
open Go.RowKit

/-- An item's cells, as the document's answer has it, and as the program does. -/
def cellsI (i : Itm) : List Value := [.int .i64 i.key, .string i.ver.id, .int .i64 i.ver.seq, .int .i64 i.ver.stamp, .bool i.dead, .int .i64 i.x, .int .i64 i.y, .string i.text, .bool i.held]
def cellsP (i : Itm) : List Value := [.int .i64 i.key, .string i.ver.id, .int .i64 i.ver.seq, .int .i64 i.ver.stamp, .bool i.dead, .complex .f64 (fl i.x) (fl i.y), .string i.text, .bool i.held]
def zeroR : Value := .agg #[.int .i64 0, .string ⟨#[]⟩, .int .i64 0, .int .i64 0, .bool false, .int .i64 0, .int .i64 0, .string ⟨#[]⟩, .bool false]
def zeroP : Value := .agg #[.int .i64 0, .string ⟨#[]⟩, .int .i64 0, .int .i64 0, .bool false, .complex .f64 0 0, .string ⟨#[]⟩, .bool false]
theorem cellsI_one (x : Itm) : ∀ u ∈ cellsI x, u.oneCell' = true := by
  intro u hu
  simp only [cellsI, List.mem_cons, List.not_mem_nil, or_false] at hu
  rcases hu with rfl | rfl | rfl | rfl | rfl | rfl | rfl | rfl | rfl <;> rfl
theorem cellsP_one (x : Itm) : ∀ u ∈ cellsP x, u.oneCell' = true := by
  intro u hu
  simp only [cellsP, List.mem_cons, List.not_mem_nil, or_false] at hu
  rcases hu with rfl | rfl | rfl | rfl | rfl | rfl | rfl | rfl <;> rfl
theorem rowI : RowTy cellsI 9 88 zeroR 22 28 := ⟨Try.underlying22, by kernel_rfl, rfl, by omega, by omega, fun _ => rfl, cellsI_one⟩
theorem rowS : RowTy cellsP 8 88 zeroP 38 46 := ⟨Try.underlying38, by kernel_rfl, rfl, by omega, by omega, fun _ => rfl, cellsP_one⟩
theorem rowP : RowTy cellsP 8 88 zeroP 32 46 := ⟨Try.underlying32, by kernel_rfl, rfl, by omega, by omega, fun _ => rfl, cellsP_one⟩
theorem cellsI_at {w : World} {b o : Nat} {z : Itm} (h : ∀ j u, (cellsI z)[j]? = some u → w.cell? ⟨b, o + j, none⟩ = some u) :
    w.cell? ⟨b, o, none⟩ = some (.int .i64 z.key) ∧ w.cell? ⟨b, o + 1, none⟩ = some (.string z.ver.id) ∧ w.cell? ⟨b, o + 2, none⟩ = some (.int .i64 z.ver.seq) ∧ w.cell? ⟨b, o + 3, none⟩ = some (.int .i64 z.ver.stamp) ∧ w.cell? ⟨b, o + 4, none⟩ = some (.bool z.dead) ∧ w.cell? ⟨b, o + 5, none⟩ = some (.int .i64 z.x) ∧ w.cell? ⟨b, o + 6, none⟩ = some (.int .i64 z.y) ∧ w.cell? ⟨b, o + 7, none⟩ = some (.string z.text) ∧ w.cell? ⟨b, o + 8, none⟩ = some (.bool z.held) :=
  ⟨h 0 _ rfl, h 1 _ rfl, h 2 _ rfl, h 3 _ rfl, h 4 _ rfl, h 5 _ rfl, h 6 _ rfl, h 7 _ rfl, h 8 _ rfl⟩
theorem cellsP_at {w : World} {b o : Nat} {z : Itm} (h : ∀ j u, (cellsP z)[j]? = some u → w.cell? ⟨b, o + j, none⟩ = some u) :
    w.cell? ⟨b, o, none⟩ = some (.int .i64 z.key) ∧ w.cell? ⟨b, o + 1, none⟩ = some (.string z.ver.id) ∧ w.cell? ⟨b, o + 2, none⟩ = some (.int .i64 z.ver.seq) ∧ w.cell? ⟨b, o + 3, none⟩ = some (.int .i64 z.ver.stamp) ∧ w.cell? ⟨b, o + 4, none⟩ = some (.bool z.dead) ∧ w.cell? ⟨b, o + 5, none⟩ = some (.complex .f64 (fl z.x) (fl z.y)) ∧ w.cell? ⟨b, o + 6, none⟩ = some (.string z.text) ∧ w.cell? ⟨b, o + 7, none⟩ = some (.bool z.held) :=
  ⟨h 0 _ rfl, h 1 _ rfl, h 2 _ rfl, h 3 _ rfl, h 4 _ rfl, h 5 _ rfl, h 6 _ rfl, h 7 _ rfl⟩
theorem snoc_of {zs : List Itm} {k : Nat} {z : Itm} (h : zs[k]? = some z) : zs.take (k + 1) = zs.take k ++ [z] := by
  rw [List.take_add_one, h]
  rfl
theorem len_le {zs : List Itm} {k : Nat} (h : k ≤ zs.length) : (zs.take k).length = k := by rw [List.length_take]; omega
/-- A copy, half way. -/
def CopyRow (cf : Itm → List Value) (d : Nat) (e : TypeId) (w : World) (zs : List Itm) (k : Nat) (Av : Option Addr) (cv : Nat) (wr : World) : Prop :=
  wr.ownsRow w.heap.size e d (.slice Av k cv) k (rowCells cf (zs.take k)) ∧ Below w.heap.size w wr
theorem small_fl {i : Itm} (h : rightI i = true) : i.x.natAbs < 2 ^ 53 ∧ i.y.natAbs < 2 ^ 53 := right_small h
set_option maxRecDepth 100000 in
set_option maxHeartbeats 4000000 in
theorem rowTo_any (A : Option Addr) (n c : Nat) (zs : List Itm) (B : Nat) (w : World) (hB : B ≤ w.heap.size) (hz : RowAt cellsI 9 w B A n zs) (hn : n ≤ 1073741824) :
    Calls Try.prog 11 #[.slice A n c] w (OwnRow cellsP 8 46 zs w) := by
  have hl : zs.length = n := hz.1
  have HL := Lib.hid hl
  have HZ := Lib.hid hz
  clear hl hz
  go_enter Try.func11, Try.ntmps11
  go_wp2
  go_loopw [3, 4] (fun v i wr => ∃ (k : Nat) (Av : Option Addr) (cv : Nat), k ≤ n ∧ i = .int .i64 k ∧ v = .slice Av k cv ∧ Hid (CopyRow cellsP 8 46 w zs k Av cv wr)) (fun _ i _ => n - (intOf i).toNat)
  case atStart => exact ⟨0, none, 0, by omega, rfl, rfl, rown_nil _ _, Below.refl _ _⟩
  case round =>
    obtain ⟨k, Av, cv, hk, rfl, rfl, HC⟩ := hrel
    obtain ⟨hown, hbel⟩ := HC.out
    have HOw := Lib.hid hown
    have HB := Lib.hid hbel
    clear hown hbel HC
    by_cases hlt : k < n
    · obtain ⟨blk, off, rfl, hbB, z, hzk, hcell⟩ := HZ.out.get hlt
      obtain ⟨e0, e1, e2, e3, e4, e5, e6, e7, e8⟩ := cellsI_at hcell
      replace e0 := ((HB.out.mono hB).cell (p := ⟨blk, off + k * 9, none⟩) hbB).trans e0
      replace e1 := ((HB.out.mono hB).cell (p := ⟨blk, off + k * 9 + 1, none⟩) hbB).trans e1
      replace e2 := ((HB.out.mono hB).cell (p := ⟨blk, off + k * 9 + 2, none⟩) hbB).trans e2
      replace e3 := ((HB.out.mono hB).cell (p := ⟨blk, off + k * 9 + 3, none⟩) hbB).trans e3
      replace e4 := ((HB.out.mono hB).cell (p := ⟨blk, off + k * 9 + 4, none⟩) hbB).trans e4
      replace e5 := ((HB.out.mono hB).cell (p := ⟨blk, off + k * 9 + 5, none⟩) hbB).trans e5
      replace e6 := ((HB.out.mono hB).cell (p := ⟨blk, off + k * 9 + 6, none⟩) hbB).trans e6
      replace e7 := ((HB.out.mono hB).cell (p := ⟨blk, off + k * 9 + 7, none⟩) hbB).trans e7
      replace e8 := ((HB.out.mono hB).cell (p := ⟨blk, off + k * 9 + 8, none⟩) hbB).trans e8
      have HTS := Lib.hid (snoc_of hzk)
      have HX := Lib.hid (to_any z)
      have hi1 : (k : Int) < (n : Int) := by omega
      clear hcell hzk
      obtain ⟨key, ⟨d, a, s⟩, dead, x, y, text, held⟩ := z
      have HCF : Hid (cellsP ⟨key, ⟨d, a, s⟩, dead, x, y, text, held⟩ = [.int .i64 key, .string d, .int .i64 a, .int .i64 s, .bool dead, .complex .f64 (fl x) (fl y), .string text, .bool held]) := rfl
      generalize (⟨key, ⟨d, a, s⟩, dead, x, y, text, held⟩ : Itm) = z0 at HTS HCF
      unfold refV itmV at HX
      simp only at HX e0 e1 e2 e3 e4 e5 e6 e7 e8
      generalize fl x = fx at *
      generalize fl y = fy at *
      go_wp2_with fail
      refine (HX.out _).mono ?_
      rintro e w1 ⟨rfl, hb⟩
      replace HOw := Lib.hid (rown_below HOw.out hb)
      replace HB := Lib.hid (HB.out.trans (hb.mono HB.out.size))
      have hsz := HB.out.size
      clear hb e0 e1 e2 e3 e4 e5 e6 e7 e8
      have HR1 : Hid (RowAt cellsP 8 (w1.alloc (.cells #[.int .i64 key, .string d, .int .i64 a, .int .i64 s, .bool dead, .complex .f64 fx fy, .string text, .bool held] 46)) (w1.heap.size + 1) (some ⟨w1.heap.size, 0, none⟩) 1 [z0]) := one_row rowP (by rw [HCF.out]; exact heap_alloc_new w1 _)
      have HO1 := Lib.hid (HOw.out.alloc (.cells #[.int .i64 key, .string d, .int .i64 a, .int .i64 s, .bool dead, .complex .f64 fx fy, .string text, .bool held] 46))
      go_wp2_with (at_builtin; refine wpList_append_row rowP (B := w.heap.size) (v := .slice Av k cv) (n := k) (zs := zs.take k) (m := 1) (ys := [z0]) rfl _ _ rfl rfl HO1.out rfl HR1.out (by omega) (by simp; omega) ?_; intro A3 c3 w3 hown3 hg3 hat3)
      rw [← HTS.out] at hown3
      have HC3 : Hid (CopyRow cellsP 8 46 w zs (k + 1) A3 c3 w3) := ⟨hown3, (HB.out.alloc hsz _).grown hg3 (Nat.le_trans hsz (by simp)) (fun g e => (HOw.out.lt g e).1)⟩
      clear hown3 hg3 hat3
      go_wp2
      go_roundw
      case rel => exact ⟨k + 1, A3, c3, by omega, by go_num, rfl, HC3⟩
      case measure => simp [intOf]; omega
    · obtain rfl : k = n := by omega
      have HT : Hid (zs.take k = zs) := List.take_of_length_le (by have := HL.out; omega)
      go_wp2
      go_ret
      refine ⟨Av, cv, by rw [HL.out]; rfl, ?_, HB.out⟩
      have := HOw.out
      rw [HT.out] at this
      rw [HL.out]
      exact this
set_option maxRecDepth 100000 in
set_option maxHeartbeats 4000000 in
theorem rowFrom_any (A : Option Addr) (n c : Nat) (zs : List Itm) (B : Nat) (w : World) (hB : B ≤ w.heap.size) (hz : RowAt cellsP 8 w B A n zs) (hn : n ≤ 1073741824) (hsm : ∀ z ∈ zs, z.x.natAbs < 2 ^ 53 ∧ z.y.natAbs < 2 ^ 53) :
    Calls Try.prog 21 #[.slice A n c] w (OwnRow cellsI 9 28 zs w) := by
  have hl : zs.length = n := hz.1
  have HL := Lib.hid hl
  have HZ := Lib.hid hz
  clear hl hz
  go_enter Try.func21, Try.ntmps21
  go_wp2
  go_loopw [3, 4] (fun v i wr => ∃ (k : Nat) (Av : Option Addr) (cv : Nat), k ≤ n ∧ i = .int .i64 k ∧ v = .slice Av k cv ∧ Hid (CopyRow cellsI 9 28 w zs k Av cv wr)) (fun _ i _ => n - (intOf i).toNat)
  case atStart => exact ⟨0, none, 0, by omega, rfl, rfl, rown_nil _ _, Below.refl _ _⟩
  case round =>
    obtain ⟨k, Av, cv, hk, rfl, rfl, HC⟩ := hrel
    obtain ⟨hown, hbel⟩ := HC.out
    have HOw := Lib.hid hown
    have HB := Lib.hid hbel
    clear hown hbel HC
    by_cases hlt : k < n
    · obtain ⟨blk, off, rfl, hbB, z, hzk, hcell⟩ := HZ.out.get hlt
      obtain ⟨e0, e1, e2, e3, e4, e5, e6, e7⟩ := cellsP_at hcell
      replace e0 := ((HB.out.mono hB).cell (p := ⟨blk, off + k * 8, none⟩) hbB).trans e0
      replace e1 := ((HB.out.mono hB).cell (p := ⟨blk, off + k * 8 + 1, none⟩) hbB).trans e1
      replace e2 := ((HB.out.mono hB).cell (p := ⟨blk, off + k * 8 + 2, none⟩) hbB).trans e2
      replace e3 := ((HB.out.mono hB).cell (p := ⟨blk, off + k * 8 + 3, none⟩) hbB).trans e3
      replace e4 := ((HB.out.mono hB).cell (p := ⟨blk, off + k * 8 + 4, none⟩) hbB).trans e4
      replace e5 := ((HB.out.mono hB).cell (p := ⟨blk, off + k * 8 + 5, none⟩) hbB).trans e5
      replace e6 := ((HB.out.mono hB).cell (p := ⟨blk, off + k * 8 + 6, none⟩) hbB).trans e6
      replace e7 := ((HB.out.mono hB).cell (p := ⟨blk, off + k * 8 + 7, none⟩) hbB).trans e7
      have HTS := Lib.hid (snoc_of hzk)
      have HX := Lib.hid (from_any z (hsm z (List.mem_of_getElem? hzk)).1 (hsm z (List.mem_of_getElem? hzk)).2)
      have hi1 : (k : Int) < (n : Int) := by omega
      clear hcell hzk
      obtain ⟨key, ⟨d, a, s⟩, dead, x, y, text, held⟩ := z
      have HCF : Hid (cellsI ⟨key, ⟨d, a, s⟩, dead, x, y, text, held⟩ = [.int .i64 key, .string d, .int .i64 a, .int .i64 s, .bool dead, .int .i64 x, .int .i64 y, .string text, .bool held]) := rfl
      generalize (⟨key, ⟨d, a, s⟩, dead, x, y, text, held⟩ : Itm) = z0 at HTS HCF
      unfold refV itmV at HX
      simp only at HX e0 e1 e2 e3 e4 e5 e6 e7
      generalize fl x = fx at *
      generalize fl y = fy at *
      go_wp2_with fail
      refine (HX.out _).mono ?_
      rintro e w1 ⟨rfl, hb⟩
      replace HOw := Lib.hid (rown_below HOw.out hb)
      replace HB := Lib.hid (HB.out.trans (hb.mono HB.out.size))
      have hsz := HB.out.size
      clear hb e0 e1 e2 e3 e4 e5 e6 e7
      have HR1 : Hid (RowAt cellsI 9 (w1.alloc (.cells #[.int .i64 key, .string d, .int .i64 a, .int .i64 s, .bool dead, .int .i64 x, .int .i64 y, .string text, .bool held] 28)) (w1.heap.size + 1) (some ⟨w1.heap.size, 0, none⟩) 1 [z0]) := one_row rowI (by rw [HCF.out]; exact heap_alloc_new w1 _)
      have HO1 := Lib.hid (HOw.out.alloc (.cells #[.int .i64 key, .string d, .int .i64 a, .int .i64 s, .bool dead, .int .i64 x, .int .i64 y, .string text, .bool held] 28))
      go_wp2_with (at_builtin; refine wpList_append_row rowI (B := w.heap.size) (v := .slice Av k cv) (n := k) (zs := zs.take k) (m := 1) (ys := [z0]) rfl _ _ rfl rfl HO1.out rfl HR1.out (by omega) (by simp; omega) ?_; intro A3 c3 w3 hown3 hg3 hat3)
      rw [← HTS.out] at hown3
      have HC3 : Hid (CopyRow cellsI 9 28 w zs (k + 1) A3 c3 w3) := ⟨hown3, (HB.out.alloc hsz _).grown hg3 (Nat.le_trans hsz (by simp)) (fun g e => (HOw.out.lt g e).1)⟩
      clear hown3 hg3 hat3
      go_wp2
      go_roundw
      case rel => exact ⟨k + 1, A3, c3, by omega, by go_num, rfl, HC3⟩
      case measure => simp [intOf]; omega
    · obtain rfl : k = n := by omega
      have HT : Hid (zs.take k = zs) := List.take_of_length_le (by have := HL.out; omega)
      go_wp2
      go_ret
      refine ⟨Av, cv, by rw [HL.out]; rfl, ?_, HB.out⟩
      have := HOw.out
      rw [HT.out] at this
      rw [HL.out]
      exact this
end Go.Proofs.Ytpaiigminmakgaa
