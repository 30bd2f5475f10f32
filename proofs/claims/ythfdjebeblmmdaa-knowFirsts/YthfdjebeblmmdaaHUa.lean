/- Rows of texts: how they lie; the law's To and From of ids. -/
import Derived.Test.YthfdjebeblmmdaaHK1
namespace Go.Proofs.Ythfdjebeblmmdaa
open Go.RowKit

def cellsT (s : ByteArray) : List Value := [.string s]
def zeroT : Value := .string ⟨#[]⟩
theorem cellsT_one : ∀ x, ∀ u ∈ cellsT x, u.oneCell' = true := by
  intro x u hu
  simp only [cellsT, List.mem_singleton] at hu
  subst hu
  rfl
theorem rowT : RowTy cellsT 1 16 zeroT 69 36 := ⟨Try.underlying69, by kernel_rfl, rfl, by omega, by omega, fun _ => rfl, cellsT_one⟩
theorem rowR : RowTy cellsT 1 16 zeroT 56 9 := ⟨Try.underlying56, by kernel_rfl, rfl, by omega, by omega, fun _ => rfl, cellsT_one⟩
theorem RowAt.text {w wr : World} {B : Nat} {A : Option Addr} {n : Nat} {zs : List ByteArray} (h : RowAt cellsT 1 w B A n zs) (hb : Below B w wr) {k : Nat} (hk : k < n) :
    ∃ blk off s, A = some ⟨blk, off, none⟩ ∧ blk < B ∧ zs[k]? = some s ∧ wr.cell? ⟨blk, off + k, none⟩ = some (.string s) := by
  obtain ⟨b, off, e, hlt, z, hz, hc⟩ := h.get hk
  refine ⟨b, off, z, e, hlt, hz, ?_⟩
  have := hc 0 (.string z) rfl
  rw [Nat.mul_one, Nat.add_zero] at this
  exact (hb.cell (p := ⟨b, off + k, none⟩) hlt).trans this
theorem snocT {zs : List ByteArray} {k : Nat} {z : ByteArray} (h : zs[k]? = some z) : zs.take (k + 1) = zs.take k ++ [z] := by
  rw [List.take_add_one, h]
  rfl
/-- A copy, half way. -/
def CopyT (e : TypeId) (w : World) (zs : List ByteArray) (k : Nat) (Av : Option Addr) (cv : Nat) (wr : World) : Prop :=
  wr.ownsRow w.heap.size e 1 (.slice Av k cv) k (rowCells cellsT (zs.take k)) ∧ Below w.heap.size w wr

set_option maxRecDepth 100000 in
set_option maxHeartbeats 4000000 in
theorem idTo_any (A : Option Addr) (n c : Nat) (zs : List ByteArray) (B : Nat) (w : World) (hB : B ≤ w.heap.size) (hz : RowAt cellsT 1 w B A n zs) (hn : n ≤ 1073741824) :
    Calls Try.prog 45 #[.slice A n c] w (OwnRow cellsT 1 36 zs w) := by
  have hl : zs.length = n := hz.1
  have HL := Lib.hid hl
  have HZ := Lib.hid hz
  clear hl hz
  go_enter Try.func45, Try.ntmps45
  go_wp2
  go_loopw [3, 4] (fun v i wr => ∃ (k : Nat) (Av : Option Addr) (cv : Nat), k ≤ n ∧ i = .int .i64 k ∧ v = .slice Av k cv ∧ Hid (CopyT 36 w zs k Av cv wr)) (fun _ i _ => n - (intOf i).toNat)
  case atStart => exact ⟨0, none, 0, by omega, rfl, rfl, rown_nil _ _, Below.refl _ _⟩
  case round =>
    obtain ⟨k, Av, cv, hk, rfl, rfl, HC⟩ := hrel
    obtain ⟨hown, hbel⟩ := HC.out
    have HOw := Lib.hid hown
    have HB := Lib.hid hbel
    have hsz := hbel.size
    clear hown hbel HC
    by_cases hlt : k < n
    · obtain ⟨blk, off, s, rfl, hbB, hzk, hc⟩ := HZ.out.text (HB.out.mono hB) hlt
      have HTS := Lib.hid (snocT hzk)
      have hi1 : (k : Int) < (n : Int) := by omega
      have HR1 : Hid (RowAt cellsT 1 (wr.alloc (.cells #[.string s] 36)) (wr.heap.size + 1) (some ⟨wr.heap.size, 0, none⟩) 1 [s]) := one_row rowT (heap_alloc_new wr _)
      have HO1 := Lib.hid (HOw.out.alloc (.cells #[.string s] 36))
      clear hzk
      go_wp2_with (at_builtin; refine wpList_append_row rowT (B := w.heap.size) (v := .slice Av k cv) (n := k) (zs := zs.take k) (m := 1) (ys := [s]) rfl _ _ rfl rfl HO1.out rfl HR1.out (by omega) (by simp; omega) ?_; intro A3 c3 w3 hown3 hg3 hat3)
      rw [← HTS.out] at hown3
      have HC3 : Hid (CopyT 36 w zs (k + 1) A3 c3 w3) := ⟨hown3, (HB.out.alloc hsz _).grown hg3 (Nat.le_trans hsz (by simp)) (fun g e => (HOw.out.lt g e).1)⟩
      clear hown3 hg3 hat3
      go_wp2
      go_roundw
      case rel => exact ⟨k + 1, A3, c3, by omega, by go_num, rfl, HC3⟩
      case measure => simp [intOf]; omega
    · obtain rfl : k = n := by omega
      have HT : Hid (zs.take k = zs) := List.take_of_length_le (by have := HL.out; omega)
      go_wp2
      go_ret
      refine ⟨Av, cv, by rw [HL.out]; rfl, ?_, HB.out⟩
      have := HOw.out
      rw [HT.out] at this
      rwa [HL.out]

end Go.Proofs.Ythfdjebeblmmdaa
