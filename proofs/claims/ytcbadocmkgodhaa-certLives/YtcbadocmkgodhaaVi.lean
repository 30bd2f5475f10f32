/- The law's To, the document's Right of a Vec, and VecRights walked. -/
import Derived.Test.YtcbadocmkgodhaaVh
namespace Go.Proofs.Ytcbadocmkgodhaa
open Go.RowKit

theorem take_snoc {zs : List At} {k : Nat} (hk : k < zs.length) : zs.take (k + 1) = zs.take k ++ [zs.getD k atNil] := by
  rw [List.take_succ_eq_append_getElem hk, List.getD_eq_getElem?_getD, List.getElem?_eq_getElem hk]; rfl
/-- A copy, half way. -/
def CopyRel (w : World) (ty : TypeId) (zs : List At) (k : Nat) (Av : Option Addr) (cv : Nat) (wr : World) : Prop :=
  wr.ownsRow w.heap.size ty 2 (.slice Av k cv) k (atCells (zs.take k)) ∧ Below w.heap.size w wr

set_option maxRecDepth 100000 in
set_option maxHeartbeats 4000000 in
theorem to_any (A : Option Addr) (n c : Nat) (zs : List At) (B : Nat) (w : World) (hB : B ≤ w.heap.size) (hz : VecAt w B A n zs) (hn : n ≤ 1073741824) :
    Calls Try.prog 7 #[.slice A n c] w (OwnVec w.heap.size 59 zs w) := by
  have hl : zs.length = n := hz.1
  have HL := Lib.hid hl
  have HZ := Lib.hid hz
  clear hl hz
  go_enter Try.func7, Try.ntmps7
  go_wp2
  go_loopw [3, 4] (fun v i wr => ∃ (k : Nat) (Av : Option Addr) (cv : Nat), k ≤ n ∧ i = .int .i64 k ∧ v = .slice Av k cv ∧ Hid (CopyRel w 59 zs k Av cv wr)) (fun _ i _ => n - (intOf i).toNat)
  case atStart => exact ⟨0, none, 0, by omega, rfl, rfl, own_nil _ _ _, Below.refl _ _⟩
  case round =>
    obtain ⟨k, Av, cv, hk, rfl, rfl, HC⟩ := hrel
    obtain ⟨hown, hbel⟩ := HC.out
    have HOw := Lib.hid hown
    have HB := Lib.hid hbel
    have hsz : w.heap.size ≤ wr.heap.size := hbel.size
    clear hown hbel HC
    by_cases hlt : k < n
    · obtain ⟨blk, off, rfl, hbB, hc1, hc2⟩ := HZ.out.cells (HB.out.mono hB) (k := k) hlt
      have hts := take_snoc (zs := zs) (k := k) (by have := HL.out; omega)
      generalize zs.getD k atNil = x at hc1 hc2 hts
      have HTS := Lib.hid hts
      have hblk : blk < wr.heap.size := by omega
      have hne : some blk ≠ Value.ownBlock (.slice Av k cv) := fun e => by have := (own_lt HOw.out e.symm).1; omega
      have hi0 : (0 : Int) ≤ (k : Int) := by omega
      have hi1 : (k : Int) < (n : Int) := by omega
      clear hts
      go_wp2_with fail
      go_region_held3 (fun w' => w'.cell? ⟨blk, off + k * 2, none⟩ = some (.string x.1) ∧ w'.cell? ⟨blk, off + k * 2 + 1, none⟩ = some (.int .i64 x.2))
        (first | go_keep | (go_split_ands; refine ⟨(hg3.cell_far _ (by simp; omega) hne).trans (by assumption), (hg3.cell_far _ (by simp; omega) hne).trans (by assumption)⟩))
        ((refine step_append_at (B := w.heap.size) (v := .slice Av k cv) (n := k) (zs := zs.take k) (m := 1) (ys := [x]) vecTy (by rfl) _ _ (by rfl) (by rfl) (HOw.out.alloc _).drew (by rfl) (one_at (heap_alloc_new wr _)) (by omega) (by simp; omega) ?_; intro A3 c3 w3 hown3 hg3 hat3))
      rw [← HTS.out] at hown3
      have HC3 : Hid (CopyRel w 59 zs (k + 1) A3 c3 w3) := ⟨hown3, (HB.out.alloc hsz _).drew.trans (grown_below hg3 (by simp; omega) (fun g e => (own_lt HOw.out e).1))⟩
      clear hown3 hg3 hat3
      go_wp2_with fail
      go_roundw
      case rel => exact ⟨k + 1, A3, c3, by omega, by go_num, rfl, HC3⟩
      case measure => simp [intOf]; omega
    · obtain rfl : k = n := by omega
      have HT : Hid (zs.take k = zs) := List.take_of_length_le (by have := HL.out; omega)
      go_wp2
      go_ret
      exact ownVec_ret HL.out (own_cap HOw.out) (by have := HOw.out; rwa [HT.out] at this) HB.out

theorem rcompare_is (a b : ByteArray) (x : Int) (h : Hid (Lib.compareBytes a.data.toList b.data.toList = x)) (w : World) (ha : Hid (a.size ≤ 9223372036854775807)) :
    Calls Try.prog 39 #[.string a, .string b] w fun e w' => e = .returned (.int .i64 x) ∧ Hid (Drawn w w') := by
  rw [← h.out]; exact rcompare_any a b w ha.out

theorem drawn_below {w w' : World} (h : Drawn w w') (B : Nat) : Below B w w' := by
  obtain ⟨n, rfl⟩ := h
  exact below_drewN (Below.refl _ _) n

/-- Each id is as short as a string of the machine may be. -/
def Short (zs : List At) : Prop := ∀ k, (zs.getD k atNil).1.size ≤ 9223372036854775807

theorem vec_take {w : World} {B : Nat} {A : Option Addr} {n m : Nat} {zs : List At} (h : VecAt w B A n zs) (hm : m ≤ n) : VecAt w B A m (zs.take m) :=
  ⟨by rw [List.length_take, h.1]; omega, fun hp => by
    obtain ⟨b, off, e, hlt, hc⟩ := h.2 (by omega)
    refine ⟨b, off, e, hlt, fun k hk => ?_⟩
    have := hc k (by omega)
    simpa [List.getD_eq_getElem?_getD, hk] using this⟩
theorem Short.take {zs : List At} (h : Short zs) (m : Nat) : Short (zs.take m) := fun k => by
  have h1 := h k
  by_cases hk : k < m
  · simpa [List.getD_eq_getElem?_getD, hk] using h1
  · rw [List.getD_eq_getElem?_getD, List.getElem?_eq_none (by rw [List.length_take]; omega)]
    show 0 ≤ _
    omega

end Go.Proofs.Ytcbadocmkgodhaa
