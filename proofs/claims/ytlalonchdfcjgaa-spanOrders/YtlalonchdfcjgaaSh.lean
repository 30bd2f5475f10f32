/- span.Right and the document's: whether a Span may be. -/
import Derived.Test.YtlalonchdfcjgaaSg
namespace Go.Proofs.Ytlalonchdfcjgaa
open Go.RowKit

def chainB (b : Int) : List Int → Bool
  | [] => true
  | z :: t => decide (b < z ∧ z ≤ 1048576) && chainB z t
def rightF (u : Int) (zs : List Int) : Bool := decide (0 ≤ u ∧ u ≤ 1048576 ∧ zs.length ≤ 4096) && chainB (u + 1) zs

theorem drop_next (zs : List Int) (k : Nat) (h : k < zs.length) : zs.drop k = zs.getD k 0 :: zs.drop (k + 1) := by
  rw [List.drop_eq_getElem_cons h]
  simp [List.getD_eq_getElem?_getD, List.getElem?_eq_getElem h]

theorem chain_step {b : Int} {zs : List Int} {k : Nat} (h : k < zs.length) : chainB b (zs.drop k) = (decide (b < zs.getD k 0 ∧ zs.getD k 0 ≤ 1048576) && chainB (zs.getD k 0) (zs.drop (k + 1))) := by
  rw [drop_next zs k h]; rfl

set_option maxHeartbeats 1000000 in
theorem right_any (u : Int) (A : Option Addr) (n c : Nat) (zs : List Int) (B : Nat) (w : World) (hB : B ≤ w.heap.size) (hz : IntsAt w B A n zs) (hn : n ≤ 1073741824) :
    Calls Try.prog 11 #[.agg #[.int .i64 u, .slice A n c]] w fun e w' => e = .returned (.bool (rightF u zs)) ∧ Below w.heap.size w w' := by
  have hl : zs.length = n := hz.1
  have HL := Lib.hid hl
  have HZ := Lib.hid hz
  clear hl hz
  by_cases h1 : u < 0
  · have HF : Hid (rightF u zs = false) := by show rightF u zs = false; unfold rightF; rw [decide_eq_false (by omega)]; rfl
    go_enter Try.func11, Try.ntmps11
    go_wp2
    go_ret
    exact ⟨ret_bool HF.out.symm, (Below.refl _ _).alloc (Nat.le_refl _) _⟩
  by_cases h2 : 1048576 < u
  · have HF : Hid (rightF u zs = false) := by show rightF u zs = false; unfold rightF; rw [decide_eq_false (by omega)]; rfl
    go_enter Try.func11, Try.ntmps11
    go_wp2
    go_ret
    exact ⟨ret_bool HF.out.symm, (Below.refl _ _).alloc (Nat.le_refl _) _⟩
  by_cases h3 : 4096 < n
  · have HF : Hid (rightF u zs = false) := by show rightF u zs = false; unfold rightF; rw [decide_eq_false (by rw [HL.out]; omega)]; rfl
    have h3' : (4096 : Int) < n := by omega
    go_enter Try.func11, Try.ntmps11
    go_wp2
    go_ret
    exact ⟨ret_bool HF.out.symm, (Below.refl _ _).alloc (Nat.le_refl _) _⟩
  have HF : Hid (rightF u zs = chainB (u + 1) zs) := by show rightF u zs = _; unfold rightF; rw [decide_eq_true (by rw [HL.out]; omega)]; rfl
  have h3' : ¬ (4096 : Int) < n := by omega
  go_enter Try.func11, Try.ntmps11
  go_wp2
  go_loop [3, 26] (fun l i => ∃ (k : Nat) (last : Int), k ≤ n ∧ i = .int .i64 k ∧ l = .int .i64 last ∧ Hid (chainB (u + 1) zs = chainB last (zs.drop k))) (fun _ i => n - (intOf i).toNat)
  case atStart => exact ⟨0, u + 1, by omega, rfl, rfl, rfl⟩
  case round =>
    obtain ⟨k, last, hk, rfl, rfl, HC⟩ := hrel
    by_cases hlt : k < n
    · obtain ⟨b, off, rfl, hbB, hc⟩ := HZ.out.2 (by omega)
      have hc1 := hc k hlt
      have hb' : b < w.heap.size := by omega
      have hst := chain_step (b := last) (zs := zs) (k := k) (by rw [HL.out]; exact hlt)
      have HS := Lib.hid hst
      clear hc hst
      by_cases t1 : zs.getD k 0 ≤ last
      · have HE : Hid (rightF u zs = false) := by show rightF u zs = _; rw [HF.out, HC.out, HS.out, decide_eq_false (by omega)]; rfl
        have t1' : zs[k]?.getD 0 ≤ last := by simpa [List.getD_eq_getElem?_getD] using t1
        clear t1
        go_wp2
        go_ret
        exact ⟨ret_bool HE.out.symm, (Below.refl _ _).alloc (Nat.le_refl _) _⟩
      · by_cases t2 : 1048576 < zs.getD k 0
        · have HE : Hid (rightF u zs = false) := by show rightF u zs = _; rw [HF.out, HC.out, HS.out, decide_eq_false (by omega)]; rfl
          have t1' : ¬ zs[k]?.getD 0 ≤ last := by simpa [List.getD_eq_getElem?_getD] using t1
          have t2' : 1048576 < zs[k]?.getD 0 := by simpa [List.getD_eq_getElem?_getD] using t2
          clear t1 t2
          go_wp2
          go_ret
          exact ⟨ret_bool HE.out.symm, (Below.refl _ _).alloc (Nat.le_refl _) _⟩
        · have HE : Hid (chainB (u + 1) zs = chainB (zs.getD k 0) (zs.drop (k + 1))) := by show _ = _; rw [HC.out, HS.out, decide_eq_true (by omega)]; rfl
          have t1' : ¬ zs[k]?.getD 0 ≤ last := by simpa [List.getD_eq_getElem?_getD] using t1
          have t2' : ¬ 1048576 < zs[k]?.getD 0 := by simpa [List.getD_eq_getElem?_getD] using t2
          clear t1 t2
          go_wp2
          go_round
          case rel => exact ⟨k + 1, zs.getD k 0, by omega, by go_num, by simp [List.getD_eq_getElem?_getD], HE⟩
          case measure => simp [intOf]; omega
    · have HE : Hid (rightF u zs = true) := by
        show rightF u zs = _
        rw [HF.out, HC.out, List.drop_of_length_le (by rw [HL.out]; omega)]; rfl
      go_wp2
      go_ret
      exact ⟨ret_bool HE.out.symm, (Below.refl _ _).alloc (Nat.le_refl _) _⟩
end Go.Proofs.Ytlalonchdfcjgaa
