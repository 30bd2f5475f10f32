/- The law KnowRights walked. -/
import Derived.Test.YthfdjebeblmmdaaHEj
namespace Go.Proofs.Ythfdjebeblmmdaa
open Go.RowKit

theorem cutN_upto (A : Option Addr) (n c p : Nat) (h1 : p ≤ n) (h2 : n ≤ c) : ∀ W, (Instr.slice 22 (.slice A n c) none (some (.int .i64 (p : Int))) none).run Try.prog W = .ok (.slice A p c) W := by
  intro W
  have hel : Try.prog.elem 22 = 27 := by kernel_rfl
  have hsz : ∀ W, (sizeOf 27).run Try.prog W = .ok 3 W := fun W => by
    obtain ⟨i, hi, _, hz1, _⟩ := info_parts rowN.i
    simp [sizeOf, typeInfo, hi, hz1]
  rw [run_slice_h (P := Try.prog) W 22 A n c (by rw [hel]; exact Try.underlying22) .i64 (p : Int) (by omega) (by omega), hel, hsz]
  cases A <;> simp [sliced, Result.andThen, Addr.add]
set_option maxRecDepth 100000 in
set_option maxHeartbeats 8000000 in
theorem knowRights_walk (A0 : Option Addr) (n0 c0 : Nat) (z0 : Mat) (w : World) (hz0 : MatAt w w.heap.size A0 n0 z0) (hc0 : n0 ≤ c0) (hs0 : ShortM z0) (hn0 : c0 ≤ 9223372036854775807) :
    Calls Try.prog 3 #[.slice A0 n0 c0] w fun e w' => e = .returned (.bool true) ∧ Below w.heap.size w w' := by
  obtain ⟨m0, hm0⟩ : ∃ m : Nat, (if 20 < (n0 : Int) then (20 : Int) else n0) = m := ⟨min n0 20, by split <;> omega⟩
  have hmn0 : m0 ≤ n0 := by split at hm0 <;> omega
  have hm60 : m0 ≤ 20 := by split at hm0 <;> omega
  have HZ := Lib.hid (hz0.take hmn0)
  have HSH : Hid (ShortM (z0.take m0)) := fun x hx => hs0 x (List.mem_of_mem_take hx)
  have hu0 := cutN_upto A0 n0 c0 m0 hmn0 hc0
  generalize z0.take m0 = x0 at *
  have HL0 := Lib.hid HZ.out.len
  clear hz0 hs0
  go_enter Try.func3, Try.ntmps3
  go_wp2
  go_loop [3] (fun i => ∃ k : Nat, k ≤ m0 ∧ i = .int .i64 k ∧ Hid (∀ q x, q < k → x0[q]? = some x → x.2.2.length ≤ 500)) (fun i => m0 - (intOf i).toNat)
  case atStart => exact ⟨0, by omega, rfl, fun q z h => absurd h (by omega)⟩
  case round =>
    obtain ⟨k, hk, rfl, HN⟩ := hrel
    by_cases hlt : k < m0
    · obtain ⟨blk, off, r, rfl, hbB, hmk, e0, e1, e2, _⟩ := HZ.out.get (Below.refl _ _) hlt
      have hi1 : (k : Int) < m0 := by omega
      obtain ⟨id, u, Ar, cr, v⟩ := r
      simp only at e0 e1 e2 hmk
      by_cases h6 : 500 < v.length
      · have hd : decide (500 < v.length) = true := decide_eq_true h6
        have hd' : (500 : Int) < (v.length : Int) := by omega
        generalize v.length = L at *
        clear hmk h6
        go_wp2_with fail
        refine (ktold_any _).mono ?_
        rintro e w1 ⟨rfl, hb⟩
        have HB := Lib.hid hb
        clear hb
        go_wp2
        go_ret
        exact ⟨rfl, HB.out⟩
      · have hd : decide (500 < v.length) = false := decide_eq_false h6
        have hd' : ¬ ((500 : Int) < (v.length : Int)) := by omega
        have HN2 : Hid (∀ q x, q < k + 1 → x0[q]? = some x → x.2.2.length ≤ 500) := fun q x hq hx => by
          by_cases e : q = k
          · subst e; rw [hmk] at hx; injection hx with hx; subst hx; simp only; omega
          · exact HN.out q x (by omega) hx
        generalize v.length = L at *
        clear hmk h6 HN
        go_wp2_with fail
        go_round
        case rel => exact ⟨k + 1, by omega, by go_num, HN2⟩
        case measure => simp [intOf]; omega
    · obtain rfl : k = m0 := by omega
      have HV : Hid (∀ x ∈ x0, x.2.2.length ≤ 500) := fun x hx => by
        obtain ⟨q, hq⟩ := List.getElem?_of_mem hx
        have := (List.getElem?_eq_some_iff.mp hq).1
        exact HN.out q x (by have := HL0.out; omega) hq
      obtain ⟨b, hb⟩ : ∃ b, rightM x0 = b := ⟨_, rfl⟩
      have HR := Lib.hid hb
      clear HN hb
      go_wp2_with fail
      refine (ktold_any _).mono ?_
      rintro e w1 ⟨rfl, hb⟩
      have HB := Lib.hid hb
      clear hb
      go_wp2_with fail
      refine (toM_any A0 k c0 x0 w.heap.size w1 HB.out.size (HZ.out.keep HB.out) (by omega) (fun x hx => by have := HV.out x hx; omega)).mono ?_
      rintro e w2 ⟨A2, c2, rfl, ho, hb⟩
      have HM := Lib.hid ho.mat
      replace HB := Lib.hid (HB.out.trans (hb.mono HB.out.size))
      clear ho hb
      go_wp2_with fail
      refine (rightM_any A2 (List.length x0) c2 x0 w2.heap.size w2 (Nat.le_refl _) HM.out (by have := HL0.out; omega) (fun x hx => by have := HV.out x hx; omega)).mono ?_
      rw [HR.out]
      rintro e w3 ⟨rfl, hb⟩
      replace HB := Lib.hid (HB.out.trans (hb.mono HB.out.size))
      clear hb
      go_wp2_with fail
      refine (rrightM_any A0 k c0 x0 w.heap.size w3 HB.out.size (HZ.out.keep HB.out) (by omega) (fun x hx => by have := HV.out x hx; omega) HSH.out).mono ?_
      rw [HR.out]
      rintro e w4 ⟨rfl, hb⟩
      replace HB := Lib.hid (HB.out.trans (hb.mono HB.out.size))
      clear hb
      go_wp2
      go_ret
      exact ⟨rfl, HB.out⟩
end Go.Proofs.Ythfdjebeblmmdaa
