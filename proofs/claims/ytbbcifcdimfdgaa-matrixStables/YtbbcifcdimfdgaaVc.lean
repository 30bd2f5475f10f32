/- vec.Within and vec.Right. -/
import Derived.Test.YtbbcifcdimfdgaaVb
namespace Go.Proofs.Ytbbcifcdimfdgaa
open Go.RowKit

/-- Is none of zs farther than in ys? -/
def withinF (zs ys : List At) : Bool := zs.all fun x => decide (x.2 ≤ ofF ys x.1)
theorem all_take {zs : List At} {f : At → Bool} {k : Nat} (hk : k < zs.length) : (zs.take (k + 1)).all f = ((zs.take k).all f && f (zs.getD k atNil)) := by
  rw [List.take_succ_eq_append_getElem hk, List.all_append, List.getD_eq_getElem?_getD, List.getElem?_eq_getElem hk]
  simp
theorem all_false {zs : List At} {f : At → Bool} {k : Nat} (hk : k < zs.length) (h : f (zs.getD k atNil) = false) : zs.all f = false := by
  rw [List.all_eq_false]
  exact ⟨_, getD_mem hk, fun e => by rw [h] at e; cases e⟩

set_option maxRecDepth 100000 in
set_option maxHeartbeats 2000000 in
theorem within_any (A : Option Addr) (n c : Nat) (zs : List At) (A' : Option Addr) (n' c' : Nat) (ys : List At) (B : Nat) (w : World) (hB : B ≤ w.heap.size) (hz : VecAt w B A n zs) (hy : VecAt w B A' n' ys) (hn : n ≤ 1099511627776) (hn' : n' ≤ 1099511627776) (hs : Rising ys) :
    Calls Try.prog 31 #[.slice A n c, .slice A' n' c'] w fun e w' => e = .returned (.bool (withinF zs ys)) ∧ Below w.heap.size w w' := by
  have hl : zs.length = n := hz.1
  have HL := Lib.hid hl
  have HS := Lib.hid hs
  have HZ := Lib.hid hz
  have HY := Lib.hid hy
  clear hl hs hz hy
  go_enter Try.func31, Try.ntmps31
  go_wp2
  go_loopw [9] (fun i wr => ∃ k : Nat, k ≤ n ∧ i = .int .i64 k ∧ Hid ((zs.take k).all (fun x => decide (x.2 ≤ ofF ys x.1)) = true) ∧ Hid (Below w.heap.size w wr)) (fun i _ => n - (intOf i).toNat)
  case atStart => exact ⟨0, by omega, rfl, rfl, Below.refl _ _⟩
  case round =>
    obtain ⟨k, hk, rfl, HA, HB⟩ := hrel
    by_cases hlt : k < n
    · obtain ⟨blk, off, rfl, hbB, hc1, hc2⟩ := HZ.out.cells (HB.out.mono hB) (k := k) hlt
      obtain ⟨y, hy⟩ : ∃ y, ofF ys (zs.getD k atNil).1 = y := ⟨_, rfl⟩
      have hkz : k < zs.length := by have := HL.out; omega
      have hsz : w.heap.size ≤ wr.heap.size := HB.out.size
      by_cases hx : y < (zs.getD k atNil).2
      · have HF : Hid (withinF zs ys = false) := all_false hkz (decide_eq_false (by omega))
        generalize zs.getD k atNil = x at hc1 hc2 hy hx
        have HO := Lib.hid hy
        clear hy hkz
        go_wp2
        go_region_held3 (fun w' => w'.cell? ⟨wr.heap.size, 0, none⟩ = some (.string x.1) ∧ w'.cell? ⟨wr.heap.size, 1, none⟩ = some (.int .i64 x.2))
          (first | go_keep | (go_split_ands; refine ⟨(hb1.cell (by simp)).trans (by simp [go_sem]), (hb1.cell (by simp)).trans (by simp [go_sem])⟩))
          ((go_at_call 53; refine (of_is A' n' c' ys x.1 B y HO _ (by simp; omega) ((HY.out.keep (HB.out.mono hB)).alloc (by omega) _).drew hn' HS.out).mono ?_; rintro e w1 ⟨rfl, hb1⟩))
        have HB1 : Hid (Below w.heap.size w w1) := (HB.out.alloc hsz _).drew.trans (hb1.mono (by simp; omega))
        clear hb1
        go_wp2
        go_ret
        exact ⟨ret_bool HF.out.symm, HB1.out⟩
      · have HN : Hid ((zs.take (k + 1)).all (fun x => decide (x.2 ≤ ofF ys x.1)) = true) := by
          show _ = _
          rw [all_take hkz, HA.out, Bool.true_and]
          exact decide_eq_true (by omega)
        generalize zs.getD k atNil = x at hc1 hc2 hy hx
        have HO := Lib.hid hy
        clear hy hkz
        go_wp2
        go_region_held3 (fun w' => w'.cell? ⟨wr.heap.size, 0, none⟩ = some (.string x.1) ∧ w'.cell? ⟨wr.heap.size, 1, none⟩ = some (.int .i64 x.2))
          (first | go_keep | (go_split_ands; refine ⟨(hb1.cell (by simp)).trans (by simp [go_sem]), (hb1.cell (by simp)).trans (by simp [go_sem])⟩))
          ((go_at_call 53; refine (of_is A' n' c' ys x.1 B y HO _ (by simp; omega) ((HY.out.keep (HB.out.mono hB)).alloc (by omega) _).drew hn' HS.out).mono ?_; rintro e w1 ⟨rfl, hb1⟩))
        have HB1 : Hid (Below w.heap.size w w1) := (HB.out.alloc hsz _).drew.trans (hb1.mono (by simp; omega))
        clear hb1
        go_wp2
        go_roundw
        case rel => exact ⟨k + 1, by omega, by go_num, HN, HB1⟩
        case measure => simp [intOf]; omega
    · have HF : Hid (withinF zs ys = true) := by
        show _ = _
        have := HA.out
        rwa [List.take_of_length_le (by have := HL.out; omega)] at this
      go_wp2
      go_ret
      exact ⟨ret_bool HF.out.symm, HB.out⟩
end Go.Proofs.Ytbbcifcdimfdgaa
