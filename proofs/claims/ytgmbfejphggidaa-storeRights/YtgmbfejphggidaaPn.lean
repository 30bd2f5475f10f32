/- The reference's Same of two Stores. -/
import Derived.Test.YtgmbfejphggidaaPk
namespace Go.Proofs.Ytgmbfejphggidaa
open Go.RowKit

set_option maxRecDepth 100000 in
theorem neq_items (i j : Itm) (w : World) : (binOp .neq 28 (refV i) (refV j)).run Try.prog w = .ok (.bool (!eqI i j)) w := by
  have h := eql_ref i j w
  unfold refV at *
  rw [run_eql_struct] at h
  rw [run_neq_struct]
  generalize (Op.equalIn 10000 28 _ _).run Try.prog w = r at *
  rcases r with ⟨b, w'⟩ | ⟨h', w'⟩
  · simp only [Result.andThen] at h ⊢
    injection h with h1 h2
    injection h1 with h1
    subst h1 h2
    rfl
  · simp [Result.andThen] at h
def sameS (zs ys : List Itm) : Bool := decide (zs.length = ys.length) && (List.range zs.length).all fun j => match zs[j]?, ys[j]? with | some x, some y => eqI x y | _, _ => false
theorem sameS_iff (zs ys : List Itm) : sameS zs ys = true ↔ zs = ys := by
  unfold sameS
  rw [Bool.and_eq_true, decide_eq_true_eq, List.all_eq_true]
  constructor
  · rintro ⟨hl, h⟩
    apply List.ext_getElem?
    intro j
    rcases Nat.lt_or_ge j zs.length with hj | hj
    · have h1 := h j (List.mem_range.mpr hj)
      rw [List.getElem?_eq_getElem hj, List.getElem?_eq_getElem (by omega)] at h1 ⊢
      rw [(eqI_iff _ _).mp h1]
    · rw [List.getElem?_eq_none hj, List.getElem?_eq_none (by omega)]
  · rintro rfl
    refine ⟨rfl, fun j hj => ?_⟩
    rw [List.getElem?_eq_getElem (List.mem_range.mp hj)]
    exact eqI_same _
theorem same_no {zs ys : List Itm} {j : Nat} {x y : Itm} (h1 : zs[j]? = some x) (h2 : ys[j]? = some y) (h : eqI x y = false) : sameS zs ys = false := by
  rcases e : sameS zs ys with _ | _
  · rfl
  · have := (sameS_iff zs ys).mp e
    subst this
    rw [h1] at h2
    injection h2 with h2
    subst h2
    rw [eqI_same] at h
    cases h
set_option maxRecDepth 100000 in
set_option maxHeartbeats 4000000 in
theorem rsame_any (A : Option Addr) (n c : Nat) (zs : List Itm) (A' : Option Addr) (n' c' : Nat) (ys : List Itm) (B : Nat) (w : World) (hz : RowAt cellsI 9 w B A n zs) (hy : RowAt cellsI 9 w B A' n' ys) (hn : n ≤ 1099511627776) :
    Calls Try.prog 14 #[.slice A n c, .slice A' n' c'] w fun e w' => e = .returned (.bool (sameS zs ys)) ∧ Hid (Drawn w w') := by
  have HZ := Lib.hid hz
  have HY := Lib.hid hy
  have HL := Lib.hid hz.1
  have HL' := Lib.hid hy.1
  clear hz hy
  by_cases hnn : n = n'
  · subst hnn
    go_enter Try.func14, Try.ntmps14
    go_wp2
    go_loopw [5] (fun i wr => ∃ (j m : Nat), j ≤ n ∧ i = .int .i64 j ∧ Hid (∀ q, q < j → ∃ x y, zs[q]? = some x ∧ ys[q]? = some y ∧ eqI x y = true) ∧ wr = w.drewN m) (fun i _ => n - (intOf i).toNat)
    case atStart => exact ⟨0, 0, by omega, rfl, fun q hq => absurd hq (by omega), rfl⟩
    case round =>
      obtain ⟨j, m, hj, rfl, HE, rfl⟩ := hrel
      by_cases hlt : j < n
      · obtain ⟨b1, o1, rfl, _, x, hx, hc1⟩ := HZ.out.get hlt
        obtain ⟨b2, o2, rfl, _, y, hy, hc2⟩ := HY.out.get hlt
        obtain ⟨e0, e1, e2, e3, e4, e5, e6, e7, e8⟩ := cellsI_at hc1
        obtain ⟨f0, f1, f2, f3, f4, f5, f6, f7, f8⟩ := cellsI_at hc2
        have hi1 : (j : Int) < n := by omega
        have hne := neq_items x y
        unfold refV at hne
        rcases he : eqI x y with _ | _
        · have HN := Lib.hid (same_no hx hy he)
          rw [he] at hne
          clear hc1 hc2 hx hy he HE
          go_wp2
          go_quiet (fail)
          go_wp2
          go_ret
          exact ⟨ret_bool (by rw [HN.out]), ⟨_, World.drewN_drewN _ _ _⟩⟩
        · have HE' : Hid (∀ q, q < j + 1 → ∃ x y, zs[q]? = some x ∧ ys[q]? = some y ∧ eqI x y = true) := fun q hq => by
            rcases Nat.lt_or_ge q j with h | h
            · exact HE.out q h
            · obtain rfl : q = j := by omega
              exact ⟨x, y, hx, hy, he⟩
          rw [he] at hne
          clear hc1 hc2 hx hy he HE
          go_wp2
          go_quiet (fail)
          go_wp2
          go_roundw
          case rel => exact ⟨j + 1, _, by omega, by go_num, HE', rfl⟩
          case measure => simp [intOf]; omega
      · obtain rfl : j = n := by omega
        have HT : Hid (sameS zs ys = true) := by
          refine (sameS_iff zs ys).mpr (List.ext_getElem? fun q => ?_)
          rcases Nat.lt_or_ge q j with h | h
          · obtain ⟨x, y, h1, h2, h3⟩ := HE.out q h
            rw [h1, h2, (eqI_iff _ _).mp h3]
          · rw [List.getElem?_eq_none (by rw [HL.out]; exact h), List.getElem?_eq_none (by rw [HL'.out]; exact h)]
        go_wp2
        go_ret
        exact ⟨ret_bool (by rw [HT.out]), ⟨_, rfl⟩⟩
  · have HF : Hid (sameS zs ys = false) := by
      show _ = _
      unfold sameS
      rw [decide_eq_false (by rw [HL.out, HL'.out]; exact hnn)]
      rfl
    have hnn' : ((n : Int) != n') = true := by simp; omega
    go_enter Try.func14, Try.ntmps14
    go_wp2
    go_ret
    exact ⟨ret_bool (by rw [HF.out]), Drawn.refl w⟩
end Go.Proofs.Ytgmbfejphggidaa
