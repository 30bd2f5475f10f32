/- vec.Right, and the document's. -/
import Derived.Test.YtbbcifcdimfdgaaVc
namespace Go.Proofs.Ytbbcifcdimfdgaa
open Go.RowKit

theorem quiet_same {P : Program} {f : FuncId} {args : Array Value} {w : World} {n : Nat} {v : Value} (h : Calls P f args (w.drewN n) fun e w' => e = .returned v ∧ w.drewN n = w') : Calls P f args (w.drewN n) fun e w'' => e = .returned v ∧ ∃ m, w'' = w.drewN m :=
  h.mono fun _ _ ⟨he, hm⟩ => ⟨he, n, hm.symm⟩
theorem quiet_drawn {P : Program} {f : FuncId} {args : Array Value} {w : World} {n : Nat} {v : Value} (h : Calls P f args (w.drewN n) fun e w' => e = .returned v ∧ Hid (Drawn (w.drewN n) w')) : Calls P f args (w.drewN n) fun e w'' => e = .returned v ∧ ∃ m, w'' = w.drewN m :=
  h.mono fun _ _ ⟨he, hm⟩ => ⟨he, by obtain ⟨m, rfl⟩ := hm.out; exact ⟨n + m, by rw [World.drewN_drewN]⟩⟩

/-- May the one stand in a Vec? -/
def okAt (x : At) : Bool := rightL x.1.data.toList && (decide (1 ≤ x.2) && decide (x.2 ≤ 1048576))
/-- May it be? -/
def rightV (zs : List At) : Bool := (List.range zs.length).all fun k => okAt (zs.getD k atNil) && (k == 0 || decide (cmpId (zs.getD (k - 1) atNil).1 (zs.getD k atNil).1 < 0))
/-- Up to k nothing is wrong. -/
def RightTo (zs : List At) (k : Nat) : Prop := ∀ j, j < k → okAt (zs.getD j atNil) = true ∧ (0 < j → cmpId (zs.getD (j - 1) atNil).1 (zs.getD j atNil).1 < 0)
theorem rightTo_zero (zs : List At) : RightTo zs 0 := fun j hj => by omega
theorem rightTo_succ {zs : List At} {k : Nat} (h : RightTo zs k) (h1 : okAt (zs.getD k atNil) = true) (h2 : 0 < k → cmpId (zs.getD (k - 1) atNil).1 (zs.getD k atNil).1 < 0) : RightTo zs (k + 1) := fun j hj => by
  by_cases e : j = k
  · subst e; exact ⟨h1, h2⟩
  · exact h j (by omega)
theorem rightV_iff (zs : List At) : rightV zs = true ↔ RightTo zs zs.length := by
  unfold rightV RightTo
  rw [List.all_eq_true]
  constructor
  · intro h j hj
    have := h j (List.mem_range.mpr hj)
    rw [Bool.and_eq_true, Bool.or_eq_true, beq_iff_eq, decide_eq_true_iff] at this
    exact ⟨this.1, fun h0 => this.2.resolve_left (by omega)⟩
  · intro h j hj
    have := h j (List.mem_range.mp hj)
    rw [Bool.and_eq_true, Bool.or_eq_true, beq_iff_eq, decide_eq_true_iff]
    refine ⟨this.1, ?_⟩
    by_cases h0 : j = 0
    · exact Or.inl h0
    · exact Or.inr (this.2 (by omega))
theorem rightV_no {zs : List At} {k : Nat} (hk : k < zs.length) (h : okAt (zs.getD k atNil) = false ∨ (0 < k ∧ ¬ cmpId (zs.getD (k - 1) atNil).1 (zs.getD k atNil).1 < 0)) : rightV zs = false := by
  rw [Bool.eq_false_iff]
  intro e
  have := (rightV_iff zs).mp e k hk
  rcases h with h | h
  · rw [h] at this; exact absurd this.1 (by simp)
  · exact h.2 (this.2 h.1)
theorem okAt_no {x : At} (h : rightL x.1.data.toList = false ∨ x.2 < 1 ∨ 1048576 < x.2) : okAt x = false := by
  unfold okAt
  rcases h with h | h | h
  · rw [h]; rfl
  · rw [decide_eq_false (show ¬ 1 ≤ x.2 by omega)]; simp
  · rw [decide_eq_false (show ¬ x.2 ≤ 1048576 by omega)]; simp
theorem okAt_yes {x : At} (h : rightL x.1.data.toList = true) (h1 : ¬ x.2 < 1) (h2 : ¬ 1048576 < x.2) : okAt x = true := by
  unfold okAt
  rw [h, decide_eq_true (show 1 ≤ x.2 by omega), decide_eq_true (show x.2 ≤ 1048576 by omega)]; rfl

set_option maxRecDepth 100000 in
set_option maxHeartbeats 4000000 in
theorem rightv_any (A : Option Addr) (n c : Nat) (zs : List At) (B : Nat) (w : World) (hB : B ≤ w.heap.size) (hz : VecAt w B A n zs) (hn : n ≤ 1099511627776) :
    Calls Try.prog 33 #[.slice A n c] w fun e w' => e = .returned (.bool (rightV zs)) ∧ Below w.heap.size w w' := by
  have hl : zs.length = n := hz.1
  have HL := Lib.hid hl
  have HZ := Lib.hid hz
  clear hl hz
  go_enter Try.func33, Try.ntmps33
  go_wp2
  go_loopw [7] (fun i wr => ∃ k : Nat, k ≤ n ∧ i = .int .i64 k ∧ Hid (RightTo zs k) ∧ Hid (Below w.heap.size w wr)) (fun i _ => n - (intOf i).toNat)
  case atStart => exact ⟨0, by omega, rfl, rightTo_zero zs, Below.refl _ _⟩
  case round =>
    obtain ⟨k, hk, rfl, HA, HB⟩ := hrel
    have hsz : w.heap.size ≤ wr.heap.size := HB.out.size
    by_cases hlt : k < n
    · obtain ⟨blk, off, rfl, hbB, hc1, hc2⟩ := HZ.out.cells (HB.out.mono hB) (k := k) hlt
      have hkz : k < zs.length := by have := HL.out; omega
      obtain ⟨x, hx⟩ : ∃ x, zs.getD k atNil = x := ⟨_, rfl⟩
      rw [hx] at hc1 hc2
      cases hr : rightL x.1.data.toList
      · have HF : Hid (rightV zs = false) := rightV_no hkz (Or.inl (by rw [hx]; exact okAt_no (Or.inl hr)))
        have HR := Lib.hid hr
        clear hr hx hkz
        go_wp2_with fail
        refine (right_is _ false HR _).mono ?_
        rintro e w' ⟨rfl, rfl⟩
        go_wp2
        go_ret
        exact ⟨ret_bool HF.out.symm, HB.out.alloc hsz _⟩
      · by_cases h1 : x.2 < 1
        · have HF : Hid (rightV zs = false) := rightV_no hkz (Or.inl (by rw [hx]; exact okAt_no (Or.inr (Or.inl h1))))
          have HR := Lib.hid hr
          clear hr hx hkz
          go_wp2_with fail
          refine (right_is _ true HR _).mono ?_
          rintro e w' ⟨rfl, rfl⟩
          go_wp2
          go_ret
          exact ⟨ret_bool HF.out.symm, HB.out.alloc hsz _⟩
        · by_cases h2 : 1048576 < x.2
          · have HF : Hid (rightV zs = false) := rightV_no hkz (Or.inl (by rw [hx]; exact okAt_no (Or.inr (Or.inr h2))))
            have HR := Lib.hid hr
            clear hr hx hkz
            go_wp2_with fail
            refine (right_is _ true HR _).mono ?_
            rintro e w' ⟨rfl, rfl⟩
            go_wp2
            go_ret
            exact ⟨ret_bool HF.out.symm, HB.out.alloc hsz _⟩
          · have HOK : Hid (okAt (zs.getD k atNil) = true) := by show _ = _; rw [hx]; exact okAt_yes hr h1 h2
            have HR := Lib.hid hr
            by_cases h0 : k = 0
            · have HN : Hid (RightTo zs (k + 1)) := rightTo_succ HA.out HOK.out (fun h => absurd h (by omega))
              have hgd : decide (0 < k) = false := by simp; omega
              clear hr hx hkz h0
              go_wp2_with fail
              refine (right_is _ true HR _).mono ?_
              rintro e w' ⟨rfl, rfl⟩
              go_wp2
              go_quiet (fail)
              go_wp2
              go_roundw
              case rel => exact ⟨k + 1, by omega, by go_num, HN, below_drewN (HB.out.alloc hsz _) _⟩
              case measure => simp [intOf]; omega
            · obtain ⟨b2, o2, e2, hb2, hd1, hd2⟩ := HZ.out.cells (HB.out.mono hB) (k := k - 1) (by omega)
              injection e2 with e2
              injection e2 with e2 e3
              subst e2 e3
              have hblk : blk < wr.heap.size := by omega
              have hg0 : (0 : Int) < (k : Int) := by omega
              have hgd : decide (0 < k) = true := by simp; omega
              have hi0 : (1 : Int) ≤ (k : Int) := by omega
              have hi1 : (0 : Int) ≤ (k : Int) - 1 := by omega
              have hi2 : (k : Int) - 1 < (n : Int) := by omega
              have hi3 : ((k : Int) - 1).toNat = k - 1 := by omega
              have hi4 : IntKind.i64.wrap ((k : Int) - 1) = (k : Int) - 1 := IntWalk.i64_in _ (by omega)
              obtain ⟨y, hy⟩ : ∃ y, cmpId (zs.getD (k - 1) atNil).1 x.1 = y := ⟨_, rfl⟩
              generalize hpv : zs.getD (k - 1) atNil = pv at hd1 hd2 hy
              have HY : Hid (Lib.compareBytes pv.1.data.toList x.1.data.toList = y) := hy
              by_cases hge : 0 ≤ y
              · have HF : Hid (rightV zs = false) := rightV_no hkz (Or.inr ⟨by omega, by rw [hpv, hx]; omega⟩)
                clear hr hx hkz hy hpv
                go_wp2_with fail
                refine (right_is _ true HR _).mono ?_
                rintro e w' ⟨rfl, rfl⟩
                go_wp2
                go_quiet ((go_at_call 37; exact quiet_same (compare_is _ _ _ HY _)))
                go_wp2
                go_ret
                exact ⟨ret_bool HF.out.symm, below_drewN (HB.out.alloc hsz _) _⟩
              · have HN : Hid (RightTo zs (k + 1)) := rightTo_succ HA.out HOK.out (fun _ => by rw [hpv, hx]; omega)
                clear hr hx hkz hy hpv
                go_wp2_with fail
                refine (right_is _ true HR _).mono ?_
                rintro e w' ⟨rfl, rfl⟩
                go_wp2
                go_quiet ((go_at_call 37; exact quiet_same (compare_is _ _ _ HY _)))
                go_wp2
                go_roundw
                case rel => exact ⟨k + 1, by omega, by go_num, HN, below_drewN (HB.out.alloc hsz _) _⟩
                case measure => simp [intOf]; omega
    · have hke : k = zs.length := by have := HL.out; omega
      have HF : Hid (rightV zs = true) := (rightV_iff zs).mpr (hke ▸ HA.out)
      clear hke
      go_wp2
      go_ret
      exact ⟨ret_bool HF.out.symm, HB.out⟩
end Go.Proofs.Ytbbcifcdimfdgaa
