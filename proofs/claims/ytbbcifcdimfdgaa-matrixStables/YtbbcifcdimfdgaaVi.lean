/- The law's To, the document's Right of a Vec, and VecRights walked. -/
import Derived.Test.YtbbcifcdimfdgaaVh
namespace Go.Proofs.Ytbbcifcdimfdgaa
open Go.RowKit

theorem take_snoc {zs : List At} {k : Nat} (hk : k < zs.length) : zs.take (k + 1) = zs.take k ++ [zs.getD k atNil] := by
  rw [List.take_succ_eq_append_getElem hk, List.getD_eq_getElem?_getD, List.getElem?_eq_getElem hk]; rfl
/-- A copy, half way. -/
def CopyRel (w : World) (ty : TypeId) (zs : List At) (k : Nat) (Av : Option Addr) (cv : Nat) (wr : World) : Prop :=
  wr.ownsRow w.heap.size ty 2 (.slice Av k cv) k (atCells (zs.take k)) ∧ Below w.heap.size w wr

set_option maxRecDepth 100000 in
set_option maxHeartbeats 4000000 in
theorem to_any (A : Option Addr) (n c : Nat) (zs : List At) (B : Nat) (w : World) (hB : B ≤ w.heap.size) (hz : VecAt w B A n zs) (hn : n ≤ 1073741824) :
    Calls Try.prog 15 #[.slice A n c] w (OwnVec w.heap.size 67 zs w) := by
  have hl : zs.length = n := hz.1
  have HL := Lib.hid hl
  have HZ := Lib.hid hz
  clear hl hz
  go_enter Try.func15, Try.ntmps15
  go_wp2
  go_loopw [3, 4] (fun v i wr => ∃ (k : Nat) (Av : Option Addr) (cv : Nat), k ≤ n ∧ i = .int .i64 k ∧ v = .slice Av k cv ∧ Hid (CopyRel w 67 zs k Av cv wr)) (fun _ i _ => n - (intOf i).toNat)
  case atStart => exact ⟨0, none, 0, by omega, rfl, rfl, own_nil _ _ _, Below.refl _ _⟩
  case round =>
    obtain ⟨k, Av, cv, hk, rfl, rfl, HC⟩ := hrel
    obtain ⟨hown, hbel⟩ := HC.out
    have HOw := Lib.hid hown
    have HB := Lib.hid hbel
    have hsz : w.heap.size ≤ wr.heap.size := hbel.size
    clear hown hbel HC
    by_cases hlt : k < n
    · obtain ⟨blk, off, rfl, hbB, hc1, hc2⟩ := HZ.out.cells (HB.out.mono hB) (k := k) hlt
      have hts := take_snoc (zs := zs) (k := k) (by have := HL.out; omega)
      generalize zs.getD k atNil = x at hc1 hc2 hts
      have HTS := Lib.hid hts
      have hblk : blk < wr.heap.size := by omega
      have hne : some blk ≠ Value.ownBlock (.slice Av k cv) := fun e => by have := (own_lt HOw.out e.symm).1; omega
      have hi0 : (0 : Int) ≤ (k : Int) := by omega
      have hi1 : (k : Int) < (n : Int) := by omega
      clear hts
      go_wp2_with fail
      go_region_held3 (fun w' => w'.cell? ⟨blk, off + k * 2, none⟩ = some (.string x.1) ∧ w'.cell? ⟨blk, off + k * 2 + 1, none⟩ = some (.int .i64 x.2))
        (first | go_keep | (go_split_ands; refine ⟨(hg3.cell_far _ (by simp; omega) hne).trans (by assumption), (hg3.cell_far _ (by simp; omega) hne).trans (by assumption)⟩))
        ((refine step_append_at (B := w.heap.size) (v := .slice Av k cv) (n := k) (zs := zs.take k) (m := 1) (ys := [x]) vecTy (by rfl) _ _ (by rfl) (by rfl) (HOw.out.alloc _).drew (by rfl) (one_at (heap_alloc_new wr _)) (by omega) (by simp; omega) ?_; intro A3 c3 w3 hown3 hg3 hat3))
      rw [← HTS.out] at hown3
      have HC3 : Hid (CopyRel w 67 zs (k + 1) A3 c3 w3) := ⟨hown3, (HB.out.alloc hsz _).drew.trans (grown_below hg3 (by simp; omega) (fun g e => (own_lt HOw.out e).1))⟩
      clear hown3 hg3 hat3
      go_wp2_with fail
      go_roundw
      case rel => exact ⟨k + 1, A3, c3, by omega, by go_num, rfl, HC3⟩
      case measure => simp [intOf]; omega
    · obtain rfl : k = n := by omega
      have HT : Hid (zs.take k = zs) := List.take_of_length_le (by have := HL.out; omega)
      go_wp2
      go_ret
      exact ownVec_ret HL.out (own_cap HOw.out) (by have := HOw.out; rwa [HT.out] at this) HB.out

theorem rcompare_is (a b : ByteArray) (x : Int) (h : Hid (Lib.compareBytes a.data.toList b.data.toList = x)) (w : World) (ha : Hid (a.size ≤ 9223372036854775807)) :
    Calls Try.prog 40 #[.string a, .string b] w fun e w' => e = .returned (.int .i64 x) ∧ Hid (Drawn w w') := by
  rw [← h.out]; exact rcompare_any a b w ha.out

theorem drawn_below {w w' : World} (h : Drawn w w') (B : Nat) : Below B w w' := by
  obtain ⟨n, rfl⟩ := h
  exact below_drewN (Below.refl _ _) n

/-- Each id is as short as a string of the machine may be. -/
def Short (zs : List At) : Prop := ∀ k, (zs.getD k atNil).1.size ≤ 9223372036854775807

set_option maxRecDepth 100000 in
set_option maxHeartbeats 8000000 in
theorem rrightv_any (A : Option Addr) (n c : Nat) (zs : List At) (B : Nat) (w : World) (hz : VecAt w B A n zs) (hn : n ≤ 1099511627776) (hsh : Short zs) :
    Calls Try.prog 39 #[.slice A n c] w fun e w' => e = .returned (.bool (rightV zs)) ∧ Hid (Drawn w w') := by
  have hl : zs.length = n := hz.1
  have HL := Lib.hid hl
  have HZ := Lib.hid hz
  have HSH := Lib.hid hsh
  clear hl hz hsh
  go_enter Try.func39, Try.ntmps39
  go_wp2
  go_loopw [3] (fun i wr => ∃ (k : Nat), k ≤ n ∧ i = .int .i64 k ∧ Hid (RightTo zs k) ∧ Hid (Drawn w wr)) (fun i _ => n - (intOf i).toNat)
  case atStart => exact ⟨0, by omega, rfl, rightTo_zero zs, Drawn.refl w⟩
  case round =>
    obtain ⟨k, hk, rfl, HA, HD⟩ := hrel
    by_cases hlt : k < n
    · obtain ⟨blk, off, rfl, hbB, hc1, hc2⟩ := HZ.out.cells (drawn_below HD.out B) (k := k) hlt
      have hkz : k < zs.length := by have := HL.out; omega
      have hi0 : (0 : Int) ≤ (k : Int) := by omega
      have hi1 : (k : Int) < (n : Int) := by omega
      obtain ⟨x, hx⟩ : ∃ x, zs.getD k atNil = x := ⟨_, rfl⟩
      rw [hx] at hc1 hc2
      cases hr : rightL x.1.data.toList
      · have HF : Hid (rightV zs = false) := rightV_no hkz (Or.inl (by rw [hx]; exact okAt_no (Or.inl hr)))
        have HR := Lib.hid hr
        clear hr hx hkz
        go_wp2_with fail
        go_quiet ((go_at_call 38; exact quiet_same (rright_is _ false HR _)))
        go_wp2
        go_ret
        exact ⟨ret_bool HF.out.symm, HD.out.more _⟩
      · have HR := Lib.hid hr
        by_cases h1 : x.2 < 1
        · have HF : Hid (rightV zs = false) := rightV_no hkz (Or.inl (by rw [hx]; exact okAt_no (Or.inr (Or.inl h1))))
          have g1 : decide (x.2 < 1) = true := decide_eq_true h1
          clear hr hx hkz
          go_wp2_with fail
          go_quiet ((go_at_call 38; exact quiet_same (rright_is _ true HR _)))
          go_wp2
          go_ret
          exact ⟨ret_bool HF.out.symm, HD.out.more _⟩
        · have g1 : decide (x.2 < 1) = false := decide_eq_false h1
          by_cases h2 : 1048576 < x.2
          · have HF : Hid (rightV zs = false) := rightV_no hkz (Or.inl (by rw [hx]; exact okAt_no (Or.inr (Or.inr h2))))
            have g2 : decide (1048576 < x.2) = true := decide_eq_true h2
            clear hr hx hkz
            go_wp2_with fail
            go_quiet ((go_at_call 38; exact quiet_same (rright_is _ true HR _)))
            go_wp2
            go_ret
            exact ⟨ret_bool HF.out.symm, HD.out.more _⟩
          · have g2 : decide (1048576 < x.2) = false := decide_eq_false h2
            have HOK : Hid (okAt (zs.getD k atNil) = true) := by show _ = _; rw [hx]; exact okAt_yes hr h1 h2
            by_cases h0 : k = 0
            · have HN : Hid (RightTo zs (k + 1)) := rightTo_succ HA.out HOK.out (fun h => absurd h (by omega))
              have hgd : decide (0 < k) = false := by simp; omega
              clear hr hx hkz h0
              go_wp2_with fail
              go_quiet ((go_at_call 38; exact quiet_same (rright_is _ true HR _)))
              go_wp2
              go_roundw
              case rel => exact ⟨k + 1, by omega, by go_num, HN, HD.out.more _⟩
              case measure => simp [intOf]; omega
            · obtain ⟨b2, o2, e2, hb2, hd1, hd2⟩ := HZ.out.cells (drawn_below HD.out B) (k := k - 1) (by omega)
              injection e2 with e2
              injection e2 with e2 e3
              subst e2 e3
              have hg0 : (0 : Int) < (k : Int) := by omega
              have hgd : decide (0 < k) = true := by simp; omega
              have hj0 : (1 : Int) ≤ (k : Int) := by omega
              have hj1 : (0 : Int) ≤ (k : Int) - 1 := by omega
              have hj2 : (k : Int) - 1 < (n : Int) := by omega
              have hj3 : ((k : Int) - 1).toNat = k - 1 := by omega
              have hj4 : IntKind.i64.wrap ((k : Int) - 1) = (k : Int) - 1 := IntWalk.i64_in _ (by omega)
              obtain ⟨y, hy⟩ : ∃ y, cmpId (zs.getD (k - 1) atNil).1 x.1 = y := ⟨_, rfl⟩
              have HSZ : Hid ((zs.getD (k - 1) atNil).1.size ≤ 9223372036854775807) := HSH.out (k - 1)
              generalize hpv : zs.getD (k - 1) atNil = pv at hd1 hd2 hy HSZ
              have HY : Hid (Lib.compareBytes pv.1.data.toList x.1.data.toList = y) := hy
              by_cases hge : 0 ≤ y
              · have HF : Hid (rightV zs = false) := rightV_no hkz (Or.inr ⟨by omega, by rw [hpv, hx]; omega⟩)
                clear hr hx hkz hy hpv
                go_wp2_with fail
                go_quiet (first | (go_at_call 38; exact quiet_same (rright_is _ true HR _)) | (go_at_call 40; exact quiet_drawn (rcompare_is _ _ _ HY _ HSZ)))
                go_wp2
                go_ret
                exact ⟨ret_bool HF.out.symm, HD.out.more _⟩
              · have HN : Hid (RightTo zs (k + 1)) := rightTo_succ HA.out HOK.out (fun _ => by rw [hpv, hx]; omega)
                clear hr hx hkz hy hpv
                go_wp2_with fail
                go_quiet (first | (go_at_call 38; exact quiet_same (rright_is _ true HR _)) | (go_at_call 40; exact quiet_drawn (rcompare_is _ _ _ HY _ HSZ)))
                go_wp2
                go_roundw
                case rel => exact ⟨k + 1, by omega, by go_num, HN, HD.out.more _⟩
                case measure => simp [intOf]; omega
    · have hke : k = zs.length := by have := HL.out; omega
      have HF : Hid (rightV zs = true) := (rightV_iff zs).mpr (hke ▸ HA.out)
      clear hke
      go_wp2
      go_ret
      exact ⟨ret_bool HF.out.symm, HD.out⟩

theorem vec_take {w : World} {B : Nat} {A : Option Addr} {n m : Nat} {zs : List At} (h : VecAt w B A n zs) (hm : m ≤ n) : VecAt w B A m (zs.take m) :=
  ⟨by rw [List.length_take, h.1]; omega, fun hp => by
    obtain ⟨b, off, e, hlt, hc⟩ := h.2 (by omega)
    refine ⟨b, off, e, hlt, fun k hk => ?_⟩
    have := hc k (by omega)
    simpa [List.getD_eq_getElem?_getD, hk] using this⟩
theorem Short.take {zs : List At} (h : Short zs) (m : Nat) : Short (zs.take m) := fun k => by
  have h1 := h k
  by_cases hk : k < m
  · simpa [List.getD_eq_getElem?_getD, hk] using h1
  · rw [List.getD_eq_getElem?_getD, List.getElem?_eq_none (by rw [List.length_take]; omega)]
    show 0 ≤ _
    omega

end Go.Proofs.Ytbbcifcdimfdgaa
