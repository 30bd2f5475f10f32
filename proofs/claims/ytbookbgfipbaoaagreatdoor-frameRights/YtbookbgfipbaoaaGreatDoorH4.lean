/- vec.Right, and the document's. -/
import Derived.Test.YtbookbgfipbaoaaGreatDoorH3
import Derived.BigRegion
import Derived.Laws.StructEq
import Derived.Test.YtbookbgfipbaoaaGreatDoorH2
import Derived.Test.YtbookbgfipbaoaaGreatDoorRows
import Derived.WalkKit
import Derived.WalkSpells
import Derived.WalkLawsBesides
import Derived.BigQuiet
import Derived.Deep.QuietTactic
import Derived.Lib.Hide
namespace Go.Proofs.YtbookbgfipbaoaaGreatDoor
open Go.RowKit

theorem quiet_same {P : Program} {f : FuncId} {args : Array Value} {w : World} {n : Nat} {v : Value} (h : Calls P f args (w.drewN n) fun e w' => e = .returned v ∧ w.drewN n = w') : Calls P f args (w.drewN n) fun e w'' => e = .returned v ∧ ∃ m, w'' = w.drewN m :=
  h.mono fun _ _ ⟨he, hm⟩ => ⟨he, n, hm.symm⟩
theorem quiet_drawn {P : Program} {f : FuncId} {args : Array Value} {w : World} {n : Nat} {v : Value} (h : Calls P f args (w.drewN n) fun e w' => e = .returned v ∧ Hid (Drawn (w.drewN n) w')) : Calls P f args (w.drewN n) fun e w'' => e = .returned v ∧ ∃ m, w'' = w.drewN m :=
  h.mono fun _ _ ⟨he, hm⟩ => ⟨he, by obtain ⟨m, rfl⟩ := hm.out; exact ⟨n + m, by rw [World.drewN_drewN]⟩⟩

/-- May the one stand in a Vec? -/
def okAt (x : At) : Bool := rightL x.1.data.toList && (decide (1 ≤ x.2) && decide (x.2 ≤ 1048576))
/-- May it be? -/
def rightV (zs : List At) : Bool := (List.range zs.length).all fun k => okAt (zs.getD k atNil) && (k == 0 || decide (cmpId (zs.getD (k - 1) atNil).1 (zs.getD k atNil).1 < 0))
/-- Up to k nothing is wrong. -/
def RightTo (zs : List At) (k : Nat) : Prop := ∀ j, j < k → okAt (zs.getD j atNil) = true ∧ (0 < j → cmpId (zs.getD (j - 1) atNil).1 (zs.getD j atNil).1 < 0)
theorem rightTo_zero (zs : List At) : RightTo zs 0 := fun j hj => by omega
theorem rightTo_succ {zs : List At} {k : Nat} (h : RightTo zs k) (h1 : okAt (zs.getD k atNil) = true) (h2 : 0 < k → cmpId (zs.getD (k - 1) atNil).1 (zs.getD k atNil).1 < 0) : RightTo zs (k + 1) := fun j hj => by
  by_cases e : j = k
  · subst e; exact ⟨h1, h2⟩
  · exact h j (by omega)
theorem rightV_iff (zs : List At) : rightV zs = true ↔ RightTo zs zs.length := by
  unfold rightV RightTo
  rw [List.all_eq_true]
  constructor
  · intro h j hj
    have := h j (List.mem_range.mpr hj)
    rw [Bool.and_eq_true, Bool.or_eq_true, beq_iff_eq, decide_eq_true_iff] at this
    exact ⟨this.1, fun h0 => this.2.resolve_left (by omega)⟩
  · intro h j hj
    have := h j (List.mem_range.mp hj)
    rw [Bool.and_eq_true, Bool.or_eq_true, beq_iff_eq, decide_eq_true_iff]
    refine ⟨this.1, ?_⟩
    by_cases h0 : j = 0
    · exact Or.inl h0
    · exact Or.inr (this.2 (by omega))
theorem rightV_no {zs : List At} {k : Nat} (hk : k < zs.length) (h : okAt (zs.getD k atNil) = false ∨ (0 < k ∧ ¬ cmpId (zs.getD (k - 1) atNil).1 (zs.getD k atNil).1 < 0)) : rightV zs = false := by
  rw [Bool.eq_false_iff]
  intro e
  have := (rightV_iff zs).mp e k hk
  rcases h with h | h
  · rw [h] at this; exact absurd this.1 (by simp)
  · exact h.2 (this.2 h.1)
theorem okAt_no {x : At} (h : rightL x.1.data.toList = false ∨ x.2 < 1 ∨ 1048576 < x.2) : okAt x = false := by
  unfold okAt
  rcases h with h | h | h
  · rw [h]; rfl
  · rw [decide_eq_false (show ¬ 1 ≤ x.2 by omega)]; simp
  · rw [decide_eq_false (show ¬ x.2 ≤ 1048576 by omega)]; simp
theorem okAt_yes {x : At} (h : rightL x.1.data.toList = true) (h1 : ¬ x.2 < 1) (h2 : ¬ 1048576 < x.2) : okAt x = true := by
  unfold okAt
  rw [h, decide_eq_true (show 1 ≤ x.2 by omega), decide_eq_true (show x.2 ≤ 1048576 by omega)]; rfl

set_option maxRecDepth 100000 in
set_option maxHeartbeats 4000000 in
theorem rightv_any (A : Option Addr) (n c : Nat) (zs : List At) (B : Nat) (w : World) (hB : B ≤ w.heap.size) (hz : VecAt w B A n zs) (hn : n ≤ 1099511627776) :
    Calls Tryz.prog 98 #[.slice A n c] w fun e w' => e = .returned (.bool (rightV zs)) ∧ Below w.heap.size w w' := by
  have hl : zs.length = n := hz.1
  have HL := Lib.hid hl
  have HZ := Lib.hid hz
  clear hl hz
  go_enter Tryz.func98, Tryz.ntmps98
  go_wp2
  go_loopw [7] (fun i wr => ∃ k : Nat, k ≤ n ∧ i = .int .i64 k ∧ Hid (RightTo zs k) ∧ Hid (Below w.heap.size w wr)) (fun i _ => n - (intOf i).toNat)
  case atStart => exact ⟨0, by omega, rfl, rightTo_zero zs, Below.refl _ _⟩
  case round =>
    obtain ⟨k, hk, rfl, HA, HB⟩ := hrel
    have hsz : w.heap.size ≤ wr.heap.size := HB.out.size
    by_cases hlt : k < n
    · obtain ⟨blk, off, rfl, hbB, hc1, hc2⟩ := HZ.out.cells (HB.out.mono hB) (k := k) hlt
      have hkz : k < zs.length := by have := HL.out; omega
      obtain ⟨x, hx⟩ : ∃ x, zs.getD k atNil = x := ⟨_, rfl⟩
      rw [hx] at hc1 hc2
      cases hr : rightL x.1.data.toList
      · have HF : Hid (rightV zs = false) := rightV_no hkz (Or.inl (by rw [hx]; exact okAt_no (Or.inl hr)))
        have HR := Lib.hid hr
        clear hr hx hkz
        go_wp2_with fail
        refine (right_is _ false HR _).mono ?_
        rintro e w' ⟨rfl, rfl⟩
        go_wp2
        go_ret
        exact ⟨ret_bool HF.out.symm, HB.out.alloc hsz _⟩
      · by_cases h1 : x.2 < 1
        · have HF : Hid (rightV zs = false) := rightV_no hkz (Or.inl (by rw [hx]; exact okAt_no (Or.inr (Or.inl h1))))
          have HR := Lib.hid hr
          clear hr hx hkz
          go_wp2_with fail
          refine (right_is _ true HR _).mono ?_
          rintro e w' ⟨rfl, rfl⟩
          go_wp2
          go_ret
          exact ⟨ret_bool HF.out.symm, HB.out.alloc hsz _⟩
        · by_cases h2 : 1048576 < x.2
          · have HF : Hid (rightV zs = false) := rightV_no hkz (Or.inl (by rw [hx]; exact okAt_no (Or.inr (Or.inr h2))))
            have HR := Lib.hid hr
            clear hr hx hkz
            go_wp2_with fail
            refine (right_is _ true HR _).mono ?_
            rintro e w' ⟨rfl, rfl⟩
            go_wp2
            go_ret
            exact ⟨ret_bool HF.out.symm, HB.out.alloc hsz _⟩
          · have HOK : Hid (okAt (zs.getD k atNil) = true) := by show _ = _; rw [hx]; exact okAt_yes hr h1 h2
            have HR := Lib.hid hr
            by_cases h0 : k = 0
            · have HN : Hid (RightTo zs (k + 1)) := rightTo_succ HA.out HOK.out (fun h => absurd h (by omega))
              have hgd : decide (0 < k) = false := by simp; omega
              clear hr hx hkz h0
              go_wp2_with fail
              refine (right_is _ true HR _).mono ?_
              rintro e w' ⟨rfl, rfl⟩
              go_wp2
              go_quiet (fail)
              go_wp2
              go_roundw
              case rel => exact ⟨k + 1, by omega, by go_num, HN, below_drewN (HB.out.alloc hsz _) _⟩
              case measure => simp [intOf]; omega
            · obtain ⟨b2, o2, e2, hb2, hd1, hd2⟩ := HZ.out.cells (HB.out.mono hB) (k := k - 1) (by omega)
              injection e2 with e2
              injection e2 with e2 e3
              subst e2 e3
              have hblk : blk < wr.heap.size := by omega
              have hg0 : (0 : Int) < (k : Int) := by omega
              have hgd : decide (0 < k) = true := by simp; omega
              have hi0 : (1 : Int) ≤ (k : Int) := by omega
              have hi1 : (0 : Int) ≤ (k : Int) - 1 := by omega
              have hi2 : (k : Int) - 1 < (n : Int) := by omega
              have hi3 : ((k : Int) - 1).toNat = k - 1 := by omega
              have hi4 : IntKind.i64.wrap ((k : Int) - 1) = (k : Int) - 1 := IntWalk.i64_in _ (by omega)
              obtain ⟨y, hy⟩ : ∃ y, cmpId (zs.getD (k - 1) atNil).1 x.1 = y := ⟨_, rfl⟩
              generalize hpv : zs.getD (k - 1) atNil = pv at hd1 hd2 hy
              have HY : Hid (Lib.compareBytes pv.1.data.toList x.1.data.toList = y) := hy
              by_cases hge : 0 ≤ y
              · have HF : Hid (rightV zs = false) := rightV_no hkz (Or.inr ⟨by omega, by rw [hpv, hx]; omega⟩)
                clear hr hx hkz hy hpv
                go_wp2_with fail
                refine (right_is _ true HR _).mono ?_
                rintro e w' ⟨rfl, rfl⟩
                go_wp2
                go_quiet ((go_at_call 150; exact quiet_same (compare_is _ _ _ HY _)))
                go_wp2
                go_ret
                exact ⟨ret_bool HF.out.symm, below_drewN (HB.out.alloc hsz _) _⟩
              · have HN : Hid (RightTo zs (k + 1)) := rightTo_succ HA.out HOK.out (fun _ => by rw [hpv, hx]; omega)
                clear hr hx hkz hy hpv
                go_wp2_with fail
                refine (right_is _ true HR _).mono ?_
                rintro e w' ⟨rfl, rfl⟩
                go_wp2
                go_quiet ((go_at_call 150; exact quiet_same (compare_is _ _ _ HY _)))
                go_wp2
                go_roundw
                case rel => exact ⟨k + 1, by omega, by go_num, HN, below_drewN (HB.out.alloc hsz _) _⟩
                case measure => simp [intOf]; omega
    · have hke : k = zs.length := by have := HL.out; omega
      have HF : Hid (rightV zs = true) := (rightV_iff zs).mpr (hke ▸ HA.out)
      clear hke
      go_wp2
      go_ret
      exact ⟨ret_bool HF.out.symm, HB.out⟩
end Go.Proofs.YtbookbgfipbaoaaGreatDoor

/- vec.Join: of each the greater one. -/
namespace Go.Proofs.YtbookbgfipbaoaaGreatDoor
open Go.RowKit

/-- The answer is the row zs, in a row of the call's own, from block B on; nothing that was there has turned. -/
def OwnVec (B : Nat) (ty : TypeId) (zs : List At) (w : World) (e : Ending) (w' : World) : Prop :=
  ∃ A c, e = .returned (.slice A zs.length c) ∧ zs.length ≤ c ∧ w'.ownsRow B ty 2 (.slice A zs.length c) zs.length (atCells zs) ∧ Below w.heap.size w w'
theorem own_cap {w : World} {B : Nat} {e : TypeId} {A : Option Addr} {n c : Nat} {xs : List Value} (h : w.ownsRow B e 2 (.slice A n c) n xs) : n ≤ c := by
  rcases h.2 with ⟨hv, rfl⟩ | ⟨g, cap, cur, hv, _, _, hnc, _⟩
  · exact Nat.zero_le _
  · injection hv with _ _ h3; omega

end Go.Proofs.YtbookbgfipbaoaaGreatDoor

/- vec.Join walked. -/
namespace Go.Proofs.YtbookbgfipbaoaaGreatDoor
open Go.RowKit

end Go.Proofs.YtbookbgfipbaoaaGreatDoor

/- vec.Set and vec.Meet. -/
namespace Go.Proofs.YtbookbgfipbaoaaGreatDoor
open Go.RowKit

theorem ownVec_ret {B : Nat} {ty : TypeId} {zs : List At} {w w' : World} {A : Option Addr} {n c : Nat} (hl : zs.length = n) (hc : n ≤ c) (ho : w'.ownsRow B ty 2 (.slice A n c) n (atCells zs)) (hb : Below w.heap.size w w') : OwnVec B ty zs w (.returned (.slice A n c)) w' := by
  subst hl
  exact ⟨A, c, rfl, hc, ho, hb⟩

end Go.Proofs.YtbookbgfipbaoaaGreatDoor

/- The law's own little check 'told'. -/
namespace Go.Proofs.YtbookbgfipbaoaaGreatDoor
open Go.RowKit

end Go.Proofs.YtbookbgfipbaoaaGreatDoor

/- The law's To, the document's Right of a Vec, and VecRights walked. -/
namespace Go.Proofs.YtbookbgfipbaoaaGreatDoor
open Go.RowKit

theorem take_snoc {zs : List At} {k : Nat} (hk : k < zs.length) : zs.take (k + 1) = zs.take k ++ [zs.getD k atNil] := by
  rw [List.take_succ_eq_append_getElem hk, List.getD_eq_getElem?_getD, List.getElem?_eq_getElem hk]; rfl
/-- A copy, half way. -/
def CopyRel (w : World) (ty : TypeId) (zs : List At) (k : Nat) (Av : Option Addr) (cv : Nat) (wr : World) : Prop :=
  wr.ownsRow w.heap.size ty 2 (.slice Av k cv) k (atCells (zs.take k)) ∧ Below w.heap.size w wr

set_option maxRecDepth 100000 in
set_option maxHeartbeats 4000000 in
theorem to_any (A : Option Addr) (n c : Nat) (zs : List At) (B : Nat) (w : World) (hB : B ≤ w.heap.size) (hz : VecAt w B A n zs) (hn : n ≤ 1073741824) :
    Calls Tryz.prog 29 #[.slice A n c] w (OwnVec w.heap.size 95 zs w) := by
  have hl : zs.length = n := hz.1
  have HL := Lib.hid hl
  have HZ := Lib.hid hz
  clear hl hz
  go_enter Tryz.func29, Tryz.ntmps29
  go_wp2
  go_loopw [3, 4] (fun v i wr => ∃ (k : Nat) (Av : Option Addr) (cv : Nat), k ≤ n ∧ i = .int .i64 k ∧ v = .slice Av k cv ∧ Hid (CopyRel w 95 zs k Av cv wr)) (fun _ i _ => n - (intOf i).toNat)
  case atStart => exact ⟨0, none, 0, by omega, rfl, rfl, own_nil _ _ _, Below.refl _ _⟩
  case round =>
    obtain ⟨k, Av, cv, hk, rfl, rfl, HC⟩ := hrel
    obtain ⟨hown, hbel⟩ := HC.out
    have HOw := Lib.hid hown
    have HB := Lib.hid hbel
    have hsz : w.heap.size ≤ wr.heap.size := hbel.size
    clear hown hbel HC
    by_cases hlt : k < n
    · obtain ⟨blk, off, rfl, hbB, hc1, hc2⟩ := HZ.out.cells (HB.out.mono hB) (k := k) hlt
      have hts := take_snoc (zs := zs) (k := k) (by have := HL.out; omega)
      generalize zs.getD k atNil = x at hc1 hc2 hts
      have HTS := Lib.hid hts
      have hblk : blk < wr.heap.size := by omega
      have hne : some blk ≠ Value.ownBlock (.slice Av k cv) := fun e => by have := (own_lt HOw.out e.symm).1; omega
      have hi0 : (0 : Int) ≤ (k : Int) := by omega
      have hi1 : (k : Int) < (n : Int) := by omega
      clear hts
      go_wp2_with fail
      go_region_held3 (fun w' => w'.cell? ⟨blk, off + k * 2, none⟩ = some (.string x.1) ∧ w'.cell? ⟨blk, off + k * 2 + 1, none⟩ = some (.int .i64 x.2))
        (first | go_keep | (go_split_ands; refine ⟨(hg3.cell_far _ (by simp; omega) hne).trans (by assumption), (hg3.cell_far _ (by simp; omega) hne).trans (by assumption)⟩))
        ((refine step_append_at (B := w.heap.size) (v := .slice Av k cv) (n := k) (zs := zs.take k) (m := 1) (ys := [x]) vecTy (by rfl) _ _ (by rfl) (by rfl) (HOw.out.alloc _).drew (by rfl) (one_at (heap_alloc_new wr _)) (by omega) (by simp; omega) ?_; intro A3 c3 w3 hown3 hg3 hat3))
      rw [← HTS.out] at hown3
      have HC3 : Hid (CopyRel w 95 zs (k + 1) A3 c3 w3) := ⟨hown3, (HB.out.alloc hsz _).drew.trans (grown_below hg3 (by simp; omega) (fun g e => (own_lt HOw.out e).1))⟩
      clear hown3 hg3 hat3
      go_wp2_with fail
      go_roundw
      case rel => exact ⟨k + 1, A3, c3, by omega, by go_num, rfl, HC3⟩
      case measure => simp [intOf]; omega
    · obtain rfl : k = n := by omega
      have HT : Hid (zs.take k = zs) := List.take_of_length_le (by have := HL.out; omega)
      go_wp2
      go_ret
      exact ownVec_ret HL.out (own_cap HOw.out) (by have := HOw.out; rwa [HT.out] at this) HB.out

theorem rcompare_is (a b : ByteArray) (x : Int) (h : Hid (Lib.compareBytes a.data.toList b.data.toList = x)) (w : World) (ha : Hid (a.size ≤ 9223372036854775807)) :
    Calls Tryz.prog 104 #[.string a, .string b] w fun e w' => e = .returned (.int .i64 x) ∧ Hid (Drawn w w') := by
  rw [← h.out]; exact rcompare_any a b w ha.out

theorem drawn_below {w w' : World} (h : Drawn w w') (B : Nat) : Below B w w' := by
  obtain ⟨n, rfl⟩ := h
  exact below_drewN (Below.refl _ _) n

/-- Each id is as short as a string of the machine may be. -/
def Short (zs : List At) : Prop := ∀ k, (zs.getD k atNil).1.size ≤ 9223372036854775807

set_option maxRecDepth 100000 in
set_option maxHeartbeats 8000000 in
theorem rrightv_any (A : Option Addr) (n c : Nat) (zs : List At) (B : Nat) (w : World) (hz : VecAt w B A n zs) (hn : n ≤ 1099511627776) (hsh : Short zs) :
    Calls Tryz.prog 108 #[.slice A n c] w fun e w' => e = .returned (.bool (rightV zs)) ∧ Hid (Drawn w w') := by
  have hl : zs.length = n := hz.1
  have HL := Lib.hid hl
  have HZ := Lib.hid hz
  have HSH := Lib.hid hsh
  clear hl hz hsh
  go_enter Tryz.func108, Tryz.ntmps108
  go_wp2
  go_loopw [3] (fun i wr => ∃ (k : Nat), k ≤ n ∧ i = .int .i64 k ∧ Hid (RightTo zs k) ∧ Hid (Drawn w wr)) (fun i _ => n - (intOf i).toNat)
  case atStart => exact ⟨0, by omega, rfl, rightTo_zero zs, Drawn.refl w⟩
  case round =>
    obtain ⟨k, hk, rfl, HA, HD⟩ := hrel
    by_cases hlt : k < n
    · obtain ⟨blk, off, rfl, hbB, hc1, hc2⟩ := HZ.out.cells (drawn_below HD.out B) (k := k) hlt
      have hkz : k < zs.length := by have := HL.out; omega
      have hi0 : (0 : Int) ≤ (k : Int) := by omega
      have hi1 : (k : Int) < (n : Int) := by omega
      obtain ⟨x, hx⟩ : ∃ x, zs.getD k atNil = x := ⟨_, rfl⟩
      rw [hx] at hc1 hc2
      cases hr : rightL x.1.data.toList
      · have HF : Hid (rightV zs = false) := rightV_no hkz (Or.inl (by rw [hx]; exact okAt_no (Or.inl hr)))
        have HR := Lib.hid hr
        clear hr hx hkz
        go_wp2_with fail
        go_quiet ((go_at_call 33; exact quiet_same (rright_is _ false HR _)))
        go_wp2
        go_ret
        exact ⟨ret_bool HF.out.symm, HD.out.more _⟩
      · have HR := Lib.hid hr
        by_cases h1 : x.2 < 1
        · have HF : Hid (rightV zs = false) := rightV_no hkz (Or.inl (by rw [hx]; exact okAt_no (Or.inr (Or.inl h1))))
          have g1 : decide (x.2 < 1) = true := decide_eq_true h1
          clear hr hx hkz
          go_wp2_with fail
          go_quiet ((go_at_call 33; exact quiet_same (rright_is _ true HR _)))
          go_wp2
          go_ret
          exact ⟨ret_bool HF.out.symm, HD.out.more _⟩
        · have g1 : decide (x.2 < 1) = false := decide_eq_false h1
          by_cases h2 : 1048576 < x.2
          · have HF : Hid (rightV zs = false) := rightV_no hkz (Or.inl (by rw [hx]; exact okAt_no (Or.inr (Or.inr h2))))
            have g2 : decide (1048576 < x.2) = true := decide_eq_true h2
            clear hr hx hkz
            go_wp2_with fail
            go_quiet ((go_at_call 33; exact quiet_same (rright_is _ true HR _)))
            go_wp2
            go_ret
            exact ⟨ret_bool HF.out.symm, HD.out.more _⟩
          · have g2 : decide (1048576 < x.2) = false := decide_eq_false h2
            have HOK : Hid (okAt (zs.getD k atNil) = true) := by show _ = _; rw [hx]; exact okAt_yes hr h1 h2
            by_cases h0 : k = 0
            · have HN : Hid (RightTo zs (k + 1)) := rightTo_succ HA.out HOK.out (fun h => absurd h (by omega))
              have hgd : decide (0 < k) = false := by simp; omega
              clear hr hx hkz h0
              go_wp2_with fail
              go_quiet ((go_at_call 33; exact quiet_same (rright_is _ true HR _)))
              go_wp2
              go_roundw
              case rel => exact ⟨k + 1, by omega, by go_num, HN, HD.out.more _⟩
              case measure => simp [intOf]; omega
            · obtain ⟨b2, o2, e2, hb2, hd1, hd2⟩ := HZ.out.cells (drawn_below HD.out B) (k := k - 1) (by omega)
              injection e2 with e2
              injection e2 with e2 e3
              subst e2 e3
              have hg0 : (0 : Int) < (k : Int) := by omega
              have hgd : decide (0 < k) = true := by simp; omega
              have hj0 : (1 : Int) ≤ (k : Int) := by omega
              have hj1 : (0 : Int) ≤ (k : Int) - 1 := by omega
              have hj2 : (k : Int) - 1 < (n : Int) := by omega
              have hj3 : ((k : Int) - 1).toNat = k - 1 := by omega
              have hj4 : IntKind.i64.wrap ((k : Int) - 1) = (k : Int) - 1 := IntWalk.i64_in _ (by omega)
              obtain ⟨y, hy⟩ : ∃ y, cmpId (zs.getD (k - 1) atNil).1 x.1 = y := ⟨_, rfl⟩
              have HSZ : Hid ((zs.getD (k - 1) atNil).1.size ≤ 9223372036854775807) := HSH.out (k - 1)
              generalize hpv : zs.getD (k - 1) atNil = pv at hd1 hd2 hy HSZ
              have HY : Hid (Lib.compareBytes pv.1.data.toList x.1.data.toList = y) := hy
              by_cases hge : 0 ≤ y
              · have HF : Hid (rightV zs = false) := rightV_no hkz (Or.inr ⟨by omega, by rw [hpv, hx]; omega⟩)
                clear hr hx hkz hy hpv
                go_wp2_with fail
                go_quiet (first | (go_at_call 33; exact quiet_same (rright_is _ true HR _)) | (go_at_call 104; exact quiet_drawn (rcompare_is _ _ _ HY _ HSZ)))
                go_wp2
                go_ret
                exact ⟨ret_bool HF.out.symm, HD.out.more _⟩
              · have HN : Hid (RightTo zs (k + 1)) := rightTo_succ HA.out HOK.out (fun _ => by rw [hpv, hx]; omega)
                clear hr hx hkz hy hpv
                go_wp2_with fail
                go_quiet (first | (go_at_call 33; exact quiet_same (rright_is _ true HR _)) | (go_at_call 104; exact quiet_drawn (rcompare_is _ _ _ HY _ HSZ)))
                go_wp2
                go_roundw
                case rel => exact ⟨k + 1, by omega, by go_num, HN, HD.out.more _⟩
                case measure => simp [intOf]; omega
    · have hke : k = zs.length := by have := HL.out; omega
      have HF : Hid (rightV zs = true) := (rightV_iff zs).mpr (hke ▸ HA.out)
      clear hke
      go_wp2
      go_ret
      exact ⟨ret_bool HF.out.symm, HD.out⟩

end Go.Proofs.YtbookbgfipbaoaaGreatDoor

/- The document's Of and Drop, and vec.Drop. -/
namespace Go.Proofs.YtbookbgfipbaoaaGreatDoor
open Go.RowKit

theorem beq_yes {a b : ByteArray} (h : a = b) : (a.toList == b.toList) = true := by
  subst h; exact beq_self_eq_true _
theorem beq_no {a b : ByteArray} (h : a ≠ b) : (a.toList == b.toList) = false := by
  rw [Go.ByteArray.toList_eq, Go.ByteArray.toList_eq]
  exact beq_eq_false_iff_ne.mpr fun e => h (ByteArray.ext (Array.ext' e))

end Go.Proofs.YtbookbgfipbaoaaGreatDoor

/- Rows of texts: how they lie; the law's To and From of ids. -/
namespace Go.Proofs.YtbookbgfipbaoaaGreatDoor
open Go.RowKit

def cellsT (s : ByteArray) : List Value := [.string s]
def zeroT : Value := .string ⟨#[]⟩
theorem cellsT_one : ∀ x, ∀ u ∈ cellsT x, u.oneCell' = true := by
  intro x u hu
  simp only [cellsT, List.mem_singleton] at hu
  subst hu
  rfl
theorem rowT : RowTy cellsT 1 16 zeroT 36 33 := ⟨Tryz.underlying36, by kernel_rfl, rfl, by omega, by omega, fun _ => rfl, cellsT_one⟩
theorem RowAt.text {w wr : World} {B : Nat} {A : Option Addr} {n : Nat} {zs : List ByteArray} (h : RowAt cellsT 1 w B A n zs) (hb : Below B w wr) {k : Nat} (hk : k < n) :
    ∃ blk off s, A = some ⟨blk, off, none⟩ ∧ blk < B ∧ zs[k]? = some s ∧ wr.cell? ⟨blk, off + k, none⟩ = some (.string s) := by
  obtain ⟨b, off, e, hlt, z, hz, hc⟩ := h.get hk
  refine ⟨b, off, z, e, hlt, hz, ?_⟩
  have := hc 0 (.string z) rfl
  rw [Nat.mul_one, Nat.add_zero] at this
  exact (hb.cell (p := ⟨b, off + k, none⟩) hlt).trans this
theorem snocT {zs : List ByteArray} {k : Nat} {z : ByteArray} (h : zs[k]? = some z) : zs.take (k + 1) = zs.take k ++ [z] := by
  rw [List.take_add_one, h]
  rfl
/-- A copy, half way. -/
def CopyT (e : TypeId) (w : World) (zs : List ByteArray) (k : Nat) (Av : Option Addr) (cv : Nat) (wr : World) : Prop :=
  wr.ownsRow w.heap.size e 1 (.slice Av k cv) k (rowCells cellsT (zs.take k)) ∧ Below w.heap.size w wr

set_option maxRecDepth 100000 in
set_option maxHeartbeats 4000000 in
theorem idTo_any (A : Option Addr) (n c : Nat) (zs : List ByteArray) (B : Nat) (w : World) (hB : B ≤ w.heap.size) (hz : RowAt cellsT 1 w B A n zs) (hn : n ≤ 1073741824) :
    Calls Tryz.prog 28 #[.slice A n c] w (OwnRow cellsT 1 33 zs w) := by
  have hl : zs.length = n := hz.1
  have HL := Lib.hid hl
  have HZ := Lib.hid hz
  clear hl hz
  go_enter Tryz.func28, Tryz.ntmps28
  go_wp2
  go_loopw [3, 4] (fun v i wr => ∃ (k : Nat) (Av : Option Addr) (cv : Nat), k ≤ n ∧ i = .int .i64 k ∧ v = .slice Av k cv ∧ Hid (CopyT 33 w zs k Av cv wr)) (fun _ i _ => n - (intOf i).toNat)
  case atStart => exact ⟨0, none, 0, by omega, rfl, rfl, rown_nil _ _, Below.refl _ _⟩
  case round =>
    obtain ⟨k, Av, cv, hk, rfl, rfl, HC⟩ := hrel
    obtain ⟨hown, hbel⟩ := HC.out
    have HOw := Lib.hid hown
    have HB := Lib.hid hbel
    have hsz := hbel.size
    clear hown hbel HC
    by_cases hlt : k < n
    · obtain ⟨blk, off, s, rfl, hbB, hzk, hc⟩ := HZ.out.text (HB.out.mono hB) hlt
      have HTS := Lib.hid (snocT hzk)
      have hi1 : (k : Int) < (n : Int) := by omega
      have HR1 : Hid (RowAt cellsT 1 (wr.alloc (.cells #[.string s] 33)) (wr.heap.size + 1) (some ⟨wr.heap.size, 0, none⟩) 1 [s]) := one_row rowT (heap_alloc_new wr _)
      have HO1 := Lib.hid (HOw.out.alloc (.cells #[.string s] 33))
      clear hzk
      go_wp2_with (at_builtin; refine wpList_append_row rowT (B := w.heap.size) (v := .slice Av k cv) (n := k) (zs := zs.take k) (m := 1) (ys := [s]) rfl _ _ rfl rfl HO1.out rfl HR1.out (by omega) (by simp; omega) ?_; intro A3 c3 w3 hown3 hg3 hat3)
      rw [← HTS.out] at hown3
      have HC3 : Hid (CopyT 33 w zs (k + 1) A3 c3 w3) := ⟨hown3, (HB.out.alloc hsz _).grown hg3 (Nat.le_trans hsz (by simp)) (fun g e => (HOw.out.lt g e).1)⟩
      clear hown3 hg3 hat3
      go_wp2
      go_roundw
      case rel => exact ⟨k + 1, A3, c3, by omega, by go_num, rfl, HC3⟩
      case measure => simp [intOf]; omega
    · obtain rfl : k = n := by omega
      have HT : Hid (zs.take k = zs) := List.take_of_length_le (by have := HL.out; omega)
      go_wp2
      go_ret
      refine ⟨Av, cv, by rw [HL.out]; rfl, ?_, HB.out⟩
      have := HOw.out
      rw [HT.out] at this
      rwa [HL.out]

end Go.Proofs.YtbookbgfipbaoaaGreatDoor

/- frame: what a part's Put leaves; numbers, texts, items. -/
namespace Go.Proofs.YtbookbgfipbaoaaGreatDoor
open Go.RowKit

/-- Between w and w' the row v of the call's own (bytes, in a block from B on) came to be v', with the bytes bs; nothing else turned. -/
structure Grew (B : Nat) (v : Value) (w : World) (v' : Value) (n : Nat) (bs : List UInt8) (w' : World) : Prop where
  own : w'.ownsRow B 5 1 v' n (By.bytesV bs)
  grown : w.grownBy w' v.ownBlock
  ap : ∀ b, b < w.heap.size → v.ownBlock ≠ some b → v'.ownBlock ≠ some b
theorem Grew.refl {B : Nat} {v : Value} {w : World} {n : Nat} {bs : List UInt8} (h : w.ownsRow B 5 1 v n (By.bytesV bs)) : Grew B v w v n bs w := ⟨h, World.grownBy.refl w _, fun _ _ h => h⟩
theorem Grew.trans {B : Nat} {v v1 v2 : Value} {w w1 w2 : World} {n1 n2 : Nat} {b1 b2 : List UInt8} (h : Grew B v w v1 n1 b1 w1) (k : Grew B v1 w1 v2 n2 b2 w2) : Grew B v w v2 n2 b2 w2 :=
  ⟨k.own, ⟨k.grown.os.trans h.grown.os, k.grown.tape.trans h.grown.tape, k.grown.output.trans h.grown.output, Nat.le_trans h.grown.size k.grown.size, fun b hb hne =>
    (k.grown.block b (Nat.lt_of_lt_of_le hb h.grown.size) (fun e => h.ap b hb (fun e2 => hne e2.symm) e.symm)).trans (h.grown.block b hb hne)⟩,
   fun b hb hne => k.ap b (Nat.lt_of_lt_of_le hb h.grown.size) (h.ap b hb hne)⟩
theorem Grew.below {B : Nat} {v v1 : Value} {w w1 w2 : World} {n : Nat} {bs : List UInt8} (h : Grew B v w v1 n bs w1) (hb : Below w1.heap.size w1 w2) : Grew B v w v1 n bs w2 :=
  ⟨By.own_below h.own hb, h.grown.trans (By.grown_of_below hb _), h.ap⟩
theorem Grew.before {B : Nat} {v v1 : Value} {w w1 w2 : World} {n : Nat} {bs : List UInt8} (hb : Below w.heap.size w w1) (h : Grew B v w1 v1 n bs w2) : Grew B v w v1 n bs w2 :=
  ⟨h.own, (By.grown_of_below hb _).trans h.grown, fun b hlt hne => h.ap b (Nat.lt_of_lt_of_le hlt hb.size) hne⟩
theorem Grew.cell {B : Nat} {v v1 : Value} {w w1 : World} {n : Nat} {bs : List UInt8} (h : Grew B v w v1 n bs w1) {b : Nat} (hb : b < w.heap.size) (hne : v.ownBlock ≠ some b) (o : Nat) : w1.cell? ⟨b, o, none⟩ = w.cell? ⟨b, o, none⟩ :=
  h.grown.cell_far ⟨b, o, none⟩ hb (fun e => hne e.symm)
theorem Grew.frozen {B : Nat} {v v1 : Value} {w w1 : World} {n : Nat} {bs : List UInt8} (h : Grew B v w v1 n bs w1) {b : Nat} (hb : b < w.heap.size) (hne : v.ownBlock ≠ some b) (o : Nat) : w1.frozen? ⟨b, o, none⟩ = w.frozen? ⟨b, o, none⟩ :=
  h.grown.frozen_far ⟨b, o, none⟩ hb (fun e => hne e.symm)
/-- What lies below B stays. -/
theorem Grew.low {B : Nat} {v v1 : Value} {w w1 : World} {n n1 : Nat} {bs : List UInt8} {xs : List Value} (h : Grew B v w v1 n1 bs w1) (ho : w.ownsRow B 5 1 v n xs) (hB : B ≤ w.heap.size) : Below B w w1 :=
  ⟨h.grown.os, h.grown.tape, h.grown.output, h.grown.size, fun b hb => h.grown.block b (by omega) (fun e => by have := (ho.lt b e.symm).1; omega)⟩
/-- A block that came behind the row is not the row's. -/
theorem own_ne {w : World} {B : Nat} {v : Value} {n : Nat} {xs : List Value} (h : w.ownsRow B 5 1 v n xs) {b : Nat} (hb : w.heap.size ≤ b) : v.ownBlock ≠ some b := fun e => by
  have := (h.lt b e).2; omega
theorem Grew.laid {B : Nat} {v v1 : Value} {w w1 : World} {n : Nat} {bs : List UInt8} (ho : w1.ownsRow B 5 1 v1 n (By.bytesV bs)) (hg : w.grownBy w1 v.ownBlock) (hd : v1.ownBlock = v.ownBlock ∨ v1.ownBlock = some w.heap.size) : Grew B v w v1 n bs w1 :=
  ⟨ho, hg, fun b hlt hne => by
    rcases hd with e | e
    · rw [e]; exact hne
    · rw [e]; exact fun e2 => by injection e2 with e2; omega⟩
def PutRet (B : Nat) (v : Value) (bs : List UInt8) (w : World) (e : Ending) (w' : World) : Prop :=
  ∃ A c, e = .returned (.slice A bs.length c) ∧ Grew B v w (.slice A bs.length c) bs.length bs w'

def numB (n : Int) : List UInt8 := By.digitsF n.toNat
def txtB (s : ByteArray) : List UInt8 := By.digitsF s.size ++ s.data.toList
set_option maxRecDepth 100000 in
set_option maxHeartbeats 4000000 in
theorem putNum_any (A : Option Addr) (c : Nat) (bs : List UInt8) (B : Nat) (n : Int) (w : World) (hown : w.ownsRow B 5 1 (.slice A bs.length c) bs.length (By.bytesV bs)) (hB : B ≤ w.heap.size) (hl : bs.length ≤ 1099511627776) (hn : n ≤ 9223372036854775807) :
    Calls Tryz.prog 37 #[.slice A bs.length c, .int .i64 n] w (PutRet B (.slice A bs.length c) (bs ++ numB n) w) := by
  have HO := Lib.hid hown
  have HC : Hid (Calls Tryz.prog 109 #[.slice none 0 0, .int .i64 n] w (By.OwnBytes (numB n) w)) := by have := By.put_any none 0 0 [] n w (By.BytesAt.nil _ _ _) (by simp) hn; rw [List.nil_append] at this; exact this
  clear hown
  generalize hX : numB n = X at *
  have hx : X.length ≤ 1099511627776 := by rw [← hX]; have h1 := By.digits_le n hn; unfold numB; omega
  clear hX
  go_enter Tryz.func37, Tryz.ntmps37
  go_wp2_with fail
  refine (HC.out).mono ?_
  rintro e w1 ⟨A1, c1, rfl, hown, hb⟩
  obtain ⟨g1, hz, _, _, _⟩ := By.own_bytes hown
  have HZ := Lib.hid hz
  have HB := Lib.hid hb
  have HO1 := Lib.hid (By.own_below HO.out hb)
  have hB1 : B ≤ w1.heap.size := Nat.le_trans hB hb.size
  clear hown hz hb HC
  go_wp2_with (at_builtin; refine By.wpList_append_bytes (B := B) (g := g1) (v := .slice A bs.length c) (n := bs.length) (zs := bs) (A := A1) (m := X.length) (c := c1) (ys := X) rfl _ _ rfl rfl HO1.out rfl HZ.out (by omega) hB1 ?_; intro A3 c3 w3 hown3 hg3 hd3; have HG : Hid (Grew B (.slice A bs.length c) w1 (.slice A3 (bs.length + X.length) c3) (bs.length + X.length) (bs ++ X) w3) := Grew.laid hown3 hg3 hd3; clear hown3 hg3 hd3)
  go_ret
  refine ⟨A3, c3, ?_, ?_⟩
  · rw [List.length_append]; rfl
  · rw [List.length_append]; exact HG.out.before HB.out
set_option maxRecDepth 100000 in
set_option maxHeartbeats 4000000 in
theorem putText_any (A : Option Addr) (c : Nat) (bs : List UInt8) (B : Nat) (s : ByteArray) (w : World) (hown : w.ownsRow B 5 1 (.slice A bs.length c) bs.length (By.bytesV bs)) (hB : B ≤ w.heap.size) (hl : bs.length ≤ 1099511627776) (hs : s.size ≤ 500000000) :
    Calls Tryz.prog 46 #[.slice A bs.length c, .string s] w (PutRet B (.slice A bs.length c) (bs ++ txtB s) w) := by
  have HO := Lib.hid hown
  have HC : Hid (Calls Tryz.prog 111 #[.slice none 0 0, .string s] w (By.OwnBytes (txtB s) w)) := by have := By.putText_any none 0 0 [] s w (By.BytesAt.nil _ _ _) (by simp) hs; rw [List.nil_append] at this; exact this
  clear hown
  generalize hX : txtB s = X at *
  have hx : X.length ≤ 1099511627776 := by rw [← hX]; have h1 := By.digits_le (s.size : Int) (by omega); rw [Int.toNat_natCast] at h1; have e : s.data.size = s.size := rfl; unfold txtB; rw [List.length_append, show s.data.toList.length = s.size from Array.length_toList]; omega
  clear hX
  go_enter Tryz.func46, Tryz.ntmps46
  go_wp2_with fail
  refine (HC.out).mono ?_
  rintro e w1 ⟨A1, c1, rfl, hown, hb⟩
  obtain ⟨g1, hz, _, _, _⟩ := By.own_bytes hown
  have HZ := Lib.hid hz
  have HB := Lib.hid hb
  have HO1 := Lib.hid (By.own_below HO.out hb)
  have hB1 : B ≤ w1.heap.size := Nat.le_trans hB hb.size
  clear hown hz hb HC
  go_wp2_with (at_builtin; refine By.wpList_append_bytes (B := B) (g := g1) (v := .slice A bs.length c) (n := bs.length) (zs := bs) (A := A1) (m := X.length) (c := c1) (ys := X) rfl _ _ rfl rfl HO1.out rfl HZ.out (by omega) hB1 ?_; intro A3 c3 w3 hown3 hg3 hd3; have HG : Hid (Grew B (.slice A bs.length c) w1 (.slice A3 (bs.length + X.length) c3) (bs.length + X.length) (bs ++ X) w3) := Grew.laid hown3 hg3 hd3; clear hown3 hg3 hd3)
  go_ret
  refine ⟨A3, c3, ?_, ?_⟩
  · rw [List.length_append]; rfl
  · rw [List.length_append]; exact HG.out.before HB.out
set_option maxRecDepth 100000 in
set_option maxHeartbeats 4000000 in
theorem putItem_any (A : Option Addr) (c : Nat) (bs : List UInt8) (B : Nat) (i : By.Itm) (w : World) (hown : w.ownsRow B 5 1 (.slice A bs.length c) bs.length (By.bytesV bs)) (hB : B ≤ w.heap.size) (hl : bs.length ≤ 1099511627776) (hr : By.rightI i = true) (hx : i.x.natAbs < 2 ^ 53) (hy : i.y.natAbs < 2 ^ 53) :
    Calls Tryz.prog 49 #[.slice A bs.length c, By.itmV i] w (PutRet B (.slice A bs.length c) (bs ++ By.bytesF i) w) := by
  have HO := Lib.hid hown
  have HC : Hid (∀ w, Calls Tryz.prog 114 #[.slice none 0 0, By.itmV i] w (By.OwnBytes (By.bytesF i) w)) := fun w => by have := By.itemPut_any none 0 0 [] i w (By.BytesAt.nil _ _ _) (by simp) hx hy; unfold By.putItm at this; rw [if_pos hr, List.nil_append] at this; exact this
  have hx := By.bytesF_len hr
  clear hown hy hr
  generalize By.bytesF i = X at *
  obtain ⟨key, ⟨d, a, s⟩, dead, x, y, text, held⟩ := i
  unfold By.itmV at *
  simp only at HC ⊢
  generalize fl x = fx at *
  generalize fl y = fy at *
  have HA : Hid (Below w.heap.size w (w.alloc (.cells #[.int .i64 key, .string d, .int .i64 a, .int .i64 s, .bool dead, .complex .f64 fx fy, .string text, .bool held] 114))) := (Below.refl _ _).alloc (Nat.le_refl _) _
  go_enter Tryz.func49, Tryz.ntmps49
  go_wp2_with fail
  refine (HC.out _).mono ?_
  rintro e w1 ⟨A1, c1, rfl, hown, hb⟩
  obtain ⟨g1, hz, _, _, _⟩ := By.own_bytes hown
  have HZ := Lib.hid hz
  have HB := Lib.hid (HA.out.trans (hb.mono HA.out.size))
  have HO1 := Lib.hid (By.own_below HO.out HB.out)
  have hB1 : B ≤ w1.heap.size := Nat.le_trans hB HB.out.size
  clear hown hz hb HC HA
  go_wp2_with (at_builtin; refine By.wpList_append_bytes (B := B) (g := g1) (v := .slice A bs.length c) (n := bs.length) (zs := bs) (A := A1) (m := X.length) (c := c1) (ys := X) rfl _ _ rfl rfl HO1.out rfl HZ.out (by omega) hB1 ?_; intro A3 c3 w3 hown3 hg3 hd3; have HG : Hid (Grew B (.slice A bs.length c) w1 (.slice A3 (bs.length + X.length) c3) (bs.length + X.length) (bs ++ X) w3) := Grew.laid hown3 hg3 hd3; clear hown3 hg3 hd3)
  go_ret
  refine ⟨A3, c3, ?_, ?_⟩
  · rw [List.length_append]; rfl
  · rw [List.length_append]; exact HG.out.before HB.out
set_option maxRecDepth 100000 in
theorem putId_any (A : Option Addr) (c : Nat) (bs : List UInt8) (B : Nat) (s : ByteArray) (w : World) (hown : w.ownsRow B 5 1 (.slice A bs.length c) bs.length (By.bytesV bs)) (hB : B ≤ w.heap.size) (hl : bs.length ≤ 1099511627776) (hs : s.size ≤ 500000000) :
    Calls Tryz.prog 38 #[.slice A bs.length c, .string s] w (PutRet B (.slice A bs.length c) (bs ++ txtB s) w) := by
  have HC := Lib.hid (putText_any A c bs B s w hown hB hl hs)
  clear hown
  generalize bs ++ txtB s = X at *
  go_enter Tryz.func38, Tryz.ntmps38
  go_wp2_with fail
  refine (HC.out).mono ?_
  rintro e w1 ⟨A1, c1, rfl, hg⟩
  have HG := Lib.hid hg
  clear hg HC
  go_wp2
  go_ret
  exact ⟨A1, c1, rfl, HG.out⟩

def truthF (b : Bool) : Int := if b then 1 else 0
set_option maxRecDepth 100000 in
theorem truth_any (b : Bool) (w : World) : Calls Tryz.prog 50 #[.bool b] w fun e w' => e = .returned (.int .i64 (truthF b)) ∧ w = w' := by
  cases b
  · go_enter Tryz.func50, Tryz.ntmps50
    go_wp2
    go_ret
    exact ⟨rfl, rfl⟩
  · go_enter Tryz.func50, Tryz.ntmps50
    go_wp2
    go_ret
    exact ⟨rfl, rfl⟩
end Go.Proofs.YtbookbgfipbaoaaGreatDoor

/- The document's put: one is just so far. -/
namespace Go.Proofs.YtbookbgfipbaoaaGreatDoor
open Go.RowKit

end Go.Proofs.YtbookbgfipbaoaaGreatDoor

/- Plain mathematics of Vecs: a rising row of numbers from 1 on is told by how far each one is; Join, Meet, Drop and put in these words. -/
namespace Go.Proofs.YtbookbgfipbaoaaGreatDoor

theorem right_iff (zs : List At) : rightV zs = true ↔ Rising zs ∧ ∀ x ∈ zs, okAt x = true := by
  rw [rightV_iff]
  constructor
  · intro h
    refine ⟨List.pairwise_iff_getElem.mpr fun i j hi hj hij => ?_, fun x hx => ?_⟩
    · have key : ∀ m, i + m + 1 < zs.length → cmpId (zs.getD i atNil).1 (zs.getD (i + m + 1) atNil).1 < 0 := by
        intro m
        induction m with
        | zero => intro hm; have := (h (i + 1) hm).2 (by omega); simpa using this
        | succ m ih =>
          intro hm
          have h1 := ih (by omega)
          have h2 := (h (i + (m + 1) + 1) hm).2 (by omega)
          exact cmpId_lt _ _ _ h1 (by rw [show i + (m + 1) + 1 - 1 = i + m + 1 by omega] at h2; omega)
      have := key (j - i - 1) (by omega)
      rw [show i + (j - i - 1) + 1 = j by omega] at this
      simpa [List.getD_eq_getElem?_getD, hi, hj] using this
    · obtain ⟨k, hk, e⟩ := mem_getD hx
      rw [← e]; exact (h k hk).1
  · rintro ⟨h1, h2⟩ j hj
    exact ⟨h2 _ (getD_mem hj), fun h0 => rising_lt h1 (j - 1) j (by omega) hj⟩
theorem okAt_pos {x : At} (h : okAt x = true) : 1 ≤ x.2 ∧ x.2 ≤ 1048576 ∧ rightL x.1.data.toList = true := by
  unfold okAt at h; simp at h; exact ⟨h.2.1, h.2.2, h.1⟩
end Go.Proofs.YtbookbgfipbaoaaGreatDoor

/- The document's put, Set and Within of a right Vec; the law's From. -/
namespace Go.Proofs.YtbookbgfipbaoaaGreatDoor
open Go.RowKit

/-- A Vec that may be. -/
def Good (zs : List At) : Prop := Rising zs ∧ ∀ x ∈ zs, okAt x = true
theorem good_iff (zs : List At) : rightV zs = true ↔ Good zs := right_iff zs
end Go.Proofs.YtbookbgfipbaoaaGreatDoor

/- The law's From; whether two Vecs are the same. -/
namespace Go.Proofs.YtbookbgfipbaoaaGreatDoor
open Go.RowKit

theorem fields_ref : Tryz.prog.fieldsOf 169 = #[{ name := "Id", type := 9, offset := 0, embedded := false, tag := "", pkgPath := "", byteOffset := 0 }, { name := "N", type := 3, offset := 1, embedded := false, tag := "", pkgPath := "", byteOffset := 16 }] := by
  unfold Program.fieldsOf
  rw [Tryz.underlying169]
theorem neq_ref (x y : At) (w : World) : (binOp .neq 169 (.agg #[.string x.1, .int .i64 x.2]) (.agg #[.string y.1, .int .i64 y.2])).run Tryz.prog w = .ok (.bool (!((x.1.toList == y.1.toList) && (x.2 == y.2)))) w := by
  rw [run_neq_struct, run_equalIn_struct w 9999 169 _ _ (by rw [fields_ref]; exact Tryz.underlying169) (by kernel_rfl), fields_ref]
  cases h1 : (x.1.toList == y.1.toList)
  · simp [Op.eqFields, go_sem, h1, Tryz.underlying9]
  · cases h2 : (x.2 == y.2)
    · simp [Op.eqFields, go_sem, h1, h2, Tryz.underlying9, Tryz.underlying3]
    · simp [Op.eqFields, go_sem, h1, h2, Tryz.underlying9, Tryz.underlying3]
theorem neq_same_ref (x : At) : ∀ W, (binOp .neq 169 (.agg #[.string x.1, .int .i64 x.2]) (.agg #[.string x.1, .int .i64 x.2])).run Tryz.prog W = .ok (.bool false) W := fun W => by
  rw [neq_ref x x W, beq_yes rfl]; simp
theorem neq_other_ref {x y : At} (h : ¬ x = y) : ∀ W, (binOp .neq 169 (.agg #[.string x.1, .int .i64 x.2]) (.agg #[.string y.1, .int .i64 y.2])).run Tryz.prog W = .ok (.bool true) W := fun W => by
  rw [neq_ref x y W]
  by_cases h1 : x.1 = y.1
  · have h2 : (x.2 == y.2) = false := by simp; exact fun e => h (Prod.ext h1 e)
    rw [beq_yes h1, h2]; rfl
  · rw [beq_no h1]; rfl
theorem guard_ref (op : BinOp) (p q : Operand) (xs ys : Array Value) (W : World) : (eqGuard op 169 p q (.agg xs) (.agg ys)).run Tryz.prog W = .ok () W := run_eqGuard_agg (P := Tryz.prog) W op 169 p q xs ys (by kernel_rfl)

theorem fields_vec : Tryz.prog.fieldsOf 95 = #[{ name := "Id", type := 33, offset := 0, embedded := false, tag := "", pkgPath := "", byteOffset := 0 }, { name := "N", type := 3, offset := 1, embedded := false, tag := "", pkgPath := "", byteOffset := 16 }] := by
  unfold Program.fieldsOf
  rw [Tryz.underlying95]
theorem neq_vec (x y : At) (w : World) : (binOp .neq 95 (.agg #[.string x.1, .int .i64 x.2]) (.agg #[.string y.1, .int .i64 y.2])).run Tryz.prog w = .ok (.bool (!((x.1.toList == y.1.toList) && (x.2 == y.2)))) w := by
  rw [run_neq_struct, run_equalIn_struct w 9999 95 _ _ (by rw [fields_vec]; exact Tryz.underlying95) (by kernel_rfl), fields_vec]
  cases h1 : (x.1.toList == y.1.toList)
  · simp [Op.eqFields, go_sem, h1, Tryz.underlying33]
  · cases h2 : (x.2 == y.2)
    · simp [Op.eqFields, go_sem, h1, h2, Tryz.underlying33, Tryz.underlying3]
    · simp [Op.eqFields, go_sem, h1, h2, Tryz.underlying33, Tryz.underlying3]
theorem neq_same_vec (x : At) : ∀ W, (binOp .neq 95 (.agg #[.string x.1, .int .i64 x.2]) (.agg #[.string x.1, .int .i64 x.2])).run Tryz.prog W = .ok (.bool false) W := fun W => by
  rw [neq_vec x x W, beq_yes rfl]; simp
theorem neq_other_vec {x y : At} (h : ¬ x = y) : ∀ W, (binOp .neq 95 (.agg #[.string x.1, .int .i64 x.2]) (.agg #[.string y.1, .int .i64 y.2])).run Tryz.prog W = .ok (.bool true) W := fun W => by
  rw [neq_vec x y W]
  by_cases h1 : x.1 = y.1
  · have h2 : (x.2 == y.2) = false := by simp; exact fun e => h (Prod.ext h1 e)
    rw [beq_yes h1, h2]; rfl
  · rw [beq_no h1]; rfl
theorem guard_vec (op : BinOp) (p q : Operand) (xs ys : Array Value) (W : World) : (eqGuard op 95 p q (.agg xs) (.agg ys)).run Tryz.prog W = .ok () W := run_eqGuard_agg (P := Tryz.prog) W op 95 p q xs ys (by kernel_rfl)

set_option maxRecDepth 100000 in
set_option maxHeartbeats 4000000 in
theorem rsame_any (A : Option Addr) (n c : Nat) (zs : List At) (A' : Option Addr) (n' c' : Nat) (ys : List At) (B : Nat) (w : World) (hz : VecAt w B A n zs) (hy : VecAt w B A' n' ys) (hn : n ≤ 1099511627776) (hn' : n' ≤ 1099511627776) :
    Calls Tryz.prog 76 #[.slice A n c, .slice A' n' c'] w fun e w' => e = .returned (.bool (decide (zs = ys))) ∧ Hid (Drawn w w') := by
  have hl : zs.length = n := hz.1
  have hl' : ys.length = n' := hy.1
  by_cases hnn : n = n'
  · subst hnn
    have HL := Lib.hid hl
    have HL' := Lib.hid hl'
    have HZ := Lib.hid hz
    have HY := Lib.hid hy
    clear hl hl' hz hy
    go_enter Tryz.func76, Tryz.ntmps76
    go_wp2
    go_loopw [5] (fun i wr => ∃ k : Nat, k ≤ n ∧ i = .int .i64 k ∧ Hid (zs.take k = ys.take k) ∧ Hid (Drawn w wr)) (fun i _ => n - (intOf i).toNat)
    case atStart => exact ⟨0, by omega, rfl, rfl, Drawn.refl w⟩
    case round =>
      obtain ⟨k, hk, rfl, HA, HD⟩ := hrel
      by_cases hlt : k < n
      · obtain ⟨b1, o1, rfl, hb1, hc1, hc2⟩ := HZ.out.cells (drawn_below HD.out B) (k := k) hlt
        obtain ⟨b2, o2, rfl, hb2, hd1, hd2⟩ := HY.out.cells (drawn_below HD.out B) (k := k) hlt
        have hi0 : (0 : Int) ≤ (k : Int) := by omega
        have hi1 : (k : Int) < (n : Int) := by omega
        have hkz : k < zs.length := by have := HL.out; omega
        have hky : k < ys.length := by have := HL'.out; omega
        by_cases he : zs.getD k atNil = ys.getD k atNil
        · have HN : Hid (zs.take (k + 1) = ys.take (k + 1)) := by show _ = _; rw [take_snoc hkz, take_snoc hky, HA.out, he]
          rw [← he] at hd1 hd2
          generalize zs.getD k atNil = x at hc1 hc2 hd1 hd2
          have hq := neq_same_ref x
          have hgu := guard_ref
          clear he hkz hky
          go_wp2_with fail
          go_quiet (fail)
          go_wp2
          go_roundw
          case rel => exact ⟨k + 1, by omega, by go_num, HN, HD.out.more _⟩
          case measure => simp [intOf]; omega
        · have HF : Hid (decide (zs = ys) = false) := decide_eq_false (fun e => he (by rw [e]))
          generalize zs.getD k atNil = x at hc1 hc2 he
          generalize ys.getD k atNil = y at hd1 hd2 he
          have hq := neq_other_ref he
          have hgu := guard_ref
          clear he hkz hky
          go_wp2_with fail
          go_quiet (fail)
          go_wp2
          go_ret
          exact ⟨ret_bool HF.out.symm, HD.out.more _⟩
      · have HF : Hid (decide (zs = ys) = true) := decide_eq_true (by
          have := HA.out
          rwa [List.take_of_length_le (by have := HL.out; omega), List.take_of_length_le (by have := HL'.out; omega)] at this)
        go_wp2
        go_ret
        exact ⟨ret_bool HF.out.symm, HD.out⟩
  · have HF : Hid (decide (zs = ys) = false) := decide_eq_false (fun e => hnn (by rw [← hl, ← hl', e]))
    have hne : ((n : Int) != (n' : Int)) = true := by simp; omega
    have hne' : (n != n') = true := by simp [hnn]
    clear hl hl' hz hy hnn
    go_enter Tryz.func76, Tryz.ntmps76
    go_wp2
    go_ret
    exact ⟨ret_bool HF.out.symm, Drawn.refl w⟩



set_option maxRecDepth 100000 in
set_option maxHeartbeats 4000000 in
theorem equal_any (A : Option Addr) (n c : Nat) (zs : List At) (A' : Option Addr) (n' c' : Nat) (ys : List At) (B : Nat) (w : World) (hz : VecAt w B A n zs) (hy : VecAt w B A' n' ys) (hn : n ≤ 1099511627776) (hn' : n' ≤ 1099511627776) :
    Calls Tryz.prog 136 #[.slice A n c, .slice A' n' c'] w fun e w' => e = .returned (.bool (decide (zs = ys))) ∧ Hid (Drawn w w') := by
  have hl : zs.length = n := hz.1
  have hl' : ys.length = n' := hy.1
  by_cases hnn : n = n'
  · subst hnn
    have HL := Lib.hid hl
    have HL' := Lib.hid hl'
    have HZ := Lib.hid hz
    have HY := Lib.hid hy
    clear hl hl' hz hy
    go_enter Tryz.func136, Tryz.ntmps136
    go_wp2
    go_loopw [13] (fun i wr => ∃ k : Nat, k ≤ n ∧ i = .int .i64 k ∧ Hid (zs.take k = ys.take k) ∧ Hid (Drawn w wr)) (fun i _ => n - (intOf i).toNat)
    case atStart => exact ⟨0, by omega, rfl, rfl, Drawn.refl w⟩
    case round =>
      obtain ⟨k, hk, rfl, HA, HD⟩ := hrel
      by_cases hlt : k < n
      · obtain ⟨b1, o1, rfl, hb1, hc1, hc2⟩ := HZ.out.cells (drawn_below HD.out B) (k := k) hlt
        obtain ⟨b2, o2, rfl, hb2, hd1, hd2⟩ := HY.out.cells (drawn_below HD.out B) (k := k) hlt
        have hi0 : (0 : Int) ≤ (k : Int) := by omega
        have hi1 : (k : Int) < (n : Int) := by omega
        have hkz : k < zs.length := by have := HL.out; omega
        have hky : k < ys.length := by have := HL'.out; omega
        by_cases he : zs.getD k atNil = ys.getD k atNil
        · have HN : Hid (zs.take (k + 1) = ys.take (k + 1)) := by show _ = _; rw [take_snoc hkz, take_snoc hky, HA.out, he]
          rw [← he] at hd1 hd2
          generalize zs.getD k atNil = x at hc1 hc2 hd1 hd2
          have hq := neq_same_vec x
          have hgu := guard_vec
          clear he hkz hky
          go_wp2_with fail
          go_quiet (fail)
          go_wp2
          go_roundw
          case rel => exact ⟨k + 1, by omega, by go_num, HN, HD.out.more _⟩
          case measure => simp [intOf]; omega
        · have HF : Hid (decide (zs = ys) = false) := decide_eq_false (fun e => he (by rw [e]))
          generalize zs.getD k atNil = x at hc1 hc2 he
          generalize ys.getD k atNil = y at hd1 hd2 he
          have hq := neq_other_vec he
          have hgu := guard_vec
          clear he hkz hky
          go_wp2_with fail
          go_quiet (fail)
          go_wp2
          go_ret
          exact ⟨ret_bool HF.out.symm, HD.out.more _⟩
      · have HF : Hid (decide (zs = ys) = true) := decide_eq_true (by
          have := HA.out
          rwa [List.take_of_length_le (by have := HL.out; omega), List.take_of_length_le (by have := HL'.out; omega)] at this)
        go_wp2
        go_ret
        exact ⟨ret_bool HF.out.symm, HD.out⟩
  · have HF : Hid (decide (zs = ys) = false) := decide_eq_false (fun e => hnn (by rw [← hl, ← hl', e]))
    have hne : ((n : Int) != (n' : Int)) = true := by simp; omega
    have hne' : (n != n') = true := by simp [hnn]
    clear hl hl' hz hy hnn
    go_enter Tryz.func136, Tryz.ntmps136
    go_wp2
    go_ret
    exact ⟨ret_bool HF.out.symm, Drawn.refl w⟩

set_option maxHeartbeats 1000000 in
theorem same_any (A : Option Addr) (n c : Nat) (zs : List At) (A' : Option Addr) (n' c' : Nat) (ys : List At) (B : Nat) (w : World) (hz : VecAt w B A n zs) (hy : VecAt w B A' n' ys) (hn : n ≤ 1099511627776) (hn' : n' ≤ 1099511627776) :
    Calls Tryz.prog 70 #[.slice A n c, .slice A' n' c'] w fun e w' => e = .returned (.bool (decide (zs = ys))) ∧ Hid (Drawn w w') := by
  have HZ := Lib.hid hz
  have HY := Lib.hid hy
  clear hz hy
  go_enter Tryz.func70, Tryz.ntmps70
  go_wp2_with fail
  refine (equal_any A n c zs A' n' c' ys B _ HZ.out HY.out hn hn').mono ?_
  rintro e w1 ⟨rfl, hd⟩
  go_wp2
  go_ret
  exact ⟨rfl, hd⟩
end Go.Proofs.YtbookbgfipbaoaaGreatDoor

/- The document's Fix: a name out of any text. -/
namespace Go.Proofs.YtbookbgfipbaoaaGreatDoor
open Go.RowKit

end Go.Proofs.YtbookbgfipbaoaaGreatDoor

/- The document's Fix, Join and Meet of Vecs. -/
namespace Go.Proofs.YtbookbgfipbaoaaGreatDoor
open Go.RowKit

end Go.Proofs.YtbookbgfipbaoaaGreatDoor

/- The document's Join and Meet of Vecs that may be. -/
namespace Go.Proofs.YtbookbgfipbaoaaGreatDoor
open Go.RowKit

end Go.Proofs.YtbookbgfipbaoaaGreatDoor

/- Rows that are at hand, all together. -/
namespace Go.Proofs.YtbookbgfipbaoaaGreatDoor
open Go.RowKit

end Go.Proofs.YtbookbgfipbaoaaGreatDoor

/- The span package's small functions: what each call answers (First, Count, Top). -/
namespace Go.Proofs.YtbookbgfipbaoaaGreatDoor.Sp
open Go.RowKit

/-- In w the slice (A, n) holds the numbers zs, in a block below B. -/
def IntsAt (w : World) (B : Nat) (A : Option Addr) (n : Nat) (zs : List Int) : Prop :=
  zs.length = n ∧ (0 < n → ∃ b off, A = some ⟨b, off, none⟩ ∧ b < B ∧ ∀ k, k < n → w.cell? ⟨b, off + k, none⟩ = some (.int .i64 (zs.getD k 0)))

theorem IntsAt.nil (w : World) (B : Nat) (A : Option Addr) : IntsAt w B A 0 [] := ⟨rfl, fun h => absurd h (by omega)⟩
theorem IntsAt.keep {w w' : World} {B : Nat} {A : Option Addr} {n : Nat} {zs : List Int} (h : IntsAt w B A n zs) (hb : Below B w w') : IntsAt w' B A n zs :=
  ⟨h.1, fun hn => by
    obtain ⟨b, off, e, hlt, hc⟩ := h.2 hn
    exact ⟨b, off, e, hlt, fun k hk => (hb.cell (p := ⟨b, off + k, none⟩) hlt).trans (hc k hk)⟩⟩
theorem IntsAt.more {w : World} {B B' : Nat} {A : Option Addr} {n : Nat} {zs : List Int} (h : IntsAt w B A n zs) (hB : B ≤ B') : IntsAt w B' A n zs :=
  ⟨h.1, fun hn => by
    obtain ⟨b, off, e, hlt, hc⟩ := h.2 hn
    exact ⟨b, off, e, by omega, hc⟩⟩

theorem ret_bool {a b : Bool} (h : a = b) : Ending.returned (.bool a) = .returned (.bool b) := by rw [h]

set_option maxRecDepth 100000 in
set_option maxHeartbeats 400000 in
theorem count_any (u : Int) (A : Option Addr) (n c : Nat) (w : World) (h0 : 0 ≤ u) (h1 : u ≤ 1048576) (hn : n ≤ 1099511627776) :
    Calls Tryz.prog 149 #[.agg #[.int .i64 u, .slice A n c]] w fun e w' => e = .returned (.int .i64 (u + n)) ∧ Below w.heap.size w w' := by
  go_enter Tryz.func149, Tryz.ntmps149
  go_wp2
  go_ret
  exact ⟨rfl, (Below.refl _ _).alloc (Nat.le_refl _) _⟩

end Go.Proofs.YtbookbgfipbaoaaGreatDoor.Sp

/- The library's binary search over rising numbers, and span.Has. -/
namespace Go.Proofs.YtbookbgfipbaoaaGreatDoor.Sp
open Go.RowKit

end Go.Proofs.YtbookbgfipbaoaaGreatDoor.Sp
