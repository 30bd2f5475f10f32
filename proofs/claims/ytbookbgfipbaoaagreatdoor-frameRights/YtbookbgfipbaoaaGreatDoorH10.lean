/- frame: may its lists be? -/
import Derived.Test.YtbookbgfipbaoaaGreatDoorH9
import Derived.Shelf.Strings.OnBuilder
import Derived.Shelf.LaysM
import Derived.Shelf.Strconv.Itoa3
import Derived.Shelf.LaysC
import Derived.Shelf.Strconv.AtoiAll
import Derived.Shelf.Strconv.ErrVarAll
import Derived.Shelf.Strings.Split
import Derived.Ground.SlgqProg
import Derived.Shelf.SlicesQ.Equal
import Derived.Test.YtbookbgfipbaoaaGreatDoorProg
import Derived.Test.YtbookbgfipbaoaaGreatDoorH1
namespace Go.Proofs.YtbookbgfipbaoaaGreatDoor
open Go.RowKit

def rightVecF (v : List At) : Bool := decide (v.length ≤ 64) && rightV v
set_option maxRecDepth 100000 in
set_option maxHeartbeats 1000000 in
theorem rightVec_any (A : Option Addr) (n c : Nat) (zs : List At) (B : Nat) (w : World) (hB : B ≤ w.heap.size) (hz : VecAt w B A n zs) (hn : n ≤ 1000000) :
    Calls Tryz.prog 26 #[.slice A n c] w fun e w' => e = .returned (.bool (rightVecF zs)) ∧ Below w.heap.size w w' := by
  have hl : zs.length = n := hz.1
  have HF := Lib.hid (show rightVecF zs = (decide (zs.length ≤ 64) && rightV zs) from rfl)
  have HC := Lib.hid (rightv_any A n c zs B w hB hz (by omega))
  clear hz
  rw [hl] at HF
  clear hl
  by_cases h : n ≤ 64
  · rw [decide_eq_true h] at HF
    have h1 : (n : Int) ≤ 64 := by omega
    go_enter Tryz.func26, Tryz.ntmps26
    go_wp2_with fail
    refine HC.out.mono ?_
    rintro e w1 ⟨rfl, hb⟩
    have HB := Lib.hid hb
    clear hb
    go_wp2
    go_ret
    exact ⟨ret_bool (by rw [HF.out]; rfl), HB.out⟩
  · rw [decide_eq_false h] at HF
    have h1 : ¬ (n : Int) ≤ 64 := by omega
    have h1' : decide ((n : Int) ≤ 64) = false := decide_eq_false h1
    go_enter Tryz.func26, Tryz.ntmps26
    go_wp2
    go_ret
    exact ⟨ret_bool (by rw [HF.out]; rfl), Below.refl _ _⟩

def rmF : Option ByteArray → List ByteArray → Bool
  | _, [] => true
  | p, a :: r => rightL a.data.toList && (Kn.prevOk p a && rmF (some a) r)
def prevT (l : List ByteArray) (k : Nat) : Option ByteArray := if k = 0 then none else l[k - 1]?
theorem rm_step {l : List ByteArray} {k : Nat} {x : ByteArray} (h : l[k]? = some x) : rmF (prevT l k) (l.drop k) = (rightL x.data.toList && (Kn.prevOk (prevT l k) x && rmF (prevT l (k + 1)) (l.drop (k + 1)))) := by
  obtain ⟨hk, rfl⟩ := List.getElem?_eq_some_iff.mp h
  rw [List.drop_eq_getElem_cons hk]
  have e : prevT l (k + 1) = some l[k] := by unfold prevT; simp [List.getElem?_eq_getElem hk]
  rw [e]
  rfl
def rightMembersF (l : List ByteArray) : Bool := decide (l.length ≤ 64) && rmF none l
theorem cell_text {w wr : World} {B : Nat} {A : Option Addr} {n : Nat} {zs : List ByteArray} (h : RowAt cellsT 1 w B A n zs) (hb : Below B w wr) {k : Nat} (hk : k < n) {blk off : Nat} (e : A = some ⟨blk, off, none⟩) : ∃ s, zs[k]? = some s ∧ wr.cell? ⟨blk, off + k, none⟩ = some (.string s) := by
  obtain ⟨b2, o2, s, e2, _, h1, h2⟩ := h.text hb hk
  rw [e] at e2
  injection e2 with e2
  injection e2 with e3 e4
  subst e3 e4
  exact ⟨s, h1, h2⟩
set_option maxRecDepth 100000 in
set_option maxHeartbeats 4000000 in
theorem rightMembers_any (A : Option Addr) (n c : Nat) (m : List ByteArray) (B : Nat) (w : World) (hB : B ≤ w.heap.size) (hz : RowAt cellsT 1 w B A n m) (hn : n ≤ 1000000) :
    Calls Tryz.prog 93 #[.slice A n c] w fun e w' => e = .returned (.bool (rightMembersF m)) ∧ Below w.heap.size w w' := by
  have HZ := Lib.hid hz
  have HL := Lib.hid hz.1
  clear hz
  by_cases h64 : n ≤ 64
  · have h1 : ¬ (64 : Int) < n := by omega
    generalize hRS : rightMembersF m = RS
    have HRS : Hid (rmF (prevT m 0) (m.drop 0) = RS) := by
      rw [← hRS]; unfold rightMembersF; rw [HL.out, decide_eq_true h64]; rfl
    clear hRS
    go_enter Tryz.func93, Tryz.ntmps93
    go_wp2
    go_loopw [10] (fun i wr => ∃ k : Nat, k ≤ n ∧ i = .int .i64 k ∧ Hid (rmF (prevT m k) (m.drop k) = RS) ∧ Hid (Below w.heap.size w wr)) (fun i _ => n - (intOf i).toNat)
    case atStart => exact ⟨0, by omega, rfl, HRS, Below.refl _ _⟩
    case round =>
      clear HRS
      obtain ⟨k, hk, rfl, HRS, HB⟩ := hrel
      by_cases hlt : k < n
      · obtain ⟨blk, off, x, rfl, hbB, hmk, e0⟩ := HZ.out.text (HB.out.mono hB) hlt
        have hi1 : (k : Int) < n := by omega
        have hst := rm_step hmk
        rw [HRS.out] at hst
        have HST := Lib.hid hst
        clear hst
        cases hr : rightL x.data.toList with
        | false =>
          rw [hr] at HST
          have HF : Hid (RS = false) := by show _ = _; rw [HST.out]; rfl
          have HR := Lib.hid hr
          clear hr HST
          go_wp2_with fail
          refine (right_is _ false HR _).mono ?_
          rintro e w' ⟨rfl, rfl⟩
          go_wp2
          go_ret
          exact ⟨ret_bool HF.out.symm, HB.out⟩
        | true =>
          rw [hr] at HST
          have HR := Lib.hid hr
          clear hr
          by_cases hk0 : k = 0
          · have hpv : prevT m k = none := by unfold prevT; rw [if_pos hk0]
            rw [hpv, Kn.prevOk_none] at HST
            have HN : Hid (rmF (prevT m (k + 1)) (m.drop (k + 1)) = RS) := by show _ = _; rw [HST.out]; simp
            have hgd : decide (0 < k) = false := by simp; omega
            have hgi : ¬ (0 : Int) < k := by omega
            clear HST hpv hk0
            go_wp2_with fail
            refine (right_is _ true HR _).mono ?_
            rintro e w' ⟨rfl, rfl⟩
            go_wp2
            go_roundw
            case rel => exact ⟨k + 1, by omega, by go_num, HN, HB⟩
            case measure => simp [intOf]; omega
          · obtain ⟨pid, hm2, d0⟩ := cell_text HZ.out (HB.out.mono hB) (k := k - 1) (by omega) rfl
            have hpv : prevT m k = some pid := by unfold prevT; rw [if_neg hk0, hm2]
            rw [hpv, Kn.prevOk_some] at HST
            have hgd : decide (0 < k) = true := by simp; omega
            have hgi : (0 : Int) < k := by omega
            have hj0 : (1 : Int) ≤ (k : Int) := by omega
            have hj1 : (0 : Int) ≤ (k : Int) - 1 := by omega
            have hj2 : (k : Int) - 1 < (n : Int) := by omega
            have hj3 : ((k : Int) - 1).toNat = k - 1 := by omega
            have hj4 : IntKind.i64.wrap ((k : Int) - 1) = (k : Int) - 1 := IntWalk.i64_in _ (by omega)
            obtain ⟨y, hy⟩ : ∃ y, cmpId pid x = y := ⟨_, rfl⟩
            have HY : Hid (Lib.compareBytes pid.data.toList x.data.toList = y) := hy
            rw [hy] at HST
            clear hpv hk0 hm2 hy
            by_cases hge : 0 ≤ y
            · have HF : Hid (RS = false) := by
                show _ = _
                rw [HST.out]
                simp only [show decide (y < 0) = false by simp; omega]
                rfl
              clear HST
              go_wp2_with fail
              refine (right_is _ true HR _).mono ?_
              rintro e w' ⟨rfl, rfl⟩
              go_wp2_with fail
              refine (compare_is _ _ _ HY _).mono ?_
              rintro e w' ⟨rfl, rfl⟩
              go_wp2
              go_ret
              exact ⟨ret_bool HF.out.symm, HB.out⟩
            · have HN : Hid (rmF (prevT m (k + 1)) (m.drop (k + 1)) = RS) := by
                show _ = _
                rw [HST.out]
                simp only [show decide (y < 0) = true by simp; omega]
                simp
              clear HST
              go_wp2_with fail
              refine (right_is _ true HR _).mono ?_
              rintro e w' ⟨rfl, rfl⟩
              go_wp2_with fail
              refine (compare_is _ _ _ HY _).mono ?_
              rintro e w' ⟨rfl, rfl⟩
              go_wp2
              go_roundw
              case rel => exact ⟨k + 1, by omega, by go_num, HN, HB⟩
              case measure => simp [intOf]; omega
      · obtain rfl : k = n := by omega
        have hi1 : ¬ (k : Int) < k := by omega
        have HF : Hid (RS = true) := by show _ = _; rw [← HRS.out, List.drop_of_length_le (by rw [HL.out]; omega)]; unfold rmF; rfl
        go_wp2
        go_ret
        exact ⟨ret_bool HF.out.symm, HB.out⟩
  · have h1 : (64 : Int) < n := by omega
    have HF : Hid (rightMembersF m = false) := by show _ = _; unfold rightMembersF; rw [HL.out, decide_eq_false h64]; rfl
    go_enter Tryz.func93, Tryz.ntmps93
    go_wp2
    go_ret
    exact ⟨ret_bool HF.out.symm, Below.refl _ _⟩
theorem all_step {α : Type} (p : α → Bool) {l : List α} {k : Nat} {x : α} (h : l[k]? = some x) : (l.drop k).all p = (p x && (l.drop (k + 1)).all p) := by
  obtain ⟨hk, rfl⟩ := List.getElem?_eq_some_iff.mp h
  rw [List.drop_eq_getElem_cons hk]
  rfl
def rightRowsF (m : Mx.Mat) : Bool := decide (m.length ≤ 64) && (Mx.rightM m && m.all fun x => decide (x.2.length ≤ 64))
def rightItemsF (l : List By.Itm) : Bool := decide (l.length ≤ 32) && l.all By.rightI
def stubsF (l : List By.Itm) : Bool := l.all fun x => !x.dead && !x.held
set_option maxRecDepth 100000 in
set_option maxHeartbeats 4000000 in
theorem rightRows_any (A : Option Addr) (n c : Nat) (m : Mx.Mat) (B : Nat) (w : World) (hB : B ≤ w.heap.size) (hz : Mx.MatAt w B A n m) (hn : n ≤ 1000000) (hv : ∀ z ∈ m, z.2.length ≤ 1000000) :
    Calls Tryz.prog 94 #[.slice A n c] w fun e w' => e = .returned (.bool (rightRowsF m)) ∧ Below w.heap.size w w' := by
  have HZ := Lib.hid hz
  have HL := Lib.hid hz.len
  have HC := Lib.hid (Mx.rightM_any A n c m B w hB hz hn hv)
  clear hz hv
  by_cases h64 : n ≤ 64
  · have h1 : ¬ (64 : Int) < n := by omega
    cases hm : Mx.rightM m with
    | false =>
      rw [hm] at HC
      have HF : Hid (rightRowsF m = false) := by show _ = _; unfold rightRowsF; rw [hm, decide_eq_true (by rw [HL.out]; exact h64)]; rfl
      clear hm
      go_enter Tryz.func94, Tryz.ntmps94
      go_wp2_with fail
      refine HC.out.mono ?_
      rintro e w1 ⟨rfl, hb⟩
      have HB := Lib.hid hb
      clear hb
      go_wp2
      go_ret
      exact ⟨ret_bool HF.out.symm, HB.out⟩
    | true =>
      rw [hm] at HC
      generalize hRS : rightRowsF m = RS
      have HRS : Hid ((m.drop 0).all (fun x => decide (x.2.length ≤ 64)) = RS) := by
        show _ = _
        rw [← hRS]; unfold rightRowsF; rw [hm, decide_eq_true (by rw [HL.out]; exact h64)]; rfl
      clear hRS hm
      go_enter Tryz.func94, Tryz.ntmps94
      go_wp2_with fail
      refine HC.out.mono ?_
      rintro e w1 ⟨rfl, hb⟩
      have HB := Lib.hid hb
      clear hb HC
      go_wp2
      go_loopw [15] (fun i wr => ∃ k : Nat, k ≤ n ∧ i = .int .i64 k ∧ Hid ((m.drop k).all (fun x => decide (x.2.length ≤ 64)) = RS) ∧ Hid (Below w.heap.size w wr)) (fun i _ => n - (intOf i).toNat)
      case atStart => exact ⟨0, by omega, rfl, HRS, HB⟩
      case round =>
        clear HRS HB
        obtain ⟨k, hk, rfl, HRS, HB⟩ := hrel
        by_cases hlt : k < n
        · obtain ⟨blk, off, r, rfl, hbB, hmk, e0, e1, hf⟩ := HZ.out.get (HB.out.mono hB) hlt
          have hi1 : (k : Int) < n := by omega
          have hst := all_step (fun x : ByteArray × List At => decide (x.2.length ≤ 64)) hmk
          rw [HRS.out] at hst
          have HST := Lib.hid hst
          clear hst hf hmk
          have HB1 := Lib.hid (HB.out.alloc HB.out.size (.cells #[.string r.id, .slice r.A r.v.length r.c] 105))
          by_cases hv : r.v.length ≤ 64
          · have h2 : ¬ (64 : Int) < r.v.length := by omega
            have HN : Hid ((m.drop (k + 1)).all (fun x => decide (x.2.length ≤ 64)) = RS) := by show _ = _; rw [HST.out]; simp [hv]
            clear HST
            go_wp2
            go_roundw
            case rel => exact ⟨k + 1, by omega, by go_num, HN, HB1⟩
            case measure => simp [intOf]; omega
          · have h2 : (64 : Int) < r.v.length := by omega
            have HF : Hid (RS = false) := by show _ = _; rw [HST.out]; simp [hv]
            clear HST
            go_wp2
            go_ret
            exact ⟨ret_bool HF.out.symm, HB1.out⟩
        · obtain rfl : k = n := by omega
          have hi1 : ¬ (k : Int) < k := by omega
          have HF : Hid (RS = true) := by show _ = _; rw [← HRS.out, List.drop_of_length_le (by rw [HL.out]; omega)]; rfl
          go_wp2
          go_ret
          exact ⟨ret_bool HF.out.symm, HB.out⟩
  · have h1 : (64 : Int) < n := by omega
    have HF : Hid (rightRowsF m = false) := by show _ = _; unfold rightRowsF; rw [HL.out, decide_eq_false h64]; rfl
    go_enter Tryz.func94, Tryz.ntmps94
    go_wp2
    go_ret
    exact ⟨ret_bool HF.out.symm, Below.refl _ _⟩
set_option maxRecDepth 100000 in
set_option maxHeartbeats 4000000 in
theorem rightItems_any (A : Option Addr) (n c : Nat) (zs : List By.Itm) (B : Nat) (w : World) (hB : B ≤ w.heap.size) (hz : RowAt By.cellsP 8 w B A n zs) (hn : n ≤ 1000000) (hsm : ∀ z ∈ zs, z.x.natAbs < 2 ^ 53 ∧ z.y.natAbs < 2 ^ 53) :
    Calls Tryz.prog 95 #[.slice A n c] w fun e w' => e = .returned (.bool (rightItemsF zs)) ∧ Below w.heap.size w w' := by
  have HZ := Lib.hid hz
  have HL := Lib.hid hz.1
  have HM := Lib.hid hsm
  clear hz hsm
  by_cases h64 : n ≤ 32
  · have h1 : ¬ (32 : Int) < n := by omega
    generalize hRS : rightItemsF zs = RS
    have HRS : Hid ((zs.drop 0).all By.rightI = RS) := by
      show _ = _
      rw [← hRS]; unfold rightItemsF; rw [HL.out, decide_eq_true h64]; rfl
    clear hRS
    go_enter Tryz.func95, Tryz.ntmps95
    go_wp2
    go_loopw [10] (fun i wr => ∃ k : Nat, k ≤ n ∧ i = .int .i64 k ∧ Hid ((zs.drop k).all By.rightI = RS) ∧ Hid (Below w.heap.size w wr)) (fun i _ => n - (intOf i).toNat)
    case atStart => exact ⟨0, by omega, rfl, HRS, Below.refl _ _⟩
    case round =>
      clear HRS
      obtain ⟨k, hk, rfl, HRS, HB⟩ := hrel
      by_cases hlt : k < n
      · obtain ⟨blk, off, rfl, hbB, z, hzk, hcell⟩ := HZ.out.get hlt
        obtain ⟨e0, e1, e2, e3, e4, e5, e6, e7⟩ := By.cellsP_at hcell
        replace e0 := ((HB.out.mono hB).cell (p := ⟨blk, off + k * 8, none⟩) hbB).trans e0
        replace e1 := ((HB.out.mono hB).cell (p := ⟨blk, off + k * 8 + 1, none⟩) hbB).trans e1
        replace e2 := ((HB.out.mono hB).cell (p := ⟨blk, off + k * 8 + 2, none⟩) hbB).trans e2
        replace e3 := ((HB.out.mono hB).cell (p := ⟨blk, off + k * 8 + 3, none⟩) hbB).trans e3
        replace e4 := ((HB.out.mono hB).cell (p := ⟨blk, off + k * 8 + 4, none⟩) hbB).trans e4
        replace e5 := ((HB.out.mono hB).cell (p := ⟨blk, off + k * 8 + 5, none⟩) hbB).trans e5
        replace e6 := ((HB.out.mono hB).cell (p := ⟨blk, off + k * 8 + 6, none⟩) hbB).trans e6
        replace e7 := ((HB.out.mono hB).cell (p := ⟨blk, off + k * 8 + 7, none⟩) hbB).trans e7
        have hi1 : (k : Int) < n := by omega
        have hst := all_step By.rightI hzk
        rw [HRS.out] at hst
        have HST := Lib.hid hst
        have hzm := HM.out z (List.mem_of_getElem? hzk)
        have HIR := Lib.hid (By.itemRight_any z hzm.1 hzm.2)
        generalize By.rightI z = R at *
        obtain ⟨key, ⟨d, a, s⟩, dead, x, y, text, held⟩ := z
        unfold By.itmV at HIR
        simp only at e0 e1 e2 e3 e4 e5 e6 e7 HIR
        clear hcell hst hzm hzk
        generalize fl x = fx at *
        generalize fl y = fy at *
        have hst := By.store_complex
        have hb0 : Below wr.heap.size wr (wr.alloc (.cells #[.int .i64 key, .string d, .int .i64 a, .int .i64 s, .bool dead, .complex .f64 fx fy, .string text, .bool held] 114)) := (Below.refl _ _).alloc (Nat.le_refl _) _
        replace HB := Lib.hid (HB.out.trans (hb0.mono HB.out.size))
        clear hb0
        cases R
        · have HF : Hid (RS = false) := by show _ = _; rw [HST.out]; rfl
          clear HST
          go_wp2_with fail
          refine (HIR.out _).mono ?_
          rintro e v ⟨rfl, hb⟩
          replace HB := Lib.hid (HB.out.trans (hb.mono HB.out.size))
          clear hb
          go_wp2
          go_ret
          exact ⟨ret_bool HF.out.symm, HB.out⟩
        · have HN : Hid ((zs.drop (k + 1)).all By.rightI = RS) := by show _ = _; rw [HST.out]; rfl
          clear HST
          go_wp2_with fail
          refine (HIR.out _).mono ?_
          rintro e v ⟨rfl, hb⟩
          replace HB := Lib.hid (HB.out.trans (hb.mono HB.out.size))
          clear hb
          go_wp2
          go_roundw
          case rel => exact ⟨k + 1, by omega, by go_num, HN, HB⟩
          case measure => simp [intOf]; omega
      · obtain rfl : k = n := by omega
        have hi1 : ¬ (k : Int) < k := by omega
        have HF : Hid (RS = true) := by show _ = _; rw [← HRS.out, List.drop_of_length_le (by rw [HL.out]; omega)]; rfl
        go_wp2
        go_ret
        exact ⟨ret_bool HF.out.symm, HB.out⟩
  · have h1 : (32 : Int) < n := by omega
    have HF : Hid (rightItemsF zs = false) := by show _ = _; unfold rightItemsF; rw [HL.out, decide_eq_false h64]; rfl
    go_enter Tryz.func95, Tryz.ntmps95
    go_wp2
    go_ret
    exact ⟨ret_bool HF.out.symm, Below.refl _ _⟩
set_option maxRecDepth 100000 in
set_option maxHeartbeats 4000000 in
theorem stubs_any (A : Option Addr) (n c : Nat) (zs : List By.Itm) (B : Nat) (w : World) (hB : B ≤ w.heap.size) (hz : RowAt By.cellsP 8 w B A n zs) (hn : n ≤ 1000000) :
    Calls Tryz.prog 25 #[.slice A n c] w fun e w' => e = .returned (.bool (stubsF zs)) ∧ Below w.heap.size w w' := by
  have HZ := Lib.hid hz
  have HL := Lib.hid hz.1
  clear hz
  generalize hRS : stubsF zs = RS
  have HRS : Hid ((zs.drop 0).all (fun x => !x.dead && !x.held) = RS) := by
    show _ = _
    rw [← hRS]; rfl
  clear hRS
  go_enter Tryz.func25, Tryz.ntmps25
  go_wp2
  go_loopw [7] (fun i wr => ∃ k : Nat, k ≤ n ∧ i = .int .i64 k ∧ Hid ((zs.drop k).all (fun x : By.Itm => !x.dead && !x.held) = RS) ∧ Hid (Below w.heap.size w wr)) (fun i _ => n - (intOf i).toNat)
  case atStart => exact ⟨0, by omega, rfl, HRS, Below.refl _ _⟩
  case round =>
    clear HRS
    obtain ⟨k, hk, rfl, HRS, HB⟩ := hrel
    by_cases hlt : k < n
    · obtain ⟨blk, off, rfl, hbB, z, hzk, hcell⟩ := HZ.out.get hlt
      obtain ⟨e0, e1, e2, e3, e4, e5, e6, e7⟩ := By.cellsP_at hcell
      replace e0 := ((HB.out.mono hB).cell (p := ⟨blk, off + k * 8, none⟩) hbB).trans e0
      replace e1 := ((HB.out.mono hB).cell (p := ⟨blk, off + k * 8 + 1, none⟩) hbB).trans e1
      replace e2 := ((HB.out.mono hB).cell (p := ⟨blk, off + k * 8 + 2, none⟩) hbB).trans e2
      replace e3 := ((HB.out.mono hB).cell (p := ⟨blk, off + k * 8 + 3, none⟩) hbB).trans e3
      replace e4 := ((HB.out.mono hB).cell (p := ⟨blk, off + k * 8 + 4, none⟩) hbB).trans e4
      replace e5 := ((HB.out.mono hB).cell (p := ⟨blk, off + k * 8 + 5, none⟩) hbB).trans e5
      replace e6 := ((HB.out.mono hB).cell (p := ⟨blk, off + k * 8 + 6, none⟩) hbB).trans e6
      replace e7 := ((HB.out.mono hB).cell (p := ⟨blk, off + k * 8 + 7, none⟩) hbB).trans e7
      have hi1 : (k : Int) < n := by omega
      have hst := all_step (fun x : By.Itm => !x.dead && !x.held) hzk
      rw [HRS.out] at hst
      have HST := Lib.hid hst
      obtain ⟨key, ⟨d, a, s⟩, dead, x, y, text, held⟩ := z
      simp only at e0 e1 e2 e3 e4 e5 e6 e7 HST
      clear hcell hst hzk
      generalize fl x = fx at *
      generalize fl y = fy at *
      have hst := By.store_complex
      have hb0 : Below wr.heap.size wr (wr.alloc (.cells #[.int .i64 key, .string d, .int .i64 a, .int .i64 s, .bool dead, .complex .f64 fx fy, .string text, .bool held] 114)) := (Below.refl _ _).alloc (Nat.le_refl _) _
      replace HB := Lib.hid (HB.out.trans (hb0.mono HB.out.size))
      clear hb0
      cases dead
      · cases held
        · have HN : Hid ((zs.drop (k + 1)).all (fun x => !x.dead && !x.held) = RS) := by show _ = _; rw [HST.out]; rfl
          clear HST
          go_wp2
          go_roundw
          case rel => exact ⟨k + 1, by omega, by go_num, HN, HB⟩
          case measure => simp [intOf]; omega
        · have HF : Hid (RS = false) := by show _ = _; rw [HST.out]; rfl
          clear HST
          go_wp2
          go_ret
          exact ⟨ret_bool HF.out.symm, HB.out⟩
      · have HF : Hid (RS = false) := by show _ = _; rw [HST.out]; rfl
        clear HST
        go_wp2
        go_ret
        exact ⟨ret_bool HF.out.symm, HB.out⟩
    · obtain rfl : k = n := by omega
      have hi1 : ¬ (k : Int) < k := by omega
      have HF : Hid (RS = true) := by show _ = _; rw [← HRS.out, List.drop_of_length_le (by rw [HL.out]; omega)]; rfl
      go_wp2
      go_ret
      exact ⟨ret_bool HF.out.symm, HB.out⟩
end Go.Proofs.YtbookbgfipbaoaaGreatDoor

/- Contracts of the shelf, laid at this program in plain words. -/
namespace Go.Proofs
open Go.Shelf
def Tryz.lays156_ren : Go.Shelf.Ren := ⟨fun | 156 => 113 | 165 => 162 | 166 => 163 | 169 => 164 | 240 => 185 | 241 => 186 | 276 => 200 | 277 => 201 | n => n, fun | 31 => 23 | 9 => 9 | 3 => 3 | 4 => 4 | 0 => 0 | 20 => 20 | 72 => 227 | 76 => 231 | 70 => 225 | 37 => 48 | 75 => 230 | 127 => 255 | 164 => 266 | 5 => 5 | 80 => 233 | n => n, fun | n => n⟩
theorem Tryz.lays156 : Go.Proofs.Lays.n156 Tryz.prog Tryz.lays156_ren := {
  mixed := by kernel_rfl
  f156 := Tryz.func113.trans (congrArg some (by kernel_rfl))
  f165 := Tryz.func162.trans (congrArg some (by kernel_rfl))
  f166 := Tryz.func163.trans (congrArg some (by kernel_rfl))
  f169 := Tryz.func164.trans (congrArg some (by kernel_rfl))
  f240 := Tryz.func185.trans (congrArg some (by kernel_rfl))
  f241 := Tryz.func186.trans (congrArg some (by kernel_rfl))
  f276 := Tryz.func200.trans (congrArg some (by kernel_rfl))
  f277 := Tryz.func201.trans (congrArg some (by kernel_rfl))
  t0 := Tryz.underlying0
  a0 := Tryz.isAgg0
  z0 := Tryz.sizeOf0
  v0 := Tryz.zeroValue0
  t3 := Tryz.underlying3
  a3 := Tryz.isAgg3
  z3 := Tryz.sizeOf3
  v3 := Tryz.zeroValue3
  t4 := Tryz.underlying4
  a4 := Tryz.isAgg4
  z4 := Tryz.sizeOf4
  v4 := Tryz.zeroValue4
  t9 := Tryz.underlying9
  a9 := Tryz.isAgg9
  z9 := Tryz.sizeOf9
  v9 := Tryz.zeroValue9
  t20 := Tryz.underlying20
  a20 := Tryz.isAgg20
  z20 := Tryz.sizeOf20
  v20 := Tryz.zeroValue20
  t31 := Tryz.underlying23
  a31 := Tryz.isAgg23
  z31 := Tryz.sizeOf23
  v31 := Tryz.zeroValue23
  t37 := Tryz.underlying48
  a37 := Tryz.isAgg48
  z37 := Tryz.sizeOf48
  v37 := Tryz.zeroValue48
  t70 := Tryz.underlying225
  a70 := Tryz.isAgg225
  z70 := Tryz.sizeOf225
  v70 := Tryz.zeroValue225
  t72 := Tryz.underlying227
  a72 := Tryz.isAgg227
  z72 := Tryz.sizeOf227
  v72 := Tryz.zeroValue227
  t75 := Tryz.underlying230
  a75 := Tryz.isAgg230
  z75 := Tryz.sizeOf230
  v75 := Tryz.zeroValue230
  t76 := Tryz.underlying231
  a76 := Tryz.isAgg231
  z76 := Tryz.sizeOf231
  v76 := Tryz.zeroValue231
  t127 := Tryz.underlying255
  a127 := Tryz.isAgg255
  z127 := Tryz.sizeOf255
  v127 := Tryz.zeroValue255
  t164 := Tryz.underlying266
  a164 := Tryz.isAgg266
  z164 := Tryz.sizeOf266
  v164 := Tryz.zeroValue266 }
theorem Tryz.Builder_Extra_156 : Builder.Extra Tryz.prog Tryz.lays156_ren := {
  sizeBuilder := by kernel_rfl
  liesBuilder := by kernel_rfl
  t5 := Tryz.underlying5
  a5 := Tryz.isAgg5
  z5 := Tryz.sizeOf5
  v5 := Tryz.zeroValue5
  infoByte := by kernel_rfl
  cellsByte := by kernel_rfl
  sizeByte := by kernel_rfl
  neB5 := by decide }
open Go.RowKit in
theorem Tryz.strings_Join_none (a : Option Addr) (c : Nat) (sep : ByteArray) (w : World) :
    Calls Tryz.prog 113 #[.slice a 0 c, .string sep] w fun e w' => e = .returned (.string ⟨#[]⟩) ∧ w' = w := Any.strings_Join_none Tryz.lays156 Tryz.Builder_Extra_156 a c sep w
open Go.RowKit in
theorem Tryz.strings_Join (bk o c : Nat) (xs : List ByteArray) (sep : ByteArray) (w : World) (hcells : ∀ (j : Nat) x, xs[j]? = some x → w.cell? ⟨bk, o + j, none⟩ = some (.string x)) (hbk : bk < w.heap.size) (hN : xs.length ≤ 140737488355328) (hcap : xs.length ≤ c) (hlen : (Lib.join (xs.map (·.data.toList)) sep.data.toList).length ≤ 140737488355328) :
    Calls Tryz.prog 113 #[.slice (some ⟨bk, o, none⟩) xs.length c, .string sep] w fun e w' => e = .returned (.string ⟨(Lib.join (xs.map (·.data.toList)) sep.data.toList).toArray⟩) ∧ Below w.heap.size w w' := Any.strings_Join Tryz.lays156 Tryz.Builder_Extra_156 bk o c xs sep w hcells hbk hN hcap hlen
def Tryz.laysM246_ren : Go.Shelf.Ren := ⟨fun | 246 => 212 | 283 => 217 | 284 => 218 | 285 => 219 | 286 => 220 | 129 => 227 | 317 => 226 | 318 => 228 | 319 => 229 | 320 => 230 | 337 => 238 | 338 => 239 | n => n, fun | 2 => 2 | 3 => 3 | 9 => 9 | 4 => 4 | 171 => 281 | 0 => 0 | 53 => 61 | 37 => 48 | 5 => 5 | 173 => 284 | 212 => 289 | 51 => 290 | 20 => 20 | 213 => 291 | 46 => 275 | 232 => 307 | 233 => 308 | n => n, fun | 17 => 2 | 18 => 5 | 19 => 6 | n => n⟩
open Go.RowKit Go.Sort Go.Lib in
theorem Tryz.internal_strconv_FormatInt_10 (n : Int) (h0 : -9223372036854775808 ≤ n) (h1 : n ≤ 9223372036854775807) (w : World) (htab : Lib.TabIs Tryz.prog w "internal/strconv.uint64pow10" .u64 Lib.pow10Tab) :
    Calls Tryz.prog 212 #[.int .i64 n, .int .i64 10] w fun e w' => e = .returned (.string ⟨(Lib.itoa n).toArray⟩) ∧ ∃ k os, w' = grow (w.drewN k) os := Any.internal_strconv_FormatInt_10 Tryz.laysM246 n h0 h1 w htab
open Go.RowKit Go.Sort Go.Lib in
theorem Tryz.internal_strconv_FormatInt_10_small (i : Nat) (hi : i < 100) (w : World) :
    Calls Tryz.prog 212 #[.int .i64 i, .int .i64 10] w fun e w' => e = .returned (.string ⟨(Lib.decDigits i).toArray⟩) ∧ w' = w := Any.internal_strconv_FormatInt_10_small Tryz.lays246 i hi w
def Tryz.laysM243_ren : Go.Shelf.Ren := ⟨fun | 243 => 199 | 246 => 212 | 283 => 217 | 284 => 218 | 285 => 219 | 286 => 220 | 129 => 227 | 317 => 226 | 318 => 228 | 319 => 229 | 320 => 230 | 337 => 238 | 338 => 239 | n => n, fun | 3 => 3 | 9 => 9 | 2 => 2 | 4 => 4 | 171 => 281 | 0 => 0 | 53 => 61 | 37 => 48 | 5 => 5 | 173 => 284 | 212 => 289 | 51 => 290 | 20 => 20 | 213 => 291 | 46 => 275 | 232 => 307 | 233 => 308 | n => n, fun | 17 => 2 | 18 => 5 | 19 => 6 | n => n⟩
open Go.RowKit Go.Sort Go.Lib in
theorem Tryz.internal_strconv_Itoa (n : Int) (h0 : -9223372036854775808 ≤ n) (h1 : n ≤ 9223372036854775807) (w : World) (htab : Lib.TabIs Tryz.prog w "internal/strconv.uint64pow10" .u64 Lib.pow10Tab) :
    Calls Tryz.prog 199 #[.int .i64 n] w fun e w' => e = .returned (.string ⟨(Lib.itoa n).toArray⟩) ∧ ∃ k os, w' = grow (w.drewN k) os := Any.internal_strconv_Itoa Tryz.laysM243 n h0 h1 w htab
open Go.RowKit Go.Sort Go.Lib in
theorem Tryz.internal_strconv_Itoa_small (i : Nat) (hi : i < 100) (w : World) :
    Calls Tryz.prog 199 #[.int .i64 i] w fun e w' => e = .returned (.string ⟨(Lib.decDigits i).toArray⟩) ∧ w' = w := Any.internal_strconv_Itoa_small Tryz.lays243 i hi w
def Tryz.laysM171_ren : Go.Shelf.Ren := ⟨fun | 171 => 184 | 243 => 199 | 246 => 212 | 283 => 217 | 284 => 218 | 285 => 219 | 286 => 220 | 129 => 227 | 317 => 226 | 318 => 228 | 319 => 229 | 320 => 230 | 337 => 238 | 338 => 239 | n => n, fun | 3 => 3 | 9 => 9 | 2 => 2 | 4 => 4 | 171 => 281 | 0 => 0 | 53 => 61 | 37 => 48 | 5 => 5 | 173 => 284 | 212 => 289 | 51 => 290 | 20 => 20 | 213 => 291 | 46 => 275 | 232 => 307 | 233 => 308 | n => n, fun | 17 => 2 | 18 => 5 | 19 => 6 | n => n⟩
theorem Tryz.laysM171 : Go.Proofs.LaysM.n171 Tryz.prog Tryz.laysM171_ren := {
  mixed := by kernel_rfl
  f129 := Tryz.func227.trans (congrArg some (by kernel_rfl))
  f171 := Tryz.func184.trans (congrArg some (by kernel_rfl))
  f243 := Tryz.func199.trans (congrArg some (by kernel_rfl))
  f246 := Tryz.func212.trans (congrArg some (by kernel_rfl))
  f283 := Tryz.func217.trans (congrArg some (by kernel_rfl))
  f284 := Tryz.func218.trans (congrArg some (by kernel_rfl))
  f285 := Tryz.func219.trans (congrArg some (by kernel_rfl))
  f286 := Tryz.func220.trans (congrArg some (by kernel_rfl))
  f317 := Tryz.func226.trans (congrArg some (by kernel_rfl))
  f318 := Tryz.func228.trans (congrArg some (by kernel_rfl))
  f319 := Tryz.func229.trans (congrArg some (by kernel_rfl))
  f320 := Tryz.func230.trans (congrArg some (by kernel_rfl))
  f337 := Tryz.func238.trans (congrArg some (by kernel_rfl))
  f338 := Tryz.func239.trans (congrArg some (by kernel_rfl))
  t0 := Tryz.underlying0
  a0 := Tryz.isAgg0
  z0 := Tryz.sizeOf0
  v0 := Tryz.zeroValue0
  t2 := Tryz.underlying2
  a2 := Tryz.isAgg2
  z2 := Tryz.sizeOf2
  v2 := Tryz.zeroValue2
  t3 := Tryz.underlying3
  a3 := Tryz.isAgg3
  z3 := Tryz.sizeOf3
  v3 := Tryz.zeroValue3
  t4 := Tryz.underlying4
  a4 := Tryz.isAgg4
  z4 := Tryz.sizeOf4
  v4 := Tryz.zeroValue4
  t5 := Tryz.underlying5
  a5 := Tryz.isAgg5
  z5 := Tryz.sizeOf5
  v5 := Tryz.zeroValue5
  t9 := Tryz.underlying9
  a9 := Tryz.isAgg9
  z9 := Tryz.sizeOf9
  v9 := Tryz.zeroValue9
  t20 := Tryz.underlying20
  a20 := Tryz.isAgg20
  z20 := Tryz.sizeOf20
  v20 := Tryz.zeroValue20
  t37 := Tryz.underlying48
  a37 := Tryz.isAgg48
  z37 := Tryz.sizeOf48
  v37 := Tryz.zeroValue48
  t46 := Tryz.underlying275
  a46 := Tryz.isAgg275
  z46 := Tryz.sizeOf275
  v46 := Tryz.zeroValue275
  t51 := Tryz.underlying290
  a51 := Tryz.isAgg290
  z51 := Tryz.sizeOf290
  v51 := Tryz.zeroValue290
  t53 := Tryz.underlying61
  a53 := Tryz.isAgg61
  z53 := Tryz.sizeOf61
  v53 := Tryz.zeroValue61
  t171 := Tryz.underlying281
  a171 := Tryz.isAgg281
  z171 := Tryz.sizeOf281
  v171 := Tryz.zeroValue281
  t173 := Tryz.underlying284
  a173 := Tryz.isAgg284
  z173 := Tryz.sizeOf284
  v173 := Tryz.zeroValue284
  t212 := Tryz.underlying289
  a212 := Tryz.isAgg289
  z212 := Tryz.sizeOf289
  v212 := Tryz.zeroValue289
  t213 := Tryz.underlying291
  a213 := Tryz.isAgg291
  z213 := Tryz.sizeOf291
  t232 := Tryz.underlying307
  a232 := Tryz.isAgg307
  z232 := Tryz.sizeOf307
  v232 := Tryz.zeroValue307
  t233 := Tryz.underlying308
  a233 := Tryz.isAgg308
  z233 := Tryz.sizeOf308
  v233 := Tryz.zeroValue308
  g17 := by kernel_rfl
  g18 := by kernel_rfl
  g19 := by kernel_rfl
  i0 := by kernel_rfl
  i2 := by kernel_rfl
  i3 := by kernel_rfl
  i4 := by kernel_rfl
  i5 := by kernel_rfl
  i9 := by kernel_rfl
  i20 := by kernel_rfl
  i37 := by kernel_rfl
  i46 := by kernel_rfl
  i51 := by kernel_rfl
  i53 := by kernel_rfl
  i171 := by kernel_rfl
  i173 := by kernel_rfl
  i212 := by kernel_rfl
  i232 := by kernel_rfl
  i233 := by kernel_rfl
  m17 := by kernel_rfl
  m18 := by kernel_rfl
  m19 := by kernel_rfl }
open Go.RowKit Go.Sort Go.Lib in
theorem Tryz.strconv_Itoa (n : Int) (h0 : -9223372036854775808 ≤ n) (h1 : n ≤ 9223372036854775807) (w : World) (htab : Lib.TabIs Tryz.prog w "internal/strconv.uint64pow10" .u64 Lib.pow10Tab) :
    Calls Tryz.prog 184 #[.int .i64 n] w fun e w' => e = .returned (.string ⟨(Lib.itoa n).toArray⟩) ∧ ∃ k os, w' = grow (w.drewN k) os := Any.strconv_Itoa Tryz.laysM171 n h0 h1 w htab
open Go.RowKit Go.Sort Go.Lib in
theorem Tryz.strconv_Itoa_small (i : Nat) (hi : i < 100) (w : World) :
    Calls Tryz.prog 184 #[.int .i64 i] w fun e w' => e = .returned (.string ⟨(Lib.decDigits i).toArray⟩) ∧ w' = w := Any.strconv_Itoa_small Tryz.lays171 i hi w
def Tryz.laysC172_ren : Go.Shelf.Ren := ⟨fun | 172 => 225 | 244 => 236 | 245 => 237 | 247 => 242 | 279 => 243 | 280 => 244 | 281 => 245 | 282 => 246 | 287 => 247 | 316 => 248 | 171 => 184 | 205 => 249 | 321 => 250 | 322 => 251 | 243 => 199 | 246 => 212 | 283 => 217 | 284 => 218 | 285 => 219 | 286 => 220 | 129 => 227 | 317 => 226 | 318 => 228 | 319 => 229 | 320 => 230 | 337 => 238 | 338 => 239 | n => n, fun | 9 => 9 | 3 => 3 | 75 => 230 | 76 => 231 | 4 => 4 | 5 => 5 | 167 => 301 | 37 => 48 | 0 => 0 | 85 => 302 | 2 => 2 | 168 => 304 | 53 => 61 | 175 => 309 | 46 => 275 | 210 => 312 | 127 => 255 | 145 => 317 | 143 => 315 | 21 => 21 | 171 => 281 | 173 => 284 | 212 => 289 | 51 => 290 | 20 => 20 | 213 => 291 | 232 => 307 | 233 => 308 | 80 => 233 | n => n, fun | 15 => 7 | 16 => 8 | 17 => 2 | 18 => 5 | 19 => 6 | n => n⟩
theorem Tryz.laysC172 : Go.Proofs.LaysC.n172 Tryz.prog Tryz.laysC172_ren := {
  mixed := by kernel_rfl
  f129 := Tryz.func227.trans (congrArg some (by kernel_rfl))
  f171 := Tryz.func184.trans (congrArg some (by kernel_rfl))
  f172 := Tryz.func225.trans (congrArg some (by kernel_rfl))
  f205 := Tryz.func249.trans (congrArg some (by kernel_rfl))
  f243 := Tryz.func199.trans (congrArg some (by kernel_rfl))
  f244 := Tryz.func236.trans (congrArg some (by kernel_rfl))
  f245 := Tryz.func237.trans (congrArg some (by kernel_rfl))
  f246 := Tryz.func212.trans (congrArg some (by kernel_rfl))
  f247 := Tryz.func242.trans (congrArg some (by kernel_rfl))
  f279 := Tryz.func243.trans (congrArg some (by kernel_rfl))
  f280 := Tryz.func244.trans (congrArg some (by kernel_rfl))
  f281 := Tryz.func245.trans (congrArg some (by kernel_rfl))
  f282 := Tryz.func246.trans (congrArg some (by kernel_rfl))
  f283 := Tryz.func217.trans (congrArg some (by kernel_rfl))
  f284 := Tryz.func218.trans (congrArg some (by kernel_rfl))
  f285 := Tryz.func219.trans (congrArg some (by kernel_rfl))
  f286 := Tryz.func220.trans (congrArg some (by kernel_rfl))
  f287 := Tryz.func247.trans (congrArg some (by kernel_rfl))
  f316 := Tryz.func248.trans (congrArg some (by kernel_rfl))
  f317 := Tryz.func226.trans (congrArg some (by kernel_rfl))
  f318 := Tryz.func228.trans (congrArg some (by kernel_rfl))
  f319 := Tryz.func229.trans (congrArg some (by kernel_rfl))
  f320 := Tryz.func230.trans (congrArg some (by kernel_rfl))
  f321 := Tryz.func250.trans (congrArg some (by kernel_rfl))
  f322 := Tryz.func251.trans (congrArg some (by kernel_rfl))
  f337 := Tryz.func238.trans (congrArg some (by kernel_rfl))
  f338 := Tryz.func239.trans (congrArg some (by kernel_rfl))
  t0 := Tryz.underlying0
  a0 := Tryz.isAgg0
  z0 := Tryz.sizeOf0
  v0 := Tryz.zeroValue0
  t2 := Tryz.underlying2
  a2 := Tryz.isAgg2
  z2 := Tryz.sizeOf2
  v2 := Tryz.zeroValue2
  t3 := Tryz.underlying3
  a3 := Tryz.isAgg3
  z3 := Tryz.sizeOf3
  v3 := Tryz.zeroValue3
  t4 := Tryz.underlying4
  a4 := Tryz.isAgg4
  z4 := Tryz.sizeOf4
  v4 := Tryz.zeroValue4
  t5 := Tryz.underlying5
  a5 := Tryz.isAgg5
  z5 := Tryz.sizeOf5
  v5 := Tryz.zeroValue5
  t9 := Tryz.underlying9
  a9 := Tryz.isAgg9
  z9 := Tryz.sizeOf9
  v9 := Tryz.zeroValue9
  t20 := Tryz.underlying20
  a20 := Tryz.isAgg20
  z20 := Tryz.sizeOf20
  v20 := Tryz.zeroValue20
  t21 := Tryz.underlying21
  a21 := Tryz.isAgg21
  z21 := Tryz.sizeOf21
  v21 := Tryz.zeroValue21
  t37 := Tryz.underlying48
  a37 := Tryz.isAgg48
  z37 := Tryz.sizeOf48
  v37 := Tryz.zeroValue48
  t46 := Tryz.underlying275
  a46 := Tryz.isAgg275
  z46 := Tryz.sizeOf275
  v46 := Tryz.zeroValue275
  t51 := Tryz.underlying290
  a51 := Tryz.isAgg290
  z51 := Tryz.sizeOf290
  v51 := Tryz.zeroValue290
  t53 := Tryz.underlying61
  a53 := Tryz.isAgg61
  z53 := Tryz.sizeOf61
  v53 := Tryz.zeroValue61
  t75 := Tryz.underlying230
  a75 := Tryz.isAgg230
  z75 := Tryz.sizeOf230
  v75 := Tryz.zeroValue230
  t76 := Tryz.underlying231
  a76 := Tryz.isAgg231
  z76 := Tryz.sizeOf231
  v76 := Tryz.zeroValue231
  t85 := Tryz.underlying302
  a85 := Tryz.isAgg302
  z85 := Tryz.sizeOf302
  v85 := Tryz.zeroValue302
  t127 := Tryz.underlying255
  a127 := Tryz.isAgg255
  z127 := Tryz.sizeOf255
  v127 := Tryz.zeroValue255
  t143 := Tryz.underlying315
  a143 := Tryz.isAgg315
  z143 := Tryz.sizeOf315
  v143 := Tryz.zeroValue315
  t145 := Tryz.underlying317
  a145 := Tryz.isAgg317
  z145 := Tryz.sizeOf317
  v145 := Tryz.zeroValue317
  t167 := Tryz.underlying301
  a167 := Tryz.isAgg301
  z167 := Tryz.sizeOf301
  v167 := Tryz.zeroValue301
  t168 := Tryz.underlying304
  a168 := Tryz.isAgg304
  z168 := Tryz.sizeOf304
  v168 := Tryz.zeroValue304
  t171 := Tryz.underlying281
  a171 := Tryz.isAgg281
  z171 := Tryz.sizeOf281
  v171 := Tryz.zeroValue281
  t173 := Tryz.underlying284
  a173 := Tryz.isAgg284
  z173 := Tryz.sizeOf284
  v173 := Tryz.zeroValue284
  t175 := Tryz.underlying309
  a175 := Tryz.isAgg309
  z175 := Tryz.sizeOf309
  v175 := Tryz.zeroValue309
  t210 := Tryz.underlying312
  a210 := Tryz.isAgg312
  z210 := Tryz.sizeOf312
  v210 := Tryz.zeroValue312
  t212 := Tryz.underlying289
  a212 := Tryz.isAgg289
  z212 := Tryz.sizeOf289
  v212 := Tryz.zeroValue289
  t213 := Tryz.underlying291
  a213 := Tryz.isAgg291
  z213 := Tryz.sizeOf291
  t232 := Tryz.underlying307
  a232 := Tryz.isAgg307
  z232 := Tryz.sizeOf307
  v232 := Tryz.zeroValue307
  t233 := Tryz.underlying308
  a233 := Tryz.isAgg308
  z233 := Tryz.sizeOf308
  v233 := Tryz.zeroValue308
  g15 := by kernel_rfl
  g16 := by kernel_rfl
  g17 := by kernel_rfl
  g18 := by kernel_rfl
  g19 := by kernel_rfl
  t80 := Tryz.underlying233
  a80 := Tryz.isAgg233
  z80 := Tryz.sizeOf233
  v80 := Tryz.zeroValue233
  i0 := by kernel_rfl
  i2 := by kernel_rfl
  i3 := by kernel_rfl
  i4 := by kernel_rfl
  i5 := by kernel_rfl
  i9 := by kernel_rfl
  i20 := by kernel_rfl
  i21 := by kernel_rfl
  i37 := by kernel_rfl
  i46 := by kernel_rfl
  i51 := by kernel_rfl
  i53 := by kernel_rfl
  i75 := by kernel_rfl
  i76 := by kernel_rfl
  i80 := by kernel_rfl
  i85 := by kernel_rfl
  i127 := by kernel_rfl
  i143 := by kernel_rfl
  i145 := by kernel_rfl
  i167 := by kernel_rfl
  i168 := by kernel_rfl
  i171 := by kernel_rfl
  i173 := by kernel_rfl
  i175 := by kernel_rfl
  i210 := by kernel_rfl
  i212 := by kernel_rfl
  i232 := by kernel_rfl
  i233 := by kernel_rfl
  m15 := by kernel_rfl
  m16 := by kernel_rfl
  m17 := by kernel_rfl
  m18 := by kernel_rfl
  m19 := by kernel_rfl
  c0 := by kernel_rfl
  c2 := by kernel_rfl
  c3 := by kernel_rfl
  c4 := by kernel_rfl
  c5 := by kernel_rfl
  c9 := by kernel_rfl
  c20 := by kernel_rfl
  c21 := by kernel_rfl
  c37 := by kernel_rfl
  c46 := by kernel_rfl
  c51 := by kernel_rfl
  c53 := by kernel_rfl
  c75 := by kernel_rfl
  c76 := by kernel_rfl
  c80 := by kernel_rfl
  c85 := by kernel_rfl
  c127 := by kernel_rfl
  c143 := by kernel_rfl
  c145 := by kernel_rfl
  c167 := by kernel_rfl
  c168 := by kernel_rfl
  c171 := by kernel_rfl
  c173 := by kernel_rfl
  c175 := by kernel_rfl
  c210 := by kernel_rfl
  c212 := by kernel_rfl
  c213 := by kernel_rfl
  c232 := by kernel_rfl
  c233 := by kernel_rfl }
open Go.RowKit in
theorem Tryz.strconv_Atoi_ok (s : ByteArray) (hmax : s.size ≤ 9223372036854775806) (v : Int) (h : Lib.atoiAll s.data.toList = .ok v) (w : World) :
    Calls Tryz.prog 225 #[.string s] w fun e w' => e = .returned (.tuple #[.int .i64 v, .nilIface]) ∧ (w' = w ∨ ∃ t, w' = Lib.bytesWorld w 5 t) := Any.strconv_Atoi_ok Tryz.laysC172 s hmax v h w
open Go.RowKit in
theorem Tryz.strconv_Atoi_syntax (s : ByteArray) (hlim : s.size ≤ 281474976710656) (h : Lib.atoiAll s.data.toList = Lib.NumEnd.syntax) (ev : Value) (w : World) (hv : w.cell? ⟨7, 0, none⟩ = some ev) (hev : ev = .nilIface ∨ ∃ te pe, ev = .iface te pe) :
    Calls Tryz.prog 225 #[.string s] w fun e w' => ∃ N, e = .returned (.tuple #[.int .i64 (0), .iface 304 (.pointer (some ⟨N, 0, none⟩))]) ∧ w.heap.size ≤ N ∧ w'.heap[N]? = some (.cells #[.string ⟨#[65, 116, 111, 105]⟩, .string s, ev] 312 (0, 0)) ∧ Below w.heap.size w w' := Any.strconv_Atoi_syntax Tryz.laysC172 s hlim h ev w hv hev
open Go.RowKit in
theorem Tryz.strconv_Atoi_range (s : ByteArray) (hlim : s.size ≤ 281474976710656) (h : Lib.atoiAll s.data.toList = .range) (ev : Value) (w : World) (hv : w.cell? ⟨8, 0, none⟩ = some ev) (hev : ev = .nilIface ∨ ∃ te pe, ev = .iface te pe) :
    Calls Tryz.prog 225 #[.string s] w fun e w' => ∃ N, e = .returned (.tuple #[.int .i64 (Lib.atoiSat s.data.toList), .iface 304 (.pointer (some ⟨N, 0, none⟩))]) ∧ w.heap.size ≤ N ∧ w'.heap[N]? = some (.cells #[.string ⟨#[65, 116, 111, 105]⟩, .string s, ev] 312 (0, 0)) ∧ Below w.heap.size w w' := Any.strconv_Atoi_range Tryz.laysC172 s hlim h ev w hv hev
open Go.RowKit in
theorem Tryz.strconv_Atoi_syntax_var (s : ByteArray) (hlim : s.size ≤ 281474976710656) (h : Lib.atoiAll s.data.toList = Lib.NumEnd.syntax) (tp : TypeId) (p : Value) (w : World) (hvar : w.var? Tryz.prog "strconv.ErrSyntax" = some #[.iface tp p]) :
    Calls Tryz.prog 225 #[.string s] w fun e w' => ∃ N, e = .returned (.tuple #[.int .i64 0, .iface 304 (.pointer (some ⟨N, 0, none⟩))]) ∧ w.heap.size ≤ N ∧ w'.heap[N]? = some (.cells #[.string ⟨#[65, 116, 111, 105]⟩, .string s, .iface tp p] 312 (0, 0)) ∧ Below w.heap.size w w' := Any.strconv_Atoi_syntax_var Tryz.laysC172 s hlim h tp p w hvar
open Go.RowKit in
theorem Tryz.strconv_Atoi_range_var (s : ByteArray) (hlim : s.size ≤ 281474976710656) (h : Lib.atoiAll s.data.toList = .range) (tp : TypeId) (p : Value) (w : World) (hvar : w.var? Tryz.prog "strconv.ErrRange" = some #[.iface tp p]) :
    Calls Tryz.prog 225 #[.string s] w fun e w' => ∃ N, e = .returned (.tuple #[.int .i64 (Lib.atoiSat s.data.toList), .iface 304 (.pointer (some ⟨N, 0, none⟩))]) ∧ w.heap.size ≤ N ∧ w'.heap[N]? = some (.cells #[.string ⟨#[65, 116, 111, 105]⟩, .string s, .iface tp p] 312 (0, 0)) ∧ Below w.heap.size w w' := Any.strconv_Atoi_range_var Tryz.laysC172 s hlim h tp p w hvar
open Go.RowKit Go.Lib in
theorem Tryz.strings_Count_any (s sep : ByteArray) (m : Int) (w : World) (hs : s.size < 4294967281) (hm : w.cell? ⟨1, 0, none⟩ = some (.int .i64 m)) (h1 : 1 ≤ sep.size) :
    Calls Tryz.prog 214 #[.string s, .string sep] w fun e w' => e = .returned (.int .i64 (Lib.countB s sep)) ∧ w' = w := Any.strings_Count_any Tryz.lays138 s sep m w hs hm h1
def Tryz.lays221_ren : Go.Shelf.Ren := ⟨fun | 221 => 202 | 268 => 213 | 138 => 214 | 143 => 215 | 195 => 221 | 197 => 222 | 218 => 223 | 219 => 224 | 260 => 231 | 217 => 232 | 225 => 233 | 224 => 234 | 267 => 235 | 266 => 240 | 314 => 241 | n => n, fun | 9 => 9 | 3 => 3 | 31 => 23 | 4 => 4 | 0 => 0 | 105 => 286 | 21 => 21 | 5 => 5 | 46 => 275 | 119 => 295 | 139 => 298 | 138 => 297 | 146 => 299 | 51 => 290 | n => n, fun | 1 => 1 | 3 => 3 | 4 => 4 | n => n⟩
open Go.RowKit Go.Lib in
theorem Tryz.strings_genSplit (s sep : ByteArray) (sv : Nat) (n : Int) (N : Nat) (m : Int) (w : World) (hs : s.size < 4294967281) (hm : w.cell? ⟨1, 0, none⟩ = some (.int .i64 m)) (h1 : 1 ≤ sep.size) (hsv : sv ≤ sep.size) (hn0 : n ≠ 0) (hn63 : n ≤ 9223372036854775807) (hN : (N : Int) = min (if n < 0 then (Lib.countB s sep : Int) + 1 else n) ((s.size : Int) + 1)) :
    Calls Tryz.prog 202 #[.string s, .string sep, .int .i64 sv, .int .i64 n] w fun e w' =>
      e = .returned (.slice (some ⟨w.heap.size, 0, none⟩) (Lib.splitB sep sv (N - 1) s).length N) ∧ w' = w.alloc (.cells (Lib.cellsOf (Lib.splitB sep sv (N - 1) s) N) 9) := Any.strings_genSplit Tryz.lays221 (by kernel_rfl) s sep sv n N m w hs hm h1 hsv hn0 hn63 hN
def Tryz.lays146_ren : Go.Shelf.Ren := ⟨fun | 146 => 191 | 221 => 202 | 268 => 213 | 138 => 214 | 143 => 215 | 195 => 221 | 197 => 222 | 218 => 223 | 219 => 224 | 260 => 231 | 217 => 232 | 225 => 233 | 224 => 234 | 267 => 235 | 266 => 240 | 314 => 241 | n => n, fun | 9 => 9 | 31 => 23 | 3 => 3 | 4 => 4 | 0 => 0 | 105 => 286 | 21 => 21 | 5 => 5 | 46 => 275 | 119 => 295 | 139 => 298 | 138 => 297 | 146 => 299 | 51 => 290 | n => n, fun | 1 => 1 | 3 => 3 | 4 => 4 | n => n⟩
theorem Tryz.lays146 : Go.Proofs.Lays.n146 Tryz.prog Tryz.lays146_ren := {
  mixed := by kernel_rfl
  f138 := Tryz.func214.trans (congrArg some (by kernel_rfl))
  f143 := Tryz.func215.trans (congrArg some (by kernel_rfl))
  f146 := Tryz.func191.trans (congrArg some (by kernel_rfl))
  f195 := Tryz.func221.trans (congrArg some (by kernel_rfl))
  f197 := Tryz.func222.trans (congrArg some (by kernel_rfl))
  f217 := Tryz.func232.trans (congrArg some (by kernel_rfl))
  f218 := Tryz.func223.trans (congrArg some (by kernel_rfl))
  f219 := Tryz.func224.trans (congrArg some (by kernel_rfl))
  f221 := Tryz.func202.trans (congrArg some (by kernel_rfl))
  f224 := Tryz.func234.trans (congrArg some (by kernel_rfl))
  f225 := Tryz.func233.trans (congrArg some (by kernel_rfl))
  f260 := Tryz.func231.trans (congrArg some (by kernel_rfl))
  f266 := Tryz.func240.trans (congrArg some (by kernel_rfl))
  f267 := Tryz.func235.trans (congrArg some (by kernel_rfl))
  f268 := Tryz.func213.trans (congrArg some (by kernel_rfl))
  f314 := Tryz.func241.trans (congrArg some (by kernel_rfl))
  t0 := Tryz.underlying0
  a0 := Tryz.isAgg0
  z0 := Tryz.sizeOf0
  v0 := Tryz.zeroValue0
  t3 := Tryz.underlying3
  a3 := Tryz.isAgg3
  z3 := Tryz.sizeOf3
  v3 := Tryz.zeroValue3
  t4 := Tryz.underlying4
  a4 := Tryz.isAgg4
  z4 := Tryz.sizeOf4
  v4 := Tryz.zeroValue4
  t5 := Tryz.underlying5
  a5 := Tryz.isAgg5
  z5 := Tryz.sizeOf5
  v5 := Tryz.zeroValue5
  t9 := Tryz.underlying9
  a9 := Tryz.isAgg9
  z9 := Tryz.sizeOf9
  v9 := Tryz.zeroValue9
  t21 := Tryz.underlying21
  a21 := Tryz.isAgg21
  z21 := Tryz.sizeOf21
  v21 := Tryz.zeroValue21
  t31 := Tryz.underlying23
  a31 := Tryz.isAgg23
  z31 := Tryz.sizeOf23
  v31 := Tryz.zeroValue23
  t46 := Tryz.underlying275
  a46 := Tryz.isAgg275
  z46 := Tryz.sizeOf275
  v46 := Tryz.zeroValue275
  t51 := Tryz.underlying290
  a51 := Tryz.isAgg290
  z51 := Tryz.sizeOf290
  v51 := Tryz.zeroValue290
  t105 := Tryz.underlying286
  a105 := Tryz.isAgg286
  z105 := Tryz.sizeOf286
  v105 := Tryz.zeroValue286
  t119 := Tryz.underlying295
  a119 := Tryz.isAgg295
  z119 := Tryz.sizeOf295
  t138 := Tryz.underlying297
  a138 := Tryz.isAgg297
  z138 := Tryz.sizeOf297
  v138 := Tryz.zeroValue297
  t139 := Tryz.underlying298
  a139 := Tryz.isAgg298
  z139 := Tryz.sizeOf298
  v139 := Tryz.zeroValue298
  t146 := Tryz.underlying299
  a146 := Tryz.isAgg299
  z146 := Tryz.sizeOf299
  v146 := Tryz.zeroValue299
  g1 := by kernel_rfl
  g3 := by kernel_rfl
  g4 := by kernel_rfl }
open Go.RowKit Go.Lib in
theorem Tryz.strings_Split (s sep : ByteArray) (m : Int) (w : World) (hs : s.size < 4294967281) (hm : w.cell? ⟨1, 0, none⟩ = some (.int .i64 m)) (h1 : 1 ≤ sep.size) :
    Calls Tryz.prog 191 #[.string s, .string sep] w fun e w' =>
      e = .returned (.slice (some ⟨w.heap.size, 0, none⟩) (Lib.countB s sep + 1) (Lib.countB s sep + 1)) ∧ w' = w.alloc (.cells ((Lib.splitB sep 0 (Lib.countB s sep) s).map Value.string).toArray 9) := Any.strings_Split Tryz.lays146 (by kernel_rfl) s sep m w hs hm h1
def Tryz.laysSlQ8_f73_ren : Go.Shelf.Ren := ⟨fun | 8 => 73 | n => n, fun | 22 => 43 | 24 => 114 | 4 => 4 | 3 => 3 | 0 => 0 | n => n, fun | n => n⟩
theorem Tryz.laysSlQ8_f73 : Go.Proofs.SlLaysQ.n8 Tryz.prog Tryz.laysSlQ8_f73_ren := {
  mixed := by kernel_rfl
  f8 := ⟨Tryz.f73.name, by decide, Tryz.func73.trans (congrArg some (by kernel_rfl))⟩
  t0 := Tryz.underlying0
  a0 := Tryz.isAgg0
  z0 := Tryz.sizeOf0
  v0 := Tryz.zeroValue0
  t3 := Tryz.underlying3
  a3 := Tryz.isAgg3
  z3 := Tryz.sizeOf3
  v3 := Tryz.zeroValue3
  t4 := Tryz.underlying4
  a4 := Tryz.isAgg4
  z4 := Tryz.sizeOf4
  v4 := Tryz.zeroValue4
  t22 := Tryz.underlying43
  a22 := Tryz.isAgg43
  z22 := Tryz.sizeOf43
  v22 := Tryz.zeroValue43 }
open Go.RowKit Go.Lib in
theorem Tryz.slices_Equal_f73 {α : Type} [Inhabited α] (k : Nat) (aE : ∀ w, (isAgg 114).run Tryz.prog w = .ok true w) (zE : ∀ w, (Go.sizeOf 114).run Tryz.prog w = .ok k w) (enc : α → List Value) (hk : ∀ x, (enc x).length = k) (eq : α → α → Bool) (hne : NeqAt Tryz.prog 114 (fun x => .agg (enc x).toArray) eq) (b1 o1 n c b2 o2 m d : Nat) (xs ys : List α) (w : World) (hx : n ≤ xs.length) (hy : m ≤ ys.length) (hbig : n ≤ 9223372036854775807) (hbig2 : m ≤ 9223372036854775807) (hc1 : ∀ j, j < xs.length → ∀ i v, (enc xs[j]!)[i]? = some v → w.cell? ⟨b1, o1 + j * k + i, none⟩ = some v) (hc2 : ∀ j, j < ys.length → ∀ i v, (enc ys[j]!)[i]? = some v → w.cell? ⟨b2, o2 + j * k + i, none⟩ = some v) :
    Calls Tryz.prog 73 #[.slice (some ⟨b1, o1, none⟩) n c, .slice (some ⟨b2, o2, none⟩) m d] w fun e w' => e = .returned (.bool (Lib.allEq eq (xs.take n) (ys.take m))) ∧ ∃ q, w' = w.drewN q := AnyQ.slices_Equal Tryz.laysSlQ8_f73 k aE zE enc hk eq hne b1 o1 n c b2 o2 m d xs ys w hx hy hbig hbig2 hc1 hc2
open Go.RowKit Go.Lib in
theorem Tryz.slices_Equal_f136 {α : Type} [Inhabited α] (k : Nat) (aE : ∀ w, (isAgg 95).run Tryz.prog w = .ok true w) (zE : ∀ w, (Go.sizeOf 95).run Tryz.prog w = .ok k w) (enc : α → List Value) (hk : ∀ x, (enc x).length = k) (eq : α → α → Bool) (hne : NeqAt Tryz.prog 95 (fun x => .agg (enc x).toArray) eq) (b1 o1 n c b2 o2 m d : Nat) (xs ys : List α) (w : World) (hx : n ≤ xs.length) (hy : m ≤ ys.length) (hbig : n ≤ 9223372036854775807) (hbig2 : m ≤ 9223372036854775807) (hc1 : ∀ j, j < xs.length → ∀ i v, (enc xs[j]!)[i]? = some v → w.cell? ⟨b1, o1 + j * k + i, none⟩ = some v) (hc2 : ∀ j, j < ys.length → ∀ i v, (enc ys[j]!)[i]? = some v → w.cell? ⟨b2, o2 + j * k + i, none⟩ = some v) :
    Calls Tryz.prog 136 #[.slice (some ⟨b1, o1, none⟩) n c, .slice (some ⟨b2, o2, none⟩) m d] w fun e w' => e = .returned (.bool (Lib.allEq eq (xs.take n) (ys.take m))) ∧ ∃ q, w' = w.drewN q := AnyQ.slices_Equal Tryz.laysSlQ8_f136 k aE zE enc hk eq hne b1 o1 n c b2 o2 m d xs ys w hx hy hbig hbig2 hc1 hc2
def Tryz.laysSlQ8_f139_ren : Go.Shelf.Ren := ⟨fun | 8 => 139 | n => n, fun | 22 => 42 | 24 => 165 | 4 => 4 | 3 => 3 | 0 => 0 | n => n, fun | n => n⟩
theorem Tryz.laysSlQ8_f139 : Go.Proofs.SlLaysQ.n8 Tryz.prog Tryz.laysSlQ8_f139_ren := {
  mixed := by kernel_rfl
  f8 := ⟨Tryz.f139.name, by decide, Tryz.func139.trans (congrArg some (by kernel_rfl))⟩
  t0 := Tryz.underlying0
  a0 := Tryz.isAgg0
  z0 := Tryz.sizeOf0
  v0 := Tryz.zeroValue0
  t3 := Tryz.underlying3
  a3 := Tryz.isAgg3
  z3 := Tryz.sizeOf3
  v3 := Tryz.zeroValue3
  t4 := Tryz.underlying4
  a4 := Tryz.isAgg4
  z4 := Tryz.sizeOf4
  v4 := Tryz.zeroValue4
  t22 := Tryz.underlying42
  a22 := Tryz.isAgg42
  z22 := Tryz.sizeOf42
  v22 := Tryz.zeroValue42 }
open Go.RowKit Go.Lib in
theorem Tryz.slices_Equal_f139 {α : Type} [Inhabited α] (k : Nat) (aE : ∀ w, (isAgg 165).run Tryz.prog w = .ok true w) (zE : ∀ w, (Go.sizeOf 165).run Tryz.prog w = .ok k w) (enc : α → List Value) (hk : ∀ x, (enc x).length = k) (eq : α → α → Bool) (hne : NeqAt Tryz.prog 165 (fun x => .agg (enc x).toArray) eq) (b1 o1 n c b2 o2 m d : Nat) (xs ys : List α) (w : World) (hx : n ≤ xs.length) (hy : m ≤ ys.length) (hbig : n ≤ 9223372036854775807) (hbig2 : m ≤ 9223372036854775807) (hc1 : ∀ j, j < xs.length → ∀ i v, (enc xs[j]!)[i]? = some v → w.cell? ⟨b1, o1 + j * k + i, none⟩ = some v) (hc2 : ∀ j, j < ys.length → ∀ i v, (enc ys[j]!)[i]? = some v → w.cell? ⟨b2, o2 + j * k + i, none⟩ = some v) :
    Calls Tryz.prog 139 #[.slice (some ⟨b1, o1, none⟩) n c, .slice (some ⟨b2, o2, none⟩) m d] w fun e w' => e = .returned (.bool (Lib.allEq eq (xs.take n) (ys.take m))) ∧ ∃ q, w' = w.drewN q := AnyQ.slices_Equal Tryz.laysSlQ8_f139 k aE zE enc hk eq hne b1 o1 n c b2 o2 m d xs ys w hx hy hbig hbig2 hc1 hc2
end Go.Proofs

/- Words that stand for whole numbers: sums, differences, products, the other sign, order, cut: exact below 2^53. No program in it. -/
namespace Go.Proofs.YtbookbgfipbaoaaGreatDoor.Zo
open Ieee

/-- The word x stands for the whole number n. -/
def Num (x : Nat) (n : Int) : Prop := IsNum (double.read x) n

theorem num_fl (n : Int) (h : n.natAbs < 2 ^ 53) : Num (fl n) n := read_fl n h
theorem isnum_mk (s : Bool) (n : Int) (j : Nat) (h : n ≠ 0 → s = decide (n < 0)) : IsNum (.number s (n.natAbs * 2 ^ j) (-(j : Int))) n := ⟨s, j, rfl, h⟩

/-- What is written of a whole number below 2^53 stands for it. -/
theorem num_write {d : Datum} {n : Int} (h : IsNum d n) (hn : n.natAbs < 2 ^ 53) : Num (double.write d) n := by
  obtain ⟨s, j, rfl, hs⟩ := h
  by_cases h0 : n = 0
  · subst h0
    show IsNum (double.read (double.nearest s (Int.natAbs 0 * 2 ^ j) (-(j : Int)))) 0
    rw [Int.natAbs_zero, Nat.zero_mul]
    unfold Format.nearest
    rw [if_pos rfl]
    cases s
    · rw [show double.read (double.word false 0) = .number false 0 (-((1074 : Nat) : Int)) by decide]
      exact isnum_zero false 1074
    · rw [show double.read (double.word true 0) = .number true 0 (-((1074 : Nat) : Int)) by decide]
      exact isnum_zero true 1074
  · have := nearest_whole s n.natAbs j hn (by omega)
    rw [hs h0] at this ⊢
    rw [← fl_word n hn h0] at this
    show IsNum (double.read (double.nearest (decide (n < 0)) (n.natAbs * 2 ^ j) (-(j : Int)))) n
    rw [this]
    exact read_fl n hn

theorem num_order {x y : Nat} {a b : Int} (hx : Num x a) (hy : Num y b) : FloatKind.f64.format.order x y = some (compare a b) := order_num hx hy
theorem num_leq {x y : Nat} {a b : Int} (hx : Num x a) (hy : Num y b) : (FloatKind.f64.format.order x y == some .lt || FloatKind.f64.format.order x y == some .eq) = decide (a ≤ b) := by
  rw [num_order hx hy]
  rcases Int.lt_trichotomy a b with h | h | h
  · rw [Int.compare_eq_lt.mpr h]; simp; omega
  · subst h; simp
  · rw [Int.compare_eq_gt.mpr h]; simp; omega
theorem num_eql {x y : Nat} {a b : Int} (hx : Num x a) (hy : Num y b) : (FloatKind.f64.format.order x y == some .eq) = decide (a = b) := by
  rw [num_order hx hy]
  rcases Int.lt_trichotomy a b with h | h | h
  · rw [Int.compare_eq_lt.mpr h]; simp; omega
  · subst h; simp
  · rw [Int.compare_eq_gt.mpr h]; simp; omega
theorem num_int {x : Nat} {a : Int} (hx : Num x a) (h : a.natAbs < 2 ^ 53) : floatToIntVal .f64 x .i64 = some a := by
  have : (FloatKind.f64.decode x).toInt .zero = some a := toInt_num hx
  unfold floatToIntVal
  rw [this]
  simp only
  rw [if_pos ⟨by rw [show IntKind.i64.min = -9223372036854775808 by decide]; omega, by rw [show IntKind.i64.max = 9223372036854775807 by decide]; omega⟩]
/-- What math.Trunc answers of a word that is no NaN. -/
def truncW (x : Nat) : Nat := double.write ((double.read x).integral .zero)
theorem num_trunc {x : Nat} {a : Int} (hx : Num x a) (h : a.natAbs < 2 ^ 53) : Num (truncW x) a := by
  obtain ⟨s, e, hs⟩ := integral_num hx
  unfold truncW
  rw [e]
  refine num_write ?_ h
  have := isnum_mk s a 0 hs
  simpa using this

end Go.Proofs.YtbookbgfipbaoaaGreatDoor.Zo
