/- frame: may its lists be? -/
import Derived.Test.YtbookbgfipbaoaaGreatDoorH9
namespace Go.Proofs.YtbookbgfipbaoaaGreatDoor
open Go.RowKit

def rightVecF (v : List At) : Bool := decide (v.length ≤ 64) && rightV v
set_option maxRecDepth 100000 in
set_option maxHeartbeats 1000000 in
theorem rightVec_any (A : Option Addr) (n c : Nat) (zs : List At) (B : Nat) (w : World) (hB : B ≤ w.heap.size) (hz : VecAt w B A n zs) (hn : n ≤ 1000000) :
    Calls Tryz.prog 26 #[.slice A n c] w fun e w' => e = .returned (.bool (rightVecF zs)) ∧ Below w.heap.size w w' := by
  have hl : zs.length = n := hz.1
  have HF := Lib.hid (show rightVecF zs = (decide (zs.length ≤ 64) && rightV zs) from rfl)
  have HC := Lib.hid (rightv_any A n c zs B w hB hz (by omega))
  clear hz
  rw [hl] at HF
  clear hl
  by_cases h : n ≤ 64
  · rw [decide_eq_true h] at HF
    have h1 : (n : Int) ≤ 64 := by omega
    go_enter Tryz.func26, Tryz.ntmps26
    go_wp2_with fail
    refine HC.out.mono ?_
    rintro e w1 ⟨rfl, hb⟩
    have HB := Lib.hid hb
    clear hb
    go_wp2
    go_ret
    exact ⟨ret_bool (by rw [HF.out]; rfl), HB.out⟩
  · rw [decide_eq_false h] at HF
    have h1 : ¬ (n : Int) ≤ 64 := by omega
    have h1' : decide ((n : Int) ≤ 64) = false := decide_eq_false h1
    go_enter Tryz.func26, Tryz.ntmps26
    go_wp2
    go_ret
    exact ⟨ret_bool (by rw [HF.out]; rfl), Below.refl _ _⟩

def rmF : Option ByteArray → List ByteArray → Bool
  | _, [] => true
  | p, a :: r => rightL a.data.toList && (Kn.prevOk p a && rmF (some a) r)
def prevT (l : List ByteArray) (k : Nat) : Option ByteArray := if k = 0 then none else l[k - 1]?
theorem rm_step {l : List ByteArray} {k : Nat} {x : ByteArray} (h : l[k]? = some x) : rmF (prevT l k) (l.drop k) = (rightL x.data.toList && (Kn.prevOk (prevT l k) x && rmF (prevT l (k + 1)) (l.drop (k + 1)))) := by
  obtain ⟨hk, rfl⟩ := List.getElem?_eq_some_iff.mp h
  rw [List.drop_eq_getElem_cons hk]
  have e : prevT l (k + 1) = some l[k] := by unfold prevT; simp [List.getElem?_eq_getElem hk]
  rw [e]
  rfl
def rightMembersF (l : List ByteArray) : Bool := decide (l.length ≤ 64) && rmF none l
theorem cell_text {w wr : World} {B : Nat} {A : Option Addr} {n : Nat} {zs : List ByteArray} (h : RowAt cellsT 1 w B A n zs) (hb : Below B w wr) {k : Nat} (hk : k < n) {blk off : Nat} (e : A = some ⟨blk, off, none⟩) : ∃ s, zs[k]? = some s ∧ wr.cell? ⟨blk, off + k, none⟩ = some (.string s) := by
  obtain ⟨b2, o2, s, e2, _, h1, h2⟩ := h.text hb hk
  rw [e] at e2
  injection e2 with e2
  injection e2 with e3 e4
  subst e3 e4
  exact ⟨s, h1, h2⟩
set_option maxRecDepth 100000 in
set_option maxHeartbeats 4000000 in
theorem rightMembers_any (A : Option Addr) (n c : Nat) (m : List ByteArray) (B : Nat) (w : World) (hB : B ≤ w.heap.size) (hz : RowAt cellsT 1 w B A n m) (hn : n ≤ 1000000) :
    Calls Tryz.prog 93 #[.slice A n c] w fun e w' => e = .returned (.bool (rightMembersF m)) ∧ Below w.heap.size w w' := by
  have HZ := Lib.hid hz
  have HL := Lib.hid hz.1
  clear hz
  by_cases h64 : n ≤ 64
  · have h1 : ¬ (64 : Int) < n := by omega
    generalize hRS : rightMembersF m = RS
    have HRS : Hid (rmF (prevT m 0) (m.drop 0) = RS) := by
      rw [← hRS]; unfold rightMembersF; rw [HL.out, decide_eq_true h64]; rfl
    clear hRS
    go_enter Tryz.func93, Tryz.ntmps93
    go_wp2
    go_loopw [10] (fun i wr => ∃ k : Nat, k ≤ n ∧ i = .int .i64 k ∧ Hid (rmF (prevT m k) (m.drop k) = RS) ∧ Hid (Below w.heap.size w wr)) (fun i _ => n - (intOf i).toNat)
    case atStart => exact ⟨0, by omega, rfl, HRS, Below.refl _ _⟩
    case round =>
      clear HRS
      obtain ⟨k, hk, rfl, HRS, HB⟩ := hrel
      by_cases hlt : k < n
      · obtain ⟨blk, off, x, rfl, hbB, hmk, e0⟩ := HZ.out.text (HB.out.mono hB) hlt
        have hi1 : (k : Int) < n := by omega
        have hst := rm_step hmk
        rw [HRS.out] at hst
        have HST := Lib.hid hst
        clear hst
        cases hr : rightL x.data.toList with
        | false =>
          rw [hr] at HST
          have HF : Hid (RS = false) := by show _ = _; rw [HST.out]; rfl
          have HR := Lib.hid hr
          clear hr HST
          go_wp2_with fail
          refine (right_is _ false HR _).mono ?_
          rintro e w' ⟨rfl, rfl⟩
          go_wp2
          go_ret
          exact ⟨ret_bool HF.out.symm, HB.out⟩
        | true =>
          rw [hr] at HST
          have HR := Lib.hid hr
          clear hr
          by_cases hk0 : k = 0
          · have hpv : prevT m k = none := by unfold prevT; rw [if_pos hk0]
            rw [hpv, Kn.prevOk_none] at HST
            have HN : Hid (rmF (prevT m (k + 1)) (m.drop (k + 1)) = RS) := by show _ = _; rw [HST.out]; simp
            have hgd : decide (0 < k) = false := by simp; omega
            have hgi : ¬ (0 : Int) < k := by omega
            clear HST hpv hk0
            go_wp2_with fail
            refine (right_is _ true HR _).mono ?_
            rintro e w' ⟨rfl, rfl⟩
            go_wp2
            go_roundw
            case rel => exact ⟨k + 1, by omega, by go_num, HN, HB⟩
            case measure => simp [intOf]; omega
          · obtain ⟨pid, hm2, d0⟩ := cell_text HZ.out (HB.out.mono hB) (k := k - 1) (by omega) rfl
            have hpv : prevT m k = some pid := by unfold prevT; rw [if_neg hk0, hm2]
            rw [hpv, Kn.prevOk_some] at HST
            have hgd : decide (0 < k) = true := by simp; omega
            have hgi : (0 : Int) < k := by omega
            have hj0 : (1 : Int) ≤ (k : Int) := by omega
            have hj1 : (0 : Int) ≤ (k : Int) - 1 := by omega
            have hj2 : (k : Int) - 1 < (n : Int) := by omega
            have hj3 : ((k : Int) - 1).toNat = k - 1 := by omega
            have hj4 : IntKind.i64.wrap ((k : Int) - 1) = (k : Int) - 1 := IntWalk.i64_in _ (by omega)
            obtain ⟨y, hy⟩ : ∃ y, cmpId pid x = y := ⟨_, rfl⟩
            have HY : Hid (Lib.compareBytes pid.data.toList x.data.toList = y) := hy
            rw [hy] at HST
            clear hpv hk0 hm2 hy
            by_cases hge : 0 ≤ y
            · have HF : Hid (RS = false) := by
                show _ = _
                rw [HST.out]
                simp only [show decide (y < 0) = false by simp; omega]
                rfl
              clear HST
              go_wp2_with fail
              refine (right_is _ true HR _).mono ?_
              rintro e w' ⟨rfl, rfl⟩
              go_wp2_with fail
              refine (compare_is _ _ _ HY _).mono ?_
              rintro e w' ⟨rfl, rfl⟩
              go_wp2
              go_ret
              exact ⟨ret_bool HF.out.symm, HB.out⟩
            · have HN : Hid (rmF (prevT m (k + 1)) (m.drop (k + 1)) = RS) := by
                show _ = _
                rw [HST.out]
                simp only [show decide (y < 0) = true by simp; omega]
                simp
              clear HST
              go_wp2_with fail
              refine (right_is _ true HR _).mono ?_
              rintro e w' ⟨rfl, rfl⟩
              go_wp2_with fail
              refine (compare_is _ _ _ HY _).mono ?_
              rintro e w' ⟨rfl, rfl⟩
              go_wp2
              go_roundw
              case rel => exact ⟨k + 1, by omega, by go_num, HN, HB⟩
              case measure => simp [intOf]; omega
      · obtain rfl : k = n := by omega
        have hi1 : ¬ (k : Int) < k := by omega
        have HF : Hid (RS = true) := by show _ = _; rw [← HRS.out, List.drop_of_length_le (by rw [HL.out]; omega)]; unfold rmF; rfl
        go_wp2
        go_ret
        exact ⟨ret_bool HF.out.symm, HB.out⟩
  · have h1 : (64 : Int) < n := by omega
    have HF : Hid (rightMembersF m = false) := by show _ = _; unfold rightMembersF; rw [HL.out, decide_eq_false h64]; rfl
    go_enter Tryz.func93, Tryz.ntmps93
    go_wp2
    go_ret
    exact ⟨ret_bool HF.out.symm, Below.refl _ _⟩
theorem all_step {α : Type} (p : α → Bool) {l : List α} {k : Nat} {x : α} (h : l[k]? = some x) : (l.drop k).all p = (p x && (l.drop (k + 1)).all p) := by
  obtain ⟨hk, rfl⟩ := List.getElem?_eq_some_iff.mp h
  rw [List.drop_eq_getElem_cons hk]
  rfl
def rightRowsF (m : Mx.Mat) : Bool := decide (m.length ≤ 64) && (Mx.rightM m && m.all fun x => decide (x.2.length ≤ 64))
def rightItemsF (l : List By.Itm) : Bool := decide (l.length ≤ 32) && l.all By.rightI
def stubsF (l : List By.Itm) : Bool := l.all fun x => !x.dead && !x.held
set_option maxRecDepth 100000 in
set_option maxHeartbeats 4000000 in
theorem rightRows_any (A : Option Addr) (n c : Nat) (m : Mx.Mat) (B : Nat) (w : World) (hB : B ≤ w.heap.size) (hz : Mx.MatAt w B A n m) (hn : n ≤ 1000000) (hv : ∀ z ∈ m, z.2.length ≤ 1000000) :
    Calls Tryz.prog 94 #[.slice A n c] w fun e w' => e = .returned (.bool (rightRowsF m)) ∧ Below w.heap.size w w' := by
  have HZ := Lib.hid hz
  have HL := Lib.hid hz.len
  have HC := Lib.hid (Mx.rightM_any A n c m B w hB hz hn hv)
  clear hz hv
  by_cases h64 : n ≤ 64
  · have h1 : ¬ (64 : Int) < n := by omega
    cases hm : Mx.rightM m with
    | false =>
      rw [hm] at HC
      have HF : Hid (rightRowsF m = false) := by show _ = _; unfold rightRowsF; rw [hm, decide_eq_true (by rw [HL.out]; exact h64)]; rfl
      clear hm
      go_enter Tryz.func94, Tryz.ntmps94
      go_wp2_with fail
      refine HC.out.mono ?_
      rintro e w1 ⟨rfl, hb⟩
      have HB := Lib.hid hb
      clear hb
      go_wp2
      go_ret
      exact ⟨ret_bool HF.out.symm, HB.out⟩
    | true =>
      rw [hm] at HC
      generalize hRS : rightRowsF m = RS
      have HRS : Hid ((m.drop 0).all (fun x => decide (x.2.length ≤ 64)) = RS) := by
        show _ = _
        rw [← hRS]; unfold rightRowsF; rw [hm, decide_eq_true (by rw [HL.out]; exact h64)]; rfl
      clear hRS hm
      go_enter Tryz.func94, Tryz.ntmps94
      go_wp2_with fail
      refine HC.out.mono ?_
      rintro e w1 ⟨rfl, hb⟩
      have HB := Lib.hid hb
      clear hb HC
      go_wp2
      go_loopw [15] (fun i wr => ∃ k : Nat, k ≤ n ∧ i = .int .i64 k ∧ Hid ((m.drop k).all (fun x => decide (x.2.length ≤ 64)) = RS) ∧ Hid (Below w.heap.size w wr)) (fun i _ => n - (intOf i).toNat)
      case atStart => exact ⟨0, by omega, rfl, HRS, HB⟩
      case round =>
        clear HRS HB
        obtain ⟨k, hk, rfl, HRS, HB⟩ := hrel
        by_cases hlt : k < n
        · obtain ⟨blk, off, r, rfl, hbB, hmk, e0, e1, hf⟩ := HZ.out.get (HB.out.mono hB) hlt
          have hi1 : (k : Int) < n := by omega
          have hst := all_step (fun x : ByteArray × List At => decide (x.2.length ≤ 64)) hmk
          rw [HRS.out] at hst
          have HST := Lib.hid hst
          clear hst hf hmk
          have HB1 := Lib.hid (HB.out.alloc HB.out.size (.cells #[.string r.id, .slice r.A r.v.length r.c] 105))
          by_cases hv : r.v.length ≤ 64
          · have h2 : ¬ (64 : Int) < r.v.length := by omega
            have HN : Hid ((m.drop (k + 1)).all (fun x => decide (x.2.length ≤ 64)) = RS) := by show _ = _; rw [HST.out]; simp [hv]
            clear HST
            go_wp2
            go_roundw
            case rel => exact ⟨k + 1, by omega, by go_num, HN, HB1⟩
            case measure => simp [intOf]; omega
          · have h2 : (64 : Int) < r.v.length := by omega
            have HF : Hid (RS = false) := by show _ = _; rw [HST.out]; simp [hv]
            clear HST
            go_wp2
            go_ret
            exact ⟨ret_bool HF.out.symm, HB1.out⟩
        · obtain rfl : k = n := by omega
          have hi1 : ¬ (k : Int) < k := by omega
          have HF : Hid (RS = true) := by show _ = _; rw [← HRS.out, List.drop_of_length_le (by rw [HL.out]; omega)]; rfl
          go_wp2
          go_ret
          exact ⟨ret_bool HF.out.symm, HB.out⟩
  · have h1 : (64 : Int) < n := by omega
    have HF : Hid (rightRowsF m = false) := by show _ = _; unfold rightRowsF; rw [HL.out, decide_eq_false h64]; rfl
    go_enter Tryz.func94, Tryz.ntmps94
    go_wp2
    go_ret
    exact ⟨ret_bool HF.out.symm, Below.refl _ _⟩
set_option maxRecDepth 100000 in
set_option maxHeartbeats 4000000 in
theorem rightItems_any (A : Option Addr) (n c : Nat) (zs : List By.Itm) (B : Nat) (w : World) (hB : B ≤ w.heap.size) (hz : RowAt By.cellsP 8 w B A n zs) (hn : n ≤ 1000000) (hsm : ∀ z ∈ zs, z.x.natAbs < 2 ^ 53 ∧ z.y.natAbs < 2 ^ 53) :
    Calls Tryz.prog 95 #[.slice A n c] w fun e w' => e = .returned (.bool (rightItemsF zs)) ∧ Below w.heap.size w w' := by
  have HZ := Lib.hid hz
  have HL := Lib.hid hz.1
  have HM := Lib.hid hsm
  clear hz hsm
  by_cases h64 : n ≤ 32
  · have h1 : ¬ (32 : Int) < n := by omega
    generalize hRS : rightItemsF zs = RS
    have HRS : Hid ((zs.drop 0).all By.rightI = RS) := by
      show _ = _
      rw [← hRS]; unfold rightItemsF; rw [HL.out, decide_eq_true h64]; rfl
    clear hRS
    go_enter Tryz.func95, Tryz.ntmps95
    go_wp2
    go_loopw [10] (fun i wr => ∃ k : Nat, k ≤ n ∧ i = .int .i64 k ∧ Hid ((zs.drop k).all By.rightI = RS) ∧ Hid (Below w.heap.size w wr)) (fun i _ => n - (intOf i).toNat)
    case atStart => exact ⟨0, by omega, rfl, HRS, Below.refl _ _⟩
    case round =>
      clear HRS
      obtain ⟨k, hk, rfl, HRS, HB⟩ := hrel
      by_cases hlt : k < n
      · obtain ⟨blk, off, rfl, hbB, z, hzk, hcell⟩ := HZ.out.get hlt
        obtain ⟨e0, e1, e2, e3, e4, e5, e6, e7⟩ := By.cellsP_at hcell
        replace e0 := ((HB.out.mono hB).cell (p := ⟨blk, off + k * 8, none⟩) hbB).trans e0
        replace e1 := ((HB.out.mono hB).cell (p := ⟨blk, off + k * 8 + 1, none⟩) hbB).trans e1
        replace e2 := ((HB.out.mono hB).cell (p := ⟨blk, off + k * 8 + 2, none⟩) hbB).trans e2
        replace e3 := ((HB.out.mono hB).cell (p := ⟨blk, off + k * 8 + 3, none⟩) hbB).trans e3
        replace e4 := ((HB.out.mono hB).cell (p := ⟨blk, off + k * 8 + 4, none⟩) hbB).trans e4
        replace e5 := ((HB.out.mono hB).cell (p := ⟨blk, off + k * 8 + 5, none⟩) hbB).trans e5
        replace e6 := ((HB.out.mono hB).cell (p := ⟨blk, off + k * 8 + 6, none⟩) hbB).trans e6
        replace e7 := ((HB.out.mono hB).cell (p := ⟨blk, off + k * 8 + 7, none⟩) hbB).trans e7
        have hi1 : (k : Int) < n := by omega
        have hst := all_step By.rightI hzk
        rw [HRS.out] at hst
        have HST := Lib.hid hst
        have hzm := HM.out z (List.mem_of_getElem? hzk)
        have HIR := Lib.hid (By.itemRight_any z hzm.1 hzm.2)
        generalize By.rightI z = R at *
        obtain ⟨key, ⟨d, a, s⟩, dead, x, y, text, held⟩ := z
        unfold By.itmV at HIR
        simp only at e0 e1 e2 e3 e4 e5 e6 e7 HIR
        clear hcell hst hzm hzk
        generalize fl x = fx at *
        generalize fl y = fy at *
        have hst := By.store_complex
        have hb0 : Below wr.heap.size wr (wr.alloc (.cells #[.int .i64 key, .string d, .int .i64 a, .int .i64 s, .bool dead, .complex .f64 fx fy, .string text, .bool held] 114)) := (Below.refl _ _).alloc (Nat.le_refl _) _
        replace HB := Lib.hid (HB.out.trans (hb0.mono HB.out.size))
        clear hb0
        cases R
        · have HF : Hid (RS = false) := by show _ = _; rw [HST.out]; rfl
          clear HST
          go_wp2_with fail
          refine (HIR.out _).mono ?_
          rintro e v ⟨rfl, hb⟩
          replace HB := Lib.hid (HB.out.trans (hb.mono HB.out.size))
          clear hb
          go_wp2
          go_ret
          exact ⟨ret_bool HF.out.symm, HB.out⟩
        · have HN : Hid ((zs.drop (k + 1)).all By.rightI = RS) := by show _ = _; rw [HST.out]; rfl
          clear HST
          go_wp2_with fail
          refine (HIR.out _).mono ?_
          rintro e v ⟨rfl, hb⟩
          replace HB := Lib.hid (HB.out.trans (hb.mono HB.out.size))
          clear hb
          go_wp2
          go_roundw
          case rel => exact ⟨k + 1, by omega, by go_num, HN, HB⟩
          case measure => simp [intOf]; omega
      · obtain rfl : k = n := by omega
        have hi1 : ¬ (k : Int) < k := by omega
        have HF : Hid (RS = true) := by show _ = _; rw [← HRS.out, List.drop_of_length_le (by rw [HL.out]; omega)]; rfl
        go_wp2
        go_ret
        exact ⟨ret_bool HF.out.symm, HB.out⟩
  · have h1 : (32 : Int) < n := by omega
    have HF : Hid (rightItemsF zs = false) := by show _ = _; unfold rightItemsF; rw [HL.out, decide_eq_false h64]; rfl
    go_enter Tryz.func95, Tryz.ntmps95
    go_wp2
    go_ret
    exact ⟨ret_bool HF.out.symm, Below.refl _ _⟩
set_option maxRecDepth 100000 in
set_option maxHeartbeats 4000000 in
theorem stubs_any (A : Option Addr) (n c : Nat) (zs : List By.Itm) (B : Nat) (w : World) (hB : B ≤ w.heap.size) (hz : RowAt By.cellsP 8 w B A n zs) (hn : n ≤ 1000000) :
    Calls Tryz.prog 25 #[.slice A n c] w fun e w' => e = .returned (.bool (stubsF zs)) ∧ Below w.heap.size w w' := by
  have HZ := Lib.hid hz
  have HL := Lib.hid hz.1
  clear hz
  generalize hRS : stubsF zs = RS
  have HRS : Hid ((zs.drop 0).all (fun x => !x.dead && !x.held) = RS) := by
    show _ = _
    rw [← hRS]; rfl
  clear hRS
  go_enter Tryz.func25, Tryz.ntmps25
  go_wp2
  go_loopw [7] (fun i wr => ∃ k : Nat, k ≤ n ∧ i = .int .i64 k ∧ Hid ((zs.drop k).all (fun x : By.Itm => !x.dead && !x.held) = RS) ∧ Hid (Below w.heap.size w wr)) (fun i _ => n - (intOf i).toNat)
  case atStart => exact ⟨0, by omega, rfl, HRS, Below.refl _ _⟩
  case round =>
    clear HRS
    obtain ⟨k, hk, rfl, HRS, HB⟩ := hrel
    by_cases hlt : k < n
    · obtain ⟨blk, off, rfl, hbB, z, hzk, hcell⟩ := HZ.out.get hlt
      obtain ⟨e0, e1, e2, e3, e4, e5, e6, e7⟩ := By.cellsP_at hcell
      replace e0 := ((HB.out.mono hB).cell (p := ⟨blk, off + k * 8, none⟩) hbB).trans e0
      replace e1 := ((HB.out.mono hB).cell (p := ⟨blk, off + k * 8 + 1, none⟩) hbB).trans e1
      replace e2 := ((HB.out.mono hB).cell (p := ⟨blk, off + k * 8 + 2, none⟩) hbB).trans e2
      replace e3 := ((HB.out.mono hB).cell (p := ⟨blk, off + k * 8 + 3, none⟩) hbB).trans e3
      replace e4 := ((HB.out.mono hB).cell (p := ⟨blk, off + k * 8 + 4, none⟩) hbB).trans e4
      replace e5 := ((HB.out.mono hB).cell (p := ⟨blk, off + k * 8 + 5, none⟩) hbB).trans e5
      replace e6 := ((HB.out.mono hB).cell (p := ⟨blk, off + k * 8 + 6, none⟩) hbB).trans e6
      replace e7 := ((HB.out.mono hB).cell (p := ⟨blk, off + k * 8 + 7, none⟩) hbB).trans e7
      have hi1 : (k : Int) < n := by omega
      have hst := all_step (fun x : By.Itm => !x.dead && !x.held) hzk
      rw [HRS.out] at hst
      have HST := Lib.hid hst
      obtain ⟨key, ⟨d, a, s⟩, dead, x, y, text, held⟩ := z
      simp only at e0 e1 e2 e3 e4 e5 e6 e7 HST
      clear hcell hst hzk
      generalize fl x = fx at *
      generalize fl y = fy at *
      have hst := By.store_complex
      have hb0 : Below wr.heap.size wr (wr.alloc (.cells #[.int .i64 key, .string d, .int .i64 a, .int .i64 s, .bool dead, .complex .f64 fx fy, .string text, .bool held] 114)) := (Below.refl _ _).alloc (Nat.le_refl _) _
      replace HB := Lib.hid (HB.out.trans (hb0.mono HB.out.size))
      clear hb0
      cases dead
      · cases held
        · have HN : Hid ((zs.drop (k + 1)).all (fun x => !x.dead && !x.held) = RS) := by show _ = _; rw [HST.out]; rfl
          clear HST
          go_wp2
          go_roundw
          case rel => exact ⟨k + 1, by omega, by go_num, HN, HB⟩
          case measure => simp [intOf]; omega
        · have HF : Hid (RS = false) := by show _ = _; rw [HST.out]; rfl
          clear HST
          go_wp2
          go_ret
          exact ⟨ret_bool HF.out.symm, HB.out⟩
      · have HF : Hid (RS = false) := by show _ = _; rw [HST.out]; rfl
        clear HST
        go_wp2
        go_ret
        exact ⟨ret_bool HF.out.symm, HB.out⟩
    · obtain rfl : k = n := by omega
      have hi1 : ¬ (k : Int) < k := by omega
      have HF : Hid (RS = true) := by show _ = _; rw [← HRS.out, List.drop_of_length_le (by rw [HL.out]; omega)]; rfl
      go_wp2
      go_ret
      exact ⟨ret_bool HF.out.symm, HB.out⟩
end Go.Proofs.YtbookbgfipbaoaaGreatDoor
