/- know.Right. -/
import Derived.Test.YtbookbgfipbaoaaGreatDoorH5
import Derived.Test.YtbookbgfipbaoaaGreatDoorH4
import Derived.Test.YtbookbgfipbaoaaGreatDoorH3
import Derived.Lib.SliceRun
import Derived.Deep.MidRow
import Derived.Deep.CutBlock
import Derived.Deep.DeepCutAuto
import Derived.Deep.RegionHeld3
namespace Go.Proofs.YtbookbgfipbaoaaGreatDoor.Kn
open Go.RowKit

def okRow (x : ByteArray × (Int × List Int)) : Bool := rightL x.1.data.toList && (Sp.rightF x.2.1 x.2.2 && decide (x.2.1 + (x.2.2.length : Int) ≠ 0))
def prevOk (p : Option ByteArray) (a : ByteArray) : Bool := match p with | none => true | some q => decide (cmpId q a < 0)
theorem prevOk_none (a : ByteArray) : prevOk none a = true := rfl
theorem prevOk_some (q a : ByteArray) : prevOk (some q) a = decide (cmpId q a < 0) := rfl
def rightFromM : Option ByteArray → Mat → Bool
  | _, [] => true
  | p, x :: r => okRow x && (prevOk p x.1 && rightFromM (some x.1) r)
theorem rightFromM_cons (p : Option ByteArray) (x : ByteArray × (Int × List Int)) (r : Mat) : rightFromM p (x :: r) = (okRow x && (prevOk p x.1 && rightFromM (some x.1) r)) := rfl
/-- May it be a Know? -/
def rightM (m : Mat) : Bool := rightFromM none m
def prevI (m : Mat) (k : Nat) : Option ByteArray := if k = 0 then none else (m[k - 1]?).map (·.1)
theorem rightM_step {m : Mat} {k : Nat} {x : ByteArray × (Int × List Int)} (h : m[k]? = some x) : rightFromM (prevI m k) (m.drop k) = (okRow x && (prevOk (prevI m k) x.1 && rightFromM (prevI m (k + 1)) (m.drop (k + 1)))) := by
  obtain ⟨hk, rfl⟩ := List.getElem?_eq_some_iff.mp h
  rw [List.drop_eq_getElem_cons hk]
  have e : prevI m (k + 1) = some m[k].1 := by unfold prevI; simp [List.getElem?_eq_getElem hk]
  rw [e]
  rfl
/-- Numbers that may be. -/
def GoodS (s : Int × List Int) : Prop := Sp.rightF s.1 s.2 = true ∧ s.1 + (s.2.length : Int) ≠ 0
/-- Rows that may be, rising. -/
def GoodM (m : Mat) : Prop := RisingM m ∧ ∀ x ∈ m, rightL x.1.data.toList = true ∧ GoodS x.2
theorem okRow_iff (x : ByteArray × (Int × List Int)) : okRow x = true ↔ rightL x.1.data.toList = true ∧ GoodS x.2 := by
  unfold okRow GoodS
  rw [Bool.and_eq_true, Bool.and_eq_true, decide_eq_true_iff]
theorem rightFromM_iff : ∀ (m : Mat) (p : Option ByteArray), rightFromM p m = true ↔ GoodM m ∧ ∀ q, p = some q → ∀ x ∈ m, cmpId q x.1 < 0
  | [], p => by
    constructor
    · intro _; exact ⟨⟨List.Pairwise.nil, by simp⟩, fun _ _ x hx => by simp at hx⟩
    · intro _; rfl
  | x :: r, p => by
    have ih := rightFromM_iff r (some x.1)
    rw [rightFromM_cons, Bool.and_eq_true, Bool.and_eq_true, ih, okRow_iff]
    constructor
    · rintro ⟨h1, h2, ⟨h3, h4⟩, h5⟩
      have h6 := h5 x.1 rfl
      refine ⟨⟨(risingM_iff _).mpr (List.pairwise_cons.mpr ⟨h6, (risingM_iff _).mp h3⟩), fun y hy => ?_⟩, fun q hq y hy => ?_⟩
      · rcases List.mem_cons.mp hy with rfl | hy
        · exact h1
        · exact h4 y hy
      · subst hq
        have h2' : cmpId q x.1 < 0 := by rw [prevOk_some] at h2; simpa using h2
        rcases List.mem_cons.mp hy with rfl | hy
        · exact h2'
        · have := h6 y hy
          exact cmpId_lt q x.1 y.1 h2' (by omega)
    · rintro ⟨⟨h1, h2⟩, h3⟩
      have h4 := List.pairwise_cons.mp ((risingM_iff _).mp h1)
      refine ⟨h2 x (by simp), ?_, ⟨(risingM_iff _).mpr h4.2, fun y hy => h2 y (by simp [hy])⟩, fun q hq y hy => by injection hq with hq; subst hq; exact h4.1 y hy⟩
      cases p with
      | none => rfl
      | some q => rw [prevOk_some, decide_eq_true_iff]; exact h3 q rfl x (by simp)
theorem rightM_iff (m : Mat) : rightM m = true ↔ GoodM m := by
  unfold rightM
  rw [rightFromM_iff]
  exact ⟨fun h => h.1, fun h => ⟨h, fun q e => by cases e⟩⟩

theorem right_bd {u : Int} {v : List Int} (h : Sp.rightF u v = true) : 0 ≤ u ∧ u ≤ 1048576 := by
  unfold Sp.rightF at h
  rw [Bool.and_eq_true, decide_eq_true_iff] at h
  exact ⟨h.1.1, h.1.2.1⟩
set_option maxRecDepth 100000 in
set_option maxHeartbeats 4000000 in
theorem rightM_any (A : Option Addr) (n c : Nat) (m : Mat) (B : Nat) (w : World) (hB : B ≤ w.heap.size) (hz : MatAt w B A n m) (hn : n ≤ 1000000) (hv : ∀ z ∈ m, z.2.2.length ≤ 1000000) :
    Calls Tryz.prog 92 #[.slice A n c] w fun e w' => e = .returned (.bool (rightM m)) ∧ Below w.heap.size w w' := by
  have HZ := Lib.hid hz
  have HL := Lib.hid hz.len
  have HV := Lib.hid hv
  clear hz hv
  generalize hRS : rightM m = RS
  have HRS : Hid (rightFromM (prevI m 0) (m.drop 0) = RS) := hRS
  clear hRS
  go_enter Tryz.func92, Tryz.ntmps92
  go_wp2
  go_loopw [7] (fun i wr => ∃ k : Nat, k ≤ n ∧ i = .int .i64 k ∧ Hid (rightFromM (prevI m k) (m.drop k) = RS) ∧ Hid (Below w.heap.size w wr)) (fun i _ => n - (intOf i).toNat)
  case atStart => exact ⟨0, by omega, rfl, HRS, Below.refl _ _⟩
  case round =>
    clear HRS
    obtain ⟨k, hk, rfl, HRS, HB⟩ := hrel
    by_cases hlt : k < n
    · obtain ⟨blk, off, r, rfl, hbB, hmk, e0, e1, e2, hf⟩ := HZ.out.get (HB.out.mono hB) hlt
      have hi1 : (k : Int) < n := by omega
      have hst := rightM_step hmk
      rw [HRS.out] at hst
      have HST := Lib.hid hst
      have hvl : r.v.length ≤ 1000000 := HV.out _ (List.mem_of_getElem? hmk)
      have hsz := HB.out.size
      have hbl : blk < wr.heap.size := by omega
      have hbw : Below wr.heap.size wr (wr.alloc (.cells #[.string r.id, .int .i64 r.u, .slice r.A r.v.length r.c] 100)) := (Below.refl _ _).alloc (Nat.le_refl _) _
      have HB1 := Lib.hid (HB.out.trans (hbw.mono hsz))
      have HRV := Lib.hid (Sp.right_any r.u r.A r.v.length r.c r.v wr.heap.size _ hbw.size ((hf.vec.more (Nat.le_trans hB hsz)).keep hbw) (by omega))
      obtain ⟨id, u, Ar, cr, v⟩ := r
      have HOK : Hid (okRow (id, (u, v)) = (rightL id.data.toList && (Sp.rightF u v && decide (u + (v.length : Int) ≠ 0)))) := rfl
      simp only at e0 e1 e2 hvl HB1 HRV HST
      rw [HOK.out] at HST
      clear HOK hst hf hmk
      cases hr : rightL id.data.toList with
      | false =>
        rw [hr] at HST
        have HF : Hid (RS = false) := by show _ = _; rw [HST.out]; rfl
        have HR := Lib.hid hr
        clear hr HST HRV hbw
        go_wp2_with fail
        refine (right_is _ false HR _).mono ?_
        rintro e w' ⟨rfl, rfl⟩
        go_wp2
        go_ret
        exact ⟨ret_bool HF.out.symm, HB1.out⟩
      | true =>
        rw [hr] at HST
        have HR := Lib.hid hr
        clear hr
        cases hq : Sp.rightF u v with
        | false =>
          rw [hq] at HST HRV
          have HF : Hid (RS = false) := by show _ = _; rw [HST.out]; rfl
          clear hq HST hbw
          go_wp2_with fail
          refine (right_is _ true HR _).mono ?_
          rintro e w' ⟨rfl, rfl⟩
          go_wp2_with fail
          refine HRV.out.mono ?_
          rintro e w1 ⟨rfl, hb⟩
          replace HB1 := Lib.hid (HB1.out.trans (hb.mono HB1.out.size))
          clear hb
          go_wp2
          go_ret
          exact ⟨ret_bool HF.out.symm, HB1.out⟩
        | true =>
          rw [hq] at HST HRV
          have hur := right_bd hq
          have hu0 := hur.1
          have hu1 := hur.2
          clear hq hur
          by_cases h0 : u + (v.length : Int) = 0
          · have HF : Hid (RS = false) := by show _ = _; rw [HST.out, decide_eq_false (fun h => h h0)]; rfl
            have hcl0 : (wr.alloc (.cells #[.string id, .int .i64 u, .slice Ar v.length cr] 100)).cell? ⟨wr.heap.size, 2, none⟩ = some (.slice Ar v.length cr) := by simp [go_sem]
            have hcu0 : (wr.alloc (.cells #[.string id, .int .i64 u, .slice Ar v.length cr] 100)).cell? ⟨wr.heap.size, 1, none⟩ = some (.int .i64 u) := by simp [go_sem]
            have hid0 : (wr.alloc (.cells #[.string id, .int .i64 u, .slice Ar v.length cr] 100)).cell? ⟨wr.heap.size, 0, none⟩ = some (.string id) := by simp [go_sem]
            have hwl : wr.heap.size < (wr.alloc (.cells #[.string id, .int .i64 u, .slice Ar v.length cr] 100)).heap.size := by simp
            clear HST hbw
            have hg : (u + (v.length : Int) == 0) = true := by rw [beq_iff_eq]; exact h0
            go_wp2_with fail
            refine (right_is _ true HR _).mono ?_
            rintro e w' ⟨rfl, rfl⟩
            go_wp2_with fail
            refine HRV.out.mono ?_
            rintro e w1 ⟨rfl, hb⟩
            have hcu1 : w1.cell? ⟨wr.heap.size, 1, none⟩ = some (.int .i64 u) := (hb.cell (p := ⟨wr.heap.size, 1, none⟩) hwl).trans hcu0
            have hcl1 : w1.cell? ⟨wr.heap.size, 2, none⟩ = some (.slice Ar v.length cr) := (hb.cell (p := ⟨wr.heap.size, 2, none⟩) hwl).trans hcl0
            have hid1 : w1.cell? ⟨wr.heap.size, 0, none⟩ = some (.string id) := (hb.cell (p := ⟨wr.heap.size, 0, none⟩) hwl).trans hid0
            have hwl1 := Nat.lt_of_lt_of_le hwl hb.size
            replace HB1 := Lib.hid (HB1.out.trans (hb.mono HB1.out.size))
            clear hb hcl0 hid0 hwl hcu0 HRV
            generalize v.length = L at *
            go_wp2_with fail
            refine (Sp.count_any u Ar L cr _ hu0 hu1 (by omega)).mono ?_
            rintro e w2 ⟨rfl, hb⟩
            have hid2 : w2.cell? ⟨wr.heap.size, 0, none⟩ = some (.string id) := (hb.cell (p := ⟨wr.heap.size, 0, none⟩) hwl1).trans hid1
            replace HB1 := Lib.hid (HB1.out.trans (hb.mono HB1.out.size))
            clear hb hcl1 hid1 hcu1 hwl1
            go_wp2
            go_ret
            exact ⟨ret_bool HF.out.symm, HB1.out⟩
          · have hg : (u + (v.length : Int) == 0) = false := by rw [beq_eq_false_iff_ne]; exact h0
            rw [decide_eq_true (show u + (v.length : Int) ≠ 0 from h0)] at HST
            have hcl0 : (wr.alloc (.cells #[.string id, .int .i64 u, .slice Ar v.length cr] 100)).cell? ⟨wr.heap.size, 2, none⟩ = some (.slice Ar v.length cr) := by simp [go_sem]
            have hcu0 : (wr.alloc (.cells #[.string id, .int .i64 u, .slice Ar v.length cr] 100)).cell? ⟨wr.heap.size, 1, none⟩ = some (.int .i64 u) := by simp [go_sem]
            have hid0 : (wr.alloc (.cells #[.string id, .int .i64 u, .slice Ar v.length cr] 100)).cell? ⟨wr.heap.size, 0, none⟩ = some (.string id) := by simp [go_sem]
            have hwl : wr.heap.size < (wr.alloc (.cells #[.string id, .int .i64 u, .slice Ar v.length cr] 100)).heap.size := by simp
            by_cases hk0 : k = 0
            · have hpv : prevI m k = none := by unfold prevI; rw [if_pos hk0]
              rw [hpv, prevOk_none] at HST
              have HN : Hid (rightFromM (prevI m (k + 1)) (m.drop (k + 1)) = RS) := by show _ = _; rw [HST.out]; simp
              have hgd : decide (0 < k) = false := by simp; omega
              clear HST hpv hk0 hbw h0
              go_wp2_with fail
              refine (right_is _ true HR _).mono ?_
              rintro e w' ⟨rfl, rfl⟩
              go_wp2_with fail
              refine HRV.out.mono ?_
              rintro e w1 ⟨rfl, hb⟩
              have hcu1 : w1.cell? ⟨wr.heap.size, 1, none⟩ = some (.int .i64 u) := (hb.cell (p := ⟨wr.heap.size, 1, none⟩) hwl).trans hcu0
              have hcl1 : w1.cell? ⟨wr.heap.size, 2, none⟩ = some (.slice Ar v.length cr) := (hb.cell (p := ⟨wr.heap.size, 2, none⟩) hwl).trans hcl0
              have hid1 : w1.cell? ⟨wr.heap.size, 0, none⟩ = some (.string id) := (hb.cell (p := ⟨wr.heap.size, 0, none⟩) hwl).trans hid0
              have hwl1 := Nat.lt_of_lt_of_le hwl hb.size
              replace HB1 := Lib.hid (HB1.out.trans (hb.mono HB1.out.size))
              clear hb hcl0 hid0 hwl hcu0 HRV
              generalize v.length = L at *
              go_wp2_with fail
              refine (Sp.count_any u Ar L cr _ hu0 hu1 (by omega)).mono ?_
              rintro e w2 ⟨rfl, hb⟩
              have hid2 : w2.cell? ⟨wr.heap.size, 0, none⟩ = some (.string id) := (hb.cell (p := ⟨wr.heap.size, 0, none⟩) hwl1).trans hid1
              replace HB1 := Lib.hid (HB1.out.trans (hb.mono HB1.out.size))
              clear hb hcl1 hid1 hcu1 hwl1
              go_wp2_with fail
              go_quiet (fail)
              go_wp2
              go_roundw
              case rel => exact ⟨k + 1, by omega, by go_num, HN, below_drewN HB1.out _⟩
              case measure => simp [intOf]; omega
            · obtain ⟨b2, o2, r2, e3, _, hm2, d0, _, _, _⟩ := HZ.out.get (HB.out.mono hB) (k := k - 1) (by omega)
              injection e3 with e3
              injection e3 with e3 e4
              subst e3 e4
              have hpv : prevI m k = some r2.id := by unfold prevI; rw [if_neg hk0, hm2]; rfl
              rw [hpv, prevOk_some] at HST
              have hgd : decide (0 < k) = true := by simp; omega
              have hj0 : (1 : Int) ≤ (k : Int) := by omega
              have hj1 : (0 : Int) ≤ (k : Int) - 1 := by omega
              have hj2 : (k : Int) - 1 < (n : Int) := by omega
              have hj3 : ((k : Int) - 1).toNat = k - 1 := by omega
              have hj4 : IntKind.i64.wrap ((k : Int) - 1) = (k : Int) - 1 := IntWalk.i64_in _ (by omega)
              replace d0 := (hbw.cell (p := ⟨blk, off + (k - 1) * 3, none⟩) hbl).trans d0
              have hbl1 := Nat.lt_of_lt_of_le hbl hbw.size
              generalize r2.id = pid at *
              obtain ⟨y, hy⟩ : ∃ y, cmpId pid id = y := ⟨_, rfl⟩
              have HY : Hid (Lib.compareBytes pid.data.toList id.data.toList = y) := hy
              rw [hy] at HST
              clear hpv hk0 hbw hm2 hy h0
              by_cases hge : 0 ≤ y
              · have HF : Hid (RS = false) := by
                  show _ = _
                  rw [HST.out]
                  simp only [show decide (y < 0) = false by simp; omega]
                  rfl
                clear HST
                go_wp2_with fail
                refine (right_is _ true HR _).mono ?_
                rintro e w' ⟨rfl, rfl⟩
                go_wp2_with fail
                refine HRV.out.mono ?_
                rintro e w1 ⟨rfl, hb⟩
                have hcu1 : w1.cell? ⟨wr.heap.size, 1, none⟩ = some (.int .i64 u) := (hb.cell (p := ⟨wr.heap.size, 1, none⟩) hwl).trans hcu0
                have hcl1 : w1.cell? ⟨wr.heap.size, 2, none⟩ = some (.slice Ar v.length cr) := (hb.cell (p := ⟨wr.heap.size, 2, none⟩) hwl).trans hcl0
                have hid1 : w1.cell? ⟨wr.heap.size, 0, none⟩ = some (.string id) := (hb.cell (p := ⟨wr.heap.size, 0, none⟩) hwl).trans hid0
                have d1 : w1.cell? ⟨blk, off + (k - 1) * 3, none⟩ = some (.string pid) := (hb.cell (p := ⟨blk, off + (k - 1) * 3, none⟩) hbl1).trans d0
                have hwl1 := Nat.lt_of_lt_of_le hwl hb.size
                have hbl2 := Nat.lt_of_lt_of_le hbl1 hb.size
                replace HB1 := Lib.hid (HB1.out.trans (hb.mono HB1.out.size))
                clear hb hcl0 hid0 hwl hcu0 HRV d0
                generalize v.length = L at *
                go_wp2_with fail
                refine (Sp.count_any u Ar L cr _ hu0 hu1 (by omega)).mono ?_
                rintro e w2 ⟨rfl, hb⟩
                have hid2 : w2.cell? ⟨wr.heap.size, 0, none⟩ = some (.string id) := (hb.cell (p := ⟨wr.heap.size, 0, none⟩) hwl1).trans hid1
                have d2 : w2.cell? ⟨blk, off + (k - 1) * 3, none⟩ = some (.string pid) := (hb.cell (p := ⟨blk, off + (k - 1) * 3, none⟩) hbl2).trans d1
                replace HB1 := Lib.hid (HB1.out.trans (hb.mono HB1.out.size))
                clear hb hcl1 hid1 hcu1 hwl1 d1
                go_wp2_with fail
                go_quiet ((go_at_call 150; exact quiet_same (compare_is _ _ _ HY _)))
                go_wp2
                go_ret
                exact ⟨ret_bool HF.out.symm, below_drewN HB1.out _⟩
              · have HN : Hid (rightFromM (prevI m (k + 1)) (m.drop (k + 1)) = RS) := by
                  show _ = _
                  rw [HST.out]
                  simp only [show decide (y < 0) = true by simp; omega]
                  simp
                clear HST
                go_wp2_with fail
                refine (right_is _ true HR _).mono ?_
                rintro e w' ⟨rfl, rfl⟩
                go_wp2_with fail
                refine HRV.out.mono ?_
                rintro e w1 ⟨rfl, hb⟩
                have hcu1 : w1.cell? ⟨wr.heap.size, 1, none⟩ = some (.int .i64 u) := (hb.cell (p := ⟨wr.heap.size, 1, none⟩) hwl).trans hcu0
                have hcl1 : w1.cell? ⟨wr.heap.size, 2, none⟩ = some (.slice Ar v.length cr) := (hb.cell (p := ⟨wr.heap.size, 2, none⟩) hwl).trans hcl0
                have hid1 : w1.cell? ⟨wr.heap.size, 0, none⟩ = some (.string id) := (hb.cell (p := ⟨wr.heap.size, 0, none⟩) hwl).trans hid0
                have d1 : w1.cell? ⟨blk, off + (k - 1) * 3, none⟩ = some (.string pid) := (hb.cell (p := ⟨blk, off + (k - 1) * 3, none⟩) hbl1).trans d0
                have hwl1 := Nat.lt_of_lt_of_le hwl hb.size
                have hbl2 := Nat.lt_of_lt_of_le hbl1 hb.size
                replace HB1 := Lib.hid (HB1.out.trans (hb.mono HB1.out.size))
                clear hb hcl0 hid0 hwl hcu0 HRV d0
                generalize v.length = L at *
                go_wp2_with fail
                refine (Sp.count_any u Ar L cr _ hu0 hu1 (by omega)).mono ?_
                rintro e w2 ⟨rfl, hb⟩
                have hid2 : w2.cell? ⟨wr.heap.size, 0, none⟩ = some (.string id) := (hb.cell (p := ⟨wr.heap.size, 0, none⟩) hwl1).trans hid1
                have d2 : w2.cell? ⟨blk, off + (k - 1) * 3, none⟩ = some (.string pid) := (hb.cell (p := ⟨blk, off + (k - 1) * 3, none⟩) hbl2).trans d1
                replace HB1 := Lib.hid (HB1.out.trans (hb.mono HB1.out.size))
                clear hb hcl1 hid1 hcu1 hwl1 d1
                go_wp2_with fail
                go_quiet ((go_at_call 150; exact quiet_same (compare_is _ _ _ HY _)))
                go_wp2
                go_roundw
                case rel => exact ⟨k + 1, by omega, by go_num, HN, below_drewN HB1.out _⟩
                case measure => simp [intOf]; omega
    · obtain rfl : k = n := by omega
      have HF : Hid (RS = true) := by show _ = _; rw [← HRS.out, List.drop_of_length_le (by rw [HL.out]; omega)]; unfold rightFromM; rfl
      go_wp2
      go_ret
      exact ⟨ret_bool HF.out.symm, HB.out⟩
end Go.Proofs.YtbookbgfipbaoaaGreatDoor.Kn

/- Rows of a Matrix: how they lie. -/
namespace Go.Proofs.YtbookbgfipbaoaaGreatDoor.Mx
open Go.RowKit

/-- A Row: its id, and where its Vec lies. -/
structure Hd where
  id : ByteArray
  A : Option Addr
  c : Nat
  v : List At
def cellsH (r : Hd) : List Value := [.string r.id, .slice r.A r.v.length r.c]
def zeroH : Value := .agg #[.string ⟨#[]⟩, .slice none 0 0]
theorem cellsH_one : ∀ x, ∀ u ∈ cellsH x, u.oneCell' = true := by
  intro x u hu
  simp only [cellsH, List.mem_cons, List.not_mem_nil, or_false] at hu
  rcases hu with rfl | rfl <;> rfl
theorem rowM : RowTy cellsH 2 40 zeroH 40 105 := ⟨Tryz.underlying40, by kernel_rfl, rfl, by omega, by omega, fun _ => rfl, cellsH_one⟩
/-- What a Matrix says: of each id its Vec. -/
abbrev Mat := List (ByteArray × List At)
def absH (rs : List Hd) : Mat := rs.map fun r => (r.id, r.v)
theorem absH_len (rs : List Hd) : (absH rs).length = rs.length := by simp [absH]
theorem absH_append (rs ss : List Hd) : absH (rs ++ ss) = absH rs ++ absH ss := by simp [absH]
/-- The Row's Vec is there. -/
structure Fine (w : World) (B : Nat) (r : Hd) : Prop where
  vec : VecAt w B r.A r.v.length r.v
  cap : r.v.length ≤ r.c
theorem Fine.keep {w w' : World} {B : Nat} {r : Hd} (h : Fine w B r) (hb : Below B w w') : Fine w' B r := ⟨h.vec.keep hb, h.cap⟩
theorem Fine.more {w : World} {B B' : Nat} {r : Hd} (h : Fine w B r) (hB : B ≤ B') : Fine w B' r := ⟨h.vec.more hB, h.cap⟩
/-- The slice holds the Matrix m, in blocks below B. -/
def MatAt (w : World) (B : Nat) (A : Option Addr) (n : Nat) (m : Mat) : Prop := ∃ rs, absH rs = m ∧ RowAt cellsH 2 w B A n rs ∧ ∀ r ∈ rs, Fine w B r
theorem MatAt.len {w : World} {B : Nat} {A : Option Addr} {n : Nat} {m : Mat} (h : MatAt w B A n m) : m.length = n := by
  obtain ⟨rs, rfl, hr, _⟩ := h
  rw [absH_len]; exact hr.1
theorem MatAt.nil (w : World) (B : Nat) (A : Option Addr) : MatAt w B A 0 [] := ⟨[], rfl, RowAt.nil, by simp⟩
theorem MatAt.keep {w w' : World} {B : Nat} {A : Option Addr} {n : Nat} {m : Mat} (h : MatAt w B A n m) (hb : Below B w w') : MatAt w' B A n m := by
  obtain ⟨rs, e, hr, hf⟩ := h
  exact ⟨rs, e, hr.keep hb, fun r hx => (hf r hx).keep hb⟩
theorem MatAt.more {w : World} {B B' : Nat} {A : Option Addr} {n : Nat} {m : Mat} (h : MatAt w B A n m) (hB : B ≤ B') : MatAt w B' A n m := by
  obtain ⟨rs, e, hr, hf⟩ := h
  exact ⟨rs, e, hr.more hB, fun r hx => (hf r hx).more hB⟩
/-- One of its Rows. -/
theorem MatAt.get {w wr : World} {B : Nat} {A : Option Addr} {n : Nat} {m : Mat} (h : MatAt w B A n m) (hb : Below B w wr) {k : Nat} (hk : k < n) :
    ∃ blk off r, A = some ⟨blk, off, none⟩ ∧ blk < B ∧ m[k]? = some (r.id, r.v) ∧ wr.cell? ⟨blk, off + k * 2, none⟩ = some (.string r.id) ∧ wr.cell? ⟨blk, off + k * 2 + 1, none⟩ = some (.slice r.A r.v.length r.c) ∧ Fine wr B r := by
  obtain ⟨rs, rfl, hr, hf⟩ := h
  obtain ⟨b, off, e, hlt, z, hz, hc⟩ := (hr.keep hb).get hk
  refine ⟨b, off, z, e, hlt, ?_, hc 0 _ rfl, hc 1 _ rfl, (hf z (List.mem_of_getElem? hz)).keep hb⟩
  simp [absH, hz]
/-- The Row's Vec lies not in that block. -/
def Apart (r : Hd) (g : Option Nat) : Prop := 0 < r.v.length → ∀ ad, r.A = some ad → g ≠ some ad.block
/-- Rows of the call's own. -/
structure OwnsH (w : World) (B : Nat) (e : TypeId) (A : Option Addr) (n c : Nat) (rs : List Hd) : Prop where
  own : w.ownsRow B e 2 (.slice A n c) n (rowCells cellsH rs)
  fine : ∀ r ∈ rs, Fine w w.heap.size r
  apart : ∀ r ∈ rs, Apart r (Value.ownBlock (.slice A n c))
theorem OwnsH.nil (w : World) (B : Nat) (e : TypeId) : OwnsH w B e none 0 0 [] := ⟨rown_nil _ _, by simp, by simp⟩
theorem OwnsH.below {w w' : World} {B : Nat} {e : TypeId} {A : Option Addr} {n c : Nat} {rs : List Hd} (h : OwnsH w B e A n c rs) (hb : Below w.heap.size w w') : OwnsH w' B e A n c rs :=
  ⟨rown_below h.own hb, fun r hr => ((h.fine r hr).keep hb).more hb.size, h.apart⟩
theorem _root_.Go.Proofs.YtbookbgfipbaoaaGreatDoor.VecAt.far {w w' : World} {B : Nat} {A : Option Addr} {n : Nat} {zs : List At} (h : VecAt w B A n zs) (hk : ∀ ad o, 0 < n → A = some ad → w'.cell? ⟨ad.block, o, none⟩ = w.cell? ⟨ad.block, o, none⟩) : VecAt w' B A n zs :=
  ⟨h.1, fun hn => by
    obtain ⟨b, off, e, hlt, hc⟩ := h.2 hn
    have h2 := fun o => hk _ o hn e
    exact ⟨b, off, e, hlt, fun k hk' => ⟨(h2 _).trans (hc k hk').1, (h2 _).trans (hc k hk').2⟩⟩⟩
/-- Under a change of one block alone a Row's Vec that lies in another one stays. -/
theorem Fine.grown {w w' : World} {r : Hd} {row : Option Nat} (h : Fine w w.heap.size r) (hg : w.grownBy w' row) (ha : Apart r row) : Fine w' w'.heap.size r :=
  ⟨(h.vec.far fun ad o hn e => by
      have hlt : ad.block < w.heap.size := by
        obtain ⟨b, off, e2, hlt, _⟩ := h.vec.2 hn
        rw [e] at e2; injection e2 with e2; subst e2; exact hlt
      exact World.cell?_of_block (a := ⟨ad.block, o, none⟩) (hg.block ad.block hlt (fun e3 => ha hn ad e e3.symm))).more hg.size, h.cap⟩
/-- One more Row behind. -/
theorem OwnsH.snoc {w w3 : World} {B : Nat} {e : TypeId} {A A3 : Option Addr} {n c c3 : Nat} {rs : List Hd} {r : Hd} (h : OwnsH w B e A n c rs) (hr : Fine w w.heap.size r) (ha : Apart r (Value.ownBlock (.slice A n c)))
    (hown : w3.ownsRow B e 2 (.slice A3 (n + 1) c3) (n + 1) (rowCells cellsH (rs ++ [r]))) (hg : w.grownBy w3 (Value.ownBlock (.slice A n c))) (hat : Value.ownBlock (.slice A3 (n + 1) c3) = Value.ownBlock (.slice A n c) ∨ Value.ownBlock (.slice A3 (n + 1) c3) = some w.heap.size) : OwnsH w3 B e A3 (n + 1) c3 (rs ++ [r]) := by
  have hall : ∀ x ∈ rs ++ [r], Fine w w.heap.size x ∧ Apart x (Value.ownBlock (.slice A n c)) := fun x hx => by
    rcases List.mem_append.mp hx with hx | hx
    · exact ⟨h.fine x hx, h.apart x hx⟩
    · simp at hx; subst hx; exact ⟨hr, ha⟩
  refine ⟨hown, fun x hx => (hall x hx).1.grown hg (hall x hx).2, fun x hx => ?_⟩
  rcases hat with e1 | e1
  · rw [e1]; exact (hall x hx).2
  · rw [e1]
    intro hn ad e2 e3
    obtain ⟨b, off, e4, hlt, _⟩ := (hall x hx).1.vec.2 hn
    rw [e2] at e4; injection e4 with e4; subst e4
    injection e3 with e3
    simp at e3 hlt
    omega
theorem takeM {m : Mat} {k : Nat} {x : ByteArray × List At} (h : m[k]? = some x) : m.take (k + 1) = m.take k ++ [x] := by
  rw [List.take_add_one, h]
  rfl
end Go.Proofs.YtbookbgfipbaoaaGreatDoor.Mx

/- slices.Clone of a Vec; the law's To and From; matrix.push. -/
namespace Go.Proofs.YtbookbgfipbaoaaGreatDoor.Mx
open Go.RowKit

theorem below_via {B : Nat} {a w W w1 : World} (h : Below B a w) (hb : Below W.heap.size W w1) (hB : B ≤ w.heap.size) (hs : W.os = w.os ∧ W.tape = w.tape ∧ W.output = w.output ∧ W.heap = w.heap) : Below B a w1 := by
  obtain ⟨h1, h2, h3, h4⟩ := hs
  exact ⟨hb.os.trans (h1.trans h.os), hb.tape.trans (h2.trans h.tape), hb.output.trans (h3.trans h.output), Nat.le_trans h.size (by rw [← h4]; exact hb.size), fun k hk => (hb.block k (by rw [h4]; omega)).trans (by rw [h4]; exact h.block k hk)⟩
theorem apart_new {w w1 : World} {B : Nat} {e e2 : TypeId} {A : Option Addr} {n c : Nat} {rs : List Hd} {r : Hd} {xs : List Value} (h : OwnsH w B e A n c rs) (ho : w1.ownsRow w.heap.size e2 2 (.slice r.A r.v.length r.c) r.v.length xs) : Apart r (Value.ownBlock (.slice A n c)) := fun _ ad e1 e2 => by
  have h1 := (h.own.lt ad.block e2).2
  have h2 := (ho.lt ad.block (by rw [e1]; rfl)).1
  omega
end Go.Proofs.YtbookbgfipbaoaaGreatDoor.Mx

/- matrix.pushAll, order and Merge. -/
namespace Go.Proofs.YtbookbgfipbaoaaGreatDoor.Mx
open Go.RowKit

theorem drew_below (B : Nat) (w : World) : Below B w w.drew := ⟨rfl, rfl, rfl, Nat.le_refl _, fun _ _ => rfl⟩
end Go.Proofs.YtbookbgfipbaoaaGreatDoor.Mx

/- matrix.find, Of, Put and Drop. -/
namespace Go.Proofs.YtbookbgfipbaoaaGreatDoor.Mx
open Go.RowKit

/-- The ids. -/
def keyL (m : Mat) : List At := m.map fun x => (x.1, 0)
def RisingM (m : Mat) : Prop := Rising (keyL m)
theorem risingM_iff (m : Mat) : RisingM m ↔ m.Pairwise fun x y => cmpId x.1 y.1 < 0 := by
  unfold RisingM Rising keyL
  rw [List.pairwise_map]
end Go.Proofs.YtbookbgfipbaoaaGreatDoor.Mx

/- matrix.Drop, Stable and Same. -/
namespace Go.Proofs.YtbookbgfipbaoaaGreatDoor.Mx
open Go.RowKit

/-- Do two Rows say the same? -/
def sameR (x y : ByteArray × List At) : Bool := decide (x = y)
set_option maxRecDepth 100000 in
set_option maxHeartbeats 2000000 in
theorem sameRow_any (i1 : ByteArray) (A1 : Option Addr) (c1 : Nat) (v1 : List At) (i2 : ByteArray) (A2 : Option Addr) (c2 : Nat) (v2 : List At) (w : World) (h1 : VecAt w w.heap.size A1 v1.length v1) (h2 : VecAt w w.heap.size A2 v2.length v2) (hl1 : v1.length ≤ 100000) (hl2 : v2.length ≤ 100000) :
    Calls Tryz.prog 138 #[.agg #[.string i1, .slice A1 v1.length c1], .agg #[.string i2, .slice A2 v2.length c2]] w fun e w' => e = .returned (.bool (sameR (i1, v1) (i2, v2))) ∧ Below w.heap.size w w' := by
  have hb : Below w.heap.size w ((w.alloc (.cells #[.string i1, .slice A1 v1.length c1] 105)).alloc (.cells #[.string i2, .slice A2 v2.length c2] 105)) := ((Below.refl _ _).alloc (Nat.le_refl _) _).alloc (by simp) _
  have HS := Lib.hid (same_any A1 v1.length c1 v1 A2 v2.length c2 v2 w.heap.size _ (h1.keep hb) (h2.keep hb) (by omega) (by omega))
  have HB := Lib.hid hb
  clear h1 h2 hb
  by_cases he : i1 = i2
  · have HE : Hid (sameR (i1, v1) (i2, v2) = decide (v1 = v2)) := by show _ = _; unfold sameR; simp [he]
    have hq := beq_yes he
    rw [HE.out]
    generalize decide (v1 = v2) = d at *
    clear he HE
    go_enter Tryz.func138, Tryz.ntmps138
    go_wp2_with fail
    refine HS.out.mono ?_
    rintro e w1 ⟨rfl, hd⟩
    have HB1 := Lib.hid (HB.out.trans (drawn_below hd.out _))
    clear hd
    go_wp2
    go_ret
    exact ⟨rfl, HB1.out⟩
  · have HE : Hid (sameR (i1, v1) (i2, v2) = false) := by show _ = _; unfold sameR; simp [he]
    have hq := beq_no he
    rw [HE.out]
    clear he HE HS
    go_enter Tryz.func138, Tryz.ntmps138
    go_wp2
    go_ret
    exact ⟨rfl, HB.out⟩
def sameM (x y : Mat) : Bool := decide (x = y)
set_option maxRecDepth 100000 in
set_option maxHeartbeats 4000000 in
theorem equalM_any (A : Option Addr) (n c : Nat) (x : Mat) (A' : Option Addr) (n' c' : Nat) (y : Mat) (B : Nat) (w : World) (hB : B ≤ w.heap.size) (hx : MatAt w B A n x) (hy : MatAt w B A' n' y) (hn : n ≤ 1000000) (hvx : ∀ z ∈ x, z.2.length ≤ 100000) (hvy : ∀ z ∈ y, z.2.length ≤ 100000) :
    Calls Tryz.prog 137 #[.slice A n c, .slice A' n' c', .func (.func 138) #[] #[]] w fun e w' => e = .returned (.bool (sameM x y)) ∧ Below w.heap.size w w' := by
  have HL := Lib.hid hx.len
  have HL' := Lib.hid hy.len
  have HX := Lib.hid hx
  have HY := Lib.hid hy
  have HVX := Lib.hid hvx
  have HVY := Lib.hid hvy
  clear hx hy hvx hvy
  by_cases hnn : n = n'
  · subst hnn
    go_enter Tryz.func137, Tryz.ntmps137
    go_wp2
    go_loopw [17] (fun i wr => ∃ k : Nat, k ≤ n ∧ i = .int .i64 k ∧ Hid (x.take k = y.take k) ∧ Hid (Below w.heap.size w wr)) (fun i _ => n - (intOf i).toNat)
    case atStart => exact ⟨0, by omega, rfl, by show _ = _; simp, Below.refl _ _⟩
    case round =>
      obtain ⟨k, hk, rfl, HE, HB⟩ := hrel
      by_cases hlt : k < n
      · obtain ⟨b1, o1, r1, rfl, hb1, hm1, e0, e1, f1⟩ := HX.out.get (HB.out.mono hB) hlt
        obtain ⟨b2, o2, r2, rfl, hb2, hm2, g0, g1, f2⟩ := HY.out.get (HB.out.mono hB) hlt
        have hi1 : (k : Int) < (n : Int) := by omega
        have hl1 := HVX.out _ (List.mem_of_getElem? hm1)
        have hl2 := HVY.out _ (List.mem_of_getElem? hm2)
        have hsz := HB.out.size
        have hbl2 : b2 < wr.heap.size := by omega
        have hbw : Below wr.heap.size wr ((wr.alloc (.cells #[.string r1.id, .slice r1.A r1.v.length r1.c] 105)).alloc (.cells #[.string r2.id, .slice r2.A r2.v.length r2.c] 105)) := ((Below.refl _ _).alloc (Nat.le_refl _) _).alloc (by simp) _
        have hBr := Nat.le_trans hB hsz
        have HS := Lib.hid (sameRow_any r1.id r1.A r1.c r1.v r2.id r2.A r2.c r2.v _ (((f1.vec.more hBr).keep hbw).more hbw.size) (((f2.vec.more hBr).keep hbw).more hbw.size) hl1 hl2)
        have HB1 := Lib.hid (HB.out.trans (hbw.mono hsz))
        obtain ⟨b, hb⟩ : ∃ b, sameR (r1.id, r1.v) (r2.id, r2.v) = b := ⟨_, rfl⟩
        have HTE : Hid (b = true → x.take (k + 1) = y.take (k + 1)) := fun h => by
          rw [h] at hb
          rw [takeM hm1, takeM hm2, HE.out, of_decide_eq_true hb]
        have HTF : Hid (b = false → sameM x y = false) := fun h => by
          rw [h] at hb
          unfold sameM
          rw [decide_eq_false_iff_not]
          intro e
          subst e
          rw [hm1] at hm2
          injection hm2 with hm2
          exact absurd hm2 (of_decide_eq_false hb)
        rw [hb] at HS
        obtain ⟨id1, Ar1, cr1, v1⟩ := r1
        obtain ⟨id2, Ar2, cr2, v2⟩ := r2
        simp only at e0 e1 g0 g1 hl1 hl2 HS HB1
        clear hb hm1 hm2 f1 f2 hbw
        cases b with
        | true =>
          have HN := Lib.hid (HTE.out rfl)
          clear HTE HTF
          go_wp2_with fail
          refine HS.out.mono ?_
          rintro e w1 ⟨rfl, hb⟩
          replace HB := Lib.hid (HB1.out.trans (hb.mono HB1.out.size))
          clear hb HS HB1 e0 e1 g0 g1
          go_wp2_with fail
          go_roundw
          case rel => exact ⟨k + 1, by omega, by go_num, HN, HB⟩
          case measure => simp [intOf]; omega
        | false =>
          have HN := Lib.hid (HTF.out rfl)
          clear HTE HTF
          go_wp2_with fail
          refine HS.out.mono ?_
          rintro e w1 ⟨rfl, hb⟩
          replace HB := Lib.hid (HB1.out.trans (hb.mono HB1.out.size))
          clear hb HS HB1 e0 e1 g0 g1
          go_wp2
          go_ret
          exact ⟨ret_bool HN.out.symm, HB.out⟩
      · have HT : Hid (sameM x y = true) := by
          have := HE.out
          rw [List.take_of_length_le (by have := HL.out; omega), List.take_of_length_le (by have := HL'.out; omega)] at this
          exact decide_eq_true this
        go_wp2
        go_ret
        exact ⟨ret_bool HT.out.symm, HB.out⟩
  · have HF : Hid (sameM x y = false) := by
      show _ = _
      unfold sameM
      rw [decide_eq_false_iff_not]
      intro e
      subst e
      exact hnn (HL.out.symm.trans HL'.out)
    have hnn' : ((n : Int) != n') = true := by simp; omega
    go_enter Tryz.func137, Tryz.ntmps137
    go_wp2
    go_ret
    exact ⟨ret_bool HF.out.symm, Below.refl _ _⟩
set_option maxRecDepth 100000 in
set_option maxHeartbeats 1000000 in
theorem sameM_any (A : Option Addr) (n c : Nat) (x : Mat) (A' : Option Addr) (n' c' : Nat) (y : Mat) (B : Nat) (w : World) (hB : B ≤ w.heap.size) (hx : MatAt w B A n x) (hy : MatAt w B A' n' y) (hn : n ≤ 1000000) (hvx : ∀ z ∈ x, z.2.length ≤ 100000) (hvy : ∀ z ∈ y, z.2.length ≤ 100000) :
    Calls Tryz.prog 71 #[.slice A n c, .slice A' n' c'] w fun e w' => e = .returned (.bool (sameM x y)) ∧ Below w.heap.size w w' := by
  have HS := Lib.hid (equalM_any A n c x A' n' c' y B w hB hx hy hn hvx hvy)
  generalize sameM x y = d at *
  clear hx hy hvx hvy
  go_enter Tryz.func71, Tryz.ntmps71
  go_wp2_with fail
  refine HS.out.mono ?_
  rintro e w1 ⟨rfl, hb⟩
  have HB := Lib.hid hb
  clear hb HS
  go_wp2
  go_ret
  exact ⟨rfl, HB.out⟩
end Go.Proofs.YtbookbgfipbaoaaGreatDoor.Mx

/- matrix.Right. -/
namespace Go.Proofs.YtbookbgfipbaoaaGreatDoor.Mx
open Go.RowKit

def okRow (x : ByteArray × List At) : Bool := rightL x.1.data.toList && (rightV x.2 && decide (x.2.length ≠ 0))
def prevOk (p : Option ByteArray) (a : ByteArray) : Bool := match p with | none => true | some q => decide (cmpId q a < 0)
theorem prevOk_none (a : ByteArray) : prevOk none a = true := rfl
theorem prevOk_some (q a : ByteArray) : prevOk (some q) a = decide (cmpId q a < 0) := rfl
def rightFromM : Option ByteArray → Mat → Bool
  | _, [] => true
  | p, x :: r => okRow x && (prevOk p x.1 && rightFromM (some x.1) r)
theorem rightFromM_cons (p : Option ByteArray) (x : ByteArray × List At) (r : Mat) : rightFromM p (x :: r) = (okRow x && (prevOk p x.1 && rightFromM (some x.1) r)) := rfl
/-- May it be a Matrix? -/
def rightM (m : Mat) : Bool := rightFromM none m
def prevI (m : Mat) (k : Nat) : Option ByteArray := if k = 0 then none else (m[k - 1]?).map (·.1)
theorem rightM_step {m : Mat} {k : Nat} {x : ByteArray × List At} (h : m[k]? = some x) : rightFromM (prevI m k) (m.drop k) = (okRow x && (prevOk (prevI m k) x.1 && rightFromM (prevI m (k + 1)) (m.drop (k + 1)))) := by
  obtain ⟨hk, rfl⟩ := List.getElem?_eq_some_iff.mp h
  rw [List.drop_eq_getElem_cons hk]
  have e : prevI m (k + 1) = some m[k].1 := by unfold prevI; simp [List.getElem?_eq_getElem hk]
  rw [e]
  rfl
/-- Rows that may be, rising. -/
def GoodM (m : Mat) : Prop := RisingM m ∧ ∀ x ∈ m, rightL x.1.data.toList = true ∧ Good x.2 ∧ x.2 ≠ []
theorem okRow_iff (x : ByteArray × List At) : okRow x = true ↔ rightL x.1.data.toList = true ∧ Good x.2 ∧ x.2 ≠ [] := by
  unfold okRow
  rw [Bool.and_eq_true, Bool.and_eq_true, good_iff, decide_eq_true_iff]
  constructor
  · rintro ⟨h1, h2, h3⟩; exact ⟨h1, h2, fun e => h3 (by rw [e]; rfl)⟩
  · rintro ⟨h1, h2, h3⟩; exact ⟨h1, h2, fun e => h3 (List.eq_nil_of_length_eq_zero e)⟩
theorem rightFromM_iff : ∀ (m : Mat) (p : Option ByteArray), rightFromM p m = true ↔ GoodM m ∧ ∀ q, p = some q → ∀ x ∈ m, cmpId q x.1 < 0
  | [], p => by
    constructor
    · intro _; exact ⟨⟨List.Pairwise.nil, by simp⟩, fun _ _ x hx => by simp at hx⟩
    · intro _; rfl
  | x :: r, p => by
    have ih := rightFromM_iff r (some x.1)
    rw [rightFromM_cons, Bool.and_eq_true, Bool.and_eq_true, ih, okRow_iff]
    constructor
    · rintro ⟨h1, h2, ⟨h3, h4⟩, h5⟩
      have h6 := h5 x.1 rfl
      refine ⟨⟨(risingM_iff _).mpr (List.pairwise_cons.mpr ⟨h6, (risingM_iff _).mp h3⟩), fun y hy => ?_⟩, fun q hq y hy => ?_⟩
      · rcases List.mem_cons.mp hy with rfl | hy
        · exact h1
        · exact h4 y hy
      · subst hq
        have h2' : cmpId q x.1 < 0 := by rw [prevOk_some] at h2; simpa using h2
        rcases List.mem_cons.mp hy with rfl | hy
        · exact h2'
        · have := h6 y hy
          exact cmpId_lt q x.1 y.1 h2' (by omega)
    · rintro ⟨⟨h1, h2⟩, h3⟩
      have h4 := List.pairwise_cons.mp ((risingM_iff _).mp h1)
      refine ⟨h2 x (by simp), ?_, ⟨(risingM_iff _).mpr h4.2, fun y hy => h2 y (by simp [hy])⟩, fun q hq y hy => by injection hq with hq; subst hq; exact h4.1 y hy⟩
      cases p with
      | none => rfl
      | some q => rw [prevOk_some, decide_eq_true_iff]; exact h3 q rfl x (by simp)
theorem rightM_iff (m : Mat) : rightM m = true ↔ GoodM m := by
  unfold rightM
  rw [rightFromM_iff]
  exact ⟨fun h => h.1, fun h => ⟨h, fun q e => by cases e⟩⟩

set_option maxRecDepth 100000 in
set_option maxHeartbeats 4000000 in
theorem rightM_any (A : Option Addr) (n c : Nat) (m : Mat) (B : Nat) (w : World) (hB : B ≤ w.heap.size) (hz : MatAt w B A n m) (hn : n ≤ 1000000) (hv : ∀ z ∈ m, z.2.length ≤ 1000000) :
    Calls Tryz.prog 151 #[.slice A n c] w fun e w' => e = .returned (.bool (rightM m)) ∧ Below w.heap.size w w' := by
  have HZ := Lib.hid hz
  have HL := Lib.hid hz.len
  have HV := Lib.hid hv
  clear hz hv
  generalize hRS : rightM m = RS
  have HRS : Hid (rightFromM (prevI m 0) (m.drop 0) = RS) := hRS
  clear hRS
  go_enter Tryz.func151, Tryz.ntmps151
  go_wp2
  go_loopw [7] (fun i wr => ∃ k : Nat, k ≤ n ∧ i = .int .i64 k ∧ Hid (rightFromM (prevI m k) (m.drop k) = RS) ∧ Hid (Below w.heap.size w wr)) (fun i _ => n - (intOf i).toNat)
  case atStart => exact ⟨0, by omega, rfl, HRS, Below.refl _ _⟩
  case round =>
    clear HRS
    obtain ⟨k, hk, rfl, HRS, HB⟩ := hrel
    by_cases hlt : k < n
    · obtain ⟨blk, off, r, rfl, hbB, hmk, e0, e1, hf⟩ := HZ.out.get (HB.out.mono hB) hlt
      have hi1 : (k : Int) < n := by omega
      have hst := rightM_step hmk
      rw [HRS.out] at hst
      have HST := Lib.hid hst
      have hvl : r.v.length ≤ 1000000 := HV.out _ (List.mem_of_getElem? hmk)
      have hsz := HB.out.size
      have hbl : blk < wr.heap.size := by omega
      have hbw : Below wr.heap.size wr (wr.alloc (.cells #[.string r.id, .slice r.A r.v.length r.c] 105)) := (Below.refl _ _).alloc (Nat.le_refl _) _
      have HB1 := Lib.hid (HB.out.trans (hbw.mono hsz))
      have HRV := Lib.hid (rightv_any r.A r.v.length r.c r.v wr.heap.size _ hbw.size ((hf.vec.more (Nat.le_trans hB hsz)).keep hbw) (by omega))
      obtain ⟨id, Ar, cr, v⟩ := r
      have HOK : Hid (okRow (id, v) = (rightL id.data.toList && (rightV v && decide (v.length ≠ 0)))) := rfl
      simp only at e0 e1 hvl HB1 HRV HST
      rw [HOK.out] at HST
      clear HOK hst hf hmk
      cases hr : rightL id.data.toList with
      | false =>
        rw [hr] at HST
        have HF : Hid (RS = false) := by show _ = _; rw [HST.out]; rfl
        have HR := Lib.hid hr
        clear hr HST HRV hbw
        go_wp2_with fail
        refine (right_is _ false HR _).mono ?_
        rintro e w' ⟨rfl, rfl⟩
        go_wp2
        go_ret
        exact ⟨ret_bool HF.out.symm, HB1.out⟩
      | true =>
        rw [hr] at HST
        have HR := Lib.hid hr
        clear hr
        cases hq : rightV v with
        | false =>
          rw [hq] at HST HRV
          have HF : Hid (RS = false) := by show _ = _; rw [HST.out]; rfl
          clear hq HST hbw
          go_wp2_with fail
          refine (right_is _ true HR _).mono ?_
          rintro e w' ⟨rfl, rfl⟩
          go_wp2_with fail
          refine HRV.out.mono ?_
          rintro e w1 ⟨rfl, hb⟩
          replace HB1 := Lib.hid (HB1.out.trans (hb.mono HB1.out.size))
          clear hb
          go_wp2
          go_ret
          exact ⟨ret_bool HF.out.symm, HB1.out⟩
        | true =>
          rw [hq] at HST HRV
          clear hq
          rcases Nat.eq_zero_or_pos v.length with h0 | h0
          · have HF : Hid (RS = false) := by show _ = _; rw [HST.out, h0]; rfl
            rw [h0] at e1 HRV HB1
            clear HST hbw
            go_wp2_with fail
            refine (right_is _ true HR _).mono ?_
            rintro e w' ⟨rfl, rfl⟩
            have hcl0 : (wr.alloc (.cells #[.string id, .slice Ar 0 cr] 105)).cell? ⟨wr.heap.size, 1, none⟩ = some (.slice Ar 0 cr) := by simp [go_sem]
            have hwl : wr.heap.size < (wr.alloc (.cells #[.string id, .slice Ar 0 cr] 105)).heap.size := by simp
            go_wp2_with fail
            refine HRV.out.mono ?_
            rintro e w1 ⟨rfl, hb⟩
            have hcl1 : w1.cell? ⟨wr.heap.size, 1, none⟩ = some (.slice Ar 0 cr) := (hb.cell (p := ⟨wr.heap.size, 1, none⟩) hwl).trans hcl0
            replace HB1 := Lib.hid (HB1.out.trans (hb.mono HB1.out.size))
            clear hb hcl0 hwl
            go_wp2
            go_ret
            exact ⟨ret_bool HF.out.symm, HB1.out⟩
          · have hg : ((v.length : Int) == 0) = false := by rw [beq_eq_false_iff_ne]; omega
            have hd0 : decide (v.length ≠ 0) = true := by simp; intro e; rw [e] at h0; simp at h0
            rw [hd0] at HST
            have hcl0 : (wr.alloc (.cells #[.string id, .slice Ar v.length cr] 105)).cell? ⟨wr.heap.size, 1, none⟩ = some (.slice Ar v.length cr) := by simp [go_sem]
            have hid0 : (wr.alloc (.cells #[.string id, .slice Ar v.length cr] 105)).cell? ⟨wr.heap.size, 0, none⟩ = some (.string id) := by simp [go_sem]
            have hwl : wr.heap.size < (wr.alloc (.cells #[.string id, .slice Ar v.length cr] 105)).heap.size := by simp
            by_cases hk0 : k = 0
            · have hpv : prevI m k = none := by unfold prevI; rw [if_pos hk0]
              rw [hpv, prevOk_none] at HST
              have HN : Hid (rightFromM (prevI m (k + 1)) (m.drop (k + 1)) = RS) := by show _ = _; rw [HST.out]; simp
              have hgd : decide (0 < k) = false := by simp; omega
              clear HST hpv hk0 hd0 h0 hbw
              go_wp2_with fail
              refine (right_is _ true HR _).mono ?_
              rintro e w' ⟨rfl, rfl⟩
              go_wp2_with fail
              refine HRV.out.mono ?_
              rintro e w1 ⟨rfl, hb⟩
              have hcl1 : w1.cell? ⟨wr.heap.size, 1, none⟩ = some (.slice Ar v.length cr) := (hb.cell (p := ⟨wr.heap.size, 1, none⟩) hwl).trans hcl0
              replace HB1 := Lib.hid (HB1.out.trans (hb.mono HB1.out.size))
              clear hb hcl0 hid0 hwl
              generalize v.length = L at *
              go_wp2_with fail
              go_quiet (fail)
              go_wp2
              go_roundw
              case rel => exact ⟨k + 1, by omega, by go_num, HN, below_drewN HB1.out _⟩
              case measure => simp [intOf]; omega
            · obtain ⟨b2, o2, r2, e2, _, hm2, d0, _, _⟩ := HZ.out.get (HB.out.mono hB) (k := k - 1) (by omega)
              injection e2 with e2
              injection e2 with e2 e3
              subst e2 e3
              have hpv : prevI m k = some r2.id := by unfold prevI; rw [if_neg hk0, hm2]; rfl
              rw [hpv, prevOk_some] at HST
              have hgd : decide (0 < k) = true := by simp; omega
              have hj0 : (1 : Int) ≤ (k : Int) := by omega
              have hj1 : (0 : Int) ≤ (k : Int) - 1 := by omega
              have hj2 : (k : Int) - 1 < (n : Int) := by omega
              have hj3 : ((k : Int) - 1).toNat = k - 1 := by omega
              have hj4 : IntKind.i64.wrap ((k : Int) - 1) = (k : Int) - 1 := IntWalk.i64_in _ (by omega)
              replace d0 := (hbw.cell (p := ⟨blk, off + (k - 1) * 2, none⟩) hbl).trans d0
              have hbl1 := Nat.lt_of_lt_of_le hbl hbw.size
              generalize r2.id = pid at *
              obtain ⟨y, hy⟩ : ∃ y, cmpId pid id = y := ⟨_, rfl⟩
              have HY : Hid (Lib.compareBytes pid.data.toList id.data.toList = y) := hy
              rw [hy] at HST
              clear hpv hk0 hd0 h0 hbw hm2 hy
              by_cases hge : 0 ≤ y
              · have HF : Hid (RS = false) := by
                  show _ = _
                  rw [HST.out]
                  simp only [show decide (y < 0) = false by simp; omega]
                  rfl
                clear HST
                go_wp2_with fail
                refine (right_is _ true HR _).mono ?_
                rintro e w' ⟨rfl, rfl⟩
                go_wp2_with fail
                refine HRV.out.mono ?_
                rintro e w1 ⟨rfl, hb⟩
                have hcl1 : w1.cell? ⟨wr.heap.size, 1, none⟩ = some (.slice Ar v.length cr) := (hb.cell (p := ⟨wr.heap.size, 1, none⟩) hwl).trans hcl0
                have hid1 : w1.cell? ⟨wr.heap.size, 0, none⟩ = some (.string id) := (hb.cell (p := ⟨wr.heap.size, 0, none⟩) hwl).trans hid0
                have d1 : w1.cell? ⟨blk, off + (k - 1) * 2, none⟩ = some (.string pid) := (hb.cell (p := ⟨blk, off + (k - 1) * 2, none⟩) hbl1).trans d0
                replace HB1 := Lib.hid (HB1.out.trans (hb.mono HB1.out.size))
                clear hb hcl0 hid0 hwl d0
                generalize v.length = L at *
                go_wp2_with fail
                go_quiet ((go_at_call 150; exact quiet_same (compare_is _ _ _ HY _)))
                go_wp2
                go_ret
                exact ⟨ret_bool HF.out.symm, below_drewN HB1.out _⟩
              · have HN : Hid (rightFromM (prevI m (k + 1)) (m.drop (k + 1)) = RS) := by
                  show _ = _
                  rw [HST.out]
                  simp only [show decide (y < 0) = true by simp; omega]
                  simp
                clear HST
                go_wp2_with fail
                refine (right_is _ true HR _).mono ?_
                rintro e w' ⟨rfl, rfl⟩
                go_wp2_with fail
                refine HRV.out.mono ?_
                rintro e w1 ⟨rfl, hb⟩
                have hcl1 : w1.cell? ⟨wr.heap.size, 1, none⟩ = some (.slice Ar v.length cr) := (hb.cell (p := ⟨wr.heap.size, 1, none⟩) hwl).trans hcl0
                have hid1 : w1.cell? ⟨wr.heap.size, 0, none⟩ = some (.string id) := (hb.cell (p := ⟨wr.heap.size, 0, none⟩) hwl).trans hid0
                have d1 : w1.cell? ⟨blk, off + (k - 1) * 2, none⟩ = some (.string pid) := (hb.cell (p := ⟨blk, off + (k - 1) * 2, none⟩) hbl1).trans d0
                replace HB1 := Lib.hid (HB1.out.trans (hb.mono HB1.out.size))
                clear hb hcl0 hid0 hwl d0
                generalize v.length = L at *
                go_wp2_with fail
                go_quiet ((go_at_call 150; exact quiet_same (compare_is _ _ _ HY _)))
                go_wp2
                go_roundw
                case rel => exact ⟨k + 1, by omega, by go_num, HN, below_drewN HB1.out _⟩
                case measure => simp [intOf]; omega
    · obtain rfl : k = n := by omega
      have HF : Hid (RS = true) := by show _ = _; rw [← HRS.out, List.drop_of_length_le (by rw [HL.out]; omega)]; unfold rightFromM; rfl
      go_wp2
      go_ret
      exact ⟨ret_bool HF.out.symm, HB.out⟩
end Go.Proofs.YtbookbgfipbaoaaGreatDoor.Mx

/- item: takeVersion, takeSpot, Take. -/
namespace Go.Proofs.YtbookbgfipbaoaaGreatDoor.By
open Go.RowKit

theorem num_le (st : Rd) (m : Int) : 0 ≤ (numF st m).1 ∧ ((numF st m).1 ≤ m ∨ (numF st m).1 = 0) := by
  unfold numF
  split
  · simp
  · split
    · simp
    · split
      · simp
      · simp only; omega
theorem num_rest {st : Rd} {mo : Int} (h : (numF st mo).2.1 ≠ []) : st.1 ≠ [] := by
  intro e
  apply h
  unfold numF
  split
  · exact e
  · split
    · exact e
    · split
      · exact e
      · show st.1.drop _ = []
        rw [e]; simp
theorem text_rest {st : Rd} {mo : Int} (h : (textF st mo).2.1 ≠ []) : st.1 ≠ [] := by
  apply num_rest (mo := mo)
  intro e
  apply h
  unfold textF
  split
  · exact e
  · split
    · exact e
    · show (numF st mo).2.1.drop _ = []
      rw [e]; simp
def tk1 (st : Rd) := numF st 31
def tk2 (st : Rd) := textF (tk1 st).2 6
def tk3 (st : Rd) := numF (tk2 st).2 1048576
def tk4 (st : Rd) := numF (tk3 st).2 1048576
def tk5 (st : Rd) := numF (tk4 st).2 2
def tk6 (st : Rd) := numF (tk5 st).2 2000
def tk7 (st : Rd) := numF (tk6 st).2 2000
def tkS (st : Rd) : Rd := if (tk5 st).1 ≠ 0 then (tk7 st).2 else (tk5 st).2
def tk8 (st : Rd) := textF (tkS st) 16
def tkE (st : Rd) : Rd := if (tk5 st).1 = 2 then (tk8 st).2 else tkS st
def rawI (st : Rd) : Itm := ⟨(tk1 st).1, ⟨⟨(tk2 st).1.toArray⟩, (tk3 st).1, (tk4 st).1⟩, decide ((tk5 st).1 = 0), if (tk5 st).1 ≠ 0 then (tk6 st).1 - 1000 else 0, if (tk5 st).1 ≠ 0 then (tk7 st).1 - 1000 else 0, if (tk5 st).1 = 2 then ⟨(tk8 st).1.toArray⟩ else ⟨#[]⟩, decide ((tk5 st).1 = 2)⟩
def okI (st : Rd) : Bool := decide ((tkE st).2 = 0) && rightI (rawI st)
def zeroI : Itm := ⟨0, ⟨⟨#[]⟩, 0, 0⟩, false, 0, 0, ⟨#[]⟩, false⟩

/-- A call that read on in the Reader, and made blocks of its own. -/
def RdRet (v : Value) (R g : Nat) (st : Rd) (w : World) (e : Ending) (w' : World) : Prop := e = .returned v ∧ ReaderAt w' R g st ∧ w.grownBy w' (some R)

theorem ReaderAt.allocd {w : World} {R g : Nat} {st : Rd} (h : ReaderAt w R g st) (o : Obj) : ReaderAt (w.alloc o) R g st := h.keep ((Below.refl _ _).alloc (Nat.le_refl _) _)
theorem grown_alloc (w : World) (o : Obj) (row : Option Nat) : w.grownBy (w.alloc o) row := grown_of_below ((Below.refl _ _).alloc (Nat.le_refl _) _) row
theorem grown_own {a w : World} {row : Option Nat} (h : a.grownBy w row) {p : Addr} (hp : a.heap.size ≤ p.block) (u : Value) : a.grownBy (w.setCell p u) row :=
  ⟨h.os, h.tape, h.output, by simpa [World.setCell] using h.size, fun k hk hne => (Below.heap_setCell w p u k (by omega)).trans (h.block k hk hne)⟩
theorem grown_more {a w : World} {row : Option Nat} (h : a.grownBy w row) (o : Obj) : a.grownBy (w.alloc o) row :=
  h.trans (grown_alloc w o row)
theorem ReaderAt.setOwn {w : World} {R g : Nat} {st : Rd} (h : ReaderAt w R g st) {p : Addr} (h1 : R ≠ p.block) (h2 : st.1 ≠ [] → g ≠ p.block) (u : Value) : ReaderAt (w.setCell p u) R g st := h.other (grown_set u) h1 h2
/-- A block of the call's own stays while the Reader is read. -/
theorem own_cell {w w1 : World} {R b : Nat} (hg : w.grownBy w1 (some R)) (hb : b < w.heap.size) (hne : some b ≠ (some R : Option Nat)) (o : Nat) : w1.cell? ⟨b, o, none⟩ = w.cell? ⟨b, o, none⟩ ∧ w1.frozen? ⟨b, o, none⟩ = w.frozen? ⟨b, o, none⟩ :=
  ⟨World.cell?_of_block (a := ⟨b, o, none⟩) (hg.block b hb hne), World.frozen?_of_block (a := ⟨b, o, none⟩) (hg.block b hb hne)⟩
theorem ReaderAt.glt {w : World} {R g : Nat} {st : Rd} (h : ReaderAt w R g st) (hn : st.1 ≠ []) : g < w.heap.size := by
  obtain ⟨A, c, _, hz, _⟩ := h.c0
  exact hz.lt (List.length_pos_iff.mpr hn)

set_option maxRecDepth 100000 in
set_option maxHeartbeats 4000000 in
theorem takeSpot_any {R g : Nat} {st : Rd} (w : World) (h : ReaderAt w R g st) :
    Calls Tryz.prog 206 #[.pointer (some ⟨R, 0, none⟩)] w (RdRet (.complex .f64 (fl ((numF st 2000).1 - 1000)) (fl ((numF (numF st 2000).2 2000).1 - 1000))) R g (numF (numF st 2000).2 2000).2 w) := by
  have HR := Lib.hid h
  clear h
  have b1 := num_le st 2000
  have b2 := num_le (numF st 2000).2 2000
  go_enter Tryz.func206, Tryz.ntmps206
  go_wp2_with fail
  refine (num_any 2000 _ HR.out).mono ?_
  rintro e w1 ⟨rfl, hR, hg, _⟩
  have HR1 := Lib.hid hR
  have HG1 := Lib.hid hg
  generalize numF st 2000 = N1 at *
  obtain ⟨n1, s1⟩ := N1
  simp only at b1 b2 HR1 ⊢
  clear hR hg
  obtain ⟨b1a, b1b⟩ := b1
  have b1c : n1 ≤ 2000 := by omega
  clear b1b
  go_wp2_with fail
  refine (num_any 2000 _ HR1.out).mono ?_
  rintro e w2 ⟨rfl, hR, hg, _⟩
  have HR2 := Lib.hid hR
  have HG2 := Lib.hid (HG1.out.trans hg)
  generalize numF s1 2000 = N2 at *
  obtain ⟨n2, s2⟩ := N2
  simp only at b2 HR2 ⊢
  clear hR hg
  obtain ⟨b2a, b2b⟩ := b2
  have b2c : n2 ≤ 2000 := by omega
  clear b2b
  go_wp2
  go_ret
  exact ⟨rfl, HR2.out, HG2.out⟩

set_option maxRecDepth 100000 in
set_option maxHeartbeats 4000000 in
theorem takeVersion_any {R g : Nat} {st : Rd} (w : World) (h : ReaderAt w R g st) :
    Calls Tryz.prog 205 #[.pointer (some ⟨R, 0, none⟩)] w (RdRet (vrsV ⟨⟨(textF st 6).1.toArray⟩, (numF (textF st 6).2 1048576).1, (numF (numF (textF st 6).2 1048576).2 1048576).1⟩) R g (numF (numF (textF st 6).2 1048576).2 1048576).2 w) := by
  have hRlt := h.lt
  have hglt := h.glt
  have HN : Hid (some w.heap.size ≠ (some R : Option Nat)) := fun e => by injection e with e; omega
  have HR := Lib.hid (h.allocd (.cells #[.string ⟨#[]⟩, .int .i64 0, .int .i64 0] 111))
  have HNil : Hid ((numF (numF (textF st 6).2 1048576).2 1048576).2.1 ≠ [] → g ≠ w.heap.size) := fun h e => by
    have := hglt (text_rest (num_rest (num_rest h)))
    omega
  clear h hglt
  unfold vrsV
  go_enter Tryz.func205, Tryz.ntmps205
  go_wp2_with fail
  refine (text_any 6 _ HR.out).mono ?_
  rintro e w1 ⟨rfl, hR, hg, _⟩
  have hb1 : w.heap.size < w1.heap.size := by have := hg.size; simp at this; omega
  have q0 := (own_cell hg (b := w.heap.size) (by simp) HN.out 0).1.trans (show _ = some (.string ⟨#[]⟩) by simp [go_sem])
  have q1 := (own_cell hg (b := w.heap.size) (by simp) HN.out 1).1.trans (show _ = some (.int .i64 0) by simp [go_sem])
  have q2 := (own_cell hg (b := w.heap.size) (by simp) HN.out 2).1.trans (show _ = some (.int .i64 0) by simp [go_sem])
  have f0 := (own_cell hg (b := w.heap.size) (by simp) HN.out 0).2.trans (show _ = false by simp [go_sem])
  have f1 := (own_cell hg (b := w.heap.size) (by simp) HN.out 1).2.trans (show _ = false by simp [go_sem])
  have f2 := (own_cell hg (b := w.heap.size) (by simp) HN.out 2).2.trans (show _ = false by simp [go_sem])
  have HR1 := Lib.hid hR
  have HG1 : Hid (w.grownBy w1 (some R)) := (grown_alloc w _ _).trans hg
  clear hR hg HR
  generalize textF st 6 = N1 at *
  obtain ⟨x1, s1⟩ := N1
  simp only at HR1 ⊢
  go_wp2_with fail
  refine (num_any 1048576 _ HR1.out).mono ?_
  rintro e w2 ⟨rfl, hR, hg, _⟩
  replace q0 := (own_cell hg hb1 HN.out 0).1.trans q0
  replace q1 := (own_cell hg hb1 HN.out 1).1.trans q1
  replace q2 := (own_cell hg hb1 HN.out 2).1.trans q2
  replace f0 := (own_cell hg hb1 HN.out 0).2.trans f0
  replace f1 := (own_cell hg hb1 HN.out 1).2.trans f1
  replace f2 := (own_cell hg hb1 HN.out 2).2.trans f2
  replace hb1 := Nat.lt_of_lt_of_le hb1 hg.size
  have HR2 := Lib.hid hR
  have HG2 := Lib.hid (HG1.out.trans hg)
  clear hR hg HR1 HG1
  generalize numF s1 1048576 = N2 at *
  obtain ⟨x2, s2⟩ := N2
  simp only at HR2 ⊢
  go_wp2_with fail
  refine (num_any 1048576 _ HR2.out).mono ?_
  rintro e w3 ⟨rfl, hR, hg, _⟩
  replace q0 := (own_cell hg hb1 HN.out 0).1.trans q0
  replace q1 := (own_cell hg hb1 HN.out 1).1.trans q1
  replace q2 := (own_cell hg hb1 HN.out 2).1.trans q2
  replace f0 := (own_cell hg hb1 HN.out 0).2.trans f0
  replace f1 := (own_cell hg hb1 HN.out 1).2.trans f1
  replace f2 := (own_cell hg hb1 HN.out 2).2.trans f2
  replace hb1 := Nat.lt_of_lt_of_le hb1 hg.size
  have HR3 := Lib.hid hR
  have HG3 := Lib.hid (HG2.out.trans hg)
  clear hR hg HR2 HG2
  generalize numF s2 1048576 = N3 at *
  obtain ⟨x3, s3⟩ := N3
  simp only at HR3 ⊢
  go_wp2
  refine bodyPost_ret (v := .agg #[.string ⟨x1.toArray⟩, .int .i64 x2, .int .i64 x3]) ?_ rfl ?_
  · simp [results, Tryz.results205, go_sem, q0, q1, q2]
  · have hRb : R ≠ w.heap.size := by omega
    exact ⟨rfl, ((HR3.out.setOwn (p := ⟨w.heap.size, 0, none⟩) hRb HNil.out _).setOwn (p := ⟨w.heap.size, 1, none⟩) hRb HNil.out _).setOwn (p := ⟨w.heap.size, 2, none⟩) hRb HNil.out _, grown_own (grown_own (grown_own HG3.out (Nat.le_refl _) _) (Nat.le_refl _) _) (Nat.le_refl _) _⟩
-- TAKE
end Go.Proofs.YtbookbgfipbaoaaGreatDoor.By
