/- know.Right. -/
import Derived.Test.YthfdjebeblmmdaaHEe
namespace Go.Proofs.Ythfdjebeblmmdaa
open Go.RowKit

def okRow (x : ByteArray × (Int × List Int)) : Bool := rightL x.1.data.toList && (Sp.rightF x.2.1 x.2.2 && decide (x.2.1 + (x.2.2.length : Int) ≠ 0))
def prevOk (p : Option ByteArray) (a : ByteArray) : Bool := match p with | none => true | some q => decide (cmpId q a < 0)
theorem prevOk_none (a : ByteArray) : prevOk none a = true := rfl
theorem prevOk_some (q a : ByteArray) : prevOk (some q) a = decide (cmpId q a < 0) := rfl
def rightFromM : Option ByteArray → Mat → Bool
  | _, [] => true
  | p, x :: r => okRow x && (prevOk p x.1 && rightFromM (some x.1) r)
theorem rightFromM_cons (p : Option ByteArray) (x : ByteArray × (Int × List Int)) (r : Mat) : rightFromM p (x :: r) = (okRow x && (prevOk p x.1 && rightFromM (some x.1) r)) := rfl
/-- May it be a Know? -/
def rightM (m : Mat) : Bool := rightFromM none m
def prevI (m : Mat) (k : Nat) : Option ByteArray := if k = 0 then none else (m[k - 1]?).map (·.1)
theorem rightM_step {m : Mat} {k : Nat} {x : ByteArray × (Int × List Int)} (h : m[k]? = some x) : rightFromM (prevI m k) (m.drop k) = (okRow x && (prevOk (prevI m k) x.1 && rightFromM (prevI m (k + 1)) (m.drop (k + 1)))) := by
  obtain ⟨hk, rfl⟩ := List.getElem?_eq_some_iff.mp h
  rw [List.drop_eq_getElem_cons hk]
  have e : prevI m (k + 1) = some m[k].1 := by unfold prevI; simp [List.getElem?_eq_getElem hk]
  rw [e]
  rfl
/-- Numbers that may be. -/
def GoodS (s : Int × List Int) : Prop := Sp.rightF s.1 s.2 = true ∧ s.1 + (s.2.length : Int) ≠ 0
/-- Rows that may be, rising. -/
def GoodM (m : Mat) : Prop := RisingM m ∧ ∀ x ∈ m, rightL x.1.data.toList = true ∧ GoodS x.2
theorem okRow_iff (x : ByteArray × (Int × List Int)) : okRow x = true ↔ rightL x.1.data.toList = true ∧ GoodS x.2 := by
  unfold okRow GoodS
  rw [Bool.and_eq_true, Bool.and_eq_true, decide_eq_true_iff]
theorem rightFromM_iff : ∀ (m : Mat) (p : Option ByteArray), rightFromM p m = true ↔ GoodM m ∧ ∀ q, p = some q → ∀ x ∈ m, cmpId q x.1 < 0
  | [], p => by
    constructor
    · intro _; exact ⟨⟨List.Pairwise.nil, by simp⟩, fun _ _ x hx => by simp at hx⟩
    · intro _; rfl
  | x :: r, p => by
    have ih := rightFromM_iff r (some x.1)
    rw [rightFromM_cons, Bool.and_eq_true, Bool.and_eq_true, ih, okRow_iff]
    constructor
    · rintro ⟨h1, h2, ⟨h3, h4⟩, h5⟩
      have h6 := h5 x.1 rfl
      refine ⟨⟨(risingM_iff _).mpr (List.pairwise_cons.mpr ⟨h6, (risingM_iff _).mp h3⟩), fun y hy => ?_⟩, fun q hq y hy => ?_⟩
      · rcases List.mem_cons.mp hy with rfl | hy
        · exact h1
        · exact h4 y hy
      · subst hq
        have h2' : cmpId q x.1 < 0 := by rw [prevOk_some] at h2; simpa using h2
        rcases List.mem_cons.mp hy with rfl | hy
        · exact h2'
        · have := h6 y hy
          exact cmpId_lt q x.1 y.1 h2' (by omega)
    · rintro ⟨⟨h1, h2⟩, h3⟩
      have h4 := List.pairwise_cons.mp ((risingM_iff _).mp h1)
      refine ⟨h2 x (by simp), ?_, ⟨(risingM_iff _).mpr h4.2, fun y hy => h2 y (by simp [hy])⟩, fun q hq y hy => by injection hq with hq; subst hq; exact h4.1 y hy⟩
      cases p with
      | none => rfl
      | some q => rw [prevOk_some, decide_eq_true_iff]; exact h3 q rfl x (by simp)
theorem rightM_iff (m : Mat) : rightM m = true ↔ GoodM m := by
  unfold rightM
  rw [rightFromM_iff]
  exact ⟨fun h => h.1, fun h => ⟨h, fun q e => by cases e⟩⟩

theorem right_bd {u : Int} {v : List Int} (h : Sp.rightF u v = true) : 0 ≤ u ∧ u ≤ 1048576 := by
  unfold Sp.rightF at h
  rw [Bool.and_eq_true, decide_eq_true_iff] at h
  exact ⟨h.1.1, h.1.2.1⟩
set_option maxRecDepth 100000 in
set_option maxHeartbeats 4000000 in
theorem rightM_any (A : Option Addr) (n c : Nat) (m : Mat) (B : Nat) (w : World) (hB : B ≤ w.heap.size) (hz : MatAt w B A n m) (hn : n ≤ 1000000) (hv : ∀ z ∈ m, z.2.2.length ≤ 1000000) :
    Calls Try.prog 10 #[.slice A n c] w fun e w' => e = .returned (.bool (rightM m)) ∧ Below w.heap.size w w' := by
  have HZ := Lib.hid hz
  have HL := Lib.hid hz.len
  have HV := Lib.hid hv
  clear hz hv
  generalize hRS : rightM m = RS
  have HRS : Hid (rightFromM (prevI m 0) (m.drop 0) = RS) := hRS
  clear hRS
  go_enter Try.func10, Try.ntmps10
  go_wp2
  go_loopw [7] (fun i wr => ∃ k : Nat, k ≤ n ∧ i = .int .i64 k ∧ Hid (rightFromM (prevI m k) (m.drop k) = RS) ∧ Hid (Below w.heap.size w wr)) (fun i _ => n - (intOf i).toNat)
  case atStart => exact ⟨0, by omega, rfl, HRS, Below.refl _ _⟩
  case round =>
    clear HRS
    obtain ⟨k, hk, rfl, HRS, HB⟩ := hrel
    by_cases hlt : k < n
    · obtain ⟨blk, off, r, rfl, hbB, hmk, e0, e1, e2, hf⟩ := HZ.out.get (HB.out.mono hB) hlt
      have hi1 : (k : Int) < n := by omega
      have hst := rightM_step hmk
      rw [HRS.out] at hst
      have HST := Lib.hid hst
      have hvl : r.v.length ≤ 1000000 := HV.out _ (List.mem_of_getElem? hmk)
      have hsz := HB.out.size
      have hbl : blk < wr.heap.size := by omega
      have hbw : Below wr.heap.size wr (wr.alloc (.cells #[.string r.id, .int .i64 r.u, .slice r.A r.v.length r.c] 77)) := (Below.refl _ _).alloc (Nat.le_refl _) _
      have HB1 := Lib.hid (HB.out.trans (hbw.mono hsz))
      have HRV := Lib.hid (Sp.right_any r.u r.A r.v.length r.c r.v wr.heap.size _ hbw.size ((hf.vec.more (Nat.le_trans hB hsz)).keep hbw) (by omega))
      obtain ⟨id, u, Ar, cr, v⟩ := r
      have HOK : Hid (okRow (id, (u, v)) = (rightL id.data.toList && (Sp.rightF u v && decide (u + (v.length : Int) ≠ 0)))) := rfl
      simp only at e0 e1 e2 hvl HB1 HRV HST
      rw [HOK.out] at HST
      clear HOK hst hf hmk
      cases hr : rightL id.data.toList with
      | false =>
        rw [hr] at HST
        have HF : Hid (RS = false) := by show _ = _; rw [HST.out]; rfl
        have HR := Lib.hid hr
        clear hr HST HRV hbw
        go_wp2_with fail
        refine (right_is _ false HR _).mono ?_
        rintro e w' ⟨rfl, rfl⟩
        go_wp2
        go_ret
        exact ⟨ret_bool HF.out.symm, HB1.out⟩
      | true =>
        rw [hr] at HST
        have HR := Lib.hid hr
        clear hr
        cases hq : Sp.rightF u v with
        | false =>
          rw [hq] at HST HRV
          have HF : Hid (RS = false) := by show _ = _; rw [HST.out]; rfl
          clear hq HST hbw
          go_wp2_with fail
          refine (right_is _ true HR _).mono ?_
          rintro e w' ⟨rfl, rfl⟩
          go_wp2_with fail
          refine HRV.out.mono ?_
          rintro e w1 ⟨rfl, hb⟩
          replace HB1 := Lib.hid (HB1.out.trans (hb.mono HB1.out.size))
          clear hb
          go_wp2
          go_ret
          exact ⟨ret_bool HF.out.symm, HB1.out⟩
        | true =>
          rw [hq] at HST HRV
          have hur := right_bd hq
          have hu0 := hur.1
          have hu1 := hur.2
          clear hq hur
          by_cases h0 : u + (v.length : Int) = 0
          · have HF : Hid (RS = false) := by show _ = _; rw [HST.out, decide_eq_false (fun h => h h0)]; rfl
            have hcl0 : (wr.alloc (.cells #[.string id, .int .i64 u, .slice Ar v.length cr] 77)).cell? ⟨wr.heap.size, 2, none⟩ = some (.slice Ar v.length cr) := by simp [go_sem]
            have hcu0 : (wr.alloc (.cells #[.string id, .int .i64 u, .slice Ar v.length cr] 77)).cell? ⟨wr.heap.size, 1, none⟩ = some (.int .i64 u) := by simp [go_sem]
            have hid0 : (wr.alloc (.cells #[.string id, .int .i64 u, .slice Ar v.length cr] 77)).cell? ⟨wr.heap.size, 0, none⟩ = some (.string id) := by simp [go_sem]
            have hwl : wr.heap.size < (wr.alloc (.cells #[.string id, .int .i64 u, .slice Ar v.length cr] 77)).heap.size := by simp
            clear HST hbw
            have hg : (u + (v.length : Int) == 0) = true := by rw [beq_iff_eq]; exact h0
            go_wp2_with fail
            refine (right_is _ true HR _).mono ?_
            rintro e w' ⟨rfl, rfl⟩
            go_wp2_with fail
            refine HRV.out.mono ?_
            rintro e w1 ⟨rfl, hb⟩
            have hcu1 : w1.cell? ⟨wr.heap.size, 1, none⟩ = some (.int .i64 u) := (hb.cell (p := ⟨wr.heap.size, 1, none⟩) hwl).trans hcu0
            have hcl1 : w1.cell? ⟨wr.heap.size, 2, none⟩ = some (.slice Ar v.length cr) := (hb.cell (p := ⟨wr.heap.size, 2, none⟩) hwl).trans hcl0
            have hid1 : w1.cell? ⟨wr.heap.size, 0, none⟩ = some (.string id) := (hb.cell (p := ⟨wr.heap.size, 0, none⟩) hwl).trans hid0
            have hwl1 := Nat.lt_of_lt_of_le hwl hb.size
            replace HB1 := Lib.hid (HB1.out.trans (hb.mono HB1.out.size))
            clear hb hcl0 hid0 hwl hcu0 HRV
            generalize v.length = L at *
            go_wp2_with fail
            refine (Sp.count_any u Ar L cr _ hu0 hu1 (by omega)).mono ?_
            rintro e w2 ⟨rfl, hb⟩
            have hid2 : w2.cell? ⟨wr.heap.size, 0, none⟩ = some (.string id) := (hb.cell (p := ⟨wr.heap.size, 0, none⟩) hwl1).trans hid1
            replace HB1 := Lib.hid (HB1.out.trans (hb.mono HB1.out.size))
            clear hb hcl1 hid1 hcu1 hwl1
            go_wp2
            go_ret
            exact ⟨ret_bool HF.out.symm, HB1.out⟩
          · have hg : (u + (v.length : Int) == 0) = false := by rw [beq_eq_false_iff_ne]; exact h0
            rw [decide_eq_true (show u + (v.length : Int) ≠ 0 from h0)] at HST
            have hcl0 : (wr.alloc (.cells #[.string id, .int .i64 u, .slice Ar v.length cr] 77)).cell? ⟨wr.heap.size, 2, none⟩ = some (.slice Ar v.length cr) := by simp [go_sem]
            have hcu0 : (wr.alloc (.cells #[.string id, .int .i64 u, .slice Ar v.length cr] 77)).cell? ⟨wr.heap.size, 1, none⟩ = some (.int .i64 u) := by simp [go_sem]
            have hid0 : (wr.alloc (.cells #[.string id, .int .i64 u, .slice Ar v.length cr] 77)).cell? ⟨wr.heap.size, 0, none⟩ = some (.string id) := by simp [go_sem]
            have hwl : wr.heap.size < (wr.alloc (.cells #[.string id, .int .i64 u, .slice Ar v.length cr] 77)).heap.size := by simp
            by_cases hk0 : k = 0
            · have hpv : prevI m k = none := by unfold prevI; rw [if_pos hk0]
              rw [hpv, prevOk_none] at HST
              have HN : Hid (rightFromM (prevI m (k + 1)) (m.drop (k + 1)) = RS) := by show _ = _; rw [HST.out]; simp
              have hgd : decide (0 < k) = false := by simp; omega
              clear HST hpv hk0 hbw h0
              go_wp2_with fail
              refine (right_is _ true HR _).mono ?_
              rintro e w' ⟨rfl, rfl⟩
              go_wp2_with fail
              refine HRV.out.mono ?_
              rintro e w1 ⟨rfl, hb⟩
              have hcu1 : w1.cell? ⟨wr.heap.size, 1, none⟩ = some (.int .i64 u) := (hb.cell (p := ⟨wr.heap.size, 1, none⟩) hwl).trans hcu0
              have hcl1 : w1.cell? ⟨wr.heap.size, 2, none⟩ = some (.slice Ar v.length cr) := (hb.cell (p := ⟨wr.heap.size, 2, none⟩) hwl).trans hcl0
              have hid1 : w1.cell? ⟨wr.heap.size, 0, none⟩ = some (.string id) := (hb.cell (p := ⟨wr.heap.size, 0, none⟩) hwl).trans hid0
              have hwl1 := Nat.lt_of_lt_of_le hwl hb.size
              replace HB1 := Lib.hid (HB1.out.trans (hb.mono HB1.out.size))
              clear hb hcl0 hid0 hwl hcu0 HRV
              generalize v.length = L at *
              go_wp2_with fail
              refine (Sp.count_any u Ar L cr _ hu0 hu1 (by omega)).mono ?_
              rintro e w2 ⟨rfl, hb⟩
              have hid2 : w2.cell? ⟨wr.heap.size, 0, none⟩ = some (.string id) := (hb.cell (p := ⟨wr.heap.size, 0, none⟩) hwl1).trans hid1
              replace HB1 := Lib.hid (HB1.out.trans (hb.mono HB1.out.size))
              clear hb hcl1 hid1 hcu1 hwl1
              go_wp2_with fail
              go_quiet (fail)
              go_wp2
              go_roundw
              case rel => exact ⟨k + 1, by omega, by go_num, HN, below_drewN HB1.out _⟩
              case measure => simp [intOf]; omega
            · obtain ⟨b2, o2, r2, e3, _, hm2, d0, _, _, _⟩ := HZ.out.get (HB.out.mono hB) (k := k - 1) (by omega)
              injection e3 with e3
              injection e3 with e3 e4
              subst e3 e4
              have hpv : prevI m k = some r2.id := by unfold prevI; rw [if_neg hk0, hm2]; rfl
              rw [hpv, prevOk_some] at HST
              have hgd : decide (0 < k) = true := by simp; omega
              have hj0 : (1 : Int) ≤ (k : Int) := by omega
              have hj1 : (0 : Int) ≤ (k : Int) - 1 := by omega
              have hj2 : (k : Int) - 1 < (n : Int) := by omega
              have hj3 : ((k : Int) - 1).toNat = k - 1 := by omega
              have hj4 : IntKind.i64.wrap ((k : Int) - 1) = (k : Int) - 1 := IntWalk.i64_in _ (by omega)
              replace d0 := (hbw.cell (p := ⟨blk, off + (k - 1) * 3, none⟩) hbl).trans d0
              have hbl1 := Nat.lt_of_lt_of_le hbl hbw.size
              generalize r2.id = pid at *
              obtain ⟨y, hy⟩ : ∃ y, cmpId pid id = y := ⟨_, rfl⟩
              have HY : Hid (Lib.compareBytes pid.data.toList id.data.toList = y) := hy
              rw [hy] at HST
              clear hpv hk0 hbw hm2 hy h0
              by_cases hge : 0 ≤ y
              · have HF : Hid (RS = false) := by
                  show _ = _
                  rw [HST.out]
                  simp only [show decide (y < 0) = false by simp; omega]
                  rfl
                clear HST
                go_wp2_with fail
                refine (right_is _ true HR _).mono ?_
                rintro e w' ⟨rfl, rfl⟩
                go_wp2_with fail
                refine HRV.out.mono ?_
                rintro e w1 ⟨rfl, hb⟩
                have hcu1 : w1.cell? ⟨wr.heap.size, 1, none⟩ = some (.int .i64 u) := (hb.cell (p := ⟨wr.heap.size, 1, none⟩) hwl).trans hcu0
                have hcl1 : w1.cell? ⟨wr.heap.size, 2, none⟩ = some (.slice Ar v.length cr) := (hb.cell (p := ⟨wr.heap.size, 2, none⟩) hwl).trans hcl0
                have hid1 : w1.cell? ⟨wr.heap.size, 0, none⟩ = some (.string id) := (hb.cell (p := ⟨wr.heap.size, 0, none⟩) hwl).trans hid0
                have d1 : w1.cell? ⟨blk, off + (k - 1) * 3, none⟩ = some (.string pid) := (hb.cell (p := ⟨blk, off + (k - 1) * 3, none⟩) hbl1).trans d0
                have hwl1 := Nat.lt_of_lt_of_le hwl hb.size
                have hbl2 := Nat.lt_of_lt_of_le hbl1 hb.size
                replace HB1 := Lib.hid (HB1.out.trans (hb.mono HB1.out.size))
                clear hb hcl0 hid0 hwl hcu0 HRV d0
                generalize v.length = L at *
                go_wp2_with fail
                refine (Sp.count_any u Ar L cr _ hu0 hu1 (by omega)).mono ?_
                rintro e w2 ⟨rfl, hb⟩
                have hid2 : w2.cell? ⟨wr.heap.size, 0, none⟩ = some (.string id) := (hb.cell (p := ⟨wr.heap.size, 0, none⟩) hwl1).trans hid1
                have d2 : w2.cell? ⟨blk, off + (k - 1) * 3, none⟩ = some (.string pid) := (hb.cell (p := ⟨blk, off + (k - 1) * 3, none⟩) hbl2).trans d1
                replace HB1 := Lib.hid (HB1.out.trans (hb.mono HB1.out.size))
                clear hb hcl1 hid1 hcu1 hwl1 d1
                go_wp2_with fail
                go_quiet ((go_at_call 50; exact quiet_same (compare_is _ _ _ HY _)))
                go_wp2
                go_ret
                exact ⟨ret_bool HF.out.symm, below_drewN HB1.out _⟩
              · have HN : Hid (rightFromM (prevI m (k + 1)) (m.drop (k + 1)) = RS) := by
                  show _ = _
                  rw [HST.out]
                  simp only [show decide (y < 0) = true by simp; omega]
                  simp
                clear HST
                go_wp2_with fail
                refine (right_is _ true HR _).mono ?_
                rintro e w' ⟨rfl, rfl⟩
                go_wp2_with fail
                refine HRV.out.mono ?_
                rintro e w1 ⟨rfl, hb⟩
                have hcu1 : w1.cell? ⟨wr.heap.size, 1, none⟩ = some (.int .i64 u) := (hb.cell (p := ⟨wr.heap.size, 1, none⟩) hwl).trans hcu0
                have hcl1 : w1.cell? ⟨wr.heap.size, 2, none⟩ = some (.slice Ar v.length cr) := (hb.cell (p := ⟨wr.heap.size, 2, none⟩) hwl).trans hcl0
                have hid1 : w1.cell? ⟨wr.heap.size, 0, none⟩ = some (.string id) := (hb.cell (p := ⟨wr.heap.size, 0, none⟩) hwl).trans hid0
                have d1 : w1.cell? ⟨blk, off + (k - 1) * 3, none⟩ = some (.string pid) := (hb.cell (p := ⟨blk, off + (k - 1) * 3, none⟩) hbl1).trans d0
                have hwl1 := Nat.lt_of_lt_of_le hwl hb.size
                have hbl2 := Nat.lt_of_lt_of_le hbl1 hb.size
                replace HB1 := Lib.hid (HB1.out.trans (hb.mono HB1.out.size))
                clear hb hcl0 hid0 hwl hcu0 HRV d0
                generalize v.length = L at *
                go_wp2_with fail
                refine (Sp.count_any u Ar L cr _ hu0 hu1 (by omega)).mono ?_
                rintro e w2 ⟨rfl, hb⟩
                have hid2 : w2.cell? ⟨wr.heap.size, 0, none⟩ = some (.string id) := (hb.cell (p := ⟨wr.heap.size, 0, none⟩) hwl1).trans hid1
                have d2 : w2.cell? ⟨blk, off + (k - 1) * 3, none⟩ = some (.string pid) := (hb.cell (p := ⟨blk, off + (k - 1) * 3, none⟩) hbl2).trans d1
                replace HB1 := Lib.hid (HB1.out.trans (hb.mono HB1.out.size))
                clear hb hcl1 hid1 hcu1 hwl1 d1
                go_wp2_with fail
                go_quiet ((go_at_call 50; exact quiet_same (compare_is _ _ _ HY _)))
                go_wp2
                go_roundw
                case rel => exact ⟨k + 1, by omega, by go_num, HN, below_drewN HB1.out _⟩
                case measure => simp [intOf]; omega
    · obtain rfl : k = n := by omega
      have HF : Hid (RS = true) := by show _ = _; rw [← HRS.out, List.drop_of_length_le (by rw [HL.out]; omega)]; unfold rightFromM; rfl
      go_wp2
      go_ret
      exact ⟨ret_bool HF.out.symm, HB.out⟩
end Go.Proofs.Ythfdjebeblmmdaa
