/- matrix.Right. -/
import Derived.Test.YtbookbgfipbaoaaGreatDoorH6
import Derived.Test.YtbookbgfipbaoaaGreatDoorH3
namespace Go.Proofs.YtbookbgfipbaoaaGreatDoor.Mx
open Go.RowKit

def okRow (x : ByteArray × List At) : Bool := rightL x.1.data.toList && (rightV x.2 && decide (x.2.length ≠ 0))
def prevOk (p : Option ByteArray) (a : ByteArray) : Bool := match p with | none => true | some q => decide (cmpId q a < 0)
theorem prevOk_none (a : ByteArray) : prevOk none a = true := rfl
theorem prevOk_some (q a : ByteArray) : prevOk (some q) a = decide (cmpId q a < 0) := rfl
def rightFromM : Option ByteArray → Mat → Bool
  | _, [] => true
  | p, x :: r => okRow x && (prevOk p x.1 && rightFromM (some x.1) r)
theorem rightFromM_cons (p : Option ByteArray) (x : ByteArray × List At) (r : Mat) : rightFromM p (x :: r) = (okRow x && (prevOk p x.1 && rightFromM (some x.1) r)) := rfl
/-- May it be a Matrix? -/
def rightM (m : Mat) : Bool := rightFromM none m
def prevI (m : Mat) (k : Nat) : Option ByteArray := if k = 0 then none else (m[k - 1]?).map (·.1)
theorem rightM_step {m : Mat} {k : Nat} {x : ByteArray × List At} (h : m[k]? = some x) : rightFromM (prevI m k) (m.drop k) = (okRow x && (prevOk (prevI m k) x.1 && rightFromM (prevI m (k + 1)) (m.drop (k + 1)))) := by
  obtain ⟨hk, rfl⟩ := List.getElem?_eq_some_iff.mp h
  rw [List.drop_eq_getElem_cons hk]
  have e : prevI m (k + 1) = some m[k].1 := by unfold prevI; simp [List.getElem?_eq_getElem hk]
  rw [e]
  rfl
/-- Rows that may be, rising. -/
def GoodM (m : Mat) : Prop := RisingM m ∧ ∀ x ∈ m, rightL x.1.data.toList = true ∧ Good x.2 ∧ x.2 ≠ []
theorem okRow_iff (x : ByteArray × List At) : okRow x = true ↔ rightL x.1.data.toList = true ∧ Good x.2 ∧ x.2 ≠ [] := by
  unfold okRow
  rw [Bool.and_eq_true, Bool.and_eq_true, good_iff, decide_eq_true_iff]
  constructor
  · rintro ⟨h1, h2, h3⟩; exact ⟨h1, h2, fun e => h3 (by rw [e]; rfl)⟩
  · rintro ⟨h1, h2, h3⟩; exact ⟨h1, h2, fun e => h3 (List.eq_nil_of_length_eq_zero e)⟩
theorem rightFromM_iff : ∀ (m : Mat) (p : Option ByteArray), rightFromM p m = true ↔ GoodM m ∧ ∀ q, p = some q → ∀ x ∈ m, cmpId q x.1 < 0
  | [], p => by
    constructor
    · intro _; exact ⟨⟨List.Pairwise.nil, by simp⟩, fun _ _ x hx => by simp at hx⟩
    · intro _; rfl
  | x :: r, p => by
    have ih := rightFromM_iff r (some x.1)
    rw [rightFromM_cons, Bool.and_eq_true, Bool.and_eq_true, ih, okRow_iff]
    constructor
    · rintro ⟨h1, h2, ⟨h3, h4⟩, h5⟩
      have h6 := h5 x.1 rfl
      refine ⟨⟨(risingM_iff _).mpr (List.pairwise_cons.mpr ⟨h6, (risingM_iff _).mp h3⟩), fun y hy => ?_⟩, fun q hq y hy => ?_⟩
      · rcases List.mem_cons.mp hy with rfl | hy
        · exact h1
        · exact h4 y hy
      · subst hq
        have h2' : cmpId q x.1 < 0 := by rw [prevOk_some] at h2; simpa using h2
        rcases List.mem_cons.mp hy with rfl | hy
        · exact h2'
        · have := h6 y hy
          exact cmpId_lt q x.1 y.1 h2' (by omega)
    · rintro ⟨⟨h1, h2⟩, h3⟩
      have h4 := List.pairwise_cons.mp ((risingM_iff _).mp h1)
      refine ⟨h2 x (by simp), ?_, ⟨(risingM_iff _).mpr h4.2, fun y hy => h2 y (by simp [hy])⟩, fun q hq y hy => by injection hq with hq; subst hq; exact h4.1 y hy⟩
      cases p with
      | none => rfl
      | some q => rw [prevOk_some, decide_eq_true_iff]; exact h3 q rfl x (by simp)
theorem rightM_iff (m : Mat) : rightM m = true ↔ GoodM m := by
  unfold rightM
  rw [rightFromM_iff]
  exact ⟨fun h => h.1, fun h => ⟨h, fun q e => by cases e⟩⟩

set_option maxRecDepth 100000 in
set_option maxHeartbeats 4000000 in
theorem rightM_any (A : Option Addr) (n c : Nat) (m : Mat) (B : Nat) (w : World) (hB : B ≤ w.heap.size) (hz : MatAt w B A n m) (hn : n ≤ 1000000) (hv : ∀ z ∈ m, z.2.length ≤ 1000000) :
    Calls Tryz.prog 151 #[.slice A n c] w fun e w' => e = .returned (.bool (rightM m)) ∧ Below w.heap.size w w' := by
  have HZ := Lib.hid hz
  have HL := Lib.hid hz.len
  have HV := Lib.hid hv
  clear hz hv
  generalize hRS : rightM m = RS
  have HRS : Hid (rightFromM (prevI m 0) (m.drop 0) = RS) := hRS
  clear hRS
  go_enter Tryz.func151, Tryz.ntmps151
  go_wp2
  go_loopw [7] (fun i wr => ∃ k : Nat, k ≤ n ∧ i = .int .i64 k ∧ Hid (rightFromM (prevI m k) (m.drop k) = RS) ∧ Hid (Below w.heap.size w wr)) (fun i _ => n - (intOf i).toNat)
  case atStart => exact ⟨0, by omega, rfl, HRS, Below.refl _ _⟩
  case round =>
    clear HRS
    obtain ⟨k, hk, rfl, HRS, HB⟩ := hrel
    by_cases hlt : k < n
    · obtain ⟨blk, off, r, rfl, hbB, hmk, e0, e1, hf⟩ := HZ.out.get (HB.out.mono hB) hlt
      have hi1 : (k : Int) < n := by omega
      have hst := rightM_step hmk
      rw [HRS.out] at hst
      have HST := Lib.hid hst
      have hvl : r.v.length ≤ 1000000 := HV.out _ (List.mem_of_getElem? hmk)
      have hsz := HB.out.size
      have hbl : blk < wr.heap.size := by omega
      have hbw : Below wr.heap.size wr (wr.alloc (.cells #[.string r.id, .slice r.A r.v.length r.c] 105)) := (Below.refl _ _).alloc (Nat.le_refl _) _
      have HB1 := Lib.hid (HB.out.trans (hbw.mono hsz))
      have HRV := Lib.hid (rightv_any r.A r.v.length r.c r.v wr.heap.size _ hbw.size ((hf.vec.more (Nat.le_trans hB hsz)).keep hbw) (by omega))
      obtain ⟨id, Ar, cr, v⟩ := r
      have HOK : Hid (okRow (id, v) = (rightL id.data.toList && (rightV v && decide (v.length ≠ 0)))) := rfl
      simp only at e0 e1 hvl HB1 HRV HST
      rw [HOK.out] at HST
      clear HOK hst hf hmk
      cases hr : rightL id.data.toList with
      | false =>
        rw [hr] at HST
        have HF : Hid (RS = false) := by show _ = _; rw [HST.out]; rfl
        have HR := Lib.hid hr
        clear hr HST HRV hbw
        go_wp2_with fail
        refine (right_is _ false HR _).mono ?_
        rintro e w' ⟨rfl, rfl⟩
        go_wp2
        go_ret
        exact ⟨ret_bool HF.out.symm, HB1.out⟩
      | true =>
        rw [hr] at HST
        have HR := Lib.hid hr
        clear hr
        cases hq : rightV v with
        | false =>
          rw [hq] at HST HRV
          have HF : Hid (RS = false) := by show _ = _; rw [HST.out]; rfl
          clear hq HST hbw
          go_wp2_with fail
          refine (right_is _ true HR _).mono ?_
          rintro e w' ⟨rfl, rfl⟩
          go_wp2_with fail
          refine HRV.out.mono ?_
          rintro e w1 ⟨rfl, hb⟩
          replace HB1 := Lib.hid (HB1.out.trans (hb.mono HB1.out.size))
          clear hb
          go_wp2
          go_ret
          exact ⟨ret_bool HF.out.symm, HB1.out⟩
        | true =>
          rw [hq] at HST HRV
          clear hq
          rcases Nat.eq_zero_or_pos v.length with h0 | h0
          · have HF : Hid (RS = false) := by show _ = _; rw [HST.out, h0]; rfl
            rw [h0] at e1 HRV HB1
            clear HST hbw
            go_wp2_with fail
            refine (right_is _ true HR _).mono ?_
            rintro e w' ⟨rfl, rfl⟩
            have hcl0 : (wr.alloc (.cells #[.string id, .slice Ar 0 cr] 105)).cell? ⟨wr.heap.size, 1, none⟩ = some (.slice Ar 0 cr) := by simp [go_sem]
            have hwl : wr.heap.size < (wr.alloc (.cells #[.string id, .slice Ar 0 cr] 105)).heap.size := by simp
            go_wp2_with fail
            refine HRV.out.mono ?_
            rintro e w1 ⟨rfl, hb⟩
            have hcl1 : w1.cell? ⟨wr.heap.size, 1, none⟩ = some (.slice Ar 0 cr) := (hb.cell (p := ⟨wr.heap.size, 1, none⟩) hwl).trans hcl0
            replace HB1 := Lib.hid (HB1.out.trans (hb.mono HB1.out.size))
            clear hb hcl0 hwl
            go_wp2
            go_ret
            exact ⟨ret_bool HF.out.symm, HB1.out⟩
          · have hg : ((v.length : Int) == 0) = false := by rw [beq_eq_false_iff_ne]; omega
            have hd0 : decide (v.length ≠ 0) = true := by simp; intro e; rw [e] at h0; simp at h0
            rw [hd0] at HST
            have hcl0 : (wr.alloc (.cells #[.string id, .slice Ar v.length cr] 105)).cell? ⟨wr.heap.size, 1, none⟩ = some (.slice Ar v.length cr) := by simp [go_sem]
            have hid0 : (wr.alloc (.cells #[.string id, .slice Ar v.length cr] 105)).cell? ⟨wr.heap.size, 0, none⟩ = some (.string id) := by simp [go_sem]
            have hwl : wr.heap.size < (wr.alloc (.cells #[.string id, .slice Ar v.length cr] 105)).heap.size := by simp
            by_cases hk0 : k = 0
            · have hpv : prevI m k = none := by unfold prevI; rw [if_pos hk0]
              rw [hpv, prevOk_none] at HST
              have HN : Hid (rightFromM (prevI m (k + 1)) (m.drop (k + 1)) = RS) := by show _ = _; rw [HST.out]; simp
              have hgd : decide (0 < k) = false := by simp; omega
              clear HST hpv hk0 hd0 h0 hbw
              go_wp2_with fail
              refine (right_is _ true HR _).mono ?_
              rintro e w' ⟨rfl, rfl⟩
              go_wp2_with fail
              refine HRV.out.mono ?_
              rintro e w1 ⟨rfl, hb⟩
              have hcl1 : w1.cell? ⟨wr.heap.size, 1, none⟩ = some (.slice Ar v.length cr) := (hb.cell (p := ⟨wr.heap.size, 1, none⟩) hwl).trans hcl0
              replace HB1 := Lib.hid (HB1.out.trans (hb.mono HB1.out.size))
              clear hb hcl0 hid0 hwl
              generalize v.length = L at *
              go_wp2_with fail
              go_quiet (fail)
              go_wp2
              go_roundw
              case rel => exact ⟨k + 1, by omega, by go_num, HN, below_drewN HB1.out _⟩
              case measure => simp [intOf]; omega
            · obtain ⟨b2, o2, r2, e2, _, hm2, d0, _, _⟩ := HZ.out.get (HB.out.mono hB) (k := k - 1) (by omega)
              injection e2 with e2
              injection e2 with e2 e3
              subst e2 e3
              have hpv : prevI m k = some r2.id := by unfold prevI; rw [if_neg hk0, hm2]; rfl
              rw [hpv, prevOk_some] at HST
              have hgd : decide (0 < k) = true := by simp; omega
              have hj0 : (1 : Int) ≤ (k : Int) := by omega
              have hj1 : (0 : Int) ≤ (k : Int) - 1 := by omega
              have hj2 : (k : Int) - 1 < (n : Int) := by omega
              have hj3 : ((k : Int) - 1).toNat = k - 1 := by omega
              have hj4 : IntKind.i64.wrap ((k : Int) - 1) = (k : Int) - 1 := IntWalk.i64_in _ (by omega)
              replace d0 := (hbw.cell (p := ⟨blk, off + (k - 1) * 2, none⟩) hbl).trans d0
              have hbl1 := Nat.lt_of_lt_of_le hbl hbw.size
              generalize r2.id = pid at *
              obtain ⟨y, hy⟩ : ∃ y, cmpId pid id = y := ⟨_, rfl⟩
              have HY : Hid (Lib.compareBytes pid.data.toList id.data.toList = y) := hy
              rw [hy] at HST
              clear hpv hk0 hd0 h0 hbw hm2 hy
              by_cases hge : 0 ≤ y
              · have HF : Hid (RS = false) := by
                  show _ = _
                  rw [HST.out]
                  simp only [show decide (y < 0) = false by simp; omega]
                  rfl
                clear HST
                go_wp2_with fail
                refine (right_is _ true HR _).mono ?_
                rintro e w' ⟨rfl, rfl⟩
                go_wp2_with fail
                refine HRV.out.mono ?_
                rintro e w1 ⟨rfl, hb⟩
                have hcl1 : w1.cell? ⟨wr.heap.size, 1, none⟩ = some (.slice Ar v.length cr) := (hb.cell (p := ⟨wr.heap.size, 1, none⟩) hwl).trans hcl0
                have hid1 : w1.cell? ⟨wr.heap.size, 0, none⟩ = some (.string id) := (hb.cell (p := ⟨wr.heap.size, 0, none⟩) hwl).trans hid0
                have d1 : w1.cell? ⟨blk, off + (k - 1) * 2, none⟩ = some (.string pid) := (hb.cell (p := ⟨blk, off + (k - 1) * 2, none⟩) hbl1).trans d0
                replace HB1 := Lib.hid (HB1.out.trans (hb.mono HB1.out.size))
                clear hb hcl0 hid0 hwl d0
                generalize v.length = L at *
                go_wp2_with fail
                go_quiet ((go_at_call 150; exact quiet_same (compare_is _ _ _ HY _)))
                go_wp2
                go_ret
                exact ⟨ret_bool HF.out.symm, below_drewN HB1.out _⟩
              · have HN : Hid (rightFromM (prevI m (k + 1)) (m.drop (k + 1)) = RS) := by
                  show _ = _
                  rw [HST.out]
                  simp only [show decide (y < 0) = true by simp; omega]
                  simp
                clear HST
                go_wp2_with fail
                refine (right_is _ true HR _).mono ?_
                rintro e w' ⟨rfl, rfl⟩
                go_wp2_with fail
                refine HRV.out.mono ?_
                rintro e w1 ⟨rfl, hb⟩
                have hcl1 : w1.cell? ⟨wr.heap.size, 1, none⟩ = some (.slice Ar v.length cr) := (hb.cell (p := ⟨wr.heap.size, 1, none⟩) hwl).trans hcl0
                have hid1 : w1.cell? ⟨wr.heap.size, 0, none⟩ = some (.string id) := (hb.cell (p := ⟨wr.heap.size, 0, none⟩) hwl).trans hid0
                have d1 : w1.cell? ⟨blk, off + (k - 1) * 2, none⟩ = some (.string pid) := (hb.cell (p := ⟨blk, off + (k - 1) * 2, none⟩) hbl1).trans d0
                replace HB1 := Lib.hid (HB1.out.trans (hb.mono HB1.out.size))
                clear hb hcl0 hid0 hwl d0
                generalize v.length = L at *
                go_wp2_with fail
                go_quiet ((go_at_call 150; exact quiet_same (compare_is _ _ _ HY _)))
                go_wp2
                go_roundw
                case rel => exact ⟨k + 1, by omega, by go_num, HN, below_drewN HB1.out _⟩
                case measure => simp [intOf]; omega
    · obtain rfl : k = n := by omega
      have HF : Hid (RS = true) := by show _ = _; rw [← HRS.out, List.drop_of_length_le (by rw [HL.out]; omega)]; unfold rightFromM; rfl
      go_wp2
      go_ret
      exact ⟨ret_bool HF.out.symm, HB.out⟩
end Go.Proofs.YtbookbgfipbaoaaGreatDoor.Mx

/- item: takeVersion, takeSpot, Take. -/
namespace Go.Proofs.YtbookbgfipbaoaaGreatDoor.By
open Go.RowKit

theorem num_le (st : Rd) (m : Int) : 0 ≤ (numF st m).1 ∧ ((numF st m).1 ≤ m ∨ (numF st m).1 = 0) := by
  unfold numF
  split
  · simp
  · split
    · simp
    · split
      · simp
      · simp only; omega
theorem num_rest {st : Rd} {mo : Int} (h : (numF st mo).2.1 ≠ []) : st.1 ≠ [] := by
  intro e
  apply h
  unfold numF
  split
  · exact e
  · split
    · exact e
    · split
      · exact e
      · show st.1.drop _ = []
        rw [e]; simp
theorem text_rest {st : Rd} {mo : Int} (h : (textF st mo).2.1 ≠ []) : st.1 ≠ [] := by
  apply num_rest (mo := mo)
  intro e
  apply h
  unfold textF
  split
  · exact e
  · split
    · exact e
    · show (numF st mo).2.1.drop _ = []
      rw [e]; simp
def tk1 (st : Rd) := numF st 31
def tk2 (st : Rd) := textF (tk1 st).2 6
def tk3 (st : Rd) := numF (tk2 st).2 1048576
def tk4 (st : Rd) := numF (tk3 st).2 1048576
def tk5 (st : Rd) := numF (tk4 st).2 2
def tk6 (st : Rd) := numF (tk5 st).2 2000
def tk7 (st : Rd) := numF (tk6 st).2 2000
def tkS (st : Rd) : Rd := if (tk5 st).1 ≠ 0 then (tk7 st).2 else (tk5 st).2
def tk8 (st : Rd) := textF (tkS st) 16
def tkE (st : Rd) : Rd := if (tk5 st).1 = 2 then (tk8 st).2 else tkS st
def rawI (st : Rd) : Itm := ⟨(tk1 st).1, ⟨⟨(tk2 st).1.toArray⟩, (tk3 st).1, (tk4 st).1⟩, decide ((tk5 st).1 = 0), if (tk5 st).1 ≠ 0 then (tk6 st).1 - 1000 else 0, if (tk5 st).1 ≠ 0 then (tk7 st).1 - 1000 else 0, if (tk5 st).1 = 2 then ⟨(tk8 st).1.toArray⟩ else ⟨#[]⟩, decide ((tk5 st).1 = 2)⟩
def okI (st : Rd) : Bool := decide ((tkE st).2 = 0) && rightI (rawI st)
def zeroI : Itm := ⟨0, ⟨⟨#[]⟩, 0, 0⟩, false, 0, 0, ⟨#[]⟩, false⟩

/-- A call that read on in the Reader, and made blocks of its own. -/
def RdRet (v : Value) (R g : Nat) (st : Rd) (w : World) (e : Ending) (w' : World) : Prop := e = .returned v ∧ ReaderAt w' R g st ∧ w.grownBy w' (some R)

theorem ReaderAt.allocd {w : World} {R g : Nat} {st : Rd} (h : ReaderAt w R g st) (o : Obj) : ReaderAt (w.alloc o) R g st := h.keep ((Below.refl _ _).alloc (Nat.le_refl _) _)
theorem grown_alloc (w : World) (o : Obj) (row : Option Nat) : w.grownBy (w.alloc o) row := grown_of_below ((Below.refl _ _).alloc (Nat.le_refl _) _) row
theorem grown_own {a w : World} {row : Option Nat} (h : a.grownBy w row) {p : Addr} (hp : a.heap.size ≤ p.block) (u : Value) : a.grownBy (w.setCell p u) row :=
  ⟨h.os, h.tape, h.output, by simpa [World.setCell] using h.size, fun k hk hne => (Below.heap_setCell w p u k (by omega)).trans (h.block k hk hne)⟩
theorem grown_more {a w : World} {row : Option Nat} (h : a.grownBy w row) (o : Obj) : a.grownBy (w.alloc o) row :=
  h.trans (grown_alloc w o row)
theorem ReaderAt.setOwn {w : World} {R g : Nat} {st : Rd} (h : ReaderAt w R g st) {p : Addr} (h1 : R ≠ p.block) (h2 : st.1 ≠ [] → g ≠ p.block) (u : Value) : ReaderAt (w.setCell p u) R g st := h.other (grown_set u) h1 h2
/-- A block of the call's own stays while the Reader is read. -/
theorem own_cell {w w1 : World} {R b : Nat} (hg : w.grownBy w1 (some R)) (hb : b < w.heap.size) (hne : some b ≠ (some R : Option Nat)) (o : Nat) : w1.cell? ⟨b, o, none⟩ = w.cell? ⟨b, o, none⟩ ∧ w1.frozen? ⟨b, o, none⟩ = w.frozen? ⟨b, o, none⟩ :=
  ⟨World.cell?_of_block (a := ⟨b, o, none⟩) (hg.block b hb hne), World.frozen?_of_block (a := ⟨b, o, none⟩) (hg.block b hb hne)⟩
theorem ReaderAt.glt {w : World} {R g : Nat} {st : Rd} (h : ReaderAt w R g st) (hn : st.1 ≠ []) : g < w.heap.size := by
  obtain ⟨A, c, _, hz, _⟩ := h.c0
  exact hz.lt (List.length_pos_iff.mpr hn)

set_option maxRecDepth 100000 in
set_option maxHeartbeats 4000000 in
theorem takeSpot_any {R g : Nat} {st : Rd} (w : World) (h : ReaderAt w R g st) :
    Calls Tryz.prog 206 #[.pointer (some ⟨R, 0, none⟩)] w (RdRet (.complex .f64 (fl ((numF st 2000).1 - 1000)) (fl ((numF (numF st 2000).2 2000).1 - 1000))) R g (numF (numF st 2000).2 2000).2 w) := by
  have HR := Lib.hid h
  clear h
  have b1 := num_le st 2000
  have b2 := num_le (numF st 2000).2 2000
  go_enter Tryz.func206, Tryz.ntmps206
  go_wp2_with fail
  refine (num_any 2000 _ HR.out).mono ?_
  rintro e w1 ⟨rfl, hR, hg, _⟩
  have HR1 := Lib.hid hR
  have HG1 := Lib.hid hg
  generalize numF st 2000 = N1 at *
  obtain ⟨n1, s1⟩ := N1
  simp only at b1 b2 HR1 ⊢
  clear hR hg
  obtain ⟨b1a, b1b⟩ := b1
  have b1c : n1 ≤ 2000 := by omega
  clear b1b
  go_wp2_with fail
  refine (num_any 2000 _ HR1.out).mono ?_
  rintro e w2 ⟨rfl, hR, hg, _⟩
  have HR2 := Lib.hid hR
  have HG2 := Lib.hid (HG1.out.trans hg)
  generalize numF s1 2000 = N2 at *
  obtain ⟨n2, s2⟩ := N2
  simp only at b2 HR2 ⊢
  clear hR hg
  obtain ⟨b2a, b2b⟩ := b2
  have b2c : n2 ≤ 2000 := by omega
  clear b2b
  go_wp2
  go_ret
  exact ⟨rfl, HR2.out, HG2.out⟩

set_option maxRecDepth 100000 in
set_option maxHeartbeats 4000000 in
theorem takeVersion_any {R g : Nat} {st : Rd} (w : World) (h : ReaderAt w R g st) :
    Calls Tryz.prog 205 #[.pointer (some ⟨R, 0, none⟩)] w (RdRet (vrsV ⟨⟨(textF st 6).1.toArray⟩, (numF (textF st 6).2 1048576).1, (numF (numF (textF st 6).2 1048576).2 1048576).1⟩) R g (numF (numF (textF st 6).2 1048576).2 1048576).2 w) := by
  have hRlt := h.lt
  have hglt := h.glt
  have HN : Hid (some w.heap.size ≠ (some R : Option Nat)) := fun e => by injection e with e; omega
  have HR := Lib.hid (h.allocd (.cells #[.string ⟨#[]⟩, .int .i64 0, .int .i64 0] 111))
  have HNil : Hid ((numF (numF (textF st 6).2 1048576).2 1048576).2.1 ≠ [] → g ≠ w.heap.size) := fun h e => by
    have := hglt (text_rest (num_rest (num_rest h)))
    omega
  clear h hglt
  unfold vrsV
  go_enter Tryz.func205, Tryz.ntmps205
  go_wp2_with fail
  refine (text_any 6 _ HR.out).mono ?_
  rintro e w1 ⟨rfl, hR, hg, _⟩
  have hb1 : w.heap.size < w1.heap.size := by have := hg.size; simp at this; omega
  have q0 := (own_cell hg (b := w.heap.size) (by simp) HN.out 0).1.trans (show _ = some (.string ⟨#[]⟩) by simp [go_sem])
  have q1 := (own_cell hg (b := w.heap.size) (by simp) HN.out 1).1.trans (show _ = some (.int .i64 0) by simp [go_sem])
  have q2 := (own_cell hg (b := w.heap.size) (by simp) HN.out 2).1.trans (show _ = some (.int .i64 0) by simp [go_sem])
  have f0 := (own_cell hg (b := w.heap.size) (by simp) HN.out 0).2.trans (show _ = false by simp [go_sem])
  have f1 := (own_cell hg (b := w.heap.size) (by simp) HN.out 1).2.trans (show _ = false by simp [go_sem])
  have f2 := (own_cell hg (b := w.heap.size) (by simp) HN.out 2).2.trans (show _ = false by simp [go_sem])
  have HR1 := Lib.hid hR
  have HG1 : Hid (w.grownBy w1 (some R)) := (grown_alloc w _ _).trans hg
  clear hR hg HR
  generalize textF st 6 = N1 at *
  obtain ⟨x1, s1⟩ := N1
  simp only at HR1 ⊢
  go_wp2_with fail
  refine (num_any 1048576 _ HR1.out).mono ?_
  rintro e w2 ⟨rfl, hR, hg, _⟩
  replace q0 := (own_cell hg hb1 HN.out 0).1.trans q0
  replace q1 := (own_cell hg hb1 HN.out 1).1.trans q1
  replace q2 := (own_cell hg hb1 HN.out 2).1.trans q2
  replace f0 := (own_cell hg hb1 HN.out 0).2.trans f0
  replace f1 := (own_cell hg hb1 HN.out 1).2.trans f1
  replace f2 := (own_cell hg hb1 HN.out 2).2.trans f2
  replace hb1 := Nat.lt_of_lt_of_le hb1 hg.size
  have HR2 := Lib.hid hR
  have HG2 := Lib.hid (HG1.out.trans hg)
  clear hR hg HR1 HG1
  generalize numF s1 1048576 = N2 at *
  obtain ⟨x2, s2⟩ := N2
  simp only at HR2 ⊢
  go_wp2_with fail
  refine (num_any 1048576 _ HR2.out).mono ?_
  rintro e w3 ⟨rfl, hR, hg, _⟩
  replace q0 := (own_cell hg hb1 HN.out 0).1.trans q0
  replace q1 := (own_cell hg hb1 HN.out 1).1.trans q1
  replace q2 := (own_cell hg hb1 HN.out 2).1.trans q2
  replace f0 := (own_cell hg hb1 HN.out 0).2.trans f0
  replace f1 := (own_cell hg hb1 HN.out 1).2.trans f1
  replace f2 := (own_cell hg hb1 HN.out 2).2.trans f2
  replace hb1 := Nat.lt_of_lt_of_le hb1 hg.size
  have HR3 := Lib.hid hR
  have HG3 := Lib.hid (HG2.out.trans hg)
  clear hR hg HR2 HG2
  generalize numF s2 1048576 = N3 at *
  obtain ⟨x3, s3⟩ := N3
  simp only at HR3 ⊢
  go_wp2
  refine bodyPost_ret (v := .agg #[.string ⟨x1.toArray⟩, .int .i64 x2, .int .i64 x3]) ?_ rfl ?_
  · simp [results, Tryz.results205, go_sem, q0, q1, q2]
  · have hRb : R ≠ w.heap.size := by omega
    exact ⟨rfl, ((HR3.out.setOwn (p := ⟨w.heap.size, 0, none⟩) hRb HNil.out _).setOwn (p := ⟨w.heap.size, 1, none⟩) hRb HNil.out _).setOwn (p := ⟨w.heap.size, 2, none⟩) hRb HNil.out _, grown_own (grown_own (grown_own HG3.out (Nat.le_refl _) _) (Nat.le_refl _) _) (Nat.le_refl _) _⟩
-- TAKE
end Go.Proofs.YtbookbgfipbaoaaGreatDoor.By
