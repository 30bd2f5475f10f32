/- zone.Whole of whatever place: of one whose parts stand for whole numbers, and of any other. -/
import Derived.Test.YtbookbgfipbaoaaGreatDoorH11
import Derived.Test.YtbookbgfipbaoaaGreatDoorH1
import Derived.Test.YtbookbgfipbaoaaGreatDoorH3
import Derived.Laws.StructEq
import Derived.BigRegion
import Derived.Deep.MidRow
import Derived.Deep.CutBlock
import Derived.Deep.DeepCutAuto
import Derived.Deep.RegionHeld3
import Derived.WalkSmall
import Derived.Lib.ItoaLen
namespace Go.Proofs.YtbookbgfipbaoaaGreatDoor.Zo
open Go.RowKit

theorem trunc_aux (x : Nat) (s : Bool) (m : Nat) (e : Int) (hd : FloatKind.f64.decode x = .number s m e) : Extern.MathFloor.toIntegral "math.archTrunc" .zero #[.float .f64 x] = pure (.float .f64 (FloatKind.f64.encode ((Ieee.Datum.number s m e).integral .zero))) := by
  obtain ⟨f, hf⟩ : ∃ f : Bool → Nat → Sem Value, Extern.MathFloor.toIntegral "math.archTrunc" .zero #[.float .f64 x] = (match FloatKind.f64.decode x with | .nan s t => f s t | d => pure (.float .f64 (FloatKind.f64.encode (d.integral .zero)))) := ⟨_, rfl⟩
  rw [hf, hd]
/-- The word stands for a number (no infinity, and no NaN). -/
def IsN (x : Nat) : Prop := ∃ s m e, Ieee.double.read x = .number s m e
theorem num_isN {x : Nat} {n : Int} (h : Num x n) : IsN x := by obtain ⟨s, j, e, _⟩ := h; exact ⟨_, _, _, e⟩
theorem run_trunc (x : Nat) (h : IsN x) (w : World) : (Extern.MathFloor.toIntegral "math.archTrunc" .zero #[.float .f64 x]).run Tryz.prog w = .ok (.float .f64 (truncW x)) w := by
  obtain ⟨s, m, e, hd⟩ := h
  have ht : truncW x = FloatKind.f64.encode ((Ieee.Datum.number s m e).integral .zero) := by unfold truncW; rw [hd]; rfl
  have e' : FloatKind.f64.decode x = .number s m e := hd
  rw [trunc_aux _ _ _ _ e', ht]
  rfl
def leqB (x y : Nat) : Bool := FloatKind.f64.format.order x y == some .lt || FloatKind.f64.format.order x y == some .eq
def eqlB (x y : Nat) : Bool := FloatKind.f64.format.order x y == some .eq
def wwB (x lo hi : Nat) : Bool := leqB lo x && (leqB x hi && eqlB x (truncW x))
def withinF (n lo hi : Int) : Bool := decide (lo ≤ n) && decide (n ≤ hi)
theorem isN_of {x lo hi : Nat} (hl : IsN lo) (hh : IsN hi) (h1 : leqB lo x = true) (h2 : leqB x hi = true) : IsN x := by
  obtain ⟨s, m, e, hl⟩ := hl
  obtain ⟨t, n, i, hh⟩ := hh
  have e1 : FloatKind.f64.format.order lo x = (Ieee.Datum.number s m e).order (Ieee.double.read x) := by rw [← hl]; rfl
  have e2 : FloatKind.f64.format.order x hi = (Ieee.double.read x).order (.number t n i) := by rw [← hh]; rfl
  unfold leqB at h1 h2
  rw [e1] at h1
  rw [e2] at h2
  unfold IsN
  cases hr : Ieee.double.read x with
  | number a b c => exact ⟨a, b, c, rfl⟩
  | infinity a => rw [hr] at h1 h2; cases a <;> simp [Ieee.Datum.order] at h1 h2
  | nan a b => rw [hr] at h1; simp [Ieee.Datum.order] at h1
theorem ww_num {x lo hi : Nat} {n a b : Int} (hx : Num x n) (hn : n.natAbs < 2 ^ 53) (hl : Num lo a) (hh : Num hi b) : wwB x lo hi = withinF n a b := by
  unfold wwB leqB eqlB withinF
  rw [num_leq hl hx, num_leq hx hh, num_eql hx (num_trunc hx hn)]
  simp

set_option maxRecDepth 100000 in
set_option maxHeartbeats 1000000 in
theorem trunc_any (x : Nat) (h : IsN x) (w : World) : Calls Tryz.prog 182 #[.float .f64 x] w fun e w' => e = .returned (.float .f64 (truncW x)) ∧ w = w' := by
  have HR := Lib.hid (run_trunc x h)
  generalize truncW x = y at *
  go_enter Tryz.func182, Tryz.ntmps182
  go_wp2
  rw [run_callFunc_extern Tryz.func197 (by kernel_rfl) (by kernel_rfl) (by kernel_rfl) (e := Extern.MathFloor.toIntegral "math.archTrunc" .zero) (by kernel_rfl), HR.out]
  simp only [Result.andThen]
  rw [Oper.upon_value]
  go_wp2
  go_ret
  exact ⟨rfl, rfl⟩

set_option maxRecDepth 100000 in
set_option maxHeartbeats 1000000 in
theorem wholeWithin_any (x lo hi : Nat) (hl : IsN lo) (hh : IsN hi) (w : World) :
    Calls Tryz.prog 154 #[.float .f64 x, .float .f64 lo, .float .f64 hi] w fun e w' => e = .returned (.bool (wwB x lo hi)) ∧ w = w' := by
  have HW := Lib.hid (show wwB x lo hi = (leqB lo x && (leqB x hi && eqlB x (truncW x))) from rfl)
  by_cases c1 : leqB lo x = true
  · have h1 : (FloatKind.f64.format.order lo x == some .lt || FloatKind.f64.format.order lo x == some .eq) = true := c1
    by_cases c2 : leqB x hi = true
    · have h2 : (FloatKind.f64.format.order x hi == some .lt || FloatKind.f64.format.order x hi == some .eq) = true := c2
      have HT := Lib.hid (trunc_any x (isN_of hl hh c1 c2))
      rw [c1, c2] at HW
      have he : eqlB x (truncW x) = (FloatKind.f64.format.order x (truncW x) == some .eq) := rfl
      generalize truncW x = y at *
      clear c1 c2 hl hh
      cases h3 : eqlB x y
      all_goals
        rw [h3] at he HW
        have he' := he.symm
        clear h3 he
        go_enter Tryz.func154, Tryz.ntmps154
        go_wp2_with fail
        refine (HT.out _).mono ?_
        rintro e w1 ⟨rfl, rfl⟩
        go_wp2
        go_ret
        exact ⟨ret_bool (by rw [HW.out]; rfl), rfl⟩
    · have h2 : (FloatKind.f64.format.order x hi == some .lt || FloatKind.f64.format.order x hi == some .eq) = false := by simpa [leqB] using c2
      rw [c1, Bool.eq_false_iff.mpr c2] at HW
      clear c1 c2 hl hh
      go_enter Tryz.func154, Tryz.ntmps154
      go_wp2
      go_ret
      exact ⟨ret_bool (by rw [HW.out]; rfl), rfl⟩
  · have h1 : (FloatKind.f64.format.order lo x == some .lt || FloatKind.f64.format.order lo x == some .eq) = false := by simpa [leqB] using c1
    rw [Bool.eq_false_iff.mpr c1] at HW
    clear c1 hl hh
    go_enter Tryz.func154, Tryz.ntmps154
    go_wp2
    go_ret
    exact ⟨ret_bool (by rw [HW.out]; rfl), rfl⟩

theorem num_lo : Num 13875379345695965184 (-1000) := by
  have := num_fl (-1000) (by decide)
  rwa [show fl (-1000) = 13875379345695965184 by decide] at this
theorem num_hi : Num 4652007308841189376 1000 := by
  have := num_fl 1000 (by decide)
  rwa [show fl 1000 = 4652007308841189376 by decide] at this
/-- Is a place one, of whatever parts? -/
def wholeB (x y : Nat) : Bool := wwB x 13875379345695965184 4652007308841189376 && wwB y 13875379345695965184 4652007308841189376
/-- Is a place one, of whole parts? -/
def wholeF (x y : Int) : Bool := withinF x (-1000) 1000 && withinF y (-1000) 1000
set_option maxRecDepth 100000 in
set_option maxHeartbeats 1000000 in
theorem whole_any (x y : Nat) (w : World) : Calls Tryz.prog 153 #[.complex .f64 x y] w fun e w' => e = .returned (.bool (wholeB x y)) ∧ w = w' := by
  have H1 := Lib.hid (wholeWithin_any x 13875379345695965184 4652007308841189376 (num_isN num_lo) (num_isN num_hi))
  have H2 := Lib.hid (wholeWithin_any y 13875379345695965184 4652007308841189376 (num_isN num_lo) (num_isN num_hi))
  have HW := Lib.hid (show wholeB x y = (wwB x 13875379345695965184 4652007308841189376 && wwB y 13875379345695965184 4652007308841189376) from rfl)
  generalize wwB x 13875379345695965184 4652007308841189376 = b1 at *
  generalize wwB y 13875379345695965184 4652007308841189376 = b2 at *
  go_enter Tryz.func153, Tryz.ntmps153
  go_wp2_with fail
  refine (H1.out _).mono ?_
  rintro e w1 ⟨rfl, rfl⟩
  cases b1
  · go_wp2
    go_ret
    exact ⟨ret_bool (by rw [HW.out]; rfl), rfl⟩
  · go_wp2_with fail
    refine (H2.out _).mono ?_
    rintro e w1 ⟨rfl, rfl⟩
    go_wp2
    go_ret
    exact ⟨ret_bool (by rw [HW.out]; rfl), rfl⟩
end Go.Proofs.YtbookbgfipbaoaaGreatDoor.Zo

/- Steps of a zone: their numbers; what a step takes; products of places. -/
namespace Go.Proofs.YtbookbgfipbaoaaGreatDoor.Zo
open Go.RowKit

/-- A step as the program has it: its numbers' words. -/
structure Stp where
  op : Int
  re : Nat
  im : Nat
  sz : Nat
/-- A step as the document's answer has it. -/
structure RSt where
  op : Int
  x : Int
  y : Int
  sz : Int
deriving DecidableEq
def Small (n : Int) : Prop := n.natAbs < 2 ^ 41
/-- The word stands for a number that is greater, or less, than all small ones. -/
def Big (x : Nat) : Prop := (∀ lo hi a b, Num lo a → Num hi b → Small a → Small b → wwB x lo hi = false) ∧ eqlB x 0 = false
/-- The word stands for n, or n isn't small, and the word isn't, either. -/
def NumB (x : Nat) (n : Int) : Prop := (Small n ∧ Num x n) ∨ (¬ Small n ∧ Big x)
theorem NumB.num {x : Nat} {n : Int} (h : NumB x n) (hs : Small n) : Num x n := by
  rcases h with ⟨_, h⟩ | ⟨h, _⟩
  · exact h
  · exact absurd hs h
/-- The one says what the other one says. -/
structure Like (s : Stp) (r : RSt) : Prop where
  op : s.op = r.op
  re : NumB s.re r.x
  im : NumB s.im r.y
  sz : NumB s.sz r.sz
theorem Small.lt {n : Int} (h : Small n) : n.natAbs < 2 ^ 53 := Nat.lt_of_lt_of_le h (by decide)
theorem num_zero : Num 0 0 := by
  have := num_fl 0 (by decide)
  rwa [show fl 0 = 0 by decide] at this
theorem small_zero : Small 0 := by unfold Small; decide
theorem ww_numB {x lo hi : Nat} {n a b : Int} (hx : NumB x n) (hl : Num lo a) (hh : Num hi b) (ha : Small a) (hb : Small b) : wwB x lo hi = withinF n a b := by
  rcases hx with ⟨h1, h2⟩ | ⟨h1, h2⟩
  · exact ww_num h2 h1.lt hl hh
  · rw [h2.1 lo hi a b hl hh ha hb]
    unfold withinF Small at *
    symm
    rw [Bool.and_eq_false_iff, decide_eq_false_iff_not, decide_eq_false_iff_not]
    omega
theorem eql_numB {x : Nat} {n : Int} (hx : NumB x n) : eqlB x 0 = decide (n = 0) := by
  rcases hx with ⟨h1, h2⟩ | ⟨h1, h2⟩
  · exact num_eql h2 num_zero
  · rw [h2.2]
    symm
    rw [decide_eq_false_iff_not]
    rintro rfl
    exact h1 small_zero
theorem whole_numB {x y : Nat} {a b : Int} (hx : NumB x a) (hy : NumB y b) : wholeB x y = wholeF a b := by
  unfold wholeB wholeF
  rw [ww_numB hx num_lo num_hi (by unfold Small; decide) (by unfold Small; decide), ww_numB hy num_lo num_hi (by unfold Small; decide) (by unfold Small; decide)]
def stpV (s : Stp) : Value := .agg #[.int .i64 s.op, .complex .f64 s.re s.im, .float .f64 s.sz]
def takesF (op : Int) : Int := if op = 4 then 1 else if op = 5 ∨ op = 6 then 2 else 0

set_option maxRecDepth 100000 in
set_option maxHeartbeats 1000000 in
theorem takes_any (op : Int) (w : World) : Calls Tryz.prog 97 #[.int .i64 op] w fun e w' => e = .returned (.int .i64 (takesF op)) ∧ w = w' := by
  by_cases h4 : op = 4
  · subst h4
    go_enter Tryz.func97, Tryz.ntmps97
    go_wp2
    go_ret
    exact ⟨rfl, rfl⟩
  by_cases h5 : op = 5
  · subst h5
    go_enter Tryz.func97, Tryz.ntmps97
    go_wp2
    go_ret
    exact ⟨rfl, rfl⟩
  by_cases h6 : op = 6
  · subst h6
    go_enter Tryz.func97, Tryz.ntmps97
    go_wp2
    go_ret
    exact ⟨rfl, rfl⟩
  have HT : Hid (takesF op = 0) := by show _ = _; simp [takesF, h4, h5, h6]
  go_enter Tryz.func97, Tryz.ntmps97
  go_wp2
  go_ret
  exact ⟨ret_int HT.out.symm, rfl⟩

end Go.Proofs.YtbookbgfipbaoaaGreatDoor.Zo

/- zone.Right: which steps fit, and how many truths there are. -/
namespace Go.Proofs.YtbookbgfipbaoaaGreatDoor.Zo
open Go.RowKit

def cellsZ (s : Stp) : List Value := [.int .i64 s.op, .complex .f64 s.re s.im, .float .f64 s.sz]
theorem cellsZ_at {w : World} {b o : Nat} {z : Stp} (h : ∀ j u, (cellsZ z)[j]? = some u → w.cell? ⟨b, o + j, none⟩ = some u) :
    w.cell? ⟨b, o, none⟩ = some (.int .i64 z.op) ∧ w.cell? ⟨b, o + 1, none⟩ = some (.complex .f64 z.re z.im) ∧ w.cell? ⟨b, o + 2, none⟩ = some (.float .f64 z.sz) :=
  ⟨h 0 _ rfl, h 1 _ rfl, h 2 _ rfl⟩
theorem store_complex (W : World) (a : Addr) (k : FloatKind) (x y : Nat) (m : Mode) : (store a (.complex k x y) m).run Tryz.prog W = stored Tryz.prog W a (.complex k x y) m := run_store _ W a _ m rfl
theorem store_float (W : World) (a : Addr) (k : FloatKind) (x : Nat) (m : Mode) : (store a (.float k x) m).run Tryz.prog W = stored Tryz.prog W a (.float k x) m := run_store _ W a _ m rfl
/-- Rows that say the same. -/
def LikeL (zs : List Stp) (rs : List RSt) : Prop := zs.length = rs.length ∧ ∀ (k : Nat) (z : Stp) (r : RSt), zs[k]? = some z → rs[k]? = some r → Like z r
theorem LikeL.get {zs : List Stp} {rs : List RSt} (h : LikeL zs rs) {k : Nat} {z : Stp} (hz : zs[k]? = some z) : ∃ r, rs[k]? = some r ∧ Like z r := by
  have hk := (List.getElem?_eq_some_iff.mp hz).1
  have hr : rs[k]? = some (rs[k]'(by have := h.1; omega)) := List.getElem?_eq_getElem _
  exact ⟨_, hr, h.2 k z _ hz hr⟩
def fitsR (r : RSt) : Bool :=
  if r.op = 2 then wholeF r.x r.y && withinF r.sz 0 2000
  else if r.op = 3 then wholeF r.x r.y && withinF r.sz (-2000000) 2000000
  else if r.op = 1 ∨ r.op = 4 ∨ r.op = 5 ∨ r.op = 6 then decide (r.x = 0) && decide (r.y = 0) && decide (r.sz = 0)
  else false
theorem num_of {n : Int} {x : Nat} (h : fl n = x) (hn : n.natAbs < 2 ^ 53) : Num x n := by rw [← h]; exact num_fl n hn

set_option maxRecDepth 100000 in
set_option maxHeartbeats 2000000 in
theorem fits_any (s : Stp) (r : RSt) (h : Like s r) (w : World) : Calls Tryz.prog 96 #[stpV s] w fun e w' => e = .returned (.bool (fitsR r)) ∧ Below w.heap.size w w' := by
  obtain ⟨op, re, im, sz⟩ := s
  obtain ⟨rop, x, y, z⟩ := r
  obtain ⟨rfl, n1, n2, n3⟩ := h
  simp only at n1 n2 n3
  have hw := whole_numB n1 n2
  have HW := Lib.hid (whole_any re im)
  rw [hw] at HW
  unfold stpV
  simp only
  by_cases h2 : op = 2
  · subst h2
    have hs := ww_numB n3 num_zero (num_of (show fl 2000 = 4656510908468559872 by decide) (by decide)) small_zero (by unfold Small; decide)
    have HS := Lib.hid (wholeWithin_any sz 0 4656510908468559872 (num_isN num_zero) (num_isN (num_of (show fl 2000 = 4656510908468559872 by decide) (by decide))))
    rw [hs] at HS
    have HF : Hid (fitsR ⟨2, x, y, z⟩ = (wholeF x y && withinF z 0 2000)) := rfl
    generalize fitsR ⟨2, x, y, z⟩ = R at *
    generalize wholeF x y = c1 at *
    generalize withinF z 0 2000 = c2 at *
    clear n1 n2 n3 hw hs
    cases c1
    · go_enter Tryz.func96, Tryz.ntmps96
      go_wp2_with (refine (HW.out _).mono ?_; rintro e w1 ⟨rfl, rfl⟩)
      go_ret
      exact ⟨ret_bool (by rw [HF.out]; rfl), (Below.refl _ _).alloc (Nat.le_refl _) _⟩
    · go_enter Tryz.func96, Tryz.ntmps96
      go_wp2_with fail
      refine (HW.out _).mono ?_; rintro e w1 ⟨rfl, rfl⟩
      go_wp2_with fail
      refine (HS.out _).mono ?_; rintro e w1 ⟨rfl, rfl⟩
      go_wp2
      go_ret
      exact ⟨ret_bool (by rw [HF.out]; rfl), (Below.refl _ _).alloc (Nat.le_refl _) _⟩
  by_cases h3 : op = 3
  · subst h3
    clear h2
    have nlo := num_of (show fl (-2000000) = 13924712783166832640 by decide) (by decide)
    have nhi := num_of (show fl 2000000 = 4701340746312056832 by decide) (by decide)
    have hs := ww_numB n3 nlo nhi (by unfold Small; decide) (by unfold Small; decide)
    have HS := Lib.hid (wholeWithin_any sz 13924712783166832640 4701340746312056832 (num_isN nlo) (num_isN nhi))
    rw [hs] at HS
    have HF : Hid (fitsR ⟨3, x, y, z⟩ = (wholeF x y && withinF z (-2000000) 2000000)) := rfl
    generalize fitsR ⟨3, x, y, z⟩ = R at *
    generalize wholeF x y = c1 at *
    generalize withinF z (-2000000) 2000000 = c2 at *
    clear n1 n2 n3 hw hs nlo nhi
    cases c1
    · go_enter Tryz.func96, Tryz.ntmps96
      go_wp2_with (refine (HW.out _).mono ?_; rintro e w1 ⟨rfl, rfl⟩)
      go_ret
      exact ⟨ret_bool (by rw [HF.out]; rfl), (Below.refl _ _).alloc (Nat.le_refl _) _⟩
    · go_enter Tryz.func96, Tryz.ntmps96
      go_wp2_with fail
      refine (HW.out _).mono ?_; rintro e w1 ⟨rfl, rfl⟩
      go_wp2_with fail
      refine (HS.out _).mono ?_; rintro e w1 ⟨rfl, rfl⟩
      go_wp2
      go_ret
      exact ⟨ret_bool (by rw [HF.out]; rfl), (Below.refl _ _).alloc (Nat.le_refl _) _⟩
  by_cases h1 : op = 1 ∨ op = 4 ∨ op = 5 ∨ op = 6
  · have e1 := eql_numB n1
    have e2 := eql_numB n2
    have e3 := eql_numB n3
    unfold eqlB at e1 e2 e3
    have HF : Hid (fitsR ⟨op, x, y, z⟩ = (decide (x = 0) && decide (y = 0) && decide (z = 0))) := by
      show _ = _
      unfold fitsR
      simp only
      rw [if_neg h2, if_neg h3, if_pos h1]
    generalize fitsR ⟨op, x, y, z⟩ = R at *
    generalize decide (x = 0) = c1 at *
    generalize decide (y = 0) = c2 at *
    generalize decide (z = 0) = c3 at *
    clear n1 n2 n3 hw h2 h3
    rcases h1 with rfl | rfl | rfl | rfl
    all_goals
      cases c1
      · go_enter Tryz.func96, Tryz.ntmps96
        go_wp2
        go_ret
        exact ⟨ret_bool (by rw [HF.out]; rfl), (Below.refl _ _).alloc (Nat.le_refl _) _⟩
      · cases c2
        · go_enter Tryz.func96, Tryz.ntmps96
          go_wp2
          go_ret
          exact ⟨ret_bool (by rw [HF.out]; rfl), (Below.refl _ _).alloc (Nat.le_refl _) _⟩
        · go_enter Tryz.func96, Tryz.ntmps96
          go_wp2
          go_ret
          exact ⟨ret_bool (by rw [HF.out]; rfl), (Below.refl _ _).alloc (Nat.le_refl _) _⟩
  · have HF : Hid (fitsR ⟨op, x, y, z⟩ = false) := by
      show _ = _
      unfold fitsR
      simp only
      rw [if_neg h2, if_neg h3, if_neg h1]
    have g1 : ¬ op = 1 := fun e => h1 (Or.inl e)
    have g4 : ¬ op = 4 := fun e => h1 (Or.inr (Or.inl e))
    have g5 : ¬ op = 5 := fun e => h1 (Or.inr (Or.inr (Or.inl e)))
    have g6 : ¬ op = 6 := fun e => h1 (Or.inr (Or.inr (Or.inr e)))
    clear n1 n2 n3 hw h1
    go_enter Tryz.func96, Tryz.ntmps96
    go_wp2
    go_ret
    exact ⟨ret_bool HF.out.symm, (Below.refl _ _).alloc (Nat.le_refl _) _⟩

def stepR (t : Int) (r : RSt) : Option Int := if fitsR r = true ∧ ¬ t < takesF r.op then some (t + (1 - takesF r.op)) else none
def foldR : Int → List RSt → Option Int
  | t, [] => some t
  | t, r :: l => (stepR t r).bind fun u => foldR u l
/-- May they be a zone? -/
def rightZ (rs : List RSt) : Bool := decide (rs.length ≤ 32) && (foldR 0 rs == some 1)
theorem foldR_append (t : Int) (a b : List RSt) : foldR t (a ++ b) = (foldR t a).bind fun u => foldR u b := by
  induction a generalizing t with
  | nil => rfl
  | cons r l ih =>
    show (stepR t r).bind _ = _
    rw [foldR]
    cases stepR t r with
    | none => rfl
    | some u => exact ih u
theorem snocR {α : Type} {zs : List α} {k : Nat} {z : α} (h : zs[k]? = some z) : zs.take (k + 1) = zs.take k ++ [z] := by
  rw [List.take_add_one, h]
  rfl
theorem foldR_snoc {rs : List RSt} {k : Nat} {t : Int} {r : RSt} (h : foldR 0 (rs.take k) = some t) (hr : rs[k]? = some r) : foldR 0 (rs.take (k + 1)) = stepR t r := by
  rw [snocR hr, foldR_append, h]
  show (stepR t r).bind _ = _
  cases stepR t r <;> rfl
theorem foldR_none {rs : List RSt} {k : Nat} (h : foldR 0 (rs.take k) = none) : foldR 0 rs = none := by
  rw [← List.take_append_drop k rs, foldR_append, h]
  rfl
theorem takes_two (op : Int) : 0 ≤ takesF op ∧ takesF op ≤ 2 := by unfold takesF; split <;> (try split) <;> omega
theorem right_none {rs : List RSt} (h : foldR 0 rs = none) : rightZ rs = false := by unfold rightZ; rw [h]; simp
theorem right_long' {rs : List RSt} (h : 32 < rs.length) : rightZ rs = false := by unfold rightZ; simp; omega
theorem right_some {rs : List RSt} {t : Int} (hl : rs.length ≤ 32) (h : foldR 0 rs = some t) : rightZ rs = decide (t = 1) := by
  unfold rightZ
  rw [h, decide_eq_true hl, Bool.true_and, Bool.eq_iff_iff]
  simp

set_option maxRecDepth 100000 in
set_option maxHeartbeats 4000000 in
theorem rightZ_any (A : Option Addr) (n c : Nat) (zs : List Stp) (rs : List RSt) (B : Nat) (w : World) (hB : B ≤ w.heap.size) (hz : RowAt cellsZ 3 w B A n zs) (hl : LikeL zs rs) :
    Calls Tryz.prog 24 #[.slice A n c] w fun e w' => e = .returned (.bool (rightZ rs)) ∧ Below w.heap.size w w' := by
  have HN : Hid (rs.length = n) := hl.1.symm.trans hz.1
  have HZ := Lib.hid hz
  have HL := Lib.hid hl
  clear hz hl
  by_cases h32 : 32 < n
  · have HF : Hid (rightZ rs = false) := right_long' (by rw [HN.out]; exact h32)
    have h32' : (32 : Int) < n := by omega
    clear h32
    go_enter Tryz.func24, Tryz.ntmps24
    go_wp2
    go_ret
    exact ⟨ret_bool HF.out.symm, Below.refl _ _⟩
  have h32' : ¬ (32 : Int) < n := by omega
  have hn : n ≤ 32 := by omega
  clear h32
  go_enter Tryz.func24, Tryz.ntmps24
  go_wp2
  go_loopw [3, 11] (fun tr i wr => ∃ (k : Nat) (t : Int), k ≤ n ∧ i = .int .i64 k ∧ tr = .int .i64 t ∧ 0 ≤ t ∧ t ≤ k ∧ Hid (foldR 0 (rs.take k) = some t) ∧ Hid (Below w.heap.size w wr)) (fun _ i _ => n - (intOf i).toNat)
  case atStart => exact ⟨0, 0, by omega, rfl, rfl, by omega, by omega, rfl, Below.refl _ _⟩
  case round =>
    obtain ⟨k, t, hk, rfl, rfl, ht0, htk, HF, HB⟩ := hrel
    by_cases hlt : k < n
    · obtain ⟨blk, off, rfl, hbB, z, hzk, hcell⟩ := HZ.out.get hlt
      obtain ⟨r, hrk, hlike⟩ := HL.out.get hzk
      obtain ⟨e0, e1, e2⟩ := cellsZ_at hcell
      replace e0 := ((HB.out.mono hB).cell (p := ⟨blk, off + k * 3, none⟩) hbB).trans e0
      replace e1 := ((HB.out.mono hB).cell (p := ⟨blk, off + k * 3 + 1, none⟩) hbB).trans e1
      replace e2 := ((HB.out.mono hB).cell (p := ⟨blk, off + k * 3 + 2, none⟩) hbB).trans e2
      have hi1 : (k : Int) < n := by omega
      have HS := Lib.hid (foldR_snoc HF.out hrk)
      have HT := Lib.hid (fits_any z r hlike)
      have hop : z.op = r.op := hlike.op
      have h2 := takes_two r.op
      unfold stepR at HS
      clear hcell hzk hrk hlike
      obtain ⟨op, re, im, sz⟩ := z
      simp only at e0 e1 e2 hop
      subst hop
      unfold stpV at HT
      simp only at HT
      have HK := Lib.hid (takes_any r.op)
      generalize r.op = op at *
      generalize fitsR r = R at *
      generalize takesF op = T at *
      have hst := store_complex
      have hst' := store_float
      go_upto_region 7 with fail
      have k0 : (wr.alloc (.cells #[.int .i64 op, .complex .f64 re im, .float .f64 sz] 165)).cell? ⟨wr.heap.size, 0, none⟩ = some (.int .i64 op) := by simp [go_sem]
      have k1 : (wr.alloc (.cells #[.int .i64 op, .complex .f64 re im, .float .f64 sz] 165)).cell? ⟨wr.heap.size, 1, none⟩ = some (.complex .f64 re im) := by simp [go_sem]
      have k2 : (wr.alloc (.cells #[.int .i64 op, .complex .f64 re im, .float .f64 sz] 165)).cell? ⟨wr.heap.size, 2, none⟩ = some (.float .f64 sz) := by simp [go_sem]
      have kz : wr.heap.size < (wr.alloc (.cells #[.int .i64 op, .complex .f64 re im, .float .f64 sz] 165)).heap.size := by simp
      replace HB : Hid (Below w.heap.size w (wr.alloc (.cells #[.int .i64 op, .complex .f64 re im, .float .f64 sz] 165))) := HB.out.alloc HB.out.size _
      clear e0 e1 e2
      generalize (wr.alloc (.cells #[.int .i64 op, .complex .f64 re im, .float .f64 sz] 165)) = W1 at *
      generalize wr.heap.size = X at *
      go_wp2_with fail
      refine (HT.out _).mono ?_
      rintro e w1 ⟨rfl, hb⟩
      replace k0 := (hb.cell (p := ⟨X, 0, none⟩) kz).trans k0
      replace HB := Lib.hid (HB.out.trans (hb.mono HB.out.size))
      clear hb k1 k2 kz
      cases R
      · have HR : Hid (rightZ rs = false) := right_none (foldR_none (by rw [HS.out]; simp))
        go_wp2
        go_ret
        exact ⟨ret_bool HR.out.symm, HB.out⟩
      · go_wp2_with fail
        refine (HK.out _).mono ?_
        rintro e w2 ⟨rfl, rfl⟩
        by_cases hlt2 : t < T
        · have HR : Hid (rightZ rs = false) := right_none (foldR_none (by rw [HS.out]; simp [hlt2]))
          go_wp2
          go_ret
          exact ⟨ret_bool HR.out.symm, HB.out⟩
        · have HR : Hid (foldR 0 (rs.take (k + 1)) = some (t + (1 - T))) := by show _ = _; rw [HS.out]; simp [hlt2]
          go_wp2_with fail
          refine (HK.out _).mono ?_
          rintro e w2 ⟨rfl, rfl⟩
          go_wp2
          go_roundw
          case rel => exact ⟨k + 1, t + (1 - T), by omega, by go_num, by go_num, by omega, by omega, HR, HB⟩
          case measure => simp [intOf]; omega
    · obtain rfl : k = n := by omega
      have HR : Hid (rightZ rs = decide (t = 1)) := right_some (by have := HN.out; omega) (by rw [← HF.out, List.take_of_length_le (by have := HN.out; omega)])
      go_wp2
      go_ret
      exact ⟨ret_bool HR.out.symm, HB.out⟩
end Go.Proofs.YtbookbgfipbaoaaGreatDoor.Zo

/- zone.truth: what a step puts. -/
namespace Go.Proofs.YtbookbgfipbaoaaGreatDoor.Zo
open Go.RowKit

theorem below_via {B : Nat} {a w W w1 : World} (h : Below B a w) (hb : Below W.heap.size W w1) (hB : B ≤ w.heap.size) (hs : W.os = w.os ∧ W.tape = w.tape ∧ W.output = w.output ∧ W.heap = w.heap) : Below B a w1 := by
  obtain ⟨h1, h2, h3, h4⟩ := hs
  exact ⟨hb.os.trans (h1.trans h.os), hb.tape.trans (h2.trans h.tape), hb.output.trans (h3.trans h.output), Nat.le_trans h.size (by rw [← h4]; exact hb.size), fun k hk => (hb.block k (by rw [h4]; omega)).trans (by rw [h4]; exact h.block k hk)⟩
/-- What a step puts, of those that it takes. -/
def truthF (r : RSt) (ts : List Bool) (px py : Int) : Bool :=
  if r.op = 2 then decide ((px - r.x) * (px - r.x) + (py - r.y) * (py - r.y) ≤ r.sz * r.sz)
  else if r.op = 3 then decide (r.sz ≤ px * r.x + py * r.y)
  else if r.op = 4 then !ts.getD 0 false
  else if r.op = 5 then ts.getD 0 false && ts.getD 1 false
  else if r.op = 6 then ts.getD 0 false || ts.getD 1 false
  else true
theorem within_iff {n lo hi : Int} : withinF n lo hi = true ↔ lo ≤ n ∧ n ≤ hi := by unfold withinF; simp
theorem whole_iff {x y : Int} : wholeF x y = true ↔ (-1000 ≤ x ∧ x ≤ 1000) ∧ (-1000 ≤ y ∧ y ≤ 1000) := by unfold wholeF; rw [Bool.and_eq_true, within_iff, within_iff]
end Go.Proofs.YtbookbgfipbaoaaGreatDoor.Zo

/- What the library's own variables hold; a step's text. -/
namespace Go.Proofs.YtbookbgfipbaoaaGreatDoor.Zo
open Go.RowKit

/-- What the library's variables hold that the texts' calls read. -/
structure Glob (w : World) : Prop where
  big : 9 ≤ w.heap.size
  max : ∃ m, w.cell? ⟨1, 0, none⟩ = some (.int .i64 m)
  syn : ∃ tp p, w.var? Tryz.prog "strconv.ErrSyntax" = some #[.iface tp p]
  ran : ∃ tp p, w.var? Tryz.prog "strconv.ErrRange" = some #[.iface tp p]
  tab : Lib.TabIs Tryz.prog w "internal/strconv.uint64pow10" .u64 Lib.pow10Tab
theorem Glob.keep {w w' : World} {B : Nat} (h : Glob w) (hb : Below B w w') (hB : 9 ≤ B) : Glob w' := by
  refine ⟨Nat.le_trans h.big hb.size, ?_, ?_, ?_, ?_⟩
  · obtain ⟨m, hm⟩ := h.max
    exact ⟨m, (hb.cell (p := ⟨1, 0, none⟩) (by show 1 < B; omega)).trans hm⟩
  · obtain ⟨tp, p, hv⟩ := h.syn
    exact ⟨tp, p, var?_below hb (show Tryz.prog.globalNamed "strconv.ErrSyntax" = some 7 by kernel_rfl) (by omega) hv⟩
  · obtain ⟨tp, p, hv⟩ := h.ran
    exact ⟨tp, p, var?_below hb (show Tryz.prog.globalNamed "strconv.ErrRange" = some 8 by kernel_rfl) (by omega) hv⟩
  · exact var?_below hb (show Tryz.prog.globalNamed "internal/strconv.uint64pow10" = some 2 by kernel_rfl) (by omega) h.tab
theorem Glob.below {w w' : World} (h : Glob w) (hb : Below w.heap.size w w') : Glob w' := h.keep hb h.big
theorem below_drewish {B : Nat} {a w : World} (h : Below B a w) : Below B a w.drew := ⟨h.os, h.tape, h.output, h.size, h.block⟩
def itoaB (n : Int) : ByteArray := ⟨(Lib.itoa n).toArray⟩
def nameF (op : Int) : ByteArray := if op = 1 then ⟨#[97, 108, 108]⟩ else if op = 2 then ⟨#[100, 105, 115, 99]⟩ else if op = 3 then ⟨#[104, 97, 108, 102]⟩ else if op = 4 then ⟨#[110, 111, 116]⟩ else if op = 5 then ⟨#[97, 110, 100]⟩ else ⟨#[111, 114]⟩
def stepTextF (r : RSt) : ByteArray := if r.op = 2 ∨ r.op = 3 then nameF r.op ++ ⟨#[32]⟩ ++ itoaB r.x ++ ⟨#[32]⟩ ++ itoaB r.y ++ ⟨#[32]⟩ ++ itoaB r.sz else nameF r.op

set_option maxRecDepth 100000 in
set_option maxHeartbeats 1000000 in
theorem name_any (op : Int) (w : World) : Calls Tryz.prog 160 #[.int .i64 op] w fun e w' => e = .returned (.string (nameF op)) ∧ w = w' := by
  by_cases h1 : op = 1
  · subst h1
    go_enter Tryz.func160, Tryz.ntmps160
    go_wp2
    go_ret
    exact ⟨rfl, rfl⟩
  by_cases h2 : op = 2
  · subst h2
    go_enter Tryz.func160, Tryz.ntmps160
    go_wp2
    go_ret
    exact ⟨rfl, rfl⟩
  by_cases h3 : op = 3
  · subst h3
    go_enter Tryz.func160, Tryz.ntmps160
    go_wp2
    go_ret
    exact ⟨rfl, rfl⟩
  by_cases h4 : op = 4
  · subst h4
    go_enter Tryz.func160, Tryz.ntmps160
    go_wp2
    go_ret
    exact ⟨rfl, rfl⟩
  by_cases h5 : op = 5
  · subst h5
    go_enter Tryz.func160, Tryz.ntmps160
    go_wp2
    go_ret
    exact ⟨rfl, rfl⟩
  have HF : Hid (nameF op = ⟨#[111, 114]⟩) := by
    show _ = _
    unfold nameF
    rw [if_neg h1, if_neg h2, if_neg h3, if_neg h4, if_neg h5]
  go_enter Tryz.func160, Tryz.ntmps160
  go_wp2
  go_ret
  exact ⟨by rw [HF.out]; rfl, rfl⟩
theorem itoa_any (n : Int) (h0 : -9223372036854775808 ≤ n) (h1 : n ≤ 9223372036854775807) (w : World) (hg : Glob w) : Calls Tryz.prog 184 #[.int .i64 n] w fun e w' => e = .returned (.string (itoaB n)) ∧ Below w.heap.size w w' :=
  (Tryz.strconv_Itoa n h0 h1 w hg.tab).mono fun e w' h => by
    obtain ⟨he, k, os, rfl⟩ := h
    exact ⟨he, ⟨rfl, rfl, rfl, by simp [Sort.grow, World.drewN], fun j hj => by simp only [Sort.grow, World.drewN]; rw [Array.getElem?_append_left hj]⟩⟩
set_option maxRecDepth 100000 in
set_option maxHeartbeats 1000000 in
theorem digits_any (x : Nat) (n : Int) (h : Num x n) (hn : n.natAbs < 2 ^ 53) (w : World) (hg : Glob w) : Calls Tryz.prog 161 #[.float .f64 x] w fun e w' => e = .returned (.string (itoaB n)) ∧ Below w.heap.size w w' := by
  have hc := fun w => run_convert_float_int (P := Tryz.prog) w 163 3 .f64 .i64 x n (by kernel_rfl) Tryz.underlying3 (num_int h hn)
  have HI := Lib.hid (itoa_any n (by omega) (by omega) w hg)
  clear h hg
  go_enter Tryz.func161, Tryz.ntmps161
  go_wp2_with fail
  refine HI.out.mono ?_
  rintro e w1 ⟨rfl, hb⟩
  go_wp2
  go_ret
  exact ⟨rfl, hb⟩

set_option maxRecDepth 100000 in
set_option maxHeartbeats 4000000 in
theorem stepText_any (s : Stp) (r : RSt) (h : Like s r) (hf : fitsR r = true) (w : World) (hg : Glob w) : Calls Tryz.prog 112 #[stpV s] w fun e w' => e = .returned (.string (stepTextF r)) ∧ Below w.heap.size w w' := by
  obtain ⟨op, re, im, sz⟩ := s
  obtain ⟨rop, x, y, z⟩ := r
  obtain ⟨rfl, n1, n2, n3⟩ := h
  simp only at n1 n2 n3
  unfold stpV
  simp only
  by_cases h23 : op = 2 ∨ op = 3
  · have hsm : Small x ∧ Small y ∧ Small z := by
      rcases h23 with rfl | rfl
      · have hf' : (wholeF x y && withinF z 0 2000) = true := hf
        rw [Bool.and_eq_true, whole_iff, within_iff] at hf'
        unfold Small
        omega
      · have hf' : (wholeF x y && withinF z (-2000000) 2000000) = true := hf
        rw [Bool.and_eq_true, whole_iff, within_iff] at hf'
        unfold Small
        omega
    have H1 := Lib.hid (digits_any re x (n1.num hsm.1) hsm.1.lt)
    have H2 := Lib.hid (digits_any im y (n2.num hsm.2.1) hsm.2.1.lt)
    have H3 := Lib.hid (digits_any sz z (n3.num hsm.2.2) hsm.2.2.lt)
    have HN := Lib.hid (name_any op)
    have HG := Lib.hid hg
    have HF : Hid (stepTextF ⟨op, x, y, z⟩ = nameF op ++ ⟨#[32]⟩ ++ itoaB x ++ ⟨#[32]⟩ ++ itoaB y ++ ⟨#[32]⟩ ++ itoaB z) := by show _ = _; unfold stepTextF; simp only; rw [if_pos h23]
    have hnm : (nameF op).size ≤ 4 := by rcases h23 with rfl | rfl <;> decide
    have htx : (itoaB x).size ≤ 21 := by have := hsm.1.lt; exact Lib.itoa_length_le x (by omega) (by omega)
    have hty : (itoaB y).size ≤ 21 := by have := hsm.2.1.lt; exact Lib.itoa_length_le y (by omega) (by omega)
    have htz : (itoaB z).size ≤ 21 := by have := hsm.2.2.lt; exact Lib.itoa_length_le z (by omega) (by omega)
    generalize nameF op = nm at *
    generalize itoaB x = tx at *
    generalize itoaB y = ty at *
    generalize itoaB z = tz at *
    clear n1 n2 n3 hsm hg hf
    have s1 : ¬ 9223372036854775807 < nm.size + 1 := by omega
    have s2 : ¬ 9223372036854775807 < nm.size + 1 + tx.size := by omega
    have s3 : ¬ 9223372036854775807 < nm.size + 1 + tx.size + 1 := by omega
    have s4 : ¬ 9223372036854775807 < nm.size + 1 + tx.size + 1 + ty.size := by omega
    have s5 : ¬ 9223372036854775807 < nm.size + 1 + tx.size + 1 + ty.size + 1 := by omega
    have s6 : ¬ 9223372036854775807 < nm.size + 1 + tx.size + 1 + ty.size + 1 + tz.size := by omega
    clear hnm htx hty htz
    have hcase : (op = 2) ∨ (¬ op = 2 ∧ op = 3) := by omega
    clear h23
    rcases hcase with rfl | ⟨hne, rfl⟩
    · skip
      go_enter Tryz.func112, Tryz.ntmps112
      go_upto_region 3 with fail
      have k0 : (w.alloc (.cells #[.int .i64 2, .complex .f64 re im, .float .f64 sz] 165)).cell? ⟨w.heap.size, 0, none⟩ = some (.int .i64 2) := by simp [go_sem]
      have k1 : (w.alloc (.cells #[.int .i64 2, .complex .f64 re im, .float .f64 sz] 165)).cell? ⟨w.heap.size, 1, none⟩ = some (.complex .f64 re im) := by simp [go_sem]
      have k2 : (w.alloc (.cells #[.int .i64 2, .complex .f64 re im, .float .f64 sz] 165)).cell? ⟨w.heap.size, 2, none⟩ = some (.float .f64 sz) := by simp [go_sem]
      have kz : w.heap.size < (w.alloc (.cells #[.int .i64 2, .complex .f64 re im, .float .f64 sz] 165)).heap.size := by simp
      have HB : Hid (Below w.heap.size w (w.alloc (.cells #[.int .i64 2, .complex .f64 re im, .float .f64 sz] 165))) := (Below.refl _ _).alloc (Nat.le_refl _) _
      generalize (w.alloc (.cells #[.int .i64 2, .complex .f64 re im, .float .f64 sz] 165)) = W1 at *
      generalize hX : w.heap.size = X at *
      refine wp_region_held_drew (S := fun w' => w'.cell? ⟨X, 0, none⟩ = some (.int .i64 2) ∧ w'.cell? ⟨X, 1, none⟩ = some (.complex .f64 re im) ∧ w'.cell? ⟨X, 2, none⟩ = some (.float .f64 sz)) (by kernel_rfl) ⟨k0, k1, k2⟩ (fun hHeld => ?_)
      refine tk 0 ?_
      refine tk 1 ?_
      refine tk 4 ?_
      refine tk 5 ?_
      refine tk 6 ?_
      refine tk 10 ?_
      refine tk 11 ?_
      refine tk 12 ?_
      refine tk 16 ?_
      refine tk 17 ?_
      refine wpAnyH_ready (rs := [2]) (by kernel_rfl) (by simp) ?_
      refine (ac (fun K hK => ?_) AllReadyH.nil)
      go_simp
      refine (HN.out _).mono ?_
      rintro e u0 ⟨rfl, rfl⟩
      refine hK.out _ _ ⟨k0, k1, k2⟩ (fun hHeld => ?_)
      clear hK K
      try simp only [Act.put, List.setIfInBounds_toArray, List.set_cons_zero, List.set_cons_succ]
      refine tk 3 ?_
      refine wpAnyH_ready (rs := [7]) (by kernel_rfl) (by simp) ?_
      refine (ac (fun K hK => ?_) AllReadyH.nil)
      go_simp
      refine (H1.out _ (by exact HG.out.keep (B := X) (by exact below_drewish HB.out) (by rw [← hX]; exact HG.out.big))).mono ?_
      rintro e u1 ⟨rfl, hb⟩
      replace k0 := (hb.cell (p := ⟨X, 0, none⟩) kz).trans k0
      replace k1 := (hb.cell (p := ⟨X, 1, none⟩) kz).trans k1
      replace k2 := (hb.cell (p := ⟨X, 2, none⟩) kz).trans k2
      replace kz := Nat.lt_of_lt_of_le kz hb.size
      replace HB := Lib.hid (below_via HB.out hb (by have := HB.out.size; omega) ⟨rfl, rfl, rfl, rfl⟩)
      clear hb
      refine hK.out _ _ ⟨k0, k1, k2⟩ (fun hHeld => ?_)
      clear hK K
      try simp only [Act.put, List.setIfInBounds_toArray, List.set_cons_zero, List.set_cons_succ]
      refine tk 8 ?_
      refine tk 9 ?_
      refine wpAnyH_ready (rs := [13]) (by kernel_rfl) (by simp) ?_
      refine (ac (fun K hK => ?_) AllReadyH.nil)
      go_simp
      refine (H2.out _ (by exact HG.out.keep (B := X) (by exact HB.out) (by rw [← hX]; exact HG.out.big))).mono ?_
      rintro e u2 ⟨rfl, hb⟩
      replace k0 := (hb.cell (p := ⟨X, 0, none⟩) kz).trans k0
      replace k1 := (hb.cell (p := ⟨X, 1, none⟩) kz).trans k1
      replace k2 := (hb.cell (p := ⟨X, 2, none⟩) kz).trans k2
      replace kz := Nat.lt_of_lt_of_le kz hb.size
      replace HB := Lib.hid (below_via HB.out hb (by have := HB.out.size; omega) ⟨rfl, rfl, rfl, rfl⟩)
      clear hb
      refine hK.out _ _ ⟨k0, k1, k2⟩ (fun hHeld => ?_)
      clear hK K
      try simp only [Act.put, List.setIfInBounds_toArray, List.set_cons_zero, List.set_cons_succ]
      refine tk 14 ?_
      refine tk 15 ?_
      refine wpAnyH_ready (rs := [18]) (by kernel_rfl) (by simp) ?_
      refine (ac (fun K hK => ?_) AllReadyH.nil)
      go_simp
      refine (H3.out _ (by exact HG.out.keep (B := X) (by exact HB.out) (by rw [← hX]; exact HG.out.big))).mono ?_
      rintro e u3 ⟨rfl, hb⟩
      replace k0 := (hb.cell (p := ⟨X, 0, none⟩) kz).trans k0
      replace k1 := (hb.cell (p := ⟨X, 1, none⟩) kz).trans k1
      replace k2 := (hb.cell (p := ⟨X, 2, none⟩) kz).trans k2
      replace kz := Nat.lt_of_lt_of_le kz hb.size
      replace HB := Lib.hid (below_via HB.out hb (by have := HB.out.size; omega) ⟨rfl, rfl, rfl, rfl⟩)
      clear hb
      refine hK.out _ _ ⟨k0, k1, k2⟩ (fun hHeld => ?_)
      clear hK K
      try simp only [Act.put, List.setIfInBounds_toArray, List.set_cons_zero, List.set_cons_succ]
      refine tk 19 ?_
      refine tk 20 ?_
      refine wpAnyH_done (by kernel_rfl) ?_ _
      go_wp2
      go_ret
      exact ⟨by rw [HF.out]; rfl, by rw [hX]; exact HB.out⟩
    · skip
      go_enter Tryz.func112, Tryz.ntmps112
      go_upto_region 3 with fail
      have k0 : (w.alloc (.cells #[.int .i64 3, .complex .f64 re im, .float .f64 sz] 165)).cell? ⟨w.heap.size, 0, none⟩ = some (.int .i64 3) := by simp [go_sem]
      have k1 : (w.alloc (.cells #[.int .i64 3, .complex .f64 re im, .float .f64 sz] 165)).cell? ⟨w.heap.size, 1, none⟩ = some (.complex .f64 re im) := by simp [go_sem]
      have k2 : (w.alloc (.cells #[.int .i64 3, .complex .f64 re im, .float .f64 sz] 165)).cell? ⟨w.heap.size, 2, none⟩ = some (.float .f64 sz) := by simp [go_sem]
      have kz : w.heap.size < (w.alloc (.cells #[.int .i64 3, .complex .f64 re im, .float .f64 sz] 165)).heap.size := by simp
      have HB : Hid (Below w.heap.size w (w.alloc (.cells #[.int .i64 3, .complex .f64 re im, .float .f64 sz] 165))) := (Below.refl _ _).alloc (Nat.le_refl _) _
      generalize (w.alloc (.cells #[.int .i64 3, .complex .f64 re im, .float .f64 sz] 165)) = W1 at *
      generalize hX : w.heap.size = X at *
      refine wp_region_held_drew (S := fun w' => w'.cell? ⟨X, 0, none⟩ = some (.int .i64 3) ∧ w'.cell? ⟨X, 1, none⟩ = some (.complex .f64 re im) ∧ w'.cell? ⟨X, 2, none⟩ = some (.float .f64 sz)) (by kernel_rfl) ⟨k0, k1, k2⟩ (fun hHeld => ?_)
      refine tk 0 ?_
      refine tk 1 ?_
      refine tk 4 ?_
      refine tk 5 ?_
      refine tk 6 ?_
      refine tk 10 ?_
      refine tk 11 ?_
      refine tk 12 ?_
      refine tk 16 ?_
      refine tk 17 ?_
      refine wpAnyH_ready (rs := [2]) (by kernel_rfl) (by simp) ?_
      refine (ac (fun K hK => ?_) AllReadyH.nil)
      go_simp
      refine (HN.out _).mono ?_
      rintro e u0 ⟨rfl, rfl⟩
      refine hK.out _ _ ⟨k0, k1, k2⟩ (fun hHeld => ?_)
      clear hK K
      try simp only [Act.put, List.setIfInBounds_toArray, List.set_cons_zero, List.set_cons_succ]
      refine tk 3 ?_
      refine wpAnyH_ready (rs := [7]) (by kernel_rfl) (by simp) ?_
      refine (ac (fun K hK => ?_) AllReadyH.nil)
      go_simp
      refine (H1.out _ (by exact HG.out.keep (B := X) (by exact below_drewish HB.out) (by rw [← hX]; exact HG.out.big))).mono ?_
      rintro e u1 ⟨rfl, hb⟩
      replace k0 := (hb.cell (p := ⟨X, 0, none⟩) kz).trans k0
      replace k1 := (hb.cell (p := ⟨X, 1, none⟩) kz).trans k1
      replace k2 := (hb.cell (p := ⟨X, 2, none⟩) kz).trans k2
      replace kz := Nat.lt_of_lt_of_le kz hb.size
      replace HB := Lib.hid (below_via HB.out hb (by have := HB.out.size; omega) ⟨rfl, rfl, rfl, rfl⟩)
      clear hb
      refine hK.out _ _ ⟨k0, k1, k2⟩ (fun hHeld => ?_)
      clear hK K
      try simp only [Act.put, List.setIfInBounds_toArray, List.set_cons_zero, List.set_cons_succ]
      refine tk 8 ?_
      refine tk 9 ?_
      refine wpAnyH_ready (rs := [13]) (by kernel_rfl) (by simp) ?_
      refine (ac (fun K hK => ?_) AllReadyH.nil)
      go_simp
      refine (H2.out _ (by exact HG.out.keep (B := X) (by exact HB.out) (by rw [← hX]; exact HG.out.big))).mono ?_
      rintro e u2 ⟨rfl, hb⟩
      replace k0 := (hb.cell (p := ⟨X, 0, none⟩) kz).trans k0
      replace k1 := (hb.cell (p := ⟨X, 1, none⟩) kz).trans k1
      replace k2 := (hb.cell (p := ⟨X, 2, none⟩) kz).trans k2
      replace kz := Nat.lt_of_lt_of_le kz hb.size
      replace HB := Lib.hid (below_via HB.out hb (by have := HB.out.size; omega) ⟨rfl, rfl, rfl, rfl⟩)
      clear hb
      refine hK.out _ _ ⟨k0, k1, k2⟩ (fun hHeld => ?_)
      clear hK K
      try simp only [Act.put, List.setIfInBounds_toArray, List.set_cons_zero, List.set_cons_succ]
      refine tk 14 ?_
      refine tk 15 ?_
      refine wpAnyH_ready (rs := [18]) (by kernel_rfl) (by simp) ?_
      refine (ac (fun K hK => ?_) AllReadyH.nil)
      go_simp
      refine (H3.out _ (by exact HG.out.keep (B := X) (by exact HB.out) (by rw [← hX]; exact HG.out.big))).mono ?_
      rintro e u3 ⟨rfl, hb⟩
      replace k0 := (hb.cell (p := ⟨X, 0, none⟩) kz).trans k0
      replace k1 := (hb.cell (p := ⟨X, 1, none⟩) kz).trans k1
      replace k2 := (hb.cell (p := ⟨X, 2, none⟩) kz).trans k2
      replace kz := Nat.lt_of_lt_of_le kz hb.size
      replace HB := Lib.hid (below_via HB.out hb (by have := HB.out.size; omega) ⟨rfl, rfl, rfl, rfl⟩)
      clear hb
      refine hK.out _ _ ⟨k0, k1, k2⟩ (fun hHeld => ?_)
      clear hK K
      try simp only [Act.put, List.setIfInBounds_toArray, List.set_cons_zero, List.set_cons_succ]
      refine tk 19 ?_
      refine tk 20 ?_
      refine wpAnyH_done (by kernel_rfl) ?_ _
      go_wp2
      go_ret
      exact ⟨by rw [HF.out]; rfl, by rw [hX]; exact HB.out⟩
  · have hne2 : ¬ op = 2 := fun e => h23 (Or.inl e)
    have hne3 : ¬ op = 3 := fun e => h23 (Or.inr e)
    have hb2 : (op != 2) = true := by simpa using hne2
    have hb3 : (op != 3) = true := by simpa using hne3
    have HF : Hid (stepTextF ⟨op, x, y, z⟩ = nameF op) := by show _ = _; unfold stepTextF; simp only; rw [if_neg h23]
    have HN := Lib.hid (name_any op)
    clear n1 n2 n3 hg hf h23
    go_enter Tryz.func112, Tryz.ntmps112
    go_wp2_with fail
    refine (HN.out _).mono ?_
    rintro e w1 ⟨rfl, rfl⟩
    go_wp2
    go_ret
    exact ⟨by rw [HF.out]; rfl, (Below.refl _ _).alloc (Nat.le_refl _) _⟩
end Go.Proofs.YtbookbgfipbaoaaGreatDoor.Zo

/- zone.Has: the truth that is left. -/
namespace Go.Proofs.YtbookbgfipbaoaaGreatDoor.Zo
open Go.RowKit

def stepH (px py : Int) (ts : List Bool) (r : RSt) : List Bool := ts.take (ts.length - (takesF r.op).toNat) ++ [truthF r (ts.drop (ts.length - (takesF r.op).toNat)) px py]
def runH (px py : Int) (ts : List Bool) (rs : List RSt) : List Bool := rs.foldl (stepH px py) ts
theorem runH_append (px py : Int) (ts : List Bool) (a b : List RSt) : runH px py ts (a ++ b) = runH px py (runH px py ts a) b := by unfold runH; rw [List.foldl_append]
theorem runH_snoc (px py : Int) {rs : List RSt} {k : Nat} {r : RSt} (h : rs[k]? = some r) : runH px py [] (rs.take (k + 1)) = stepH px py (runH px py [] (rs.take k)) r := by
  rw [snocR h, runH_append]
  rfl
theorem step_len (px py : Int) {t u : Int} {r : RSt} {ts : List Bool} (h : stepR t r = some u) (ht : (ts.length : Int) = t) : ((stepH px py ts r).length : Int) = u ∧ fitsR r = true ∧ takesF r.op ≤ t := by
  unfold stepR at h
  by_cases hc : fitsR r = true ∧ ¬ t < takesF r.op
  · rw [if_pos hc] at h
    injection h with h
    have := takes_two r.op
    refine ⟨?_, hc.1, by omega⟩
    unfold stepH
    rw [List.length_append, List.length_take]
    simp only [List.length_singleton]
    omega
  · rw [if_neg hc] at h; cases h
theorem foldR_take {rs : List RSt} {u : Int} (h : foldR 0 rs = some u) (k : Nat) : ∃ t, foldR 0 (rs.take k) = some t := by
  rcases e : foldR 0 (rs.take k) with _ | t
  · rw [foldR_none e] at h; cases h
  · exact ⟨t, rfl⟩
theorem right_fold {rs : List RSt} (h : rightZ rs = true) : rs.length ≤ 32 ∧ foldR 0 rs = some 1 := by
  unfold rightZ at h
  simpa using h
/-- How many truths there are, half way. -/
theorem run_len (px py : Int) {rs : List RSt} (h : rightZ rs = true) : ∀ k, k ≤ rs.length → foldR 0 (rs.take k) = some (((runH px py [] (rs.take k)).length : Nat) : Int) := by
  intro k
  induction k with
  | zero => intro _; rfl
  | succ k ih =>
    intro hk
    have h1 := ih (by omega)
    have hr : rs[k]? = some rs[k] := List.getElem?_eq_getElem (by omega)
    have h2 := foldR_snoc h1 hr
    obtain ⟨t, ht⟩ := foldR_take (right_fold h).2 (k + 1)
    rw [ht] at h2
    have h3 := step_len px py h2.symm rfl
    rw [runH_snoc px py hr, ht, h3.1]
theorem run_step (px py : Int) {rs : List RSt} (h : rightZ rs = true) {k : Nat} {r : RSt} (hr : rs[k]? = some r) : fitsR r = true ∧ takesF r.op ≤ ((runH px py [] (rs.take k)).length : Int) := by
  have hk : k < rs.length := (List.getElem?_eq_some_iff.mp hr).1
  have h1 := run_len px py h k (by omega)
  have h2 := foldR_snoc h1 hr
  obtain ⟨t, ht⟩ := foldR_take (right_fold h).2 (k + 1)
  rw [ht] at h2
  exact (step_len px py h2.symm rfl).2
end Go.Proofs.YtbookbgfipbaoaaGreatDoor.Zo

/- zone.Text. -/
namespace Go.Proofs.YtbookbgfipbaoaaGreatDoor.Zo
open Go.RowKit

def cellsS (b : ByteArray) : List Value := [.string b]
theorem rowStr : RowTy cellsS 1 16 (.string ⟨#[]⟩) 23 9 := ⟨Tryz.underlying23, by kernel_rfl, rfl, by omega, by omega, fun _ => rfl, fun x u hu => by simp only [cellsS, List.mem_singleton] at hu; subst hu; rfl⟩
def textF (rs : List RSt) : ByteArray := if rightZ rs then ⟨(Lib.join ((rs.map stepTextF).map (·.data.toList)) [44]).toArray⟩ else ⟨#[]⟩
theorem join_len (sep : List UInt8) (m : Nat) : ∀ (xs : List (List UInt8)), (∀ x ∈ xs, x.length ≤ m) → (Lib.join xs sep).length ≤ xs.length * (m + sep.length)
  | [], _ => by rw [Lib.join_nil]; simp
  | x :: r, h => by
    rw [Lib.join_cons, List.length_append, List.length_cons]
    have h1 := h x (by simp)
    have h2 : (Lib.joinTail sep r).length ≤ r.length * (m + sep.length) := by
      have h3 : ∀ y ∈ r, y.length ≤ m := fun y hy => h y (by simp [hy])
      clear h h1
      induction r with
      | nil => simp [Lib.joinTail]
      | cons y r ih =>
        have h4 := ih fun z hz => h3 z (by simp [hz])
        have h5 := h3 y (by simp)
        unfold Lib.joinTail at h4 ⊢
        rw [List.map_cons, List.flatten_cons, List.length_append, List.length_append, List.length_cons, Nat.add_mul, Nat.one_mul]
        omega
    rw [Nat.add_mul, Nat.one_mul]
    omega
theorem fits_small {r : RSt} (h : fitsR r = true) : Small r.x ∧ Small r.y ∧ Small r.sz := by
  unfold fitsR at h
  split at h
  · rw [Bool.and_eq_true, whole_iff, within_iff] at h
    unfold Small
    omega
  · split at h
    · rw [Bool.and_eq_true, whole_iff, within_iff] at h
      unfold Small
      omega
    · split at h
      · simp only [Bool.and_eq_true, decide_eq_true_eq] at h
        unfold Small
        omega
      · cases h
theorem name_len (op : Int) : (nameF op).size ≤ 4 := by
  unfold nameF
  repeat (split; · decide)
  decide
theorem stepText_len {r : RSt} (h : fitsR r = true) : (stepTextF r).size ≤ 70 := by
  obtain ⟨h1, h2, h3⟩ := fits_small h
  have e1 : (itoaB r.x).size ≤ 21 := by have := h1.lt; exact Lib.itoa_length_le r.x (by omega) (by omega)
  have e2 : (itoaB r.y).size ≤ 21 := by have := h2.lt; exact Lib.itoa_length_le r.y (by omega) (by omega)
  have e3 : (itoaB r.sz).size ≤ 21 := by have := h3.lt; exact Lib.itoa_length_le r.sz (by omega) (by omega)
  have e4 := name_len r.op
  unfold stepTextF
  split
  · simp only [ByteArray.size_append, show (ByteArray.mk #[32]).size = 1 from rfl]
    omega
  · omega
/-- Half way: the words, as a row of the call's own. -/
def HalfT (rs : List RSt) (w : World) (k : Nat) (Av : Option Addr) (cv : Nat) (wr : World) : Prop := wr.ownsRow w.heap.size 9 1 (.slice Av k cv) k (rowCells cellsS ((rs.take k).map stepTextF)) ∧ Below w.heap.size w wr

set_option maxRecDepth 100000 in
set_option maxHeartbeats 4000000 in
theorem text_any (A : Option Addr) (n c : Nat) (zs : List Stp) (rs : List RSt) (B : Nat) (w : World) (hB : B ≤ w.heap.size) (hz : RowAt cellsZ 3 w B A n zs) (hl : LikeL zs rs) (hg : Glob w) :
    Calls Tryz.prog 47 #[.slice A n c] w fun e w' => e = .returned (.string (textF rs)) ∧ Below w.heap.size w w' := by
  have HR := Lib.hid (rightZ_any A n c zs rs B w hB hz hl)
  rcases hr : rightZ rs with _ | _
  · have HF : Hid (textF rs = ⟨#[]⟩) := by show _ = _; unfold textF; rw [hr]; rfl
    rw [hr] at HR
    clear hz hl hr hg
    go_enter Tryz.func47, Tryz.ntmps47
    go_wp2_with fail
    refine HR.out.mono ?_
    rintro e w1 ⟨rfl, hb⟩
    go_wp2
    go_ret
    exact ⟨by rw [HF.out]; rfl, hb⟩
  have HF : Hid (textF rs = ⟨(Lib.join ((rs.map stepTextF).map (·.data.toList)) [44]).toArray⟩) := by show _ = _; unfold textF; rw [hr]; rfl
  have HLN : Hid (rs.length = n) := hl.1.symm.trans hz.1
  have HRI := Lib.hid hr
  have hn32 : n ≤ 32 := by have := (right_fold hr).1; have := HLN.out; omega
  have hn1 : 0 < n := by
    rcases Nat.eq_zero_or_pos n with h0 | h0
    · have h1 := (right_fold hr).2
      rw [List.eq_nil_of_length_eq_zero (HLN.out.trans h0)] at h1
      cases h1
    · exact h0
  have HG := Lib.hid hg
  have HZ := Lib.hid hz
  have HL := Lib.hid hl
  rw [hr] at HR
  clear hz hl hr hg
  go_enter Tryz.func47, Tryz.ntmps47
  go_wp2_with fail
  refine HR.out.mono ?_
  rintro e w1 ⟨rfl, hb0⟩
  have HB0 := Lib.hid hb0
  clear hb0
  go_wp2
  go_loopw [3, 11] (fun v i wr => ∃ (k : Nat) (Av : Option Addr) (cv : Nat), k ≤ n ∧ i = .int .i64 k ∧ v = .slice Av k cv ∧ Hid (HalfT rs w k Av cv wr)) (fun _ i _ => n - (intOf i).toNat)
  case atStart => exact ⟨0, none, 0, by omega, rfl, rfl, rown_nil _ _, HB0.out⟩
  case round =>
    obtain ⟨k, Av, cv, hk, rfl, rfl, HC⟩ := hrel
    obtain ⟨hown, hbel⟩ := HC.out
    have HO := Lib.hid hown
    have HB := Lib.hid hbel
    clear hown hbel HC
    by_cases hlt : k < n
    · obtain ⟨blk, off, rfl, hbB, z, hzk, hcell⟩ := HZ.out.get hlt
      obtain ⟨r, hrk, hlike⟩ := HL.out.get hzk
      obtain ⟨e0, e1, e2⟩ := cellsZ_at hcell
      replace e0 := ((HB.out.mono hB).cell (p := ⟨blk, off + k * 3, none⟩) hbB).trans e0
      replace e1 := ((HB.out.mono hB).cell (p := ⟨blk, off + k * 3 + 1, none⟩) hbB).trans e1
      replace e2 := ((HB.out.mono hB).cell (p := ⟨blk, off + k * 3 + 2, none⟩) hbB).trans e2
      have hi1 : (k : Int) < n := by omega
      have hfit := (run_step 0 0 HRI.out hrk).1
      have HST := Lib.hid (stepText_any z r hlike hfit)
      have HTS : Hid ((rs.take (k + 1)).map stepTextF = (rs.take k).map stepTextF ++ [stepTextF r]) := by show _ = _; rw [snocR hrk, List.map_append]; rfl
      clear hcell hzk hrk hlike hfit
      obtain ⟨op, re, im, sz⟩ := z
      unfold stpV at HST
      simp only at e0 e1 e2 HST
      have hst := store_complex
      have hst' := store_float
      generalize stepTextF r = tx at *
      go_upto_region 7 with fail
      have k0 : (wr.alloc (.cells #[.int .i64 op, .complex .f64 re im, .float .f64 sz] 165)).cell? ⟨wr.heap.size, 0, none⟩ = some (.int .i64 op) := by simp [go_sem]
      have k1 : (wr.alloc (.cells #[.int .i64 op, .complex .f64 re im, .float .f64 sz] 165)).cell? ⟨wr.heap.size, 1, none⟩ = some (.complex .f64 re im) := by simp [go_sem]
      have k2 : (wr.alloc (.cells #[.int .i64 op, .complex .f64 re im, .float .f64 sz] 165)).cell? ⟨wr.heap.size, 2, none⟩ = some (.float .f64 sz) := by simp [go_sem]
      replace HO := Lib.hid (HO.out.alloc (.cells #[.int .i64 op, .complex .f64 re im, .float .f64 sz] 165))
      replace HB : Hid (Below w.heap.size w (wr.alloc (.cells #[.int .i64 op, .complex .f64 re im, .float .f64 sz] 165))) := HB.out.alloc HB.out.size _
      clear e0 e1 e2
      generalize (wr.alloc (.cells #[.int .i64 op, .complex .f64 re im, .float .f64 sz] 165)) = W1 at *
      generalize wr.heap.size = X at *
      go_wp2_with fail
      refine (HST.out _ (HG.out.below HB.out)).mono ?_
      rintro e w2 ⟨rfl, hb⟩
      replace HO := Lib.hid (rown_below HO.out hb)
      replace HB := Lib.hid (HB.out.trans (hb.mono HB.out.size))
      clear hb k0 k1 k2
      have hsz := HB.out.size
      have HR1 : Hid (RowAt cellsS 1 (w2.alloc (.cells #[.string tx] 9)) (w2.heap.size + 1) (some ⟨w2.heap.size, 0, none⟩) 1 [tx]) := one_row rowStr (heap_alloc_new w2 _)
      have HO1 := Lib.hid (HO.out.alloc (.cells #[.string tx] 9))
      go_wp2_with (at_builtin; refine wpList_append_row rowStr (B := w.heap.size) (v := .slice Av k cv) (n := k) (zs := (rs.take k).map stepTextF) (m := 1) (ys := [tx]) rfl _ _ rfl rfl HO1.out rfl HR1.out (by omega) (by simp; omega) ?_; intro A3 c3 w3 hown3 hg3 hat3)
      rw [← HTS.out] at hown3
      have HC3 : Hid (HalfT rs w (k + 1) A3 c3 w3) := ⟨hown3, (HB.out.alloc hsz _).grown hg3 (Nat.le_trans hsz (by simp)) (fun g e => (HO.out.lt g e).1)⟩
      clear hown3 hg3 hat3
      go_wp2
      go_roundw
      case rel => exact ⟨k + 1, A3, c3, by omega, by go_num, rfl, HC3⟩
      case measure => simp [intOf]; omega
    · obtain rfl : k = n := by omega
      have hT : rs.take k = rs := List.take_of_length_le (by have := HLN.out; omega)
      rw [hT] at HO
      have hrow := own_row rowStr HO.out
      have hcap := rown_cap HO.out
      obtain ⟨g, o, rfl, hgl, hc⟩ := hrow.2 hn1
      have hjl : (Lib.join ((rs.map stepTextF).map (·.data.toList)) [44]).length ≤ 140737488355328 := by
        have h1 := join_len [44] 70 ((rs.map stepTextF).map (·.data.toList)) (fun x hx => by
          obtain ⟨b, hb, rfl⟩ := List.mem_map.mp hx
          obtain ⟨r, hr, rfl⟩ := List.mem_map.mp hb
          obtain ⟨j, hj⟩ := List.getElem?_of_mem hr
          have := stepText_len (run_step 0 0 HRI.out hj).1
          simpa using this)
        have h2 : ((rs.map stepTextF).map (·.data.toList)).length = k := by rw [List.length_map, List.length_map]; exact HLN.out
        rw [h2] at h1
        have : k * (70 + [44].length) ≤ 32 * (70 + [44].length) := Nat.mul_le_mul_right _ hn32
        simp only [List.length_singleton] at this h1
        omega
      have HJ := Lib.hid (Tryz.strings_Join g o cv (rs.map stepTextF) ⟨#[44]⟩ wr (fun j x hx => by
        obtain ⟨hj, rfl⟩ := List.getElem?_eq_some_iff.mp hx
        have := hc j hj 0 (.string (rs.map stepTextF)[j]) rfl
        simpa using this) hgl (by rw [List.length_map, HLN.out]; omega) (by rw [List.length_map, HLN.out]; omega) hjl)
      have HLM : Hid ((rs.map stepTextF).length = k) := by show _ = _; rw [List.length_map]; exact HLN.out
      rw [HLM.out] at HJ
      clear hrow hc hT hjl
      have HF2 : Hid (textF rs = ⟨(Lib.join ((rs.map stepTextF).map (·.data.toList)) (ByteArray.mk #[44]).data.toList).toArray⟩) := HF.out
      generalize Lib.join ((rs.map stepTextF).map (·.data.toList)) (ByteArray.mk #[44]).data.toList = J at *
      go_wp2_with fail
      refine HJ.out.mono ?_
      rintro e w2 ⟨rfl, hb⟩
      have HB2 := Lib.hid (HB.out.trans (hb.mono HB.out.size))
      clear hb
      go_wp2
      go_ret
      exact ⟨by rw [HF2.out]; rfl, HB2.out⟩
end Go.Proofs.YtbookbgfipbaoaaGreatDoor.Zo
