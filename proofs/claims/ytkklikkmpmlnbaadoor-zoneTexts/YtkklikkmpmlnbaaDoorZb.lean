/- zone.Right: which steps fit, and how many truths there are. -/
import Derived.Test.YtkklikkmpmlnbaaDoorZa
import Derived.Deep.MidRow
import Derived.Deep.CutBlock
import Derived.Deep.DeepCutAuto
import Derived.Deep.RegionHeld3
namespace Go.Proofs.YtkklikkmpmlnbaaDoor
open Go.RowKit

def cellsZ (s : Stp) : List Value := [.int .i64 s.op, .complex .f64 s.re s.im, .float .f64 s.sz]
theorem cellsZ_at {w : World} {b o : Nat} {z : Stp} (h : ∀ j u, (cellsZ z)[j]? = some u → w.cell? ⟨b, o + j, none⟩ = some u) :
    w.cell? ⟨b, o, none⟩ = some (.int .i64 z.op) ∧ w.cell? ⟨b, o + 1, none⟩ = some (.complex .f64 z.re z.im) ∧ w.cell? ⟨b, o + 2, none⟩ = some (.float .f64 z.sz) :=
  ⟨h 0 _ rfl, h 1 _ rfl, h 2 _ rfl⟩
theorem store_complex (W : World) (a : Addr) (k : FloatKind) (x y : Nat) (m : Mode) : (store a (.complex k x y) m).run Tryd.prog W = stored Tryd.prog W a (.complex k x y) m := run_store _ W a _ m rfl
theorem store_float (W : World) (a : Addr) (k : FloatKind) (x : Nat) (m : Mode) : (store a (.float k x) m).run Tryd.prog W = stored Tryd.prog W a (.float k x) m := run_store _ W a _ m rfl
/-- Rows that say the same. -/
def LikeL (zs : List Stp) (rs : List RSt) : Prop := zs.length = rs.length ∧ ∀ (k : Nat) (z : Stp) (r : RSt), zs[k]? = some z → rs[k]? = some r → Like z r
theorem LikeL.get {zs : List Stp} {rs : List RSt} (h : LikeL zs rs) {k : Nat} {z : Stp} (hz : zs[k]? = some z) : ∃ r, rs[k]? = some r ∧ Like z r := by
  have hk := (List.getElem?_eq_some_iff.mp hz).1
  have hr : rs[k]? = some (rs[k]'(by have := h.1; omega)) := List.getElem?_eq_getElem _
  exact ⟨_, hr, h.2 k z _ hz hr⟩
def fitsR (r : RSt) : Bool :=
  if r.op = 2 then wholeF r.x r.y && withinF r.sz 0 2000
  else if r.op = 3 then wholeF r.x r.y && withinF r.sz (-2000000) 2000000
  else if r.op = 1 ∨ r.op = 4 ∨ r.op = 5 ∨ r.op = 6 then decide (r.x = 0) && decide (r.y = 0) && decide (r.sz = 0)
  else false
theorem num_of {n : Int} {x : Nat} (h : fl n = x) (hn : n.natAbs < 2 ^ 53) : Num x n := by rw [← h]; exact num_fl n hn

set_option maxRecDepth 100000 in
set_option maxHeartbeats 2000000 in
theorem fits_any (s : Stp) (r : RSt) (h : Like s r) (w : World) : Calls Tryd.prog 36 #[stpV s] w fun e w' => e = .returned (.bool (fitsR r)) ∧ Below w.heap.size w w' := by
  obtain ⟨op, re, im, sz⟩ := s
  obtain ⟨rop, x, y, z⟩ := r
  obtain ⟨rfl, n1, n2, n3⟩ := h
  simp only at n1 n2 n3
  have hw := whole_numB n1 n2
  have HW := Lib.hid (whole_any re im)
  rw [hw] at HW
  unfold stpV
  simp only
  by_cases h2 : op = 2
  · subst h2
    have hs := ww_numB n3 num_zero (num_of (show fl 2000 = 4656510908468559872 by decide) (by decide)) small_zero (by unfold Small; decide)
    have HS := Lib.hid (wholeWithin_any sz 0 4656510908468559872 (num_isN num_zero) (num_isN (num_of (show fl 2000 = 4656510908468559872 by decide) (by decide))))
    rw [hs] at HS
    have HF : Hid (fitsR ⟨2, x, y, z⟩ = (wholeF x y && withinF z 0 2000)) := rfl
    generalize fitsR ⟨2, x, y, z⟩ = R at *
    generalize wholeF x y = c1 at *
    generalize withinF z 0 2000 = c2 at *
    clear n1 n2 n3 hw hs
    cases c1
    · go_enter Tryd.func36, Tryd.ntmps36
      go_wp2_with (refine (HW.out _).mono ?_; rintro e w1 ⟨rfl, rfl⟩)
      go_ret
      exact ⟨ret_bool (by rw [HF.out]; rfl), (Below.refl _ _).alloc (Nat.le_refl _) _⟩
    · go_enter Tryd.func36, Tryd.ntmps36
      go_wp2_with fail
      refine (HW.out _).mono ?_; rintro e w1 ⟨rfl, rfl⟩
      go_wp2_with fail
      refine (HS.out _).mono ?_; rintro e w1 ⟨rfl, rfl⟩
      go_wp2
      go_ret
      exact ⟨ret_bool (by rw [HF.out]; rfl), (Below.refl _ _).alloc (Nat.le_refl _) _⟩
  by_cases h3 : op = 3
  · subst h3
    clear h2
    have nlo := num_of (show fl (-2000000) = 13924712783166832640 by decide) (by decide)
    have nhi := num_of (show fl 2000000 = 4701340746312056832 by decide) (by decide)
    have hs := ww_numB n3 nlo nhi (by unfold Small; decide) (by unfold Small; decide)
    have HS := Lib.hid (wholeWithin_any sz 13924712783166832640 4701340746312056832 (num_isN nlo) (num_isN nhi))
    rw [hs] at HS
    have HF : Hid (fitsR ⟨3, x, y, z⟩ = (wholeF x y && withinF z (-2000000) 2000000)) := rfl
    generalize fitsR ⟨3, x, y, z⟩ = R at *
    generalize wholeF x y = c1 at *
    generalize withinF z (-2000000) 2000000 = c2 at *
    clear n1 n2 n3 hw hs nlo nhi
    cases c1
    · go_enter Tryd.func36, Tryd.ntmps36
      go_wp2_with (refine (HW.out _).mono ?_; rintro e w1 ⟨rfl, rfl⟩)
      go_ret
      exact ⟨ret_bool (by rw [HF.out]; rfl), (Below.refl _ _).alloc (Nat.le_refl _) _⟩
    · go_enter Tryd.func36, Tryd.ntmps36
      go_wp2_with fail
      refine (HW.out _).mono ?_; rintro e w1 ⟨rfl, rfl⟩
      go_wp2_with fail
      refine (HS.out _).mono ?_; rintro e w1 ⟨rfl, rfl⟩
      go_wp2
      go_ret
      exact ⟨ret_bool (by rw [HF.out]; rfl), (Below.refl _ _).alloc (Nat.le_refl _) _⟩
  by_cases h1 : op = 1 ∨ op = 4 ∨ op = 5 ∨ op = 6
  · have e1 := eql_numB n1
    have e2 := eql_numB n2
    have e3 := eql_numB n3
    unfold eqlB at e1 e2 e3
    have HF : Hid (fitsR ⟨op, x, y, z⟩ = (decide (x = 0) && decide (y = 0) && decide (z = 0))) := by
      show _ = _
      unfold fitsR
      simp only
      rw [if_neg h2, if_neg h3, if_pos h1]
    generalize fitsR ⟨op, x, y, z⟩ = R at *
    generalize decide (x = 0) = c1 at *
    generalize decide (y = 0) = c2 at *
    generalize decide (z = 0) = c3 at *
    clear n1 n2 n3 hw h2 h3
    rcases h1 with rfl | rfl | rfl | rfl
    all_goals
      cases c1
      · go_enter Tryd.func36, Tryd.ntmps36
        go_wp2
        go_ret
        exact ⟨ret_bool (by rw [HF.out]; rfl), (Below.refl _ _).alloc (Nat.le_refl _) _⟩
      · cases c2
        · go_enter Tryd.func36, Tryd.ntmps36
          go_wp2
          go_ret
          exact ⟨ret_bool (by rw [HF.out]; rfl), (Below.refl _ _).alloc (Nat.le_refl _) _⟩
        · go_enter Tryd.func36, Tryd.ntmps36
          go_wp2
          go_ret
          exact ⟨ret_bool (by rw [HF.out]; rfl), (Below.refl _ _).alloc (Nat.le_refl _) _⟩
  · have HF : Hid (fitsR ⟨op, x, y, z⟩ = false) := by
      show _ = _
      unfold fitsR
      simp only
      rw [if_neg h2, if_neg h3, if_neg h1]
    have g1 : ¬ op = 1 := fun e => h1 (Or.inl e)
    have g4 : ¬ op = 4 := fun e => h1 (Or.inr (Or.inl e))
    have g5 : ¬ op = 5 := fun e => h1 (Or.inr (Or.inr (Or.inl e)))
    have g6 : ¬ op = 6 := fun e => h1 (Or.inr (Or.inr (Or.inr e)))
    clear n1 n2 n3 hw h1
    go_enter Tryd.func36, Tryd.ntmps36
    go_wp2
    go_ret
    exact ⟨ret_bool HF.out.symm, (Below.refl _ _).alloc (Nat.le_refl _) _⟩

def stepR (t : Int) (r : RSt) : Option Int := if fitsR r = true ∧ ¬ t < takesF r.op then some (t + (1 - takesF r.op)) else none
def foldR : Int → List RSt → Option Int
  | t, [] => some t
  | t, r :: l => (stepR t r).bind fun u => foldR u l
/-- May they be a zone? -/
def rightZ (rs : List RSt) : Bool := decide (rs.length ≤ 32) && (foldR 0 rs == some 1)
theorem foldR_append (t : Int) (a b : List RSt) : foldR t (a ++ b) = (foldR t a).bind fun u => foldR u b := by
  induction a generalizing t with
  | nil => rfl
  | cons r l ih =>
    show (stepR t r).bind _ = _
    rw [foldR]
    cases stepR t r with
    | none => rfl
    | some u => exact ih u
theorem snocR {α : Type} {zs : List α} {k : Nat} {z : α} (h : zs[k]? = some z) : zs.take (k + 1) = zs.take k ++ [z] := by
  rw [List.take_add_one, h]
  rfl
theorem foldR_snoc {rs : List RSt} {k : Nat} {t : Int} {r : RSt} (h : foldR 0 (rs.take k) = some t) (hr : rs[k]? = some r) : foldR 0 (rs.take (k + 1)) = stepR t r := by
  rw [snocR hr, foldR_append, h]
  show (stepR t r).bind _ = _
  cases stepR t r <;> rfl
theorem foldR_none {rs : List RSt} {k : Nat} (h : foldR 0 (rs.take k) = none) : foldR 0 rs = none := by
  rw [← List.take_append_drop k rs, foldR_append, h]
  rfl
theorem takes_two (op : Int) : 0 ≤ takesF op ∧ takesF op ≤ 2 := by unfold takesF; split <;> (try split) <;> omega
theorem right_none {rs : List RSt} (h : foldR 0 rs = none) : rightZ rs = false := by unfold rightZ; rw [h]; simp
theorem right_long' {rs : List RSt} (h : 32 < rs.length) : rightZ rs = false := by unfold rightZ; simp; omega
theorem right_some {rs : List RSt} {t : Int} (hl : rs.length ≤ 32) (h : foldR 0 rs = some t) : rightZ rs = decide (t = 1) := by
  unfold rightZ
  rw [h, decide_eq_true hl, Bool.true_and, Bool.eq_iff_iff]
  simp

set_option maxRecDepth 100000 in
set_option maxHeartbeats 4000000 in
theorem rightZ_any (A : Option Addr) (n c : Nat) (zs : List Stp) (rs : List RSt) (B : Nat) (w : World) (hB : B ≤ w.heap.size) (hz : RowAt cellsZ 3 w B A n zs) (hl : LikeL zs rs) :
    Calls Tryd.prog 16 #[.slice A n c] w fun e w' => e = .returned (.bool (rightZ rs)) ∧ Below w.heap.size w w' := by
  have HN : Hid (rs.length = n) := hl.1.symm.trans hz.1
  have HZ := Lib.hid hz
  have HL := Lib.hid hl
  clear hz hl
  by_cases h32 : 32 < n
  · have HF : Hid (rightZ rs = false) := right_long' (by rw [HN.out]; exact h32)
    have h32' : (32 : Int) < n := by omega
    clear h32
    go_enter Tryd.func16, Tryd.ntmps16
    go_wp2
    go_ret
    exact ⟨ret_bool HF.out.symm, Below.refl _ _⟩
  have h32' : ¬ (32 : Int) < n := by omega
  have hn : n ≤ 32 := by omega
  clear h32
  go_enter Tryd.func16, Tryd.ntmps16
  go_wp2
  go_loopw [3, 11] (fun tr i wr => ∃ (k : Nat) (t : Int), k ≤ n ∧ i = .int .i64 k ∧ tr = .int .i64 t ∧ 0 ≤ t ∧ t ≤ k ∧ Hid (foldR 0 (rs.take k) = some t) ∧ Hid (Below w.heap.size w wr)) (fun _ i _ => n - (intOf i).toNat)
  case atStart => exact ⟨0, 0, by omega, rfl, rfl, by omega, by omega, rfl, Below.refl _ _⟩
  case round =>
    obtain ⟨k, t, hk, rfl, rfl, ht0, htk, HF, HB⟩ := hrel
    by_cases hlt : k < n
    · obtain ⟨blk, off, rfl, hbB, z, hzk, hcell⟩ := HZ.out.get hlt
      obtain ⟨r, hrk, hlike⟩ := HL.out.get hzk
      obtain ⟨e0, e1, e2⟩ := cellsZ_at hcell
      replace e0 := ((HB.out.mono hB).cell (p := ⟨blk, off + k * 3, none⟩) hbB).trans e0
      replace e1 := ((HB.out.mono hB).cell (p := ⟨blk, off + k * 3 + 1, none⟩) hbB).trans e1
      replace e2 := ((HB.out.mono hB).cell (p := ⟨blk, off + k * 3 + 2, none⟩) hbB).trans e2
      have hi1 : (k : Int) < n := by omega
      have HS := Lib.hid (foldR_snoc HF.out hrk)
      have HT := Lib.hid (fits_any z r hlike)
      have hop : z.op = r.op := hlike.op
      have h2 := takes_two r.op
      unfold stepR at HS
      clear hcell hzk hrk hlike
      obtain ⟨op, re, im, sz⟩ := z
      simp only at e0 e1 e2 hop
      subst hop
      unfold stpV at HT
      simp only at HT
      have HK := Lib.hid (takes_any r.op)
      generalize r.op = op at *
      generalize fitsR r = R at *
      generalize takesF op = T at *
      have hst := store_complex
      have hst' := store_float
      go_upto_region 7 with fail
      have k0 : (wr.alloc (.cells #[.int .i64 op, .complex .f64 re im, .float .f64 sz] 54)).cell? ⟨wr.heap.size, 0, none⟩ = some (.int .i64 op) := by simp [go_sem]
      have k1 : (wr.alloc (.cells #[.int .i64 op, .complex .f64 re im, .float .f64 sz] 54)).cell? ⟨wr.heap.size, 1, none⟩ = some (.complex .f64 re im) := by simp [go_sem]
      have k2 : (wr.alloc (.cells #[.int .i64 op, .complex .f64 re im, .float .f64 sz] 54)).cell? ⟨wr.heap.size, 2, none⟩ = some (.float .f64 sz) := by simp [go_sem]
      have kz : wr.heap.size < (wr.alloc (.cells #[.int .i64 op, .complex .f64 re im, .float .f64 sz] 54)).heap.size := by simp
      replace HB : Hid (Below w.heap.size w (wr.alloc (.cells #[.int .i64 op, .complex .f64 re im, .float .f64 sz] 54))) := HB.out.alloc HB.out.size _
      clear e0 e1 e2
      generalize (wr.alloc (.cells #[.int .i64 op, .complex .f64 re im, .float .f64 sz] 54)) = W1 at *
      generalize wr.heap.size = X at *
      go_wp2_with fail
      refine (HT.out _).mono ?_
      rintro e w1 ⟨rfl, hb⟩
      replace k0 := (hb.cell (p := ⟨X, 0, none⟩) kz).trans k0
      replace HB := Lib.hid (HB.out.trans (hb.mono HB.out.size))
      clear hb k1 k2 kz
      cases R
      · have HR : Hid (rightZ rs = false) := right_none (foldR_none (by rw [HS.out]; simp))
        go_wp2
        go_ret
        exact ⟨ret_bool HR.out.symm, HB.out⟩
      · go_wp2_with fail
        refine (HK.out _).mono ?_
        rintro e w2 ⟨rfl, rfl⟩
        by_cases hlt2 : t < T
        · have HR : Hid (rightZ rs = false) := right_none (foldR_none (by rw [HS.out]; simp [hlt2]))
          go_wp2
          go_ret
          exact ⟨ret_bool HR.out.symm, HB.out⟩
        · have HR : Hid (foldR 0 (rs.take (k + 1)) = some (t + (1 - T))) := by show _ = _; rw [HS.out]; simp [hlt2]
          go_wp2_with fail
          refine (HK.out _).mono ?_
          rintro e w2 ⟨rfl, rfl⟩
          go_wp2
          go_roundw
          case rel => exact ⟨k + 1, t + (1 - T), by omega, by go_num, by go_num, by omega, by omega, HR, HB⟩
          case measure => simp [intOf]; omega
    · obtain rfl : k = n := by omega
      have HR : Hid (rightZ rs = decide (t = 1)) := right_some (by have := HN.out; omega) (by rw [← HF.out, List.take_of_length_le (by have := HN.out; omega)])
      go_wp2
      go_ret
      exact ⟨ret_bool HR.out.symm, HB.out⟩
end Go.Proofs.YtkklikkmpmlnbaaDoor
