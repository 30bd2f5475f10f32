/- zone.Parse. -/
import Derived.Test.YtkklikkmpmlnbaaDoorZh
import Derived.Lib.SplitLaws
namespace Go.Proofs.YtkklikkmpmlnbaaDoor
open Go.RowKit

def zeroZ : Value := .agg #[.int .i64 0, .complex .f64 0 0, .float .f64 0]
theorem cellsZ_one (x : Stp) : ∀ u ∈ cellsZ x, u.oneCell' = true := by
  intro u hu
  simp only [cellsZ, List.mem_cons, List.not_mem_nil, or_false] at hu
  rcases hu with rfl | rfl | rfl <;> rfl
theorem rowZ : RowTy cellsZ 3 32 zeroZ 26 54 := ⟨Tryd.underlying26, by kernel_rfl, rfl, by omega, by omega, fun _ => rfl, cellsZ_one⟩
/-- What stands between the bytes of a kind. -/
def pieces (sep s : ByteArray) : List ByteArray := Lib.splitB sep 0 (Lib.countB s sep) s
theorem pieces_len (sep s : ByteArray) (h : 1 ≤ sep.size) : (pieces sep s).length = Lib.countB s sep + 1 := Lib.splitB_all sep h 0 _ s rfl
theorem split_size (sep : ByteArray) : ∀ (k : Nat) (s x : ByteArray), x ∈ Lib.splitB sep 0 k s → x.size ≤ s.size
  | 0, s, x, h => by
    rw [Lib.splitB_zero] at h
    rw [List.mem_singleton.mp h]
    exact Nat.le_refl _
  | k + 1, s, x, h => by
    unfold Lib.splitB at h
    split at h
    · rw [List.mem_singleton.mp h]
      exact Nat.le_refl _
    · rcases List.mem_cons.mp h with rfl | h
      · rw [ByteArray.size_extract]; omega
      · have := split_size sep k _ x h
        rw [ByteArray.size_extract] at this
        omega
theorem pieces_size {sep s x : ByteArray} (h : x ∈ pieces sep s) : x.size ≤ s.size := split_size sep _ s x h
theorem split_any (s sep : ByteArray) (w : World) (hg : Glob w) (hs : s.size < 4294967281) (h1 : 1 ≤ sep.size) :
    Calls Tryd.prog 31 #[.string s, .string sep] w fun e w' => e = .returned (.slice (some ⟨w.heap.size, 0, none⟩) (pieces sep s).length (pieces sep s).length) ∧ RowAt cellsS 1 w' w'.heap.size (some ⟨w.heap.size, 0, none⟩) (pieces sep s).length (pieces sep s) ∧ Below w.heap.size w w' := by
  obtain ⟨m, hm⟩ := hg.max
  refine (Tryd.strings_Split s sep m w hs hm h1).mono fun e w' h => ?_
  obtain ⟨rfl, rfl⟩ := h
  rw [pieces_len sep s h1]
  refine ⟨rfl, ⟨pieces_len sep s h1, fun _ => ⟨_, _, rfl, by simp, fun k hk j u hu => ?_⟩⟩, (Below.refl _ _).alloc (Nat.le_refl _) _⟩
  have hj : j = 0 := by
    have := (List.getElem?_eq_some_iff.mp hu).1
    simp only [cellsS, List.length_singleton] at this
    omega
  subst hj
  have hu' : u = .string (pieces sep s)[k] := by
    simp only [cellsS, List.getElem?_cons_zero, Option.some.injEq] at hu
    exact hu.symm
  have h3 := cell_of_row (w.alloc (.cells ((Lib.splitB sep 0 (Lib.countB s sep) s).map Value.string).toArray 9)) w.heap.size k _ _ _ (heap_alloc_new w _)
  rw [show 0 + k * 1 + 0 = k by omega, h3, hu']
  show (((pieces sep s).map Value.string).toArray)[k]? = _
  simp [hk]
def parseP (s : ByteArray) : List Stp := (pieces ⟨#[44]⟩ s).map fun p => stepP (pieces ⟨#[32]⟩ p)
def parseQ (s : ByteArray) : List RSt := (pieces ⟨#[44]⟩ s).map fun p => stepQ (pieces ⟨#[32]⟩ p)
theorem parse_like (s : ByteArray) : LikeL (parseP s) (parseQ s) := by
  refine ⟨by unfold parseP parseQ; rw [List.length_map, List.length_map], fun k z r hz hr => ?_⟩
  unfold parseP at hz
  unfold parseQ at hr
  rw [List.getElem?_map] at hz hr
  rcases h : (pieces ⟨#[44]⟩ s)[k]? with _ | p
  · rw [h] at hz; cases hz
  · rw [h] at hz hr
    simp only [Option.map_some, Option.some.injEq] at hz hr
    subst hz hr
    exact step_like _
/-- What Parse answers: steps that say what the text says, or none. -/
def ParseRet (s : ByteArray) (w : World) (e : Ending) (w' : World) : Prop :=
  ∃ A n c zs, e = .returned (.tuple #[.slice A n c, .bool (rightZ (parseQ s))]) ∧ RowAt cellsZ 3 w' w'.heap.size A n zs ∧ LikeL zs (if rightZ (parseQ s) then parseQ s else []) ∧ Below w.heap.size w w'
def HalfP (s : ByteArray) (w : World) (k : Nat) (Av : Option Addr) (cv : Nat) (wr : World) : Prop := wr.ownsRow w.heap.size 54 3 (.slice Av k cv) k (rowCells cellsZ ((parseP s).take k)) ∧ Below w.heap.size w wr

set_option maxRecDepth 100000 in
set_option maxHeartbeats 4000000 in
theorem parse_any (s : ByteArray) (w : World) (hg : Glob w) (hs : s.size < 4294967281) : Calls Tryd.prog 13 #[.string s] w (ParseRet s w) := by
  have HG := Lib.hid hg
  have HS := Lib.hid (split_any s ⟨#[44]⟩ w hg hs (by decide))
  have HL := Lib.hid (parse_like s)
  have HPL : Hid ((parseP s).length = (pieces ⟨#[44]⟩ s).length) := by show _ = _; unfold parseP; rw [List.length_map]
  have HPG : Hid (∀ k p, (pieces ⟨#[44]⟩ s)[k]? = some p → (parseP s)[k]? = some (stepP (pieces ⟨#[32]⟩ p)) ∧ p.size < 4294967281) := fun k p hp => ⟨by unfold parseP; rw [List.getElem?_map, hp]; rfl, Nat.lt_of_le_of_lt (pieces_size (List.mem_of_getElem? hp)) hs⟩
  have hn : (pieces ⟨#[44]⟩ s).length ≤ 4294967282 := by
    rw [pieces_len _ _ (by decide)]
    have := Lib.countB_le ⟨#[44]⟩ (by decide) s.size s (Nat.le_refl _)
    omega
  generalize hps : pieces ⟨#[44]⟩ s = ps at *
  clear hg hs hps
  go_enter Tryd.func13, Tryd.ntmps13
  go_wp2_with fail
  refine HS.out.mono ?_
  rintro e w1 ⟨rfl, hrow, hb0⟩
  have HR := Lib.hid hrow
  have HB1 := Lib.hid hb0
  have HG1 := Lib.hid (HG.out.below hb0)
  clear hrow hb0 HS
  generalize hn' : ps.length = n at *
  generalize hX : w.heap.size = X at *
  go_wp2
  go_loopw [4, 10] (fun v i wr => ∃ (k : Nat) (Av : Option Addr) (cv : Nat), k ≤ n ∧ i = .int .i64 k ∧ v = .slice Av k cv ∧ Hid (HalfP s w1 k Av cv wr)) (fun _ i _ => n - (intOf i).toNat)
  case atStart => exact ⟨0, none, 0, by omega, rfl, rfl, rown_nil _ _, Below.refl _ _⟩
  case round =>
    obtain ⟨k, Av, cv, hk, rfl, rfl, HC⟩ := hrel
    obtain ⟨hown, hbel⟩ := HC.out
    have HO := Lib.hid hown
    have HB := Lib.hid hbel
    clear hown hbel HC
    by_cases hlt : k < n
    · obtain ⟨p, hp⟩ : ∃ p, ps[k]? = some p := ⟨_, List.getElem?_eq_getElem (by omega)⟩
      obtain ⟨b', o', e', hbl, c0⟩ := text_at HR.out hp
      obtain ⟨rfl, rfl⟩ : X = b' ∧ 0 = o' := by injection e' with e'; injection e' with e1 e2; exact ⟨e1, e2⟩
      replace c0 := (HB.out.cell (p := ⟨X, 0 + k, none⟩) hbl).trans c0
      rw [Nat.zero_add] at c0
      have hi1 : (k : Int) < n := by omega
      obtain ⟨hz, hpz⟩ := HPG.out k p hp
      have HTS := Lib.hid (snocR hz)
      have HGr := Lib.hid (HG1.out.below HB.out)
      have HSP := Lib.hid (split_any p ⟨#[32]⟩ wr HGr.out hpz (by decide))
      have HPS := Lib.hid (fun (w2 : World) (hb : Below wr.heap.size wr w2) (hr : RowAt cellsS 1 w2 w2.heap.size (some ⟨wr.heap.size, 0, none⟩) (pieces ⟨#[32]⟩ p).length (pieces ⟨#[32]⟩ p)) => parseStep_any wr.heap.size 0 (pieces ⟨#[32]⟩ p).length (pieces ⟨#[32]⟩ p) w2.heap.size w2 (Nat.le_refl _) hr (by rw [pieces_len _ _ (by decide)]; omega) (fun x hx => by have := pieces_size hx; omega) (HGr.out.below hb))
      generalize hzz : stepP (pieces ⟨#[32]⟩ p) = z at *
      generalize pieces ⟨#[32]⟩ p = qs at *
      generalize hql : qs.length = q at *
      clear hp hz hpz e' hql hzz
      obtain ⟨op, re, im, sz⟩ := z
      unfold stpV at HPS
      simp only at HPS
      go_wp2_with fail
      refine HSP.out.mono ?_
      rintro e w2 ⟨rfl, hr2, hb2⟩
      have HPS2 := Lib.hid (HPS.out w2 hb2 hr2)
      replace HO := Lib.hid (rown_below HO.out hb2)
      replace HB := Lib.hid (HB.out.trans (hb2.mono HB.out.size))
      clear hr2 hb2 HSP c0
      go_wp2_with fail
      refine HPS2.out.mono ?_
      rintro e w3 ⟨rfl, hb3⟩
      replace HO := Lib.hid (rown_below HO.out hb3)
      replace HB := Lib.hid (HB.out.trans (hb3.mono HB.out.size))
      clear hb3
      have hsz := HB.out.size
      have HR1 : Hid (RowAt cellsZ 3 (w3.alloc (.cells #[.int .i64 op, .complex .f64 re im, .float .f64 sz] 54)) (w3.heap.size + 1) (some ⟨w3.heap.size, 0, none⟩) 1 [⟨op, re, im, sz⟩]) := one_row rowZ (heap_alloc_new w3 _)
      have HO1 := Lib.hid (HO.out.alloc (.cells #[.int .i64 op, .complex .f64 re im, .float .f64 sz] 54))
      go_wp2_with (at_builtin; refine wpList_append_row rowZ (B := w1.heap.size) (v := .slice Av k cv) (n := k) (zs := (parseP s).take k) (m := 1) (ys := [⟨op, re, im, sz⟩]) rfl _ _ rfl rfl HO1.out rfl HR1.out (by omega) (by simp; omega) ?_; intro A3 c3 w4 hown3 hg3 hat3)
      rw [← HTS.out] at hown3
      have HC3 : Hid (HalfP s w1 (k + 1) A3 c3 w4) := ⟨hown3, (HB.out.alloc hsz _).grown hg3 (Nat.le_trans hsz (by simp)) (fun g e => (HO.out.lt g e).1)⟩
      clear hown3 hg3 hat3
      go_wp2
      go_roundw
      case rel => exact ⟨k + 1, A3, c3, by omega, by go_num, rfl, HC3⟩
      case measure => simp [intOf]; omega
    · obtain rfl : k = n := by omega
      have hT : (parseP s).take k = parseP s := List.take_of_length_le (by have := HPL.out; omega)
      rw [hT] at HO
      have HROW := Lib.hid (own_row rowZ HO.out)
      have HRZ := Lib.hid (rightZ_any Av k cv (parseP s) (parseQ s) wr.heap.size wr (Nat.le_refl _) HROW.out HL.out)
      have HFR : Hid (ParseRet s w = fun e w' => ∃ A n c zs, e = .returned (.tuple #[.slice A n c, .bool (rightZ (parseQ s))]) ∧ RowAt cellsZ 3 w' w'.heap.size A n zs ∧ LikeL zs (if rightZ (parseQ s) then parseQ s else []) ∧ Below w.heap.size w w') := rfl
      generalize ParseRet s w = PR at *
      have HBB : Hid (Below w.heap.size w wr) := by show Below w.heap.size w wr; rw [hX]; exact HB1.out.trans (HB.out.mono (by have := HB1.out.size; omega))
      generalize hrz : rightZ (parseQ s) = R at *
      clear hT
      cases R
      · go_wp2_with fail
        refine HRZ.out.mono ?_
        rintro e w5 ⟨rfl, hb5⟩
        go_wp2
        rw [HFR.out]
        exact ⟨none, 0, 0, [], rfl, RowAt.nil, ⟨rfl, fun k z r h => by simp at h⟩, HBB.out.trans (hb5.mono HBB.out.size)⟩
      · go_wp2_with fail
        refine HRZ.out.mono ?_
        rintro e w5 ⟨rfl, hb5⟩
        go_wp2
        rw [HFR.out]
        exact ⟨Av, k, cv, parseP s, rfl, (HROW.out.keep hb5).more hb5.size, HL.out, HBB.out.trans (hb5.mono HBB.out.size)⟩
end Go.Proofs.YtkklikkmpmlnbaaDoor
