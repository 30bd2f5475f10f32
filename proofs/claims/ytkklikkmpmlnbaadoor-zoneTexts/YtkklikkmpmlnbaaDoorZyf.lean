/- The law ZoneTexts. -/
import Derived.Test.YtkklikkmpmlnbaaDoorZye
import Derived.Test.YtkklikkmpmlnbaaDoorZt
namespace Go.Proofs.YtkklikkmpmlnbaaDoor
open Go.RowKit

theorem splitL_ne (c : UInt8) (l : List UInt8) : splitL c l ≠ [] := by
  cases l with
  | nil => unfold splitL; simp
  | cons b r =>
    unfold splitL
    split
    · simp
    · split <;> simp
theorem join_splitL (c : UInt8) : ∀ l : List UInt8, Lib.join (splitL c l) [c] = l
  | [] => by show Lib.join [[]] [c] = []; rw [Lib.join_one]
  | b :: r => by
    have ih := join_splitL c r
    have hne := splitL_ne c r
    have e : splitL c (b :: r) = if b = c then [] :: splitL c r else match splitL c r with
      | [] => [[b]]
      | y :: l => (b :: y) :: l := rfl
    rw [e]
    cases hs : splitL c r with
    | nil => exact absurd hs hne
    | cons x l =>
      rw [hs] at ih
      by_cases hb : b = c
      · rw [if_pos hb]
        have e2 : Lib.join ([] :: x :: l) [c] = c :: Lib.join (x :: l) [c] := by
          rw [Lib.join_cons, Lib.join_cons]
          rfl
        rw [e2, ih, hb]
      · rw [if_neg hb]
        show Lib.join ((b :: x) :: l) [c] = _
        rw [Lib.join_cons] at ih ⊢
        rw [List.cons_append, ih]
theorem pieces_list (c : UInt8) (s : ByteArray) : (pieces ⟨#[c]⟩ s).map (·.data.toList) = splitL c s.data.toList := by
  have h3 := pieces_split c _ s.data.toList (Nat.le_refl _)
  rw [ofL_list] at h3
  rw [h3, List.map_map]
  have e : ((fun x : ByteArray => x.data.toList) ∘ ofL) = id := by funext x; rfl
  rw [e, List.map_id]
theorem pieces_back (c : UInt8) (s : ByteArray) : ofL (Lib.join ((pieces ⟨#[c]⟩ s).map (·.data.toList)) [c]) = s := by
  rw [pieces_list, join_splitL, ofL_list]
theorem numF_back {s : ByteArray} {n : Int} (h : numF s = some n) : itoaB n = s := by
  unfold numF at h
  cases e : Lib.atoiAll s.data.toList with
  | ok u =>
    rw [e] at h
    simp only at h
    split at h
    · rename_i hq
      injection h with h
      subst h
      exact (eqW_iff _ _).mp hq
    · cases h
  | range => rw [e] at h; cases h
  | _ => rw [e] at h; cases h
theorem zero_op {r : RSt} (h : fitsR r = true) : r ≠ zeroQ := fun e => by rw [e] at h; exact absurd h (by decide)
theorem step_back {p : ByteArray} (h : fitsR (stepQ (pieces ⟨#[32]⟩ p)) = true) : stepTextF (stepQ (pieces ⟨#[32]⟩ p)) = p := by
  have hb := pieces_back 32 p
  have hl := pieces_len ⟨#[32]⟩ p (by decide)
  generalize pieces ⟨#[32]⟩ p = ws at *
  cases ws with
  | nil => simp at hl
  | cons a ws =>
    obtain ⟨o, ho, ho6, hn⟩ := opF_nat a
    have hz := zero_op h
    unfold stepQ at h hz ⊢
    simp only [List.getD_cons_zero] at h hz ⊢
    rw [ho] at h hz ⊢
    by_cases h23 : (o : Int) = 2 ∨ (o : Int) = 3
    · rw [if_pos h23] at h hz ⊢
      by_cases h4 : (a :: ws).length = 4
      · rw [if_pos h4] at h hz ⊢
        obtain ⟨w1, w2, w3, rfl⟩ : ∃ x y z, ws = [x, y, z] := by
          match ws, h4 with
          | [x, y, z], _ => exact ⟨x, y, z, rfl⟩
        simp only [List.getD_cons_succ, List.getD_cons_zero] at h hz ⊢
        unfold numbersQ at hz ⊢
        cases h1 : numF w1 with
        | none => rw [h1] at hz; exact absurd rfl hz
        | some x =>
          cases h2 : numF w2 with
          | none => rw [h1, h2] at hz; exact absurd rfl hz
          | some y =>
            cases h3 : numF w3 with
            | none => rw [h1, h2, h3] at hz; exact absurd rfl hz
            | some z =>
              simp only
              rw [stepText_words]
              unfold wordsF
              simp only
              rw [if_pos h23, hn (by omega)]
              rw [← itoaB_list x, ← itoaB_list y, ← itoaB_list z, numF_back h1, numF_back h2, numF_back h3]
              exact hb
      · rw [if_neg h4] at hz; exact absurd rfl hz
    · rw [if_neg h23] at h hz ⊢
      by_cases h1 : (a :: ws).length = 1
      · rw [if_pos h1] at h hz ⊢
        obtain rfl : ws = [] := List.eq_nil_of_length_eq_zero (by simpa using h1)
        have h0 := (fits_near h).1
        simp only at h0
        rw [stepText_words]
        unfold wordsF
        simp only
        rw [if_neg h23, hn (by omega)]
        exact hb
      · rw [if_neg h1] at hz; exact absurd rfl hz
/-- What is parsed has just this text. -/
theorem text_back {s : ByteArray} (h : rightZ (parseQ s) = true) : textF (parseQ s) = s := by
  have hf : ∀ p ∈ pieces ⟨#[44]⟩ s, fitsR (stepQ (pieces ⟨#[32]⟩ p)) = true := fun p hp => by
    obtain ⟨k, hk⟩ := List.getElem?_of_mem hp
    exact (run_step 0 0 h (parse_get hk)).1
  have e : (parseQ s).map stepTextF = pieces ⟨#[44]⟩ s := by
    unfold parseQ
    rw [List.map_map]
    generalize pieces ⟨#[44]⟩ s = ps at *
    clear h
    induction ps with
    | nil => rfl
    | cons p l ih =>
      rw [List.map_cons, ih fun q hq => hf q (by simp [hq])]
      congr 1
      exact step_back (hf p (by simp))
  unfold textF
  rw [if_pos h, e]
  exact pieces_back 44 s
set_option maxRecDepth 100000 in
set_option maxHeartbeats 4000000 in
theorem zoneTexts_walk (s : ByteArray) (w : World) (hg : Glob w) :
    Calls Tryd.prog 6 #[.string s] w fun e w' => e = .returned (.bool true) ∧ Below w.heap.size w w' := by
  have HG := Lib.hid hg
  clear hg
  by_cases hs : 2000 < s.size
  · have q1 : (2000 : Int) < s.size := by omega
    clear hs
    go_enter Tryd.func6, Tryd.ntmps6
    go_wp2_with fail
    refine (told_any _ HG.out).mono ?_
    rintro e w2 ⟨rfl, hb⟩
    go_wp2
    go_ret
    exact ⟨rfl, hb⟩
  have q1 : ¬ ((2000 : Int) < s.size) := by omega
  have hs4 : s.size < 4294967281 := by omega
  have hs6 : s.size ≤ 1000000 := by omega
  have HPA := Lib.hid (fun (u : World) (g : Glob u) => parse_any s u g hs4)
  have HRP := Lib.hid (fun (u : World) => rparse_any s u hs6)
  unfold ParseRet at HPA
  unfold RParseRet at HRP
  have HBG := Lib.hid HG.out.big
  have heq : (s.toList == s.toList) = true := by simp
  have HTB : Hid (rightZ (parseQ s) = true → textF (parseQ s) = s) := text_back
  have HRS : Hid (rightZ (parseQ s) = true → ∀ r ∈ parseQ s, SmallR r) := right_small'
  have HRL : Hid (rightZ (parseQ s) = true → (parseQ s).length ≤ 32) := fun h => (right_pos h).1
  clear hs hs4 hs6
  rcases hr : rightZ (parseQ s) with _ | _
  · have hT : True := trivial
    rw [hr] at HPA HRP HTB HRS HRL
    simp only [Bool.false_eq_true, if_false] at HPA HRP
    have HS : Hid (∀ r ∈ ([] : List RSt), SmallR r) := fun r h => by simp at h
    clear HTB HRS HRL hr
    have HB : Hid (Below w.heap.size w w) := Below.refl _ _
    go_enter Tryd.func6, Tryd.ntmps6
    go_wp2_with fail
    refine (HPA.out _ (HG.out.keep HB.out HBG.out)).mono ?_
    rintro e u1 ⟨A1, n1, c1, zs, rfl, hr, hl, hb⟩
    have HX := Lib.hid hr
    have HXL := Lib.hid hl
    clear hr hl
    replace HB := Lib.hid (HB.out.trans (hb.mono HB.out.size))
    clear hb
    go_wp2_with fail
    refine (HRP.out _).mono ?_
    rintro e u2 ⟨A2, n2, c2, qs, rfl, hr, hqs, hb⟩
    subst hqs
    have HM := Lib.hid hr
    clear hr
    replace HX := Lib.hid ((HX.out.keep hb).more hb.size)
    replace HB := Lib.hid (HB.out.trans (hb.mono HB.out.size))
    clear hb
    have hn1 : n1 ≤ 32 := by have h1 := HXL.out.1; have h2 := HX.out.1; simp at h1; rw [h1] at h2; simp at h2; omega
    have HLQ : Hid (([] : List RSt).length = n1) := by have h1 := HXL.out.1; have h2 := HX.out.1; show _ = _; omega
    go_wp2_with fail
    refine (told_any _ (HG.out.keep HB.out HBG.out)).mono ?_
    rintro e u3 ⟨rfl, hb⟩
    replace HX := Lib.hid ((HX.out.keep hb).more hb.size)
    replace HM := Lib.hid ((HM.out.keep hb).more hb.size)
    replace HB := Lib.hid (HB.out.trans (hb.mono HB.out.size))
    clear hb
    go_wp2_with fail
    refine (calledR (m := n1) HLQ.out (from_any A1 n1 c1 zs ([]) _ _ (Nat.le_refl _) HX.out HXL.out HS.out (by omega))).mono ?_
    rintro e u4 ⟨A4, c4, rfl, hr, hb⟩
    have HF := Lib.hid hr
    clear hr
    replace HX := Lib.hid ((HX.out.keep hb).more hb.size)
    replace HM := Lib.hid ((HM.out.keep hb).more hb.size)
    replace HB := Lib.hid (HB.out.trans (hb.mono HB.out.size))
    clear hb
    have HSR := Lib.hid (rsame_any A4 n1 c4 ([]) A2 n2 c2 ([]) _ _ HF.out HM.out (by omega))
    rw [decide_eq_true (rfl : ([] : List RSt) = [])] at HSR
    go_wp2_with fail
    refine HSR.out.mono ?_
    rintro e v6 ⟨rfl, qd, rfl⟩
    replace HX : Hid (RowAt cellsZ 3 (u4.drewN qd) (u4.drewN qd).heap.size A1 n1 zs) := HX.out
    replace HB := Lib.hid (below_dN HB.out qd)
    clear HSR HF HM
    generalize u4.drewN qd = u5 at *
    go_wp2
    go_ret
    exact ⟨rfl, HB.out⟩
  · have hT : True := trivial
    rw [hr] at HPA HRP HTB HRS HRL
    simp only [if_true] at HPA HRP
    have HT := Lib.hid (HTB.out rfl)
    have HS := Lib.hid (HRS.out rfl)
    have hl32 := HRL.out rfl
    have HRI := Lib.hid hr
    clear HTB HRS HRL hr
    generalize parseQ s = Q at *
    have HB : Hid (Below w.heap.size w w) := Below.refl _ _
    go_enter Tryd.func6, Tryd.ntmps6
    go_wp2_with fail
    refine (HPA.out _ (HG.out.keep HB.out HBG.out)).mono ?_
    rintro e u1 ⟨A1, n1, c1, zs, rfl, hr, hl, hb⟩
    have HX := Lib.hid hr
    have HXL := Lib.hid hl
    clear hr hl
    replace HB := Lib.hid (HB.out.trans (hb.mono HB.out.size))
    clear hb
    go_wp2_with fail
    refine (HRP.out _).mono ?_
    rintro e u2 ⟨A2, n2, c2, qs, rfl, hr, hqs, hb⟩
    have hq2 := hqs.symm
    clear hqs
    subst hq2
    have HM := Lib.hid hr
    clear hr
    replace HX := Lib.hid ((HX.out.keep hb).more hb.size)
    replace HB := Lib.hid (HB.out.trans (hb.mono HB.out.size))
    clear hb
    have hn1 : n1 ≤ 32 := by have h1 := HXL.out.1; have h2 := HX.out.1; omega
    have HLQ : Hid ((Q : List RSt).length = n1) := by have h1 := HXL.out.1; have h2 := HX.out.1; show _ = _; omega
    go_wp2_with fail
    refine (told_any _ (HG.out.keep HB.out HBG.out)).mono ?_
    rintro e u3 ⟨rfl, hb⟩
    replace HX := Lib.hid ((HX.out.keep hb).more hb.size)
    replace HM := Lib.hid ((HM.out.keep hb).more hb.size)
    replace HB := Lib.hid (HB.out.trans (hb.mono HB.out.size))
    clear hb
    go_wp2_with fail
    refine (calledR (m := n1) HLQ.out (from_any A1 n1 c1 zs (Q) _ _ (Nat.le_refl _) HX.out HXL.out HS.out (by omega))).mono ?_
    rintro e u4 ⟨A4, c4, rfl, hr, hb⟩
    have HF := Lib.hid hr
    clear hr
    replace HX := Lib.hid ((HX.out.keep hb).more hb.size)
    replace HM := Lib.hid ((HM.out.keep hb).more hb.size)
    replace HB := Lib.hid (HB.out.trans (hb.mono HB.out.size))
    clear hb
    have HSR := Lib.hid (rsame_any A4 n1 c4 (Q) A2 n2 c2 (Q) _ _ HF.out HM.out (by omega))
    rw [decide_eq_true (rfl : (Q : List RSt) = Q)] at HSR
    go_wp2_with fail
    refine HSR.out.mono ?_
    rintro e v6 ⟨rfl, qd, rfl⟩
    replace HX : Hid (RowAt cellsZ 3 (u4.drewN qd) (u4.drewN qd).heap.size A1 n1 zs) := HX.out
    replace HB := Lib.hid (below_dN HB.out qd)
    clear HSR HF HM
    generalize u4.drewN qd = u5 at *
    have HTA := Lib.hid (text_any A1 n1 c1 zs Q u5.heap.size u5 (Nat.le_refl _) HX.out HXL.out (HG.out.keep HB.out HBG.out))
    rw [HT.out] at HTA
    go_wp2_with fail
    refine (HTA.out).mono ?_
    rintro e u6 ⟨rfl, hb⟩
    clear HTA
    replace HX := Lib.hid ((HX.out.keep hb).more hb.size)
    replace HB := Lib.hid (HB.out.trans (hb.mono HB.out.size))
    clear hb
    have HRZ := Lib.hid (rightZ_any A1 n1 c1 zs Q u6.heap.size u6 (Nat.le_refl _) HX.out HXL.out)
    rw [HRI.out] at HRZ
    go_wp2_with fail
    refine (HRZ.out).mono ?_
    rintro e u7 ⟨rfl, hb⟩
    clear HRZ
    replace HX := Lib.hid ((HX.out.keep hb).more hb.size)
    replace HB := Lib.hid (HB.out.trans (hb.mono HB.out.size))
    clear hb
    go_wp2
    go_ret
    exact ⟨rfl, HB.out⟩
end Go.Proofs.YtkklikkmpmlnbaaDoor
