/- What is taken of bytes, put again, is the bytes. -/
import Derived.Test.YtophhjknbanafaaKc
namespace Go.Proofs.Ytophhjknbanafaa
open Go.RowKit

theorem num_back {st : Rd} {most n : Int} {r : Rd} (h : numF st most = (n, r)) (h0 : r.2 = 0) : st.2 = 0 ∧ 0 ≤ n ∧ st.1 = digitsF n.toNat ++ r.1 := by
  unfold numF at h
  by_cases hb : st.2 ≠ 0
  · rw [if_pos hb] at h
    simp only [Prod.mk.injEq] at h
    rw [← h.2] at h0
    exact absurd h0 hb
  · rw [if_neg hb] at h
    have hb0 : st.2 = 0 := by omega
    rcases hf : firstF st.1 0 0 with ⟨m, k, e⟩
    rw [hf] at h
    simp only at h
    by_cases he : e ≠ 0
    · rw [if_pos he] at h
      simp only [Prod.mk.injEq] at h
      rw [← h.2] at h0
      exact absurd h0 he
    · rw [if_neg he] at h
      have he0 : e = 0 := by omega
      subst he0
      by_cases hm : most < (m : Int)
      · rw [if_pos hm] at h
        simp only [Prod.mk.injEq] at h
        rw [← h.2] at h0
        exact absurd h0 (by simp)
      · rw [if_neg hm] at h
        simp only [Prod.mk.injEq] at h
        obtain ⟨rfl, rfl⟩ := h
        obtain ⟨m', h1, h2, h3, h4, _⟩ := first_back st.1 0 0 m k hf
        have hm' : m = m' := by simpa using h1
        subst hm'
        have hk : k = (digitsF m).length := by omega
        subst hk
        refine ⟨hb0, by omega, ?_⟩
        simp only [Int.toNat_natCast]
        conv => lhs; rw [← List.take_append_drop (digitsF m).length st.1]
        rw [h3]
theorem text_back {st : Rd} {most : Int} {t : List UInt8} {r : Rd} (h : textF st most = (t, r)) (h0 : r.2 = 0) : st.2 = 0 ∧ st.1 = digitsF t.length ++ (t ++ r.1) := by
  unfold textF at h
  rcases hn : numF st most with ⟨n, r'⟩
  rw [hn] at h
  simp only at h
  by_cases hb : r'.2 ≠ 0
  · rw [if_pos hb] at h
    simp only [Prod.mk.injEq] at h
    rw [← h.2] at h0
    exact absurd h0 hb
  · rw [if_neg hb] at h
    by_cases hl : (r'.1.length : Int) < n
    · rw [if_pos hl] at h
      simp only [Prod.mk.injEq] at h
      rw [← h.2] at h0
      exact absurd h0 (by simp)
    · rw [if_neg hl] at h
      simp only [Prod.mk.injEq] at h
      obtain ⟨rfl, rfl⟩ := h
      obtain ⟨h1, h2, h3⟩ := num_back hn (by omega)
      refine ⟨h1, ?_⟩
      have hlen : (r'.1.take n.toNat).length = n.toNat := by rw [List.length_take]; omega
      rw [hlen, List.take_append_drop]
      exact h3
theorem tk1_eta (st : Rd) : numF st 31 = ((tk1 st).1, (tk1 st).2) := by unfold tk1; generalize numF st 31 = x; rfl
theorem tk2_eta (st : Rd) : textF (tk1 st).2 6 = ((tk2 st).1, (tk2 st).2) := by unfold tk2; generalize textF (tk1 st).2 6 = x; rfl
theorem tk3_eta (st : Rd) : numF (tk2 st).2 1048576 = ((tk3 st).1, (tk3 st).2) := by unfold tk3; generalize numF (tk2 st).2 1048576 = x; rfl
theorem tk4_eta (st : Rd) : numF (tk3 st).2 1048576 = ((tk4 st).1, (tk4 st).2) := by unfold tk4; generalize numF (tk3 st).2 1048576 = x; rfl
theorem tk5_eta (st : Rd) : numF (tk4 st).2 2 = ((tk5 st).1, (tk5 st).2) := by unfold tk5; generalize numF (tk4 st).2 2 = x; rfl
theorem tk6_eta (st : Rd) : numF (tk5 st).2 2000 = ((tk6 st).1, (tk6 st).2) := by unfold tk6; generalize numF (tk5 st).2 2000 = x; rfl
theorem tk7_eta (st : Rd) : numF (tk6 st).2 2000 = ((tk7 st).1, (tk7 st).2) := by unfold tk7; generalize numF (tk6 st).2 2000 = x; rfl
theorem tk8_eta (st : Rd) : textF (tkS st) 16 = ((tk8 st).1, (tk8 st).2) := by unfold tk8; generalize textF (tkS st) 16 = x; rfl
theorem raw_dead (st : Rd) : (rawI st).dead = decide ((tk5 st).1 = 0) := rfl
theorem raw_held (st : Rd) : (rawI st).held = decide ((tk5 st).1 = 2) := rfl
theorem raw_x (st : Rd) : (rawI st).x = if (tk5 st).1 ≠ 0 then (tk6 st).1 - 1000 else 0 := rfl
theorem raw_y (st : Rd) : (rawI st).y = if (tk5 st).1 ≠ 0 then (tk7 st).1 - 1000 else 0 := rfl
theorem raw_text (st : Rd) : (rawI st).text = if (tk5 st).1 = 2 then ⟨(tk8 st).1.toArray⟩ else ⟨#[]⟩ := rfl
theorem tkE_0 {st : Rd} (h : (tk5 st).1 = 0) : tkE st = (tk5 st).2 := by unfold tkE tkS; rw [h]; simp
theorem tkE_1 {st : Rd} (h : (tk5 st).1 = 1) : tkE st = (tk7 st).2 := by unfold tkE tkS; rw [h]; simp
theorem tkS_2 {st : Rd} (h : (tk5 st).1 = 2) : tkS st = (tk7 st).2 := by unfold tkS; rw [h]; simp
theorem tkE_2 {st : Rd} (h : (tk5 st).1 = 2) : tkE st = (tk8 st).2 := by unfold tkE; rw [h]; simp
theorem take_back {st : Rd} (h : okI st = true) : rightI (rawI st) = true ∧ st.1 = bytesF (rawI st) ++ (tkE st).1 := by
  unfold okI at h
  simp only [Bool.and_eq_true, decide_eq_true_eq] at h
  obtain ⟨hE, hR⟩ := h
  refine ⟨hR, ?_⟩
  have b5 := num_le (tk4 st).2 2
  have tsz : ∀ l : List UInt8, (⟨l.toArray⟩ : ByteArray).size = l.length := fun l => by simp [ByteArray.size]
  have h5 : (tk5 st).1 = 0 ∨ (tk5 st).1 = 1 ∨ (tk5 st).1 = 2 := by
    have : (tk5 st).1 = (numF (tk4 st).2 2).1 := rfl
    omega
  have head : (tk5 st).2.2 = 0 → st.1 = headF (rawI st) ++ (digitsF (tk5 st).1.toNat ++ (tk5 st).2.1) := by
    intro z5
    obtain ⟨z4, _, e5⟩ := num_back (tk5_eta st) z5
    obtain ⟨z3, _, e4⟩ := num_back (tk4_eta st) z4
    obtain ⟨z2, _, e3⟩ := num_back (tk3_eta st) z3
    obtain ⟨z1, e2⟩ := text_back (tk2_eta st) z2
    obtain ⟨_, _, e1⟩ := num_back (tk1_eta st) z1
    have hh : headF (rawI st) = digitsF (tk1 st).1.toNat ++ ((digitsF (tk2 st).1.length ++ (tk2 st).1) ++ (digitsF (tk3 st).1.toNat ++ digitsF (tk4 st).1.toNat)) := by
      unfold headF rawI
      simp only [tsz]
    rw [hh, e1, e2, e3, e4, e5]
    simp only [List.append_assoc]
  rcases h5 with h5 | h5 | h5
  · have eE : tkE st = (tk5 st).2 := tkE_0 h5
    rw [eE] at hE ⊢
    have ht : tailF (rawI st) = digitsF 0 := by unfold tailF; rw [raw_dead, h5]; simp
    rw [head hE, bytesF, ht, h5, List.append_assoc, show Int.toNat 0 = 0 from rfl]
  · have eE : tkE st = (tk7 st).2 := tkE_1 h5
    rw [eE] at hE ⊢
    obtain ⟨z6, n7, e7⟩ := num_back (tk7_eta st) hE
    obtain ⟨z5, n6, e6⟩ := num_back (tk6_eta st) z6
    have ht : tailF (rawI st) = digitsF 1 ++ (digitsF (tk6 st).1.toNat ++ digitsF (tk7 st).1.toNat) := by
      unfold tailF
      rw [raw_dead, raw_held, raw_x, raw_y, h5]
      simp
    rw [head z5, bytesF, ht, h5, e6, e7, show Int.toNat 1 = 1 from rfl]
    simp only [List.append_assoc]
  · have eS : tkS st = (tk7 st).2 := tkS_2 h5
    have eE : tkE st = (tk8 st).2 := tkE_2 h5
    rw [eE] at hE ⊢
    obtain ⟨z7, e8⟩ := text_back (tk8_eta st) hE
    rw [eS] at z7 e8
    obtain ⟨z6, n7, e7⟩ := num_back (tk7_eta st) z7
    obtain ⟨z5, n6, e6⟩ := num_back (tk6_eta st) z6
    have ht : tailF (rawI st) = digitsF 2 ++ (digitsF (tk6 st).1.toNat ++ (digitsF (tk7 st).1.toNat ++ (digitsF (tk8 st).1.length ++ (tk8 st).1))) := by
      unfold tailF
      rw [raw_dead, raw_held, raw_x, raw_y, raw_text, h5]
      simp [tsz]
    rw [head z5, bytesF, ht, h5, e6, e7, e8, show Int.toNat 2 = 2 from rfl]
    simp only [List.append_assoc]
end Go.Proofs.Ytophhjknbanafaa
