/- Items: what is taken of an item's bytes is the item; two items have the same bytes just if they are the same. -/
import Derived.Test.YtophhjknbanafaaKa
namespace Go.Proofs.Ytophhjknbanafaa
open Go.RowKit

theorem raw_of {st : Rd} {i : Itm} (h1 : (tk1 st).1 = i.key) (h2 : (tk2 st).1 = i.ver.id.data.toList) (h3 : (tk3 st).1 = i.ver.seq) (h4 : (tk4 st).1 = i.ver.stamp)
    (h5 : decide ((tk5 st).1 = 0) = i.dead) (h6 : (if (tk5 st).1 ≠ 0 then (tk6 st).1 - 1000 else 0) = i.x) (h7 : (if (tk5 st).1 ≠ 0 then (tk7 st).1 - 1000 else 0) = i.y)
    (h8 : (if (tk5 st).1 = 2 then (⟨(tk8 st).1.toArray⟩ : ByteArray) else ⟨#[]⟩) = i.text) (h9 : decide ((tk5 st).1 = 2) = i.held) : rawI st = i := by
  unfold rawI
  rw [h1, h2, h3, h4, h5, h6, h7, h8, h9]
theorem nat_small {n : Nat} (h : n ≤ 1048576) : n < 128 ^ 9 := by
  have : (128 : Nat) ^ 9 = 9223372036854775808 := by decide
  omega
theorem take_bytes {i : Itm} (h : rightI i = true) (rest : List UInt8) : okI (bytesF i ++ rest, 0) = true ∧ rawI (bytesF i ++ rest, 0) = i ∧ tkE (bytesF i ++ rest, 0) = (rest, 0) := by
  obtain ⟨b1, b2, b3, b4, b5, b6, b7⟩ := right_bounds h
  obtain ⟨v1, v2, v3, v4, v5, v6⟩ := rightV_bounds b3
  obtain ⟨w1, w2, w3, w4⟩ := whole_bounds b4
  have e0 : bytesF i ++ rest = digitsF i.key.toNat ++ (digitsF i.ver.id.data.toList.length ++ (i.ver.id.data.toList ++ (digitsF i.ver.seq.toNat ++ (digitsF i.ver.stamp.toNat ++ (tailF i ++ rest))))) := by
    unfold bytesF headF
    simp only [List.append_assoc]
    rfl
  generalize hst : (bytesF i ++ rest, 0) = st
  have e1 : tk1 st = (i.key, (digitsF i.ver.id.data.toList.length ++ (i.ver.id.data.toList ++ (digitsF i.ver.seq.toNat ++ (digitsF i.ver.stamp.toNat ++ (tailF i ++ rest)))), 0)) := by
    unfold tk1
    rw [← hst, e0, num_digits (nat_small (by omega)) _ (by omega), Int.toNat_of_nonneg b1]
  have e2 : tk2 st = (i.ver.id.data.toList, (digitsF i.ver.seq.toNat ++ (digitsF i.ver.stamp.toNat ++ (tailF i ++ rest)), 0)) := by
    unfold tk2
    have hl : i.ver.id.data.toList.length = i.ver.id.size := by simp
    rw [e1, text_digits (nat_small (by omega)) _ (by omega)]
  have e3 : tk3 st = (i.ver.seq, (digitsF i.ver.stamp.toNat ++ (tailF i ++ rest), 0)) := by
    unfold tk3
    rw [e2, num_digits (nat_small (by omega)) _ (by omega), Int.toNat_of_nonneg (by omega)]
  have e4 : tk4 st = (i.ver.stamp, (tailF i ++ rest, 0)) := by
    unfold tk4
    rw [e3, num_digits (nat_small (by omega)) _ (by omega), Int.toNat_of_nonneg (by omega)]
  have done : rawI st = i → (tkE st).2 = 0 → okI st = true := by
    intro hr hz
    unfold okI
    rw [hr, hz, h]
    rfl
  have d0 : (i.ver.id) = ⟨i.ver.id.data.toList.toArray⟩ := by simp
  rcases hd : i.dead with _ | _
  · rcases hh : i.held with _ | _
    · have et : tailF i ++ rest = digitsF 1 ++ (digitsF (i.x + 1000).toNat ++ (digitsF (i.y + 1000).toNat ++ rest)) := by
        unfold tailF
        rw [hd, hh]
        simp
      have e5 : tk5 st = (1, (digitsF (i.x + 1000).toNat ++ (digitsF (i.y + 1000).toNat ++ rest), 0)) := by
        unfold tk5
        rw [e4, et, num_digits (nat_small (by omega)) _ (by omega)]
        rfl
      have e6 : tk6 st = (i.x + 1000, (digitsF (i.y + 1000).toNat ++ rest, 0)) := by
        unfold tk6
        rw [e5, num_digits (nat_small (by omega)) _ (by omega), Int.toNat_of_nonneg (by omega)]
      have e7 : tk7 st = (i.y + 1000, (rest, 0)) := by
        unfold tk7
        rw [e6, num_digits (nat_small (by omega)) _ (by omega), Int.toNat_of_nonneg (by omega)]
      have eE : tkE st = (rest, 0) := by
        unfold tkE tkS
        rw [e5, e7]
        simp
      have eR : rawI st = i := by
        refine raw_of (by rw [e1]) (by rw [e2]) (by rw [e3]) (by rw [e4]) (by rw [e5, hd]; rfl) ?_ ?_ ?_ (by rw [e5, hh]; rfl)
        · rw [e5, e6]; simp
        · rw [e5, e7]; simp
        · have := b7 hh
          rw [e5]
          simp only [Int.reduceEq, if_false]
          apply toList_inj
          rw [Lib.toList_data, Lib.toList_data]
          have hl : i.text.data.toList.length = i.text.size := by simp
          rw [this] at hl
          exact (List.eq_nil_of_length_eq_zero hl).symm
      exact ⟨done eR (by rw [eE]), eR, eE⟩
    · have et : tailF i ++ rest = digitsF 2 ++ (digitsF (i.x + 1000).toNat ++ (digitsF (i.y + 1000).toNat ++ (digitsF i.text.data.toList.length ++ (i.text.data.toList ++ rest)))) := by
        unfold tailF
        rw [hd, hh]
        simp
      have hl : i.text.data.toList.length = i.text.size := by simp
      have e5 : tk5 st = (2, (digitsF (i.x + 1000).toNat ++ (digitsF (i.y + 1000).toNat ++ (digitsF i.text.data.toList.length ++ (i.text.data.toList ++ rest))), 0)) := by
        unfold tk5
        rw [e4, et, num_digits (nat_small (by omega)) _ (by omega)]
        rfl
      have e6 : tk6 st = (i.x + 1000, (digitsF (i.y + 1000).toNat ++ (digitsF i.text.data.toList.length ++ (i.text.data.toList ++ rest)), 0)) := by
        unfold tk6
        rw [e5, num_digits (nat_small (by omega)) _ (by omega), Int.toNat_of_nonneg (by omega)]
      have e7 : tk7 st = (i.y + 1000, (digitsF i.text.data.toList.length ++ (i.text.data.toList ++ rest), 0)) := by
        unfold tk7
        rw [e6, num_digits (nat_small (by omega)) _ (by omega), Int.toNat_of_nonneg (by omega)]
      have eS : tkS st = (digitsF i.text.data.toList.length ++ (i.text.data.toList ++ rest), 0) := by
        unfold tkS
        rw [e5, e7]
        simp
      have e8 : tk8 st = (i.text.data.toList, (rest, 0)) := by
        unfold tk8
        rw [eS, text_digits (nat_small (by omega)) _ (by omega)]
      have eE : tkE st = (rest, 0) := by
        unfold tkE
        rw [e5, e8]
        simp
      have eR : rawI st = i := by
        refine raw_of (by rw [e1]) (by rw [e2]) (by rw [e3]) (by rw [e4]) (by rw [e5, hd]; rfl) ?_ ?_ ?_ (by rw [e5, hh]; rfl)
        · rw [e5, e6]; simp
        · rw [e5, e7]; simp
        · rw [e5, e8]; simp
      exact ⟨done eR (by rw [eE]), eR, eE⟩
  · obtain ⟨x0, y0, h0⟩ := b6 hd
    have et : tailF i ++ rest = digitsF 0 ++ rest := by
      unfold tailF
      rw [hd]
      simp
    have e5 : tk5 st = (0, (rest, 0)) := by
      unfold tk5
      rw [e4, et, num_digits (nat_small (by omega)) _ (by omega)]
      rfl
    have eE : tkE st = (rest, 0) := by
      unfold tkE tkS
      rw [e5]
      simp
    have eR : rawI st = i := by
      refine raw_of (by rw [e1]) (by rw [e2]) (by rw [e3]) (by rw [e4]) (by rw [e5, hd]; rfl) ?_ ?_ ?_ (by rw [e5, h0]; rfl)
      · rw [e5, x0]; simp
      · rw [e5, y0]; simp
      · have := b7 h0
        rw [e5]
        simp only [Int.reduceEq, if_false]
        apply toList_inj
        rw [Lib.toList_data, Lib.toList_data]
        have hl : i.text.data.toList.length = i.text.size := by simp
        rw [this] at hl
        exact (List.eq_nil_of_length_eq_zero hl).symm
    exact ⟨done eR (by rw [eE]), eR, eE⟩
theorem bytes_once {i j : Itm} (hi : rightI i = true) (hj : rightI j = true) (h : putItm [] i = putItm [] j) : i = j := by
  unfold putItm at h
  rw [if_pos hi, if_pos hj, List.nil_append, List.nil_append] at h
  have h1 := (take_bytes hi []).2.1
  have h2 := (take_bytes hj []).2.1
  rw [h] at h1
  exact h1.symm.trans h2
theorem same_once {i j : Itm} (hi : rightI i = true) (hj : rightI j = true) : decide (putItm [] i = putItm [] j) = eqI i j := by
  by_cases h : i = j
  · subst h
    rw [eqI_same]
    exact decide_eq_true rfl
  · have h1 : eqI i j = false := by
      rcases e : eqI i j with _ | _
      · rfl
      · exact absurd ((eqI_iff i j).1 e) h
    rw [h1]
    exact decide_eq_false (fun e => h (bytes_once hi hj e))
end Go.Proofs.Ytophhjknbanafaa
