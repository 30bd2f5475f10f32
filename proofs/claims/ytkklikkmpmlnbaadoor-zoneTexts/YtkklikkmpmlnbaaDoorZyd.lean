/- The document's Int. -/
import Derived.Test.YtkklikkmpmlnbaaDoorZyc
namespace Go.Proofs.YtkklikkmpmlnbaaDoor
open Go.RowKit

def decS (d : List UInt8) : Option Nat := if d.length < 1 ∨ 7 < d.length then none else Lib.decFrom 0 d
def intO : List UInt8 → Option Int
  | [] => none
  | b :: r => if b = 45 then (decS r).map fun u : Nat => -(u : Int) else (decS (b :: r)).map fun u : Nat => (u : Int)
theorem intO_cons (b : UInt8) (r : List UInt8) : intO (b :: r) = if b = 45 then (decS r).map fun u : Nat => -(u : Int) else (decS (b :: r)).map fun u : Nat => (u : Int) := rfl
def intV (s : ByteArray) : Int := (intO s.data.toList).getD 0
def intB (s : ByteArray) : Bool := match intO s.data.toList with
  | none => false
  | some n => (itoaB n).toList == s.toList
theorem digitVal_lt {b : UInt8} {d : Nat} (h : Lib.digitVal b = some d) : d < 10 := by
  unfold Lib.digitVal at h
  split at h
  · injection h with h; omega
  · cases h
theorem decFrom_lt : ∀ (l : List UInt8) (acc u : Nat), Lib.decFrom acc l = some u → u < (acc + 1) * 10 ^ l.length
  | [], acc, u, h => by
    have h' : some acc = some u := h
    injection h' with h'
    simp; omega
  | b :: r, acc, u, h => by
    have e : Lib.decFrom acc (b :: r) = match Lib.digitVal b with
      | some d => Lib.decFrom (acc * 10 + d) r
      | none => none := rfl
    rw [e] at h
    cases hd : Lib.digitVal b with
    | none => rw [hd] at h; cases h
    | some d =>
      rw [hd] at h
      have h1 := decFrom_lt r _ u h
      have h2 := digitVal_lt hd
      have h3 : (acc * 10 + d + 1) * 10 ^ r.length ≤ ((acc + 1) * 10) * 10 ^ r.length := Nat.mul_le_mul_right _ (by omega)
      rw [List.length_cons, Nat.pow_succ, Nat.mul_comm (10 ^ r.length) 10, ← Nat.mul_assoc]
      omega
theorem dec_lt {l : List UInt8} {u : Nat} (h : Lib.decFrom 0 l = some u) (hl : l.length ≤ 7) : u < 10000000 := by
  have h1 := decFrom_lt l 0 u h
  have h2 : 10 ^ l.length ≤ 10 ^ 7 := Nat.pow_le_pow_right (by omega) hl
  omega
theorem decS_lt {l : List UInt8} {u : Nat} (h : decS l = some u) : u < 10000000 := by
  unfold decS at h
  split at h
  · cases h
  · exact dec_lt h (by omega)
theorem intO_small {l : List UInt8} {n : Int} (h : intO l = some n) : n.natAbs < 10000000 := by
  cases l with
  | nil => cases h
  | cons b r =>
    rw [intO_cons] at h
    split at h
    · cases hd : decS r with
      | none => rw [hd] at h; cases h
      | some u => rw [hd] at h; have h' : -(u : Int) = n := Option.some.inj h; have := decS_lt hd; omega
    · cases hd : decS (b :: r) with
      | none => rw [hd] at h; cases h
      | some u => rw [hd] at h; have h' : (u : Int) = n := Option.some.inj h; have := decS_lt hd; omega
theorem intB_num {s : ByteArray} (h : intB s = true) : numF s = some (intV s) ∧ (intV s).natAbs < 10000000 := by
  unfold intB at h
  unfold intV
  cases e : intO s.data.toList with
  | none => rw [e] at h; cases h
  | some n =>
    rw [e] at h
    have hn := intO_small e
    have hs : itoaB n = s := toList_inj (by simpa using h)
    refine ⟨?_, hn⟩
    show numF s = some n
    conv => lhs; rw [← hs]
    exact numF_itoa n (by omega)
theorem decS_dec {u : Nat} (h : u < 10000000) : decS (Lib.decDigits u) = some u := by
  unfold decS
  have h1 := decDigits_le 6 u (by omega)
  have h2 : (Lib.decDigits u).length ≠ 0 := fun e => decDigits_ne u (List.eq_nil_of_length_eq_zero e)
  rw [if_neg (by omega)]
  exact decDigits_dec u u (Nat.le_refl _)
theorem intO_itoa {n : Int} (h : n.natAbs < 10000000) : intO (Lib.itoa n) = some n := by
  unfold Lib.itoa
  by_cases hn : n < 0
  · rw [if_pos hn]
    rw [intO_cons, if_pos rfl, decS_dec h]
    show some (-(n.natAbs : Int)) = some n
    congr 1; omega
  · rw [if_neg hn]
    have hd := decS_dec (show n.toNat < 10000000 by omega)
    have hm := decDigits_digit n.toNat n.toNat (Nat.le_refl _)
    have hne := decDigits_ne n.toNat
    generalize Lib.decDigits n.toNat = l at *
    cases l with
    | nil => exact absurd rfl hne
    | cons b r =>
      have hb := hm b (by simp)
      have e1 : b ≠ 45 := by intro e; subst e; simp at hb
      rw [intO_cons, if_neg e1, hd]
      show some ((n.toNat : Int)) = some n
      congr 1; omega
theorem num_intB {s : ByteArray} {n : Int} (h : numF s = some n) (hn : n.natAbs < 10000000) : intB s = true ∧ intV s = n := by
  have hs : itoaB n = s := by
    unfold numF at h
    cases e : Lib.atoiAll s.data.toList with
    | ok u =>
      rw [e] at h
      simp only at h
      split at h
      · rename_i hq
        injection h with h
        subst h
        exact (eqW_iff _ _).mp hq
      · cases h
    | range => rw [e] at h; cases h
    | _ => rw [e] at h; cases h
  have ho : intO s.data.toList = some n := by rw [← hs]; exact intO_itoa hn
  unfold intB intV
  rw [ho]
  exact ⟨by simp [hs], rfl⟩
theorem digit_none {b : UInt8} (h : b.toNat < 48 ∨ 57 < b.toNat) : Lib.digitVal b = none := by unfold Lib.digitVal; rw [if_neg (by omega)]
theorem digit_some {b : UInt8} (h1 : 48 ≤ b.toNat) (h2 : b.toNat ≤ 57) : Lib.digitVal b = some (b.toNat - 48) := by unfold Lib.digitVal; rw [if_pos ⟨h1, h2⟩]
theorem decFrom_bad {b : UInt8} : ∀ (l : List UInt8) (k acc : Nat), l[k]? = some b → Lib.digitVal b = none → Lib.decFrom acc l = none
  | [], k, acc, h, _ => by simp at h
  | x :: r, k, acc, h, hb => by
    have e : Lib.decFrom acc (x :: r) = match Lib.digitVal x with
      | some d => Lib.decFrom (acc * 10 + d) r
      | none => none := rfl
    rw [e]
    cases k with
    | zero => simp at h; subst h; rw [hb]
    | succ k =>
      cases Lib.digitVal x with
      | none => rfl
      | some d => exact decFrom_bad r k _ (by simpa using h) hb
theorem intO_neg {s : ByteArray} (h0 : 0 < s.size) (h : s[0] = 45) : intO s.data.toList = (decS (s.extract 1 s.size).data.toList).map fun u : Nat => -(u : Int) := by
  obtain ⟨⟨l⟩⟩ := s
  cases l with
  | nil => simp [ByteArray.size] at h0
  | cons b r =>
    have hb : b = 45 := h
    have e : (ByteArray.extract ⟨⟨b :: r⟩⟩ 1 (ByteArray.size ⟨⟨b :: r⟩⟩)).data.toList = r := by
      simp [ByteArray.extract, ByteArray.copySlice, ByteArray.size]
    rw [e]
    show (if b = 45 then _ else _) = _
    rw [if_pos hb]
theorem intO_pos {s : ByteArray} (h0 : 0 < s.size) (h : s[0] ≠ 45) : intO s.data.toList = (decS s.data.toList).map fun u : Nat => (u : Int) := by
  obtain ⟨⟨l⟩⟩ := s
  cases l with
  | nil => simp [ByteArray.size] at h0
  | cons b r =>
    have hb : b ≠ 45 := h
    show (if b = 45 then _ else _) = _
    rw [if_neg hb]
theorem int_none {s : ByteArray} (h : intO s.data.toList = none) : intV s = 0 ∧ intB s = false := by unfold intV intB; rw [h]; exact ⟨rfl, rfl⟩
theorem int_some {s : ByteArray} {n : Int} (h : intO s.data.toList = some n) : intV s = n ∧ intB s = ((itoaB n).toList == s.toList) := by unfold intV intB; rw [h]; exact ⟨rfl, rfl⟩
theorem size_list (s : ByteArray) : s.data.toList.length = s.size := by simp
/-- What Int answers. -/
def IntRet (s : ByteArray) (w : World) (e : Ending) (w' : World) : Prop := e = .returned (.tuple #[.int .i64 (intV s), .bool (intB s)]) ∧ Below w.heap.size w w'
theorem int_ret0 {s : ByteArray} {w w' : World} (h : intO s.data.toList = none) (hb : Below w.heap.size w w') : IntRet s w (.returned (.tuple #[.int .i64 0, .bool false])) w' := by
  unfold IntRet
  rw [(int_none h).1, (int_none h).2]
  exact ⟨rfl, hb⟩
theorem int_ret1 {s : ByteArray} {n : Int} {w w' : World} (h : intO s.data.toList = some n) (hb : Below w.heap.size w w') : IntRet s w (.returned (.tuple #[.int .i64 n, .bool ((itoaB n).toList == s.toList)])) w' := by
  unfold IntRet
  rw [(int_some h).1, (int_some h).2]
  exact ⟨rfl, hb⟩
set_option maxRecDepth 100000 in
set_option maxHeartbeats 4000000 in
theorem rint_any (s : ByteArray) (w : World) (hs : s.size ≤ 1000000) : Calls Tryd.prog 44 #[.string s] w (IntRet s w) := by
  by_cases h0 : s.size = 0
  · have HO : Hid (intO s.data.toList = none) := by
      have : s.data.toList = [] := List.eq_nil_of_length_eq_zero (by rw [size_list]; exact h0)
      show _ = _
      rw [this]; rfl
    have q1 : ¬ ((0 : Int) < s.size) := by omega
    have q2 : (s.size : Int) < 1 := by omega
    clear h0
    go_enter Tryd.func44, Tryd.ntmps44
    go_wp2
    go_ret2
    exact int_ret0 HO.out (Below.refl _ _)
  have hp : 0 < s.size := by omega
  have q1 : (0 : Int) < s.size := by omega
  by_cases hm : s[0] = 45
  · have HO := Lib.hid (intO_neg hp hm)
    have g1 : ((s[0].toNat : Int) == 45) = true := by rw [hm]; rfl
    have hd : (s.extract 1 s.size).size ≤ 1000000 := by rw [ByteArray.size_extract]; omega
    have l1 : (1 : Int) ≤ s.size := by omega
    have l2 : 1 ≤ s.size := by omega
    have HB : Hid (Below w.heap.size w w) := Below.refl _ _
    clear hm
    go_enter Tryd.func44, Tryd.ntmps44
    go_wp2
    go_quiet (fail)
    go_upto_region 4 with fail
    have HBn : Hid (Below w.heap.size w (w.drewN nq)) := below_dN HB.out nq
    clear HB
    generalize w.drewN nq = wz at *
    have HB := HBn
    clear HBn
    generalize s.extract 1 s.size = d at *
    by_cases h1 : d.size < 1
    · have HN : Hid (intO s.data.toList = none) := by show _ = _; rw [HO.out]; unfold decS; rw [if_pos (.inl (by rw [size_list]; exact h1))]; rfl
      have q2 : (d.size : Int) < 1 := by omega
      clear h1 HO
      go_wp2
      go_ret2
      exact int_ret0 HN.out HB.out
    by_cases h7 : 7 < d.size
    · have HN : Hid (intO s.data.toList = none) := by show _ = _; rw [HO.out]; unfold decS; rw [if_pos (.inr (by rw [size_list]; exact h7))]; rfl
      have q2 : ¬ ((d.size : Int) < 1) := by omega
      have q3 : (7 : Int) < d.size := by omega
      clear h1 h7 HO
      go_wp2
      go_ret2
      exact int_ret0 HN.out HB.out
    have q2 : ¬ ((d.size : Int) < 1) := by omega
    have q3 : ¬ ((7 : Int) < d.size) := by omega
    have HDS : Hid (decS d.data.toList = Lib.decFrom 0 d.data.toList) := by show _ = _; unfold decS; rw [if_neg (by rw [size_list]; omega)]
    go_wp2_with fail
    go_loopw [6, 7] (fun n i wr => ∃ k m : Nat, i = .int .i64 k ∧ n = .int .i64 m ∧ k ≤ d.size ∧ Hid (Lib.decFrom 0 (d.data.toList.take k) = some m) ∧ Hid (Below w.heap.size w wr)) (fun _ i _ => d.size - (intOf i).toNat)
    case atStart => exact ⟨0, 0, rfl, rfl, by omega, rfl, HB⟩
    case round =>
      clear HB
      obtain ⟨k, m, rfl, rfl, hk, HD, HB⟩ := hrel
      have hm7 := dec_lt HD.out (by rw [List.length_take, size_list]; omega)
      by_cases hlt : k < d.size
      · have HBY := Lib.hid (byte_at d k hlt)
        have g1 : (k : Int) < d.size := by omega
        have g0 : (0 : Int) ≤ (k : Int) := by omega
        by_cases hlo : d[k].toNat < 48
        · have HN : Hid (intO s.data.toList = none) := by show _ = _; rw [HO.out, HDS.out, decFrom_bad _ _ _ HBY.out (digit_none (.inl hlo))]; rfl
          have g2 : (d[k].toNat : Int) < 48 := by omega
          clear HO HDS HBY HD hlo
          go_wp2
          go_ret2
          exact int_ret0 HN.out HB.out
        by_cases hhi : 57 < d[k].toNat
        · have HN : Hid (intO s.data.toList = none) := by show _ = _; rw [HO.out, HDS.out, decFrom_bad _ _ _ HBY.out (digit_none (.inr hhi))]; rfl
          have g2 : ¬ ((d[k].toNat : Int) < 48) := by omega
          have g3 : (57 : Int) < (d[k].toNat : Int) := by omega
          clear HO HDS HBY HD hlo hhi
          go_wp2
          go_ret2
          exact int_ret0 HN.out HB.out
        have g2 : ¬ ((d[k].toNat : Int) < 48) := by omega
        have g3 : ¬ ((57 : Int) < (d[k].toNat : Int)) := by omega
        have HD2 : Hid (Lib.decFrom 0 (d.data.toList.take (k + 1)) = some (m * 10 + (d[k].toNat - 48))) := Lib.decFrom_take _ _ _ _ _ _ HD.out HBY.out (digit_some (by omega) (by omega))
        obtain ⟨c, hc⟩ : ∃ c : Nat, d[k].toNat = c + 48 := ⟨d[k].toNat - 48, by omega⟩
        have hc9 : c ≤ 9 := by omega
        rw [hc, Nat.add_sub_cancel] at HD2
        have g4 : IntKind.u8.wrap ((d[k].toNat : Int) - 48) = (c : Int) := by rw [hc]; show ((c + 48 : Nat) - 48 : Int) % 256 = c; omega
        have g5 : (d[k].toNat : Int) - 48 = (c : Int) := by omega
        have g6 : IntKind.u8.wrap (c : Int) = (c : Int) := by show (c : Int) % 256 = c; omega
        clear hlo hhi HBY HD
        go_wp2
        go_roundw
        case rel => exact ⟨k + 1, m * 10 + c, by go_num, by first | rfl | go_num | (congr 1; omega), by omega, HD2, HB⟩
        case measure => simp [intOf]; omega
      · obtain rfl : k = d.size := by omega
        have g1 : ¬ ((d.size : Int) < d.size) := by omega
        have HOS : Hid (intO s.data.toList = some (-(m : Int))) := by
          have h := HD.out
          rw [List.take_of_length_le (by rw [size_list]; omega)] at h
          show _ = _
          rw [HO.out, HDS.out, h]; rfl
        have HNUM := Lib.hid (rnum_any (-(m : Int)) (by omega))
        have w1 : IntKind.i64.wrap (-1 * (m : Int)) = -(m : Int) := by rw [IntWalk.i64_in _ (by omega)]; omega
        have w2 : IntKind.i64.wrap (-(m : Int)) = -(m : Int) := IntWalk.i64_in _ (by omega)
        have w3 : IntKind.i64.wrap (m : Int) = (m : Int) := IntWalk.i64_in _ (by omega)
        clear HO HDS HD
        go_wp2_with fail
        refine (HNUM.out _).mono ?_
        rintro e w5 ⟨rfl, hb⟩
        replace HB := Lib.hid (HB.out.trans (hb.mono HB.out.size))
        clear hb
        go_wp2
        go_ret2
        exact int_ret1 HOS.out HB.out
  · have HO := Lib.hid (intO_pos hp hm)
    have g1 : ((s[0].toNat : Int) == 45) = false := by
      rw [beq_eq_false_iff_ne]
      intro e
      apply hm
      apply UInt8.toNat_inj.mp
      have h45 : (45 : UInt8).toNat = 45 := rfl
      omega
    have HB : Hid (Below w.heap.size w w) := Below.refl _ _
    clear hm
    go_enter Tryd.func44, Tryd.ntmps44
    go_upto_region 4 with fail
    by_cases h1 : s.size < 1
    · have HN : Hid (intO s.data.toList = none) := by show _ = _; rw [HO.out]; unfold decS; rw [if_pos (.inl (by rw [size_list]; exact h1))]; rfl
      have q2 : (s.size : Int) < 1 := by omega
      clear h1 HO
      go_wp2
      go_ret2
      exact int_ret0 HN.out HB.out
    by_cases h7 : 7 < s.size
    · have HN : Hid (intO s.data.toList = none) := by show _ = _; rw [HO.out]; unfold decS; rw [if_pos (.inr (by rw [size_list]; exact h7))]; rfl
      have q2 : ¬ ((s.size : Int) < 1) := by omega
      have q3 : (7 : Int) < s.size := by omega
      clear h1 h7 HO
      go_wp2
      go_ret2
      exact int_ret0 HN.out HB.out
    have q2 : ¬ ((s.size : Int) < 1) := by omega
    have q3 : ¬ ((7 : Int) < s.size) := by omega
    have HDS : Hid (decS s.data.toList = Lib.decFrom 0 s.data.toList) := by show _ = _; unfold decS; rw [if_neg (by rw [size_list]; omega)]
    go_wp2_with fail
    go_loopw [6, 7] (fun n i wr => ∃ k m : Nat, i = .int .i64 k ∧ n = .int .i64 m ∧ k ≤ s.size ∧ Hid (Lib.decFrom 0 (s.data.toList.take k) = some m) ∧ Hid (Below w.heap.size w wr)) (fun _ i _ => s.size - (intOf i).toNat)
    case atStart => exact ⟨0, 0, rfl, rfl, by omega, rfl, HB⟩
    case round =>
      clear HB
      obtain ⟨k, m, rfl, rfl, hk, HD, HB⟩ := hrel
      have hm7 := dec_lt HD.out (by rw [List.length_take, size_list]; omega)
      by_cases hlt : k < s.size
      · have HBY := Lib.hid (byte_at s k hlt)
        have g1 : (k : Int) < s.size := by omega
        have g0 : (0 : Int) ≤ (k : Int) := by omega
        by_cases hlo : s[k].toNat < 48
        · have HN : Hid (intO s.data.toList = none) := by show _ = _; rw [HO.out, HDS.out, decFrom_bad _ _ _ HBY.out (digit_none (.inl hlo))]; rfl
          have g2 : (s[k].toNat : Int) < 48 := by omega
          clear HO HDS HBY HD hlo
          go_wp2
          go_ret2
          exact int_ret0 HN.out HB.out
        by_cases hhi : 57 < s[k].toNat
        · have HN : Hid (intO s.data.toList = none) := by show _ = _; rw [HO.out, HDS.out, decFrom_bad _ _ _ HBY.out (digit_none (.inr hhi))]; rfl
          have g2 : ¬ ((s[k].toNat : Int) < 48) := by omega
          have g3 : (57 : Int) < (s[k].toNat : Int) := by omega
          clear HO HDS HBY HD hlo hhi
          go_wp2
          go_ret2
          exact int_ret0 HN.out HB.out
        have g2 : ¬ ((s[k].toNat : Int) < 48) := by omega
        have g3 : ¬ ((57 : Int) < (s[k].toNat : Int)) := by omega
        have HD2 : Hid (Lib.decFrom 0 (s.data.toList.take (k + 1)) = some (m * 10 + (s[k].toNat - 48))) := Lib.decFrom_take _ _ _ _ _ _ HD.out HBY.out (digit_some (by omega) (by omega))
        obtain ⟨c, hc⟩ : ∃ c : Nat, s[k].toNat = c + 48 := ⟨s[k].toNat - 48, by omega⟩
        have hc9 : c ≤ 9 := by omega
        rw [hc, Nat.add_sub_cancel] at HD2
        have g4 : IntKind.u8.wrap ((s[k].toNat : Int) - 48) = (c : Int) := by rw [hc]; show ((c + 48 : Nat) - 48 : Int) % 256 = c; omega
        have g5 : (s[k].toNat : Int) - 48 = (c : Int) := by omega
        have g6 : IntKind.u8.wrap (c : Int) = (c : Int) := by show (c : Int) % 256 = c; omega
        clear hlo hhi HBY HD
        go_wp2
        go_roundw
        case rel => exact ⟨k + 1, m * 10 + c, by go_num, by first | rfl | go_num | (congr 1; omega), by omega, HD2, HB⟩
        case measure => simp [intOf]; omega
      · obtain rfl : k = s.size := by omega
        have g1 : ¬ ((s.size : Int) < s.size) := by omega
        have HOS : Hid (intO s.data.toList = some (m : Int)) := by
          have h := HD.out
          rw [List.take_of_length_le (by rw [size_list]; omega)] at h
          show _ = _
          rw [HO.out, HDS.out, h]; rfl
        have HNUM := Lib.hid (rnum_any (m : Int) (by omega))
        have w1 : IntKind.i64.wrap (-1 * (m : Int)) = -(m : Int) := by rw [IntWalk.i64_in _ (by omega)]; omega
        have w2 : IntKind.i64.wrap (-(m : Int)) = -(m : Int) := IntWalk.i64_in _ (by omega)
        have w3 : IntKind.i64.wrap (m : Int) = (m : Int) := IntWalk.i64_in _ (by omega)
        clear HO HDS HD
        go_wp2_with fail
        refine (HNUM.out _).mono ?_
        rintro e w5 ⟨rfl, hb⟩
        replace HB := Lib.hid (HB.out.trans (hb.mono HB.out.size))
        clear hb
        go_wp2
        go_ret2
        exact int_ret1 HOS.out HB.out
end Go.Proofs.YtkklikkmpmlnbaaDoor
