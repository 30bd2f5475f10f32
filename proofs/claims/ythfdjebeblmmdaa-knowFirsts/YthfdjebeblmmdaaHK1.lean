/- Texts Im Ia In Ix Vm Va Vb Vc Vd Ve Vf Vg Vh Vi Vj Vk Vl Vn Vo Iy Vp Vq Vr Ga Gb Gc, one behind the other. -/
import Derived.Lib.Bytealg
import Derived.Lib.Strings
import Derived.Test.YthfdjebeblmmdaaRows
import Derived.WalkKit
import Derived.WalkSpells
import Derived.WalkLawsBesides
import Derived.BigQuiet
import Derived.Deep.QuietTactic
import Derived.Lib.Hide
import GoSem.Claim
import Derived.Maps.AppendAt
import Derived.Deep.AppendLies
import Derived.Deep.RegionLaw
import Derived.Deep.RegionHeld3
import Derived.BigRegion
import Derived.Laws.StructEq
import Derived.Test.YthfdjebeblmmdaaProg
import Derived.ProofKit
import Derived.OwnWalk
import Derived.Laws.OwnMore
/- The names of layer 1 as lists of bytes: which may be (rightL), and what the order says of them. Plain mathematics. -/
namespace Go.Proofs.Ythfdjebeblmmdaa

/-- The byte at a place, 0 beyond the end. -/
def at8 (l : List UInt8) (j : Nat) : Nat := (l.getD j 0).toNat
/-- May the text be a name? -/
def rightL (l : List UInt8) : Bool := decide (1 ≤ l.length ∧ l.length ≤ 6 ∧ at8 l 0 = 48) && (List.range l.length).all (fun j => j == 0 || (decide (49 ≤ at8 l j) && decide (at8 l j ≤ 57)))

theorem rightL_iff (l : List UInt8) : rightL l = true ↔ (1 ≤ l.length ∧ l.length ≤ 6 ∧ at8 l 0 = 48) ∧ ∀ j, 1 ≤ j → j < l.length → 49 ≤ at8 l j ∧ at8 l j ≤ 57 := by
  unfold rightL
  rw [Bool.and_eq_true, decide_eq_true_iff, List.all_eq_true]
  refine and_congr Iff.rfl ⟨fun h j h1 h2 => ?_, fun h j hj => ?_⟩
  · have := h j (List.mem_range.mpr h2)
    simp at this
    omega
  · have hj' := List.mem_range.mp hj
    by_cases h0 : j = 0
    · simp [h0]
    · have := h j (by omega) hj'
      simp [this]

theorem right_true {l : List UInt8} (h1 : 1 ≤ l.length) (h2 : l.length ≤ 6) (h3 : at8 l 0 = 48) (h4 : ∀ j, 1 ≤ j → j < l.length → 49 ≤ at8 l j ∧ at8 l j ≤ 57) : rightL l = true := (rightL_iff l).mpr ⟨⟨h1, h2, h3⟩, h4⟩
theorem right_long {l : List UInt8} (h : 6 < l.length) : rightL l = false := by
  rw [Bool.eq_false_iff]; intro e; have := (rightL_iff l).mp e; omega
theorem right_nil {l : List UInt8} (h : l.length < 1) : rightL l = false := by
  rw [Bool.eq_false_iff]; intro e; have := (rightL_iff l).mp e; omega
theorem right_head {l : List UInt8} (h : at8 l 0 ≠ 48) : rightL l = false := by
  rw [Bool.eq_false_iff]; intro e; have := (rightL_iff l).mp e; omega
theorem right_low {l : List UInt8} (j : Nat) (h1 : 1 ≤ j) (h2 : j < l.length) (h : at8 l j < 49) : rightL l = false := by
  rw [Bool.eq_false_iff]; intro e; have := ((rightL_iff l).mp e).2 j h1 h2; omega
theorem right_high {l : List UInt8} (j : Nat) (h1 : 1 ≤ j) (h2 : j < l.length) (h : 57 < at8 l j) : rightL l = false := by
  rw [Bool.eq_false_iff]; intro e; have := ((rightL_iff l).mp e).2 j h1 h2; omega

theorem at8_lt (s : ByteArray) (k : Nat) (h : k < s.size) : at8 s.data.toList k = s[k].toNat := by
  unfold at8
  have hl : k < s.data.toList.length := by simpa using h
  rw [List.getD_eq_getElem?_getD, List.getElem?_eq_getElem hl]
  rfl

/-- Is the text's first byte 0? -/
theorem hasPrefix_zero (l : List UInt8) : Lib.hasPrefix l [48] = (decide (1 ≤ l.length) && decide (at8 l 0 = 48)) := by
  cases l with
  | nil => simp [Lib.hasPrefix]
  | cons c r =>
    simp only [Lib.hasPrefix, List.isPrefixOf, Bool.and_true]
    have : at8 (c :: r) 0 = c.toNat := rfl
    rw [this, Bool.eq_iff_iff]
    simp
    constructor
    · intro e; rw [← e]; rfl
    · intro e; exact (UInt8.toNat_inj.mp (by simpa using e)).symm
end Go.Proofs.Ythfdjebeblmmdaa

/- The names of layer 1: what id.Right and the document's Right answer: rightL of the text's bytes. -/
namespace Go.Proofs.Ythfdjebeblmmdaa
open Go.RowKit

theorem ret_int {k : IntKind} {a b : Int} (h : a = b) : Ending.returned (.int k a) = .returned (.int k b) := by rw [h]
theorem ret_bool {a b : Bool} (h : a = b) : Ending.returned (.bool a) = .returned (.bool b) := by rw [h]

set_option maxRecDepth 100000 in
set_option maxHeartbeats 400000 in
theorem hasPrefix_in (s p : ByteArray) (w : World) :
    Calls Try.prog 88 #[.string s, .string p] w fun e w' => e = .returned (.bool (Lib.hasPrefix s.data.toList p.data.toList)) ∧ w = w' := by
  by_cases h : p.size ≤ s.size
  · go_enter Try.func88, Try.ntmps88
    go_wp2
    go_ret
    exact ⟨ret_bool (by rw [← Lib.hasPrefix_raw]; simp [h]), rfl⟩
  · go_enter Try.func88, Try.ntmps88
    go_wp2
    go_ret
    exact ⟨ret_bool (by rw [← Lib.hasPrefix_raw]; simp [h]), rfl⟩

set_option maxRecDepth 100000 in
set_option maxHeartbeats 400000 in
theorem hasPrefix_any (s p : ByteArray) (w : World) :
    Calls Try.prog 78 #[.string s, .string p] w fun e w' => e = .returned (.bool (Lib.hasPrefix s.data.toList p.data.toList)) ∧ w = w' := by
  go_enter Try.func78, Try.ntmps78
  go_wp2_with (go_at_call 88; refine (hasPrefix_in _ _ _).mono ?_; rintro e w' ⟨rfl, rfl⟩)
  go_ret
  exact ⟨rfl, rfl⟩
theorem hasPrefix_is (s p : ByteArray) (b : Bool) (h : Hid (Lib.hasPrefix s.data.toList p.data.toList = b)) (w : World) :
    Calls Try.prog 78 #[.string s, .string p] w fun e w' => e = .returned (.bool b) ∧ w = w' := by
  rw [← h.out]; exact hasPrefix_any s p w

set_option maxRecDepth 100000 in
set_option maxHeartbeats 1000000 in
theorem right_any (s : ByteArray) (w : World) :
    Calls Try.prog 47 #[.string s] w fun e w' => e = .returned (.bool (rightL s.data.toList)) ∧ w = w' := by
  have hsz : s.data.toList.length = s.size := by simp
  by_cases h6 : 6 < s.size
  · have HR : Hid (rightL s.data.toList = false) := right_long (by omega)
    clear hsz
    go_enter Try.func47, Try.ntmps47
    go_wp2
    go_ret
    exact ⟨ret_bool HR.out.symm, rfl⟩
  · by_cases h0 : 1 ≤ s.size ∧ at8 s.data.toList 0 = 48
    · have HP : Hid (Lib.hasPrefix s.data.toList (ByteArray.mk #[48]).data.toList = true) := by
        show Lib.hasPrefix s.data.toList [48] = true
        rw [hasPrefix_zero]; simp [h0]
      obtain ⟨h1, hz⟩ := h0
      have HZ := Lib.hid hz
      have HL := Lib.hid hsz
      clear hz hsz
      go_enter Try.func47, Try.ntmps47
      go_wp2_with (go_at_call 78; refine (hasPrefix_is _ _ true HP _).mono ?_; rintro e w' ⟨rfl, rfl⟩)
      go_loop [3] (fun i => ∃ k : Nat, 1 ≤ k ∧ k ≤ s.size ∧ i = .int .i64 k ∧ Hid (∀ j, 1 ≤ j → j < k → 49 ≤ at8 s.data.toList j ∧ at8 s.data.toList j ≤ 57)) (fun i => s.size - (intOf i).toNat)
      case atStart => exact ⟨1, by omega, h1, rfl, fun j a b => absurd b (by omega)⟩
      case round =>
        obtain ⟨k, hk1, hk, rfl, HA⟩ := hrel
        by_cases hlt : k < s.size
        · have hb := at8_lt s k hlt
          have HB := Lib.hid hb
          clear hb
          by_cases c1 : (s[k].toNat : Int) < 49
          · go_wp2
            go_ret
            exact ⟨ret_bool (right_low k hk1 (by have := HL.out; omega) (by have := HB.out; omega)).symm, rfl⟩
          · by_cases c2 : 57 < (s[k].toNat : Int)
            · go_wp2
              go_ret
              exact ⟨ret_bool (right_high k hk1 (by have := HL.out; omega) (by have := HB.out; omega)).symm, rfl⟩
            · go_wp2
              go_round
              case rel =>
                refine ⟨k + 1, by omega, by omega, by go_num, fun j a b => ?_⟩
                by_cases e : j = k
                · subst e; have := HB.out; omega
                · exact HA.out j a (by omega)
              case measure => simp [intOf]; omega
        · go_wp2
          go_ret
          exact ⟨ret_bool (right_true (by have := HL.out; omega) (by have := HL.out; omega) HZ.out (fun j a b => HA.out j a (by have := HL.out; omega))).symm, rfl⟩
    · have HP : Hid (Lib.hasPrefix s.data.toList (ByteArray.mk #[48]).data.toList = false) := by
        show Lib.hasPrefix s.data.toList [48] = false
        rw [hasPrefix_zero]; simp; omega
      have HR : Hid (rightL s.data.toList = false) := by
        by_cases h1 : 1 ≤ s.size
        · exact right_head (by omega)
        · exact right_nil (by omega)
      clear hsz h0
      go_enter Try.func47, Try.ntmps47
      go_wp2_with (go_at_call 78; refine (hasPrefix_is _ _ false HP _).mono ?_; rintro e w' ⟨rfl, rfl⟩)
      go_ret
      exact ⟨ret_bool HR.out.symm, rfl⟩
theorem right_is (s : ByteArray) (b : Bool) (h : Hid (rightL s.data.toList = b)) (w : World) :
    Calls Try.prog 47 #[.string s] w fun e w' => e = .returned (.bool b) ∧ w = w' := by
  rw [← h.out]; exact right_any s w

set_option maxRecDepth 100000 in
set_option maxHeartbeats 1000000 in
theorem rright_any (s : ByteArray) (w : World) :
    Calls Try.prog 52 #[.string s] w fun e w' => e = .returned (.bool (rightL s.data.toList)) ∧ w = w' := by
  have hsz : s.data.toList.length = s.size := by simp
  by_cases h1 : s.size < 1
  · have HR : Hid (rightL s.data.toList = false) := right_nil (by omega)
    clear hsz
    go_enter Try.func52, Try.ntmps52
    go_wp2
    go_ret
    exact ⟨ret_bool HR.out.symm, rfl⟩
  by_cases h6 : 6 < s.size
  · have HR : Hid (rightL s.data.toList = false) := right_long (by omega)
    clear hsz
    go_enter Try.func52, Try.ntmps52
    go_wp2
    go_ret
    exact ⟨ret_bool HR.out.symm, rfl⟩
  have h0 : 0 < s.size := by omega
  have hb := at8_lt s 0 h0
  by_cases hz : ((s[0].toNat : Int) != 48) = true
  · have HR : Hid (rightL s.data.toList = false) := right_head (by simp at hz; omega)
    clear hsz hb
    go_enter Try.func52, Try.ntmps52
    go_wp2
    go_ret
    exact ⟨ret_bool HR.out.symm, rfl⟩
  · have hz' : ((s[0].toNat : Int) != 48) = false := by simpa using hz
    have HZ : Hid (at8 s.data.toList 0 = 48) := by simp at hz; show _ = _; omega
    have HL := Lib.hid hsz
    clear hz hsz hb
    go_enter Try.func52, Try.ntmps52
    go_wp2
    go_loop [3] (fun i => ∃ k : Nat, 1 ≤ k ∧ k ≤ s.size ∧ i = .int .i64 k ∧ Hid (∀ j, 1 ≤ j → j < k → 49 ≤ at8 s.data.toList j ∧ at8 s.data.toList j ≤ 57)) (fun i => s.size - (intOf i).toNat)
    case atStart => exact ⟨1, by omega, by omega, rfl, fun j a b => absurd b (by omega)⟩
    case round =>
      obtain ⟨k, hk1, hk, rfl, HA⟩ := hrel
      by_cases hlt : k < s.size
      · have hb := at8_lt s k hlt
        have HB := Lib.hid hb
        clear hb
        by_cases c1 : (s[k].toNat : Int) < 49
        · go_wp2
          go_ret
          exact ⟨ret_bool (right_low k hk1 (by have := HL.out; omega) (by have := HB.out; omega)).symm, rfl⟩
        · by_cases c2 : 57 < (s[k].toNat : Int)
          · go_wp2
            go_ret
            exact ⟨ret_bool (right_high k hk1 (by have := HL.out; omega) (by have := HB.out; omega)).symm, rfl⟩
          · go_wp2
            go_round
            case rel =>
              refine ⟨k + 1, by omega, by omega, by go_num, fun j a b => ?_⟩
              by_cases e : j = k
              · subst e; have := HB.out; omega
              · exact HA.out j a (by omega)
            case measure => simp [intOf]; omega
      · go_wp2
        go_ret
        exact ⟨ret_bool (right_true (by have := HL.out; omega) (by have := HL.out; omega) HZ.out (fun j a b => HA.out j a (by have := HL.out; omega))).symm, rfl⟩
theorem rright_is (s : ByteArray) (b : Bool) (h : Hid (rightL s.data.toList = b)) (w : World) :
    Calls Try.prog 52 #[.string s] w fun e w' => e = .returned (.bool b) ∧ w = w' := by
  rw [← h.out]; exact rright_any s w
end Go.Proofs.Ythfdjebeblmmdaa

/- Plain mathematics of the names of layer 1: prefixes, the order, the document's Fix. -/
namespace Go.Proofs.Ythfdjebeblmmdaa

/-- Does b come from a? -/
def aboveL (a b : List UInt8) : Bool := rightL a && rightL b && decide (a.length < b.length) && Lib.hasPrefix b a

theorem aboveL_iff (a b : List UInt8) : aboveL a b = true ↔ rightL a = true ∧ rightL b = true ∧ a.length < b.length ∧ a <+: b := by
  unfold aboveL Lib.hasPrefix
  simp [and_assoc]

theorem above_len {a b : List UInt8} (h : b.length ≤ a.length) : aboveL a b = false := by
  rw [Bool.eq_false_iff]; intro e; have := (aboveL_iff _ _).mp e; omega
theorem above_trans {a b c : List UInt8} (h1 : aboveL a b = true) (h2 : aboveL b c = true) : aboveL a c = true := by
  obtain ⟨r1, _, l1, p1⟩ := (aboveL_iff _ _).mp h1
  obtain ⟨_, r2, l2, p2⟩ := (aboveL_iff _ _).mp h2
  exact (aboveL_iff _ _).mpr ⟨r1, r2, by omega, p1.trans p2⟩
theorem above_two {a b c : List UInt8} (h1 : aboveL a c = true) (h2 : aboveL b c = true) : a = b ∨ aboveL a b = true ∨ aboveL b a = true := by
  obtain ⟨r1, _, l1, p1⟩ := (aboveL_iff _ _).mp h1
  obtain ⟨r2, _, l2, p2⟩ := (aboveL_iff _ _).mp h2
  rcases Nat.lt_trichotomy a.length b.length with h | h | h
  · exact Or.inr (Or.inl ((aboveL_iff _ _).mpr ⟨r1, r2, h, List.prefix_of_prefix_length_le p1 p2 (by omega)⟩))
  · exact Or.inl ((List.prefix_of_prefix_length_le p1 p2 (by omega)).eq_of_length h)
  · exact Or.inr (Or.inr ((aboveL_iff _ _).mpr ⟨r2, r1, h, List.prefix_of_prefix_length_le p2 p1 (by omega)⟩))

theorem cmp_prefix : ∀ (a b : List UInt8), a <+: b → a.length < b.length → Lib.compareBytes a b = -1
  | [], _ :: _, _, _ => by simp [Lib.compareBytes]
  | x :: a, y :: b, h, l => by
    obtain ⟨rfl, h2⟩ := List.cons_prefix_cons.mp h
    unfold Lib.compareBytes
    simp only [UInt8.lt_irrefl, if_false]
    exact cmp_prefix a b h2 (by simpa using l)
theorem above_cmp {a b : List UInt8} (h : aboveL a b = true) : Lib.compareBytes a b = -1 := by
  obtain ⟨_, _, l, p⟩ := (aboveL_iff _ _).mp h
  exact cmp_prefix a b p l

theorem cmp_three : ∀ (a b : List UInt8), Lib.compareBytes a b = -1 ∨ Lib.compareBytes a b = 0 ∨ Lib.compareBytes a b = 1
  | [], [] => by simp [Lib.compareBytes]
  | [], _ :: _ => by simp [Lib.compareBytes]
  | _ :: _, [] => by simp [Lib.compareBytes]
  | x :: a, y :: b => by
    unfold Lib.compareBytes
    split
    · simp
    · split
      · simp
      · exact cmp_three a b
theorem cmp_zero : ∀ (a b : List UInt8), Lib.compareBytes a b = 0 ↔ a = b
  | [], [] => by simp [Lib.compareBytes]
  | [], _ :: _ => by simp [Lib.compareBytes]
  | _ :: _, [] => by simp [Lib.compareBytes]
  | x :: a, y :: b => by
    unfold Lib.compareBytes
    split
    · rename_i h
      have : x ≠ y := fun e => UInt8.lt_irrefl _ (e ▸ h)
      simp [this]
    · split
      · rename_i h
        have : x ≠ y := fun e => UInt8.lt_irrefl _ (e ▸ h)
        simp [this]
      · rename_i h1 h2
        have : x = y := by
          apply UInt8.toNat_inj.mp
          rw [UInt8.lt_iff_toNat_lt] at h1 h2
          omega
        rw [cmp_zero a b, this]; simp
theorem cmp_neg : ∀ (a b : List UInt8), Lib.compareBytes b a = - Lib.compareBytes a b
  | [], [] => by simp [Lib.compareBytes]
  | [], _ :: _ => by simp [Lib.compareBytes]
  | _ :: _, [] => by simp [Lib.compareBytes]
  | x :: a, y :: b => by
    unfold Lib.compareBytes
    by_cases h1 : x < y
    · have h2 : ¬ y < x := fun h => UInt8.lt_irrefl _ (UInt8.lt_trans h h1)
      simp [h1, h2]
    · by_cases h2 : y < x
      · simp [h1, h2]
      · simp [h1, h2, cmp_neg a b]
theorem cmp_trans : ∀ (a b c : List UInt8), Lib.compareBytes a b ≤ 0 → Lib.compareBytes b c ≤ 0 → Lib.compareBytes a c ≤ 0
  | [], _, [], _, _ => by simp [Lib.compareBytes]
  | [], _, _ :: _, _, _ => by simp [Lib.compareBytes]
  | _ :: _, [], _, h, _ => by simp [Lib.compareBytes] at h
  | _ :: _, _ :: _, [], _, h => by simp [Lib.compareBytes] at h
  | x :: a, y :: b, z :: c, h1, h2 => by
    unfold Lib.compareBytes at h1 h2 ⊢
    have key : ¬ y < x ∧ ¬ z < y ∧ (x < y ∨ Lib.compareBytes a b ≤ 0) ∧ (y < z ∨ Lib.compareBytes b c ≤ 0) := by
      refine ⟨fun h => ?_, fun h => ?_, ?_, ?_⟩
      · have h' : ¬ x < y := fun h' => UInt8.lt_irrefl _ (UInt8.lt_trans h h')
        simp [h, h'] at h1
      · have h' : ¬ y < z := fun h' => UInt8.lt_irrefl _ (UInt8.lt_trans h h')
        simp [h, h'] at h2
      · by_cases h : x < y
        · exact Or.inl h
        · right; by_cases h' : y < x
          · simp [h, h'] at h1
          · simpa [h, h'] using h1
      · by_cases h : y < z
        · exact Or.inl h
        · right; by_cases h' : z < y
          · simp [h, h'] at h2
          · simpa [h, h'] using h2
    obtain ⟨n1, n2, k1, k2⟩ := key
    by_cases hxz : x < z
    · simp [hxz]
    · have e1 : x = y := by apply UInt8.toNat_inj.mp; rw [UInt8.lt_iff_toNat_lt] at n1 n2 hxz; omega
      have e2 : y = z := by apply UInt8.toNat_inj.mp; rw [UInt8.lt_iff_toNat_lt] at n1 n2 hxz; omega
      subst e1 e2
      simp only [UInt8.lt_irrefl, false_or, if_false] at k1 k2 ⊢
      exact cmp_trans a b c k1 k2

/-- The order from a place on. -/
theorem cmp_lo {a b : List UInt8} {k : Nat} (ha : k < a.length) (hb : k < b.length) (h : at8 a k < at8 b k) : Lib.compareBytes (a.drop k) (b.drop k) = -1 := by
  rw [List.drop_eq_getElem_cons ha, List.drop_eq_getElem_cons hb]
  unfold Lib.compareBytes
  have : a[k] < b[k] := by
    rw [UInt8.lt_iff_toNat_lt]
    simpa [at8, List.getD_eq_getElem?_getD, ha, hb] using h
  simp [this]
theorem cmp_hi {a b : List UInt8} {k : Nat} (ha : k < a.length) (hb : k < b.length) (h : at8 b k < at8 a k) : Lib.compareBytes (a.drop k) (b.drop k) = 1 := by
  have := cmp_lo hb ha h
  rw [cmp_neg] at this
  omega
theorem cmp_eq {a b : List UInt8} {k : Nat} (ha : k < a.length) (hb : k < b.length) (h : at8 a k = at8 b k) : Lib.compareBytes (a.drop k) (b.drop k) = Lib.compareBytes (a.drop (k + 1)) (b.drop (k + 1)) := by
  rw [List.drop_eq_getElem_cons ha, List.drop_eq_getElem_cons hb]
  have : a[k] = b[k] := by
    apply UInt8.toNat_inj.mp
    simpa [at8, List.getD_eq_getElem?_getD, ha, hb] using h
  rw [Lib.compareBytes, this]
  simp [UInt8.lt_irrefl]
theorem cmp_end {a b : List UInt8} {k : Nat} (h : a.length ≤ k ∨ b.length ≤ k) (ha : k ≤ a.length) (hb : k ≤ b.length) : Lib.compareBytes (a.drop k) (b.drop k) = if a.length < b.length then -1 else if b.length < a.length then 1 else 0 := by
  rcases h with h | h
  · have e : a.length = k := by omega
    rw [List.drop_of_length_le (by omega)]
    by_cases hk : k < b.length
    · rw [List.drop_eq_getElem_cons hk]; simp [Lib.compareBytes]; omega
    · rw [List.drop_of_length_le (by omega)]; simp [Lib.compareBytes]
      rw [if_neg (by omega), if_neg (by omega)]
  · have e : b.length = k := by omega
    rw [List.drop_of_length_le (l := b) (by omega)]
    by_cases hk : k < a.length
    · rw [List.drop_eq_getElem_cons hk]; simp [Lib.compareBytes]; rw [if_neg (by omega), if_pos (by omega)]
    · rw [List.drop_of_length_le (by omega)]; simp [Lib.compareBytes]
      rw [if_neg (by omega), if_neg (by omega)]

/-- The document's Fix: a name out of any text. -/
def fixB (c : UInt8) : UInt8 := UInt8.ofNat (49 + c.toNat % 9)
def fixL (l : List UInt8) : List UInt8 := 48 :: (l.take 5).map fixB
theorem fixB_nat (c : UInt8) : (fixB c).toNat = 49 + c.toNat % 9 := by
  unfold fixB; rw [UInt8.toNat_ofNat']; omega
theorem fixL_len (l : List UInt8) : (fixL l).length = 1 + min 5 l.length := by simp [fixL]; omega
theorem fixL_right (l : List UInt8) : rightL (fixL l) = true := by
  rw [rightL_iff]
  have hl := fixL_len l
  refine ⟨⟨by omega, by omega, rfl⟩, fun j h1 h2 => ?_⟩
  obtain ⟨i, rfl⟩ : ∃ i, j = i + 1 := ⟨j - 1, by omega⟩
  have hi : i < ((l.take 5).map fixB).length := by simpa [fixL] using h2
  have : at8 (fixL l) (i + 1) = (((l.take 5).map fixB)[i]).toNat := by
    unfold at8 fixL
    rw [List.getD_cons_succ, List.getD_eq_getElem?_getD, List.getElem?_eq_getElem hi]; rfl
  rw [this, List.getElem_map, fixB_nat]
  omega

theorem take_right {l : List UInt8} {m : Nat} (h : rightL l = true) (h1 : 1 ≤ m) (h2 : m ≤ l.length) : rightL (l.take m) = true := by
  rw [rightL_iff] at h ⊢
  have hl : (l.take m).length = m := by rw [List.length_take]; omega
  have g : ∀ j, j < m → at8 (l.take m) j = at8 l j := fun j hj => by
    unfold at8
    rw [List.getD_eq_getElem?_getD, List.getD_eq_getElem?_getD, List.getElem?_take_of_lt hj]
  refine ⟨⟨by omega, by omega, by rw [g 0 (by omega)]; exact h.1.2.2⟩, fun j a b => ?_⟩
  rw [g j (by omega)]
  exact h.2 j a (by omega)
theorem above_take {l : List UInt8} {m : Nat} (h : rightL l = true) (h1 : 1 ≤ m) (h2 : m < l.length) : aboveL (l.take m) l = true :=
  (aboveL_iff _ _).mpr ⟨take_right h h1 (by omega), h, by rw [List.length_take]; omega, List.take_prefix _ _⟩
end Go.Proofs.Ythfdjebeblmmdaa

/- The names of layer 1: what Compare and the document's Compare answer. -/
namespace Go.Proofs.Ythfdjebeblmmdaa
open Go.RowKit

set_option maxRecDepth 100000 in
set_option maxHeartbeats 400000 in
theorem compare_in (a b : ByteArray) (w : World) :
    Calls Try.prog 89 #[.string a, .string b] w fun e w' => e = .returned (.int .i64 (Lib.compareBytes a.data.toList b.data.toList)) ∧ w = w' := by
  go_enter Try.func89, Try.ntmps89
  go_wp2
  rw [run_callFunc_extern Try.func96 (by kernel_rfl) (by kernel_rfl) (by kernel_rfl) (e := Extern.BytealgCompare.compare) (by kernel_rfl), Lib.run_compareString]
  simp only [Result.andThen]
  rw [Oper.upon_value]
  go_wp2
  go_ret
  exact ⟨rfl, rfl⟩
set_option maxRecDepth 100000 in
set_option maxHeartbeats 400000 in
theorem compare_mid (a b : ByteArray) (w : World) :
    Calls Try.prog 79 #[.string a, .string b] w fun e w' => e = .returned (.int .i64 (Lib.compareBytes a.data.toList b.data.toList)) ∧ w = w' := by
  go_enter Try.func79, Try.ntmps79
  go_wp2_with (go_at_call 89; refine (compare_in _ _ _).mono ?_; rintro e w' ⟨rfl, rfl⟩)
  go_ret
  exact ⟨rfl, rfl⟩
set_option maxRecDepth 100000 in
set_option maxHeartbeats 400000 in
theorem compare_any (a b : ByteArray) (w : World) :
    Calls Try.prog 50 #[.string a, .string b] w fun e w' => e = .returned (.int .i64 (Lib.compareBytes a.data.toList b.data.toList)) ∧ w = w' := by
  go_enter Try.func50, Try.ntmps50
  go_wp2_with (go_at_call 79; refine (compare_mid _ _ _).mono ?_; rintro e w' ⟨rfl, rfl⟩)
  go_ret
  exact ⟨rfl, rfl⟩
theorem compare_is (a b : ByteArray) (x : Int) (h : Hid (Lib.compareBytes a.data.toList b.data.toList = x)) (w : World) :
    Calls Try.prog 50 #[.string a, .string b] w fun e w' => e = .returned (.int .i64 x) ∧ w = w' := by
  rw [← h.out]; exact compare_any a b w

/-- A world with some draws more. -/
def Drawn (w w' : World) : Prop := ∃ n, w' = w.drewN n
theorem Drawn.refl (w : World) : Drawn w w := ⟨0, rfl⟩
theorem Drawn.more {w w1 : World} (h : Drawn w w1) (n : Nat) : Drawn w (w1.drewN n) := by
  obtain ⟨m, rfl⟩ := h
  exact ⟨m + n, by simp [World.drewN]; omega⟩

set_option maxRecDepth 100000 in
set_option maxHeartbeats 1000000 in
theorem rcompare_any (a b : ByteArray) (w : World) (ha : a.size ≤ 9223372036854775807) :
    Calls Try.prog 55 #[.string a, .string b] w fun e w' => e = .returned (.int .i64 (Lib.compareBytes a.data.toList b.data.toList)) ∧ Hid (Drawn w w') := by
  have la : a.data.toList.length = a.size := by simp
  have lb : b.data.toList.length = b.size := by simp
  have LA := Lib.hid la
  have LB := Lib.hid lb
  clear la lb
  go_enter Try.func55, Try.ntmps55
  go_wp2
  go_loopw [5] (fun i wr => ∃ k : Nat, k ≤ a.size ∧ k ≤ b.size ∧ i = .int .i64 k ∧ Hid (Lib.compareBytes a.data.toList b.data.toList = Lib.compareBytes (a.data.toList.drop k) (b.data.toList.drop k)) ∧ Hid (Drawn w wr)) (fun i _ => a.size - (intOf i).toNat)
  case atStart => exact ⟨0, by omega, by omega, rfl, rfl, Drawn.refl w⟩
  case round =>
    obtain ⟨k, hka, hkb, rfl, HC, HD⟩ := hrel
    by_cases h1 : k < a.size
    · by_cases h2 : k < b.size
      · have ea := Lib.hid (at8_lt a k h1)
        have eb := Lib.hid (at8_lt b k h2)
        by_cases c1 : (a[k].toNat : Int) < (b[k].toNat : Int)
        · go_wp2
          go_quiet (fail)
          go_wp2
          go_ret
          exact ⟨ret_int (by rw [HC.out, cmp_lo (by have := LA.out; omega) (by have := LB.out; omega) (by have := ea.out; have := eb.out; omega)]), HD.out.more _⟩
        · by_cases c2 : (b[k].toNat : Int) < (a[k].toNat : Int)
          · go_wp2
            go_quiet (fail)
            go_wp2
            go_quiet (fail)
            go_wp2
            go_ret
            exact ⟨ret_int (by rw [HC.out, cmp_hi (by have := LA.out; omega) (by have := LB.out; omega) (by have := ea.out; have := eb.out; omega)]), (HD.out.more _).more _⟩
          · go_wp2
            go_quiet (fail)
            go_wp2
            go_quiet (fail)
            go_wp2
            go_roundw
            case rel =>
              exact ⟨k + 1, by omega, by omega, by go_num, by show _ = _; rw [HC.out, cmp_eq (by have := LA.out; omega) (by have := LB.out; omega) (by have := ea.out; have := eb.out; omega)], HD.out.more _⟩
            case measure => simp [intOf]; omega
      · have HE : Hid (Lib.compareBytes a.data.toList b.data.toList = if a.data.toList.length < b.data.toList.length then -1 else if b.data.toList.length < a.data.toList.length then 1 else 0) := by
          show _ = _
          rw [HC.out]; exact cmp_end (Or.inr (by have := LB.out; omega)) (by have := LA.out; omega) (by have := LB.out; omega)
        have c1 : ¬ a.size < b.size := by omega
        have c2 : b.size < a.size := by omega
        go_wp2
        go_ret
        exact ⟨ret_int (by rw [HE.out, if_neg (by have := LA.out; have := LB.out; omega), if_pos (by have := LA.out; have := LB.out; omega)]), HD.out⟩
    · have HE : Hid (Lib.compareBytes a.data.toList b.data.toList = if a.data.toList.length < b.data.toList.length then -1 else if b.data.toList.length < a.data.toList.length then 1 else 0) := by
        show _ = _
        rw [HC.out]; exact cmp_end (Or.inl (by have := LA.out; omega)) (by have := LA.out; omega) (by have := LB.out; omega)
      by_cases c1 : a.size < b.size
      · go_wp2
        go_ret
        exact ⟨ret_int (by rw [HE.out, if_pos (by have := LA.out; have := LB.out; omega)]), HD.out⟩
      · have c2 : ¬ b.size < a.size := by omega
        go_wp2
        go_ret
        exact ⟨ret_int (by rw [HE.out, if_neg (by have := LA.out; have := LB.out; omega), if_neg (by have := LA.out; have := LB.out; omega)]), HD.out⟩

end Go.Proofs.Ythfdjebeblmmdaa

/- Plain mathematics of rows of ids and numbers: the order of ids, rising rows, how far one is. -/
namespace Go.Proofs.Ythfdjebeblmmdaa

/-- The order of two ids. -/
def cmpId (a b : ByteArray) : Int := Lib.compareBytes a.data.toList b.data.toList
theorem cmpId_three (a b : ByteArray) : cmpId a b = -1 ∨ cmpId a b = 0 ∨ cmpId a b = 1 := cmp_three _ _
theorem cmpId_zero (a b : ByteArray) : cmpId a b = 0 ↔ a = b := by
  unfold cmpId
  rw [cmp_zero]
  constructor
  · intro h; exact ByteArray.ext (Array.ext' h)
  · rintro rfl; rfl
theorem cmpId_neg (a b : ByteArray) : cmpId b a = - cmpId a b := cmp_neg _ _
theorem cmpId_self (a : ByteArray) : cmpId a a = 0 := (cmpId_zero a a).mpr rfl
theorem cmpId_le (a b c : ByteArray) (h1 : cmpId a b ≤ 0) (h2 : cmpId b c ≤ 0) : cmpId a c ≤ 0 := cmp_trans _ _ _ h1 h2
theorem cmpId_lt (a b c : ByteArray) (h1 : cmpId a b < 0) (h2 : cmpId b c ≤ 0) : cmpId a c < 0 := by
  have h := cmpId_le a b c (by omega) h2
  rcases cmpId_three a c with e | e | e
  · omega
  · have := (cmpId_zero a c).mp e
    subst this
    have := cmpId_neg a b
    omega
  · omega
theorem cmpId_lt' (a b c : ByteArray) (h1 : cmpId a b ≤ 0) (h2 : cmpId b c < 0) : cmpId a c < 0 := by
  have h := cmpId_le a b c h1 (by omega)
  rcases cmpId_three a c with e | e | e
  · omega
  · have := (cmpId_zero a c).mp e
    subst this
    have := cmpId_neg a b
    omega
  · omega

abbrev At := ByteArray × Int
def atNil : At := (ByteArray.mk #[], 0)
/-- The ids rise, each stands once. -/
def Rising (zs : List At) : Prop := zs.Pairwise fun x y => cmpId x.1 y.1 < 0
/-- How far one is. -/
def ofF (zs : List At) (a : ByteArray) : Int := match zs with
  | [] => 0
  | x :: r => if x.1 = a then x.2 else ofF r a

theorem rising_lt {zs : List At} (hs : Rising zs) (i j : Nat) (hij : i < j) (hj : j < zs.length) : cmpId (zs.getD i atNil).1 (zs.getD j atNil).1 < 0 := by
  have := List.pairwise_iff_getElem.1 hs i j (by omega) hj hij
  simpa [List.getD_eq_getElem?_getD, List.getElem?_eq_getElem hj, List.getElem?_eq_getElem (show i < zs.length by omega)] using this
theorem ofF_none {zs : List At} {a : ByteArray} (h : ∀ x ∈ zs, x.1 ≠ a) : ofF zs a = 0 := by
  induction zs with
  | nil => rfl
  | cons x r ih => unfold ofF; rw [if_neg (h x (by simp))]; exact ih fun y hy => h y (by simp [hy])
theorem ofF_mem {zs : List At} {x : At} (hs : Rising zs) (h : x ∈ zs) : ofF zs x.1 = x.2 := by
  induction zs with
  | nil => simp at h
  | cons y r ih =>
    unfold ofF
    rcases List.mem_cons.mp h with rfl | h
    · rw [if_pos rfl]
    · have := (List.pairwise_cons.mp hs).1 x h
      rw [if_neg (fun e => by rw [e, cmpId_self] at this; omega)]
      exact ih (List.pairwise_cons.mp hs).2 h
theorem ofF_pos {zs : List At} {a : ByteArray} (h : ofF zs a ≠ 0) : ∃ x ∈ zs, x.1 = a := by
  induction zs with
  | nil => exact absurd rfl h
  | cons y r ih =>
    by_cases e : y.1 = a
    · exact ⟨y, by simp, e⟩
    · unfold ofF at h; rw [if_neg e] at h
      obtain ⟨x, hx, hxa⟩ := ih h
      exact ⟨x, by simp [hx], hxa⟩
theorem getD_mem {zs : List At} {k : Nat} (hk : k < zs.length) : zs.getD k atNil ∈ zs := by
  rw [List.getD_eq_getElem?_getD, List.getElem?_eq_getElem hk]; exact List.getElem_mem hk
theorem mem_getD {zs : List At} {x : At} (h : x ∈ zs) : ∃ k, k < zs.length ∧ zs.getD k atNil = x := by
  obtain ⟨k, hk, e⟩ := List.mem_iff_getElem.mp h
  exact ⟨k, hk, by rw [List.getD_eq_getElem?_getD, List.getElem?_eq_getElem hk]; exact e⟩

/-- What the binary search has found out: all below i lie ahead of a, all from j on don't. -/
def Parts (zs : List At) (a : ByteArray) (i j : Nat) : Prop := (∀ k, k < i → cmpId (zs.getD k atNil).1 a < 0) ∧ ∀ k, j ≤ k → k < zs.length → 0 ≤ cmpId (zs.getD k atNil).1 a
theorem parts_start (zs : List At) (a : ByteArray) : Parts zs a 0 zs.length := ⟨fun k hk => by omega, fun k hk hk2 => by omega⟩
theorem parts_lo {zs : List At} {a : ByteArray} {i j m : Nat} (hs : Rising zs) (h : Parts zs a i j) (hm : m < zs.length) (hc : cmpId (zs.getD m atNil).1 a < 0) : Parts zs a (m + 1) j := by
  refine ⟨fun k hk => ?_, h.2⟩
  rcases Nat.lt_or_ge k m with h1 | h1
  · exact cmpId_lt _ _ _ (rising_lt hs k m h1 hm) (by omega)
  · rw [show k = m by omega]; exact hc
theorem parts_hi {zs : List At} {a : ByteArray} {i j m : Nat} (hs : Rising zs) (h : Parts zs a i j) (hc : ¬ cmpId (zs.getD m atNil).1 a < 0) : Parts zs a i m := by
  refine ⟨h.1, fun k hk hk2 => ?_⟩
  rcases Nat.lt_or_ge m k with h1 | h1
  · have h2 := rising_lt hs m k h1 hk2
    rcases cmpId_three (zs.getD k atNil).1 a with e | e | e
    · have := cmpId_lt _ _ _ h2 (show cmpId (zs.getD k atNil).1 a ≤ 0 by omega); omega
    · omega
    · omega
  · rw [show k = m by omega]; omega
theorem parts_none {zs : List At} {a : ByteArray} {i : Nat} (hs : Rising zs) (h : Parts zs a i i) (hi : ¬ (i < zs.length ∧ cmpId (zs.getD i atNil).1 a = 0)) : ∀ x ∈ zs, x.1 ≠ a := by
  rintro x hx rfl
  obtain ⟨k, hk, e⟩ := mem_getD hx
  rcases Nat.lt_trichotomy k i with h1 | h1 | h1
  · have := h.1 k h1; rw [e, cmpId_self] at this; omega
  · subst h1; exact hi ⟨hk, by rw [e, cmpId_self]⟩
  · have h2 := h.2 i (Nat.le_refl _) (by omega)
    have h3 := rising_lt hs i k h1 hk
    rw [e] at h3
    omega

/-- What the binary search answers: the place, where there is one. -/
def Found (a : ByteArray) (zs : List At) (e : Ending) : Prop :=
  (∃ k : Nat, k < zs.length ∧ (zs.getD k atNil).1 = a ∧ e = .returned (.tuple #[.int .i64 k, .bool true])) ∨ ((∀ x ∈ zs, x.1 ≠ a) ∧ ∃ k : Nat, e = .returned (.tuple #[.int .i64 k, .bool false]))
end Go.Proofs.Ythfdjebeblmmdaa

/- Rows of ids and numbers (Vec): how they lie in memory; append onto a row of the call's own. -/
namespace Go.Proofs.Ythfdjebeblmmdaa
open Go.RowKit

def atCells (zs : List At) : List Value := zs.flatMap fun x => [.string x.1, .int .i64 x.2]

/-- In w the slice (A, n) holds the ids and numbers zs, in a block below B. -/
def VecAt (w : World) (B : Nat) (A : Option Addr) (n : Nat) (zs : List At) : Prop :=
  zs.length = n ∧ (0 < n → ∃ b off, A = some ⟨b, off, none⟩ ∧ b < B ∧ ∀ k, k < n → w.cell? ⟨b, off + k * 2, none⟩ = some (.string (zs.getD k atNil).1) ∧ w.cell? ⟨b, off + k * 2 + 1, none⟩ = some (.int .i64 (zs.getD k atNil).2))

theorem VecAt.nil (w : World) (B : Nat) (A : Option Addr) : VecAt w B A 0 [] := ⟨rfl, fun h => absurd h (by omega)⟩
theorem VecAt.hold {w w' : World} {B : Nat} {A : Option Addr} {n : Nat} {zs : List At} (h : VecAt w B A n zs) (hk : ∀ b o, b < B → w'.cell? ⟨b, o, none⟩ = w.cell? ⟨b, o, none⟩) : VecAt w' B A n zs :=
  ⟨h.1, fun hn => by
    obtain ⟨b, off, e, hlt, hc⟩ := h.2 hn
    exact ⟨b, off, e, hlt, fun k hk' => ⟨(hk b _ hlt).trans (hc k hk').1, (hk b _ hlt).trans (hc k hk').2⟩⟩⟩
theorem VecAt.keep {w w' : World} {B : Nat} {A : Option Addr} {n : Nat} {zs : List At} (h : VecAt w B A n zs) (hb : Below B w w') : VecAt w' B A n zs :=
  h.hold fun b o hlt => hb.cell (p := ⟨b, o, none⟩) hlt
theorem VecAt.more {w : World} {B B' : Nat} {A : Option Addr} {n : Nat} {zs : List At} (h : VecAt w B A n zs) (hB : B ≤ B') : VecAt w B' A n zs :=
  ⟨h.1, fun hn => by
    obtain ⟨b, off, e, hlt, hc⟩ := h.2 hn
    exact ⟨b, off, e, by omega, hc⟩⟩
theorem VecAt.drewN {w : World} {B : Nat} {A : Option Addr} {n : Nat} {zs : List At} (h : VecAt w B A n zs) (k : Nat) : VecAt (w.drewN k) B A n zs := h
theorem VecAt.drew {w : World} {B : Nat} {A : Option Addr} {n : Nat} {zs : List At} (h : VecAt w B A n zs) : VecAt w.drew B A n zs := h
theorem VecAt.alloc {w : World} {B : Nat} {A : Option Addr} {n : Nat} {zs : List At} (h : VecAt w B A n zs) (hB : B ≤ w.heap.size) (o : Obj) : VecAt (w.alloc o) B A n zs :=
  h.hold fun b k hlt => World.cell?_alloc_lt w o ⟨b, k, none⟩ (by show b < w.heap.size; omega)
theorem VecAt.grown {w w' : World} {B : Nat} {A : Option Addr} {n : Nat} {zs : List At} {row : Option Nat} (h : VecAt w B A n zs) (hg : w.grownBy w' row) (hB : B ≤ w.heap.size) (hr : ∀ g, row = some g → B ≤ g) : VecAt w' B A n zs :=
  h.hold fun b k hlt => World.cell?_of_block (a := ⟨b, k, none⟩) (hg.block b (by omega) (fun e => by have := hr _ e.symm; omega))
/-- The row behind a cut. -/
theorem VecAt.tail {w : World} {B : Nat} {b off n : Nat} {zs : List At} (h : VecAt w B (some ⟨b, off, none⟩) (n + 1) zs) : VecAt w B (some ⟨b, off + 2, none⟩) n (zs.drop 1) := by
  refine ⟨by rw [List.length_drop, h.1]; rfl, fun hn => ?_⟩
  obtain ⟨b', off', e, hlt, hc⟩ := h.2 (by omega)
  injection e with e
  injection e with e1 e2
  subst e1 e2
  refine ⟨b, off + 2, rfl, hlt, fun k hk => ?_⟩
  have := hc (k + 1) (by omega)
  rw [show off + (k + 1) * 2 = off + 2 + k * 2 by omega] at this
  simpa [List.getD_eq_getElem?_getD, List.getElem?_drop, Nat.add_comm 1 k] using this

theorem atCells_length (zs : List At) : (atCells zs).length = zs.length * 2 := by
  induction zs with
  | nil => rfl
  | cons x r ih => simp only [atCells, List.flatMap_cons, List.length_append, List.length_cons, List.length_nil] at ih ⊢; omega
theorem atCells_append (xs ys : List At) : atCells (xs ++ ys) = atCells xs ++ atCells ys := by simp [atCells]
theorem atCells_get (zs : List At) : ∀ k, k < zs.length → (atCells zs)[k * 2]? = some (.string (zs.getD k atNil).1) ∧ (atCells zs)[k * 2 + 1]? = some (.int .i64 (zs.getD k atNil).2) := by
  induction zs with
  | nil => intro k hk; simp at hk
  | cons x r ih =>
    intro k hk
    cases k with
    | zero => exact ⟨rfl, rfl⟩
    | succ k =>
      have := ih k (by simpa using hk)
      rw [show (k + 1) * 2 = k * 2 + 2 by omega]
      simpa [atCells] using this
theorem atCells_some {zs : List At} {j : Nat} {u : Value} (h : (atCells zs)[j]? = some u) : ∃ k, k < zs.length ∧ ((j = k * 2 ∧ u = .string (zs.getD k atNil).1) ∨ (j = k * 2 + 1 ∧ u = .int .i64 (zs.getD k atNil).2)) := by
  have hj : j < zs.length * 2 := by
    have := (List.getElem?_eq_some_iff.mp h).1
    rwa [atCells_length] at this
  rcases Nat.mod_two_eq_zero_or_one j with hm | hm
  · refine ⟨j / 2, by omega, Or.inl ⟨by omega, ?_⟩⟩
    have := (atCells_get zs (j / 2) (by omega)).1
    rw [show j / 2 * 2 = j by omega, h] at this
    injection this
  · refine ⟨j / 2, by omega, Or.inr ⟨by omega, ?_⟩⟩
    have := (atCells_get zs (j / 2) (by omega)).2
    rw [show j / 2 * 2 + 1 = j by omega, h] at this
    injection this
theorem atCells_one {zs : List At} : ∀ u ∈ atCells zs, u.oneCell' = true := by
  intro u hu
  simp only [atCells, List.mem_flatMap] at hu
  obtain ⟨x, _, hx⟩ := hu
  simp at hx
  rcases hx with rfl | rfl <;> rfl

theorem addr_add (b o j : Nat) : (⟨b, o, none⟩ : Addr).add j = ⟨b, o + j, none⟩ := by unfold Addr.add; split <;> simp_all
theorem vec_cells {w : World} {B : Nat} {ad : Addr} {m : Nat} {ys : List At} (h : VecAt w B (some ad) m ys) : ∀ j u, (atCells ys)[j]? = some u → w.cell? (ad.add j) = some u := by
  intro j u hu
  obtain ⟨k, hk, hj⟩ := atCells_some hu
  obtain ⟨b, off, e, _, hc⟩ := h.2 (by have := h.1; omega)
  injection e with e
  subst e
  have h1 := hc k (by have := h.1; omega)
  rw [addr_add]
  rcases hj with ⟨rfl, rfl⟩ | ⟨rfl, rfl⟩
  · exact h1.1
  · exact h1.2

/-- The two kinds of rows: the program's and the document's. -/
structure AtTy (sl e : TypeId) : Prop where
  u : Try.prog.underlying sl = some (.slice e)
  i : (Try.prog.info? e).map (fun i => (i.zero, i.size, i.bytes)) = some (some (.agg #[.string ⟨#[]⟩, .int .i64 0]), 2, 24)
theorem vecTy : AtTy 60 75 := ⟨Try.underlying60, by kernel_rfl⟩
theorem refTy : AtTy 55 104 := ⟨Try.underlying55, by kernel_rfl⟩

theorem own_form {w : World} {B : Nat} {e : TypeId} {v : Value} {n : Nat} {xs : List Value} (h : w.ownsRow B e 2 v n xs) : ∃ A c, v = .slice A n c := by
  rcases h.2 with ⟨rfl, rfl⟩ | ⟨g, cap, _, rfl, _⟩
  · exact ⟨none, 0, rfl⟩
  · exact ⟨_, cap, rfl⟩
theorem own_vec {w : World} {B : Nat} {e : TypeId} {A : Option Addr} {n c : Nat} {zs : List At} (h : w.ownsRow B e 2 (.slice A n c) n (atCells zs)) : VecAt w w.heap.size A n zs := by
  have hl : zs.length = n := by have := h.1; rw [atCells_length] at this; omega
  refine ⟨hl, fun hn => ?_⟩
  have hh := h
  obtain ⟨g, cap, hv, _, hlt⟩ := h.form hn
  injection hv with hA
  subst hA
  refine ⟨g, 0, rfl, hlt, fun k hk => ?_⟩
  have h1 := atCells_get zs k (by omega)
  have h2 := hh.cells (g := g) rfl (k * 2) _ h1.1
  have h3 := hh.cells (g := g) rfl (k * 2 + 1) _ h1.2
  rw [addr_add] at h2 h3
  exact ⟨h2, h3⟩
theorem own_lt {w : World} {B : Nat} {e : TypeId} {v : Value} {n : Nat} {xs : List Value} (h : w.ownsRow B e 2 v n xs) {g : Nat} (hg : v.ownBlock = some g) : B ≤ g ∧ g < w.heap.size := h.lt g hg

theorem run_append_at {sl e ty : TypeId} (T : AtTy sl e) {w : World} {B B' : Nat} {v : Value} {n : Nat} {zs : List At} (hown : w.ownsRow B e 2 v n (atCells zs)) {A : Option Addr} {m : Nat} {ys : List At} (c : Nat)
    (hr : VecAt w B' A m ys) (hb : n + m ≤ 1099511627776) (hB : B ≤ w.heap.size) :
    ∃ v' w', (Builtin.append_ #[sl, sl] ty #[v, .slice A m c]).run Try.prog w = .ok v' w' ∧ w'.ownsRow B e 2 v' (n + m) (atCells (zs ++ ys)) ∧ w.grownBy w' v.ownBlock ∧ (v'.ownBlock = v.ownBlock ∨ v'.ownBlock = some w.heap.size) := by
  obtain ⟨i, hi, hz0, hz1, hz2⟩ := info_parts T.i
  rcases A with _ | ad
  · have hm : m = 0 := by
      rcases Nat.eq_zero_or_pos m with h0 | h0
      · exact h0
      · obtain ⟨_, _, h, _⟩ := hr.2 h0
        cases h
    subst hm
    have hy : ys = [] := List.eq_nil_of_length_eq_zero hr.1
    subst hy
    refine ⟨v, w, ?_, by simpa using hown, World.grownBy.refl w _, .inl rfl⟩
    rcases hown.2 with ⟨rfl, rfl⟩ | ⟨g, cap, cur, rfl, _, _, hnc, _⟩
    · simp [Builtin.append_, run_underlying T.u, sizeOf, typeInfo, hi, Builtin.lenOf, Builtin.firstCells]
    · simp [Builtin.append_, run_underlying T.u, sizeOf, typeInfo, hi, Builtin.lenOf, Builtin.firstCells, hnc, storeCells]
  · obtain ⟨v', w', hrun, h2, h3, _, h5⟩ := run_append_own_at (P := Try.prog) w B sl ty e i (.agg #[.string ⟨#[]⟩, .int .i64 0]) 2 24 T.u hi hz0 hz1 hz2 rfl (by decide) v n _ hown ad m c (atCells ys) (by rw [atCells_length, hr.1]) (vec_cells hr)
      atCells_one (by unfold maxLen; omega) (by omega) hB
    exact ⟨v', w', hrun, by rw [atCells_append]; exact h2, h3, h5⟩

theorem wp_append_at {o : Oper} {a : Act} {K : Act → World → Prop} {Q : Exit → Act → World → Prop} {sl e : TypeId} (T : AtTy sl e) (s x : Operand) (ho : o.op = .call { callee := .builtin .append, args := #[s, x], argTypes := #[sl, sl] })
    {w : World} {B B' : Nat} {v : Value} {n : Nat} {zs : List At} (hs : a.eval s = v) (hown : w.ownsRow B e 2 v n (atCells zs)) {A : Option Addr} {m : Nat} {ys : List At} {c : Nat} (hx : a.eval x = .slice A m c)
    (hr : VecAt w B' A m ys) (hb : n + m ≤ 1099511627776) (hB : B ≤ w.heap.size)
    (h : ∀ A' c' w', w'.ownsRow B e 2 (.slice A' (n + m) c') (n + m) (atCells (zs ++ ys)) → w.grownBy w' v.ownBlock → (Value.ownBlock (.slice A' (n + m) c') = v.ownBlock ∨ Value.ownBlock (.slice A' (n + m) c') = some w.heap.size) → K (a.put o.dst (.slice A' (n + m) c')) w') : o.wp Try.prog a w K Q := by
  obtain ⟨v', w', hrun, h2, h3, h4⟩ := run_append_at (ty := o.type) T hown c hr hb hB
  obtain ⟨A', c', rfl⟩ := own_form h2
  unfold Oper.wp execOp
  simp only [ho, resolve, invoke, builtin, Sem.run_bind, Sem.run_pure, Result.andThen_ok, List.map_toArray, List.map_cons, List.map_nil, hs, hx, hrun]
  exact h A' c' w' h2 h3 h4
theorem wpList_append_at {ops : Array Oper} {rest : List Oper} {o : Oper} {a : Act} {Q : Exit → Act → World → Prop} {sl e : TypeId} (T : AtTy sl e) (hgd : o.guard = none) (s x : Operand) (ho : o.op = .call { callee := .builtin .append, args := #[s, x], argTypes := #[sl, sl] })
    {w : World} {B B' : Nat} {v : Value} {n : Nat} {zs : List At} (hs : a.eval s = v) (hown : w.ownsRow B e 2 v n (atCells zs)) {A : Option Addr} {m : Nat} {ys : List At} {c : Nat} (hx : a.eval x = .slice A m c)
    (hr : VecAt w B' A m ys) (hb : n + m ≤ 1099511627776) (hB : B ≤ w.heap.size)
    (h : ∀ A' c' w', w'.ownsRow B e 2 (.slice A' (n + m) c') (n + m) (atCells (zs ++ ys)) → w.grownBy w' v.ownBlock → (Value.ownBlock (.slice A' (n + m) c') = v.ownBlock ∨ Value.ownBlock (.slice A' (n + m) c') = some w.heap.size) → wpList Try.prog ops Q rest (a.put o.dst (.slice A' (n + m) c')) w') :
    wpList Try.prog ops Q (o :: rest) a w :=
  wpList_plain hgd fun _ hK => wp_append_at T s x ho hs hown hx hr hb hB fun A' c' w' h2 h3 h4 => hK _ _ (h A' c' w' h2 h3 h4)
theorem step_append_at {ops : Array Oper} {o : Oper} {a : Act} {K : Act → World → Prop} {Q : Exit → Act → World → Prop} {E : Prop} {sl e : TypeId} (T : AtTy sl e) (hgd : o.guard = none) (s x : Operand) (ho : o.op = .call { callee := .builtin .append, args := #[s, x], argTypes := #[sl, sl] })
    {w : World} {B B' : Nat} {v : Value} {n : Nat} {zs : List At} (hs : a.eval s = v) (hown : w.ownsRow B e 2 v n (atCells zs)) {A : Option Addr} {m : Nat} {ys : List At} {c : Nat} (hx : a.eval x = .slice A m c)
    (hr : VecAt w B' A m ys) (hb : n + m ≤ 1099511627776) (hB : B ≤ w.heap.size)
    (h : ∀ A' c' w', w'.ownsRow B e 2 (.slice A' (n + m) c') (n + m) (atCells (zs ++ ys)) → w.grownBy w' v.ownBlock → (Value.ownBlock (.slice A' (n + m) c') = v.ownBlock ∨ Value.ownBlock (.slice A' (n + m) c') = some w.heap.size) → K (a.put o.dst (.slice A' (n + m) c')) w') :
    if Region.wanted o (yielded ops a.tmps) = true then Oper.wp Try.prog o a w K Q else E := by
  have hw : Region.wanted o (yielded ops a.tmps) = true := by simp [Region.wanted, hgd]
  rw [if_pos hw]
  exact wp_append_at T s x ho hs hown hx hr hb hB h

/-- The row of one element that append lays first. -/
theorem one_at {w : World} {g : Nat} {e : TypeId} {s : ByteArray} {n : Int} {fr : Nat × Nat} (h : w.heap[g]? = some (.cells #[.string s, .int .i64 n] e fr)) : VecAt w (g + 1) (some ⟨g, 0, none⟩) 1 [(s, n)] :=
  ⟨rfl, fun _ => ⟨_, _, rfl, by omega, fun k hk => by
    obtain rfl : k = 0 := by omega
    exact ⟨by have := cell_of_row w g 0 _ _ _ h; simpa using this, by have := cell_of_row w g 1 _ _ _ h; simpa using this⟩⟩⟩

/-- Where a row lies behind a call: nowhere, or in a block from B on. -/
theorem grown_of_below {w w' : World} (h : Below w.heap.size w w') (row : Option Nat) : w.grownBy w' row := ⟨h.os, h.tape, h.output, h.size, fun k hk _ => h.block k hk⟩
theorem grown_below {w w' : World} {B : Nat} {row : Option Nat} (hg : w.grownBy w' row) (hB : B ≤ w.heap.size) (hr : ∀ g, row = some g → B ≤ g) : Below B w w' :=
  ⟨hg.os, hg.tape, hg.output, hg.size, fun k hk => hg.block k (by omega) (fun e => by have := hr _ e.symm; omega)⟩
theorem own_nil (w : World) (B : Nat) (e : TypeId) : w.ownsRow B e 2 (.slice none 0 0) 0 (atCells []) := ⟨rfl, .inl ⟨rfl, rfl⟩⟩
/-- The row stays its own, whatever turned but it. -/
theorem own_grown {w w' : World} {B : Nat} {e : TypeId} {v : Value} {n : Nat} {xs : List Value} (h : w.ownsRow B e 2 v n xs) {row : Option Nat} (hg : w.grownBy w' row) (hne : row = none ∨ v.ownBlock ≠ row) : w'.ownsRow B e 2 v n xs :=
  h.kept (row := row) hg (by
    rcases hne with rfl | hne
    · cases hv : v.ownBlock <;> simp
    · exact .inr hne)
theorem own_below {w w' : World} {B : Nat} {e : TypeId} {v : Value} {n : Nat} {xs : List Value} (h : w.ownsRow B e 2 v n xs) (hb : Below w.heap.size w w') : w'.ownsRow B e 2 v n xs :=
  own_grown h (grown_of_below hb none) (.inl rfl)
end Go.Proofs.Ythfdjebeblmmdaa

/- vec.order, the library's binary search by it, and vec.Of. -/
namespace Go.Proofs.Ythfdjebeblmmdaa
open Go.RowKit

/-- The cells of one element, in a world that came behind. -/
theorem VecAt.cells {w wr : World} {B : Nat} {A : Option Addr} {n : Nat} {zs : List At} (h : VecAt w B A n zs) (hb : Below B w wr) {k : Nat} (hk : k < n) :
    ∃ b off, A = some ⟨b, off, none⟩ ∧ b < B ∧ wr.cell? ⟨b, off + k * 2, none⟩ = some (.string (zs.getD k atNil).1) ∧ wr.cell? ⟨b, off + k * 2 + 1, none⟩ = some (.int .i64 (zs.getD k atNil).2) := by
  obtain ⟨b, off, e, hlt, hc⟩ := (h.keep hb).2 (by omega)
  exact ⟨b, off, e, hlt, hc k hk⟩

end Go.Proofs.Ythfdjebeblmmdaa

/- vec.Within and vec.Right. -/
namespace Go.Proofs.Ythfdjebeblmmdaa
open Go.RowKit

/-- Is none of zs farther than in ys? -/
def withinF (zs ys : List At) : Bool := zs.all fun x => decide (x.2 ≤ ofF ys x.1)
theorem all_take {zs : List At} {f : At → Bool} {k : Nat} (hk : k < zs.length) : (zs.take (k + 1)).all f = ((zs.take k).all f && f (zs.getD k atNil)) := by
  rw [List.take_succ_eq_append_getElem hk, List.all_append, List.getD_eq_getElem?_getD, List.getElem?_eq_getElem hk]
  simp
theorem all_false {zs : List At} {f : At → Bool} {k : Nat} (hk : k < zs.length) (h : f (zs.getD k atNil) = false) : zs.all f = false := by
  rw [List.all_eq_false]
  exact ⟨_, getD_mem hk, fun e => by rw [h] at e; cases e⟩

end Go.Proofs.Ythfdjebeblmmdaa

/- vec.Right, and the document's. -/
namespace Go.Proofs.Ythfdjebeblmmdaa
open Go.RowKit

theorem quiet_same {P : Program} {f : FuncId} {args : Array Value} {w : World} {n : Nat} {v : Value} (h : Calls P f args (w.drewN n) fun e w' => e = .returned v ∧ w.drewN n = w') : Calls P f args (w.drewN n) fun e w'' => e = .returned v ∧ ∃ m, w'' = w.drewN m :=
  h.mono fun _ _ ⟨he, hm⟩ => ⟨he, n, hm.symm⟩
theorem quiet_drawn {P : Program} {f : FuncId} {args : Array Value} {w : World} {n : Nat} {v : Value} (h : Calls P f args (w.drewN n) fun e w' => e = .returned v ∧ Hid (Drawn (w.drewN n) w')) : Calls P f args (w.drewN n) fun e w'' => e = .returned v ∧ ∃ m, w'' = w.drewN m :=
  h.mono fun _ _ ⟨he, hm⟩ => ⟨he, by obtain ⟨m, rfl⟩ := hm.out; exact ⟨n + m, by rw [World.drewN_drewN]⟩⟩

/-- May the one stand in a Vec? -/
def okAt (x : At) : Bool := rightL x.1.data.toList && (decide (1 ≤ x.2) && decide (x.2 ≤ 1048576))
/-- May it be? -/
def rightV (zs : List At) : Bool := (List.range zs.length).all fun k => okAt (zs.getD k atNil) && (k == 0 || decide (cmpId (zs.getD (k - 1) atNil).1 (zs.getD k atNil).1 < 0))
/-- Up to k nothing is wrong. -/
def RightTo (zs : List At) (k : Nat) : Prop := ∀ j, j < k → okAt (zs.getD j atNil) = true ∧ (0 < j → cmpId (zs.getD (j - 1) atNil).1 (zs.getD j atNil).1 < 0)
theorem rightTo_zero (zs : List At) : RightTo zs 0 := fun j hj => by omega
theorem rightTo_succ {zs : List At} {k : Nat} (h : RightTo zs k) (h1 : okAt (zs.getD k atNil) = true) (h2 : 0 < k → cmpId (zs.getD (k - 1) atNil).1 (zs.getD k atNil).1 < 0) : RightTo zs (k + 1) := fun j hj => by
  by_cases e : j = k
  · subst e; exact ⟨h1, h2⟩
  · exact h j (by omega)
theorem rightV_iff (zs : List At) : rightV zs = true ↔ RightTo zs zs.length := by
  unfold rightV RightTo
  rw [List.all_eq_true]
  constructor
  · intro h j hj
    have := h j (List.mem_range.mpr hj)
    rw [Bool.and_eq_true, Bool.or_eq_true, beq_iff_eq, decide_eq_true_iff] at this
    exact ⟨this.1, fun h0 => this.2.resolve_left (by omega)⟩
  · intro h j hj
    have := h j (List.mem_range.mp hj)
    rw [Bool.and_eq_true, Bool.or_eq_true, beq_iff_eq, decide_eq_true_iff]
    refine ⟨this.1, ?_⟩
    by_cases h0 : j = 0
    · exact Or.inl h0
    · exact Or.inr (this.2 (by omega))
theorem rightV_no {zs : List At} {k : Nat} (hk : k < zs.length) (h : okAt (zs.getD k atNil) = false ∨ (0 < k ∧ ¬ cmpId (zs.getD (k - 1) atNil).1 (zs.getD k atNil).1 < 0)) : rightV zs = false := by
  rw [Bool.eq_false_iff]
  intro e
  have := (rightV_iff zs).mp e k hk
  rcases h with h | h
  · rw [h] at this; exact absurd this.1 (by simp)
  · exact h.2 (this.2 h.1)
theorem okAt_no {x : At} (h : rightL x.1.data.toList = false ∨ x.2 < 1 ∨ 1048576 < x.2) : okAt x = false := by
  unfold okAt
  rcases h with h | h | h
  · rw [h]; rfl
  · rw [decide_eq_false (show ¬ 1 ≤ x.2 by omega)]; simp
  · rw [decide_eq_false (show ¬ x.2 ≤ 1048576 by omega)]; simp
theorem okAt_yes {x : At} (h : rightL x.1.data.toList = true) (h1 : ¬ x.2 < 1) (h2 : ¬ 1048576 < x.2) : okAt x = true := by
  unfold okAt
  rw [h, decide_eq_true (show 1 ≤ x.2 by omega), decide_eq_true (show x.2 ≤ 1048576 by omega)]; rfl

end Go.Proofs.Ythfdjebeblmmdaa

/- vec.Join: of each the greater one. -/
namespace Go.Proofs.Ythfdjebeblmmdaa
open Go.RowKit

/-- Two rising rows as one: of each the greater number. -/
def joinF : List At → List At → List At
  | [], ys => ys
  | x :: xs, [] => x :: xs
  | x :: xs, y :: ys => if cmpId x.1 y.1 < 0 then x :: joinF xs (y :: ys) else if 0 < cmpId x.1 y.1 then y :: joinF (x :: xs) ys else (x.1, max x.2 y.2) :: joinF xs ys
  termination_by xs ys => xs.length + ys.length

theorem joinF_nil (xs : List At) : joinF xs [] = xs := by cases xs <;> simp [joinF]
theorem joinF_lt {x y : At} {xs ys : List At} (h : cmpId x.1 y.1 < 0) : joinF (x :: xs) (y :: ys) = x :: joinF xs (y :: ys) := by rw [joinF, if_pos h]
theorem joinF_gt {x y : At} {xs ys : List At} (h : 0 < cmpId x.1 y.1) : joinF (x :: xs) (y :: ys) = y :: joinF (x :: xs) ys := by rw [joinF, if_neg (by omega), if_pos h]
theorem joinF_eq {x y : At} {xs ys : List At} (h : cmpId x.1 y.1 = 0) : joinF (x :: xs) (y :: ys) = (x.1, max x.2 y.2) :: joinF xs ys := by rw [joinF, if_neg (by omega), if_neg (by omega)]

/-- The answer is the row zs, in a row of the call's own, from block B on; nothing that was there has turned. -/
def OwnVec (B : Nat) (ty : TypeId) (zs : List At) (w : World) (e : Ending) (w' : World) : Prop :=
  ∃ A c, e = .returned (.slice A zs.length c) ∧ zs.length ≤ c ∧ w'.ownsRow B ty 2 (.slice A zs.length c) zs.length (atCells zs) ∧ Below w.heap.size w w'
theorem own_cap {w : World} {B : Nat} {e : TypeId} {A : Option Addr} {n c : Nat} {xs : List Value} (h : w.ownsRow B e 2 (.slice A n c) n xs) : n ≤ c := by
  rcases h.2 with ⟨hv, rfl⟩ | ⟨g, cap, cur, hv, _, _, hnc, _⟩
  · exact Nat.zero_le _
  · injection hv with _ _ h3; omega

def lenOf : Value → Nat | .slice _ n _ => n | _ => 0
theorem VecAt.head {w : World} {B : Nat} {A : Option Addr} {n : Nat} {zs : List At} (h : VecAt w B A n zs) (hn : 0 < n) :
    ∃ b off x xt, A = some ⟨b, off, none⟩ ∧ b < B ∧ zs = x :: xt ∧ xt.length = n - 1 ∧ w.cell? ⟨b, off, none⟩ = some (.string x.1) ∧ w.cell? ⟨b, off + 1, none⟩ = some (.int .i64 x.2) := by
  obtain ⟨b, off, e, hb, hc⟩ := h.2 hn
  match zs, h.1 with
  | [], h1 => simp at h1; omega
  | x :: xt, h1 => exact ⟨b, off, x, xt, e, hb, rfl, by simp at h1; omega, by simpa using (hc 0 hn).1, by simpa using (hc 0 hn).2⟩
theorem cut_one (ad : Addr) (n c : Nat) (hn : 0 < n) (hnc : n ≤ c) : ∃ A', (∀ W, (Instr.slice 60 (.slice (some ad) n c) (some (.int .i64 1)) none none).run Try.prog W = .ok (.slice A' (n - 1) (c - 1)) W) ∧
    ∀ (w : World) (B : Nat) (z : At) (zs : List At), VecAt w B (some ad) n (z :: zs) → VecAt w B A' (n - 1) zs := by
  have hel : Try.prog.elem 60 = 75 := by kernel_rfl
  have hsz : ∀ W, (sizeOf 75).run Try.prog W = .ok 2 W := fun W => by
    obtain ⟨i, hi, _, hz1, _⟩ := info_parts vecTy.i
    simp [sizeOf, typeInfo, hi, hz1]
  refine ⟨if c = 1 then some ad else some (ad.add 2), fun W => ?_, fun w B z zs h => ?_⟩
  · rw [run_slice_l (P := Try.prog) W 60 (some ad) n c (by rw [hel]; exact Try.underlying60) .i64 1 (by omega) (by omega), hel, hsz]
    simp [sliced]
  · refine ⟨by have := h.1; simp at this; omega, fun hp => ?_⟩
    obtain ⟨b, off, e, hb, hc⟩ := h.2 hn
    injection e with e
    subst e
    rw [if_neg (by omega)]
    refine ⟨b, off + 2, by rw [addr_add], hb, fun k hk => ?_⟩
    have := hc (k + 1) (by omega)
    rw [show off + (k + 1) * 2 = off + 2 + k * 2 by omega] at this
    simpa using this

/-- Half way through Join: out is done, xs and ys are left. -/
def JoinRel (w : World) (t xs ys : List At) (Av : Option Addr) (nv cv : Nat) (wr : World) : Prop :=
  ∃ out : List At, out.length = nv ∧ wr.ownsRow w.heap.size 75 2 (.slice Av nv cv) nv (atCells out) ∧ out ++ joinF xs ys = t ∧ Below w.heap.size w wr
theorem JoinRel.drewN {w : World} {t xs ys : List At} {Av : Option Addr} {nv cv : Nat} {wr : World} (h : JoinRel w t xs ys Av nv cv wr) (k : Nat) : JoinRel w t xs ys Av nv cv (wr.drewN k) := by
  obtain ⟨out, h1, h2, h3, h4⟩ := h
  exact ⟨out, h1, own_below h2 (below_drewN (Below.refl _ _) k), h3, below_drewN h4 k⟩
theorem JoinRel.push {w : World} {t xs ys xs' ys' : List At} {nv : Nat} {wr w1 w2 : World} (x : At) {out : List At} (hl : out.length = nv) (ht : out ++ joinF xs ys = t) (hj : joinF xs ys = x :: joinF xs' ys') (hb : Below w.heap.size w wr) (hw : Below wr.heap.size wr w1)
    {A' : Option Addr} {c' : Nat} {v : Value} (hv : w1.ownsRow w.heap.size 75 2 v nv (atCells out)) (hown : w2.ownsRow w.heap.size 75 2 (.slice A' (nv + 1) c') (nv + 1) (atCells (out ++ [x]))) (hg : w1.grownBy w2 v.ownBlock) : JoinRel w t xs' ys' A' (nv + 1) c' w2 :=
  ⟨out ++ [x], by simp [hl], hown, by rw [← ht, hj]; simp, (hb.trans (hw.mono hb.size)).trans (grown_below hg (Nat.le_trans hb.size hw.size) (fun g e => (own_lt hv e).1))⟩
end Go.Proofs.Ythfdjebeblmmdaa

/- vec.Join walked. -/
namespace Go.Proofs.Ythfdjebeblmmdaa
open Go.RowKit

end Go.Proofs.Ythfdjebeblmmdaa

/- vec.Set and vec.Meet. -/
namespace Go.Proofs.Ythfdjebeblmmdaa
open Go.RowKit

theorem own_base {w : World} {B B' : Nat} {e : TypeId} {v : Value} {n : Nat} {xs : List Value} (h : w.ownsRow B e 2 v n xs) (hB : B' ≤ B) : w.ownsRow B' e 2 v n xs :=
  ⟨h.1, h.2.imp id fun ⟨g, cap, cur, a, b, r⟩ => ⟨g, cap, cur, a, Nat.le_trans hB b, r⟩⟩
theorem OwnVec.lift {B B' : Nat} {ty : TypeId} {zs : List At} {w w1 w' : World} {e : Ending} (h : OwnVec B ty zs w1 e w') (hB : B' ≤ B) (hb : Below w.heap.size w w1) : OwnVec B' ty zs w e w' := by
  obtain ⟨A, c, he, hc, ho, hw⟩ := h
  exact ⟨A, c, he, hc, own_base ho hB, hb.trans (hw.mono hb.size)⟩

/-- zs, where a is n far at least. -/
def setF (zs : List At) (a : ByteArray) (n : Int) : List At := if rightL a.data.toList = true ∧ 1 ≤ n then joinF zs [(a, min n 1048576)] else zs

theorem ownVec_ret {B : Nat} {ty : TypeId} {zs : List At} {w w' : World} {A : Option Addr} {n c : Nat} (hl : zs.length = n) (hc : n ≤ c) (ho : w'.ownsRow B ty 2 (.slice A n c) n (atCells zs)) (hb : Below w.heap.size w w') : OwnVec B ty zs w (.returned (.slice A n c)) w' := by
  subst hl
  exact ⟨A, c, rfl, hc, ho, hb⟩

/-- Of each of zs the lesser number; who is 0 far isn't there. -/
def meetF (zs ys : List At) : List At := zs.filterMap fun x => if 0 < min x.2 (ofF ys x.1) then some (x.1, min x.2 (ofF ys x.1)) else none
theorem meet_step {zs ys : List At} {k : Nat} (hk : k < zs.length) : meetF (zs.drop k) ys = (if 0 < min (zs.getD k atNil).2 (ofF ys (zs.getD k atNil).1) then [((zs.getD k atNil).1, min (zs.getD k atNil).2 (ofF ys (zs.getD k atNil).1))] else []) ++ meetF (zs.drop (k + 1)) ys := by
  have e : zs.getD k atNil = zs[k] := by rw [List.getD_eq_getElem?_getD, List.getElem?_eq_getElem hk]; rfl
  rw [e, List.drop_eq_getElem_cons hk, meetF, List.filterMap_cons]
  by_cases h : 0 < min (zs[k]).2 (ofF ys (zs[k]).1)
  · simp only [h, if_true]; rfl
  · simp only [h, if_false]; rfl
theorem meet_len (zs ys : List At) : (meetF zs ys).length ≤ zs.length := List.length_filterMap_le _ _

/-- Half way through Meet. -/
def MeetRel (w : World) (t zs ys : List At) (Av : Option Addr) (nv cv : Nat) (wr : World) : Prop :=
  ∃ out : List At, out.length = nv ∧ wr.ownsRow w.heap.size 75 2 (.slice Av nv cv) nv (atCells out) ∧ out ++ meetF zs ys = t ∧ Below w.heap.size w wr

end Go.Proofs.Ythfdjebeblmmdaa

/- The law's own little check 'told'. -/
namespace Go.Proofs.Ythfdjebeblmmdaa
open Go.RowKit

theorem told_1 : setF [] (ByteArray.mk #[48, 49]) 2 = [(ByteArray.mk #[48, 49], 2)] := by
  unfold setF
  rw [if_pos (by decide)]
  simp only [joinF]
  rfl
theorem told_2 : setF [(ByteArray.mk #[48, 49], 2)] (ByteArray.mk #[48]) 3 = [(ByteArray.mk #[48], 3), (ByteArray.mk #[48, 49], 2)] := by
  unfold setF
  rw [if_pos (by decide), joinF_gt (by decide), joinF_nil]
  rfl
theorem told_3 : setF [] (ByteArray.mk #[48]) 1 = [(ByteArray.mk #[48], 1)] := by
  unfold setF
  rw [if_pos (by decide)]
  simp only [joinF]
  rfl
theorem told_4 : meetF [(ByteArray.mk #[48], 3), (ByteArray.mk #[48, 49], 2)] [(ByteArray.mk #[48], 1)] = [(ByteArray.mk #[48], 1)] := by decide
theorem told_5 : Rising [(ByteArray.mk #[48], 3), (ByteArray.mk #[48, 49], 2)] := by unfold Rising; decide
theorem told_6 : Rising [(ByteArray.mk #[48], 1)] := by unfold Rising; decide
theorem told_7 : withinF [(ByteArray.mk #[48], 1)] [(ByteArray.mk #[48], 3), (ByteArray.mk #[48, 49], 2)] = true := by decide
theorem told_8 : withinF [(ByteArray.mk #[48], 3), (ByteArray.mk #[48, 49], 2)] [(ByteArray.mk #[48], 1)] = false := by decide
theorem told_9 : rightV [(ByteArray.mk #[48], 3), (ByteArray.mk #[48, 49], 2)] = true := by decide
theorem told_10 : ofF [(ByteArray.mk #[48], 3), (ByteArray.mk #[48, 49], 2)] (ByteArray.mk #[48, 49]) = 2 := by decide

end Go.Proofs.Ythfdjebeblmmdaa

/- The law's To, the document's Right of a Vec, and VecRights walked. -/
namespace Go.Proofs.Ythfdjebeblmmdaa
open Go.RowKit

theorem take_snoc {zs : List At} {k : Nat} (hk : k < zs.length) : zs.take (k + 1) = zs.take k ++ [zs.getD k atNil] := by
  rw [List.take_succ_eq_append_getElem hk, List.getD_eq_getElem?_getD, List.getElem?_eq_getElem hk]; rfl
/-- A copy, half way. -/
def CopyRel (w : World) (ty : TypeId) (zs : List At) (k : Nat) (Av : Option Addr) (cv : Nat) (wr : World) : Prop :=
  wr.ownsRow w.heap.size ty 2 (.slice Av k cv) k (atCells (zs.take k)) ∧ Below w.heap.size w wr

set_option maxRecDepth 100000 in
set_option maxHeartbeats 4000000 in
theorem to_any (A : Option Addr) (n c : Nat) (zs : List At) (B : Nat) (w : World) (hB : B ≤ w.heap.size) (hz : VecAt w B A n zs) (hn : n ≤ 1073741824) :
    Calls Try.prog 42 #[.slice A n c] w (OwnVec w.heap.size 75 zs w) := by
  have hl : zs.length = n := hz.1
  have HL := Lib.hid hl
  have HZ := Lib.hid hz
  clear hl hz
  go_enter Try.func42, Try.ntmps42
  go_wp2
  go_loopw [3, 4] (fun v i wr => ∃ (k : Nat) (Av : Option Addr) (cv : Nat), k ≤ n ∧ i = .int .i64 k ∧ v = .slice Av k cv ∧ Hid (CopyRel w 75 zs k Av cv wr)) (fun _ i _ => n - (intOf i).toNat)
  case atStart => exact ⟨0, none, 0, by omega, rfl, rfl, own_nil _ _ _, Below.refl _ _⟩
  case round =>
    obtain ⟨k, Av, cv, hk, rfl, rfl, HC⟩ := hrel
    obtain ⟨hown, hbel⟩ := HC.out
    have HOw := Lib.hid hown
    have HB := Lib.hid hbel
    have hsz : w.heap.size ≤ wr.heap.size := hbel.size
    clear hown hbel HC
    by_cases hlt : k < n
    · obtain ⟨blk, off, rfl, hbB, hc1, hc2⟩ := HZ.out.cells (HB.out.mono hB) (k := k) hlt
      have hts := take_snoc (zs := zs) (k := k) (by have := HL.out; omega)
      generalize zs.getD k atNil = x at hc1 hc2 hts
      have HTS := Lib.hid hts
      have hblk : blk < wr.heap.size := by omega
      have hne : some blk ≠ Value.ownBlock (.slice Av k cv) := fun e => by have := (own_lt HOw.out e.symm).1; omega
      have hi0 : (0 : Int) ≤ (k : Int) := by omega
      have hi1 : (k : Int) < (n : Int) := by omega
      clear hts
      go_wp2_with fail
      go_region_held3 (fun w' => w'.cell? ⟨blk, off + k * 2, none⟩ = some (.string x.1) ∧ w'.cell? ⟨blk, off + k * 2 + 1, none⟩ = some (.int .i64 x.2))
        (first | go_keep | (go_split_ands; refine ⟨(hg3.cell_far _ (by simp; omega) hne).trans (by assumption), (hg3.cell_far _ (by simp; omega) hne).trans (by assumption)⟩))
        ((refine step_append_at (B := w.heap.size) (v := .slice Av k cv) (n := k) (zs := zs.take k) (m := 1) (ys := [x]) vecTy (by rfl) _ _ (by rfl) (by rfl) (HOw.out.alloc _).drew (by rfl) (one_at (heap_alloc_new wr _)) (by omega) (by simp; omega) ?_; intro A3 c3 w3 hown3 hg3 hat3))
      rw [← HTS.out] at hown3
      have HC3 : Hid (CopyRel w 75 zs (k + 1) A3 c3 w3) := ⟨hown3, (HB.out.alloc hsz _).drew.trans (grown_below hg3 (by simp; omega) (fun g e => (own_lt HOw.out e).1))⟩
      clear hown3 hg3 hat3
      go_wp2_with fail
      go_roundw
      case rel => exact ⟨k + 1, A3, c3, by omega, by go_num, rfl, HC3⟩
      case measure => simp [intOf]; omega
    · obtain rfl : k = n := by omega
      have HT : Hid (zs.take k = zs) := List.take_of_length_le (by have := HL.out; omega)
      go_wp2
      go_ret
      exact ownVec_ret HL.out (own_cap HOw.out) (by have := HOw.out; rwa [HT.out] at this) HB.out

theorem rcompare_is (a b : ByteArray) (x : Int) (h : Hid (Lib.compareBytes a.data.toList b.data.toList = x)) (w : World) (ha : Hid (a.size ≤ 9223372036854775807)) :
    Calls Try.prog 55 #[.string a, .string b] w fun e w' => e = .returned (.int .i64 x) ∧ Hid (Drawn w w') := by
  rw [← h.out]; exact rcompare_any a b w ha.out

theorem drawn_below {w w' : World} (h : Drawn w w') (B : Nat) : Below B w w' := by
  obtain ⟨n, rfl⟩ := h
  exact below_drewN (Below.refl _ _) n

/-- Each id is as short as a string of the machine may be. -/
def Short (zs : List At) : Prop := ∀ k, (zs.getD k atNil).1.size ≤ 9223372036854775807

theorem vec_take {w : World} {B : Nat} {A : Option Addr} {n m : Nat} {zs : List At} (h : VecAt w B A n zs) (hm : m ≤ n) : VecAt w B A m (zs.take m) :=
  ⟨by rw [List.length_take, h.1]; omega, fun hp => by
    obtain ⟨b, off, e, hlt, hc⟩ := h.2 (by omega)
    refine ⟨b, off, e, hlt, fun k hk => ?_⟩
    have := hc k (by omega)
    simpa [List.getD_eq_getElem?_getD, hk] using this⟩
theorem Short.take {zs : List At} (h : Short zs) (m : Nat) : Short (zs.take m) := fun k => by
  have h1 := h k
  by_cases hk : k < m
  · simpa [List.getD_eq_getElem?_getD, hk] using h1
  · rw [List.getD_eq_getElem?_getD, List.getElem?_eq_none (by rw [List.length_take]; omega)]
    show 0 ≤ _
    omega

end Go.Proofs.Ythfdjebeblmmdaa

/- The document's Of and Drop, and vec.Drop. -/
namespace Go.Proofs.Ythfdjebeblmmdaa
open Go.RowKit

theorem beq_yes {a b : ByteArray} (h : a = b) : (a.toList == b.toList) = true := by
  subst h; exact beq_self_eq_true _
theorem beq_no {a b : ByteArray} (h : a ≠ b) : (a.toList == b.toList) = false := by
  rw [Go.ByteArray.toList_eq, Go.ByteArray.toList_eq]
  exact beq_eq_false_iff_ne.mpr fun e => h (ByteArray.ext (Array.ext' e))

theorem ofF_drop_step {zs : List At} {a : ByteArray} {k : Nat} (hk : k < zs.length) (hne : (zs.getD k atNil).1 ≠ a) : ofF (zs.drop k) a = ofF (zs.drop (k + 1)) a := by
  rw [List.drop_eq_getElem_cons hk, ofF, if_neg]
  rw [List.getD_eq_getElem?_getD, List.getElem?_eq_getElem hk] at hne
  exact hne
theorem ofF_drop_hit {zs : List At} {a : ByteArray} {k : Nat} (hk : k < zs.length) (he : (zs.getD k atNil).1 = a) : ofF (zs.drop k) a = (zs.getD k atNil).2 := by
  have e : zs.getD k atNil = zs[k] := by rw [List.getD_eq_getElem?_getD, List.getElem?_eq_getElem hk]; rfl
  rw [List.drop_eq_getElem_cons hk, ofF, if_pos (by rw [← e]; exact he), e]

/-- Without one. -/
def dropF (zs : List At) (a : ByteArray) : List At := zs.filter fun x => decide (x.1 ≠ a)
theorem dropF_len (zs : List At) (a : ByteArray) : (dropF zs a).length ≤ zs.length := List.length_filter_le _ _
theorem dropF_hit {zs : List At} {a : ByteArray} {k : Nat} (hk : k < zs.length) (he : (zs.getD k atNil).1 = a) : dropF (zs.take (k + 1)) a = dropF (zs.take k) a := by
  rw [take_snoc hk, dropF, List.filter_append]
  simp only [List.filter_cons, List.filter_nil]
  rw [if_neg (by simpa using he)]
  simp [dropF]
theorem dropF_keep {zs : List At} {a : ByteArray} {k : Nat} (hk : k < zs.length) (hne : (zs.getD k atNil).1 ≠ a) : dropF (zs.take (k + 1)) a = dropF (zs.take k) a ++ [zs.getD k atNil] := by
  rw [take_snoc hk, dropF, List.filter_append]
  simp only [List.filter_cons, List.filter_nil]
  rw [if_pos (by simpa using hne)]
  simp [dropF]

theorem new2 (w : World) (o o' : Obj) : ((w.alloc o).alloc o').heap[w.heap.size + 1]? = some o' := by simpa using heap_alloc_new (w.alloc o) o'
/-- A row that is being made. -/
def MakeRel (w : World) (ty : TypeId) (t : List At) (Av : Option Addr) (nv cv : Nat) (wr : World) : Prop :=
  t.length = nv ∧ wr.ownsRow w.heap.size ty 2 (.slice Av nv cv) nv (atCells t) ∧ Below w.heap.size w wr
theorem MakeRel.start (w : World) (ty : TypeId) : MakeRel w ty [] none 0 0 w := ⟨rfl, own_nil _ _ _, Below.refl _ _⟩
theorem MakeRel.step {w : World} {ty : TypeId} {t : List At} {Av : Option Addr} {nv cv : Nat} {wr w1 : World} (h : MakeRel w ty t Av nv cv wr) (hb : Below wr.heap.size wr w1) : MakeRel w ty t Av nv cv w1 :=
  ⟨h.1, own_below h.2.1 hb, h.2.2.trans (hb.mono h.2.2.size)⟩
theorem MakeRel.push {w : World} {ty : TypeId} {t : List At} {Av : Option Addr} {nv cv : Nat} {wr w1 w3 : World} (h : MakeRel w ty t Av nv cv wr) (hb : Below wr.heap.size wr w1) {x : At} {A3 : Option Addr} {c3 : Nat}
    (ho : w3.ownsRow w.heap.size ty 2 (.slice A3 (nv + 1) c3) (nv + 1) (atCells (t ++ [x]))) (hg : w1.grownBy w3 (Value.ownBlock (.slice Av nv cv))) : MakeRel w ty (t ++ [x]) A3 (nv + 1) c3 w3 :=
  ⟨by simp [h.1], ho, (h.2.2.trans (hb.mono h.2.2.size)).trans (grown_below hg (Nat.le_trans h.2.2.size hb.size) (fun g e => (own_lt h.2.1 e).1))⟩
theorem MakeRel.own {w : World} {ty : TypeId} {t : List At} {Av : Option Addr} {nv cv : Nat} {wr : World} (h : MakeRel w ty t Av nv cv wr) : OwnVec w.heap.size ty t w (.returned (.slice Av nv cv)) wr :=
  ownVec_ret h.1 (own_cap h.2.1) h.2.1 h.2.2

set_option maxRecDepth 100000 in
set_option maxHeartbeats 4000000 in
theorem rdrop_any (A : Option Addr) (n c : Nat) (zs : List At) (a : ByteArray) (B : Nat) (w : World) (hB : B ≤ w.heap.size) (hz : VecAt w B A n zs) (hn : n ≤ 1073741824) :
    Calls Try.prog 86 #[.slice A n c, .string a] w (OwnVec w.heap.size 104 (dropF zs a) w) := by
  have hl : zs.length = n := hz.1
  have HL := Lib.hid hl
  have HZ := Lib.hid hz
  clear hl hz
  go_enter Try.func86, Try.ntmps86
  go_wp2
  go_loopw [5, 6] (fun v i wr => ∃ (k : Nat) (Av : Option Addr) (nv cv : Nat), k ≤ n ∧ nv ≤ k ∧ i = .int .i64 k ∧ v = .slice Av nv cv ∧ Hid (MakeRel w 104 (dropF (zs.take k) a) Av nv cv wr)) (fun _ i _ => n - (intOf i).toNat)
  case atStart => exact ⟨0, none, 0, 0, by omega, by omega, rfl, rfl, MakeRel.start w _⟩
  case round =>
    obtain ⟨k, Av, nv, cv, hk, hnv, rfl, rfl, HM⟩ := hrel
    have HB := Lib.hid HM.out.2.2
    have hsz : w.heap.size ≤ wr.heap.size := HB.out.size
    by_cases hlt : k < n
    · obtain ⟨blk, off, rfl, hbB, hc1, hc2⟩ := HZ.out.cells (HB.out.mono hB) (k := k) hlt
      have hkz : k < zs.length := by have := HL.out; omega
      by_cases he : (zs.getD k atNil).1 = a
      · have HN : Hid (MakeRel w 104 (dropF (zs.take (k + 1)) a) Av nv cv wr) := by show MakeRel _ _ _ _ _ _ _; rw [dropF_hit hkz he]; exact HM.out
        have hq := beq_yes he
        generalize zs.getD k atNil = x at hc1 hc2 hq
        clear he hkz
        go_wp2
        go_roundw
        case rel => exact ⟨k + 1, Av, nv, cv, by omega, by omega, by go_num, rfl, HN⟩
        case measure => simp [intOf]; omega
      · have hN := dropF_keep hkz he
        have hq := beq_no he
        generalize zs.getD k atNil = x at hc1 hc2 hq hN
        have HN := Lib.hid hN
        clear he hkz hN
        go_wp2_with (at_builtin; refine wpList_append_at (B := w.heap.size) (v := .slice Av nv cv) (n := nv) (zs := dropF (zs.take k) a) (m := 1) (ys := [x]) refTy rfl _ _ rfl rfl (HM.out.2.1.alloc _) rfl (one_at (heap_alloc_new wr _)) (by omega) (by simp; omega) ?_; intro A3 c3 w3 hown3 hg3 hat3; have HM3 : Hid (MakeRel w 104 (dropF (zs.take (k + 1)) a) A3 (nv + 1) c3 w3) := (by show MakeRel _ _ _ _ _ _ _; rw [HN.out]; exact HM.out.push ((Below.refl _ _).alloc (Nat.le_refl _) _) hown3 hg3); clear hown3 hg3 hat3)
        go_roundw
        case rel => exact ⟨k + 1, A3, nv + 1, c3, by omega, by omega, by go_num, rfl, HM3⟩
        case measure => simp [intOf]; omega
    · have HT : Hid (zs.take k = zs) := List.take_of_length_le (by have := HL.out; omega)
      go_wp2
      go_ret
      have := HM.out.own
      rwa [HT.out] at this

end Go.Proofs.Ythfdjebeblmmdaa

/- The document's put: one is just so far. -/
namespace Go.Proofs.Ythfdjebeblmmdaa
open Go.RowKit

theorem own_set {w : World} {B : Nat} {e : TypeId} {g n c : Nat} {xs : List Value} (h : w.ownsRow B e 2 (.slice (some ⟨g, 0, none⟩) n c) n xs) (j : Nat) (u : Value) : (w.setCell ⟨g, j, none⟩ u).ownsRow B e 2 (.slice (some ⟨g, 0, none⟩) n c) n (xs.set j u) := by
  refine ⟨by rw [List.length_set]; exact h.1, ?_⟩
  rcases h.2 with ⟨hv, _⟩ | ⟨g', cap, cur, hv, hB, hh, hnc, hm, hs, ht⟩
  · cases hv
  · injection hv with e1 _ e3
    injection e1 with e1
    injection e1 with e1
    subst e1 e3
    refine .inr ⟨g, c, cur.setIfInBounds j u, rfl, hB, heap_setCell_same w g j cur e u hh, hnc, hm, by simp [hs], ?_⟩
    rw [Array.toList_setIfInBounds, ← ht, List.take_set]
theorem own_frozen {w : World} {B : Nat} {e : TypeId} {g n c : Nat} {xs : List Value} (h : w.ownsRow B e 2 (.slice (some ⟨g, 0, none⟩) n c) n xs) (j : Nat) : w.frozen? ⟨g, j, none⟩ = false := by
  rcases h.2 with ⟨hv, _⟩ | ⟨g', cap, cur, hv, hB, hh, hnc, hm, hs, ht⟩
  · cases hv
  · injection hv with e1 _ e3
    injection e1 with e1
    injection e1 with e1
    subst e1
    simp [World.frozen?, hh]
theorem set_mid {α : Type} (P : List α) (a b c d : α) (S : List α) (a' b' c' d' : α) :
    ((((P ++ a :: b :: c :: d :: S).set P.length c').set (P.length + 1) d').set (P.length + 2) a').set (P.length + 3) b' = P ++ c' :: d' :: a' :: b' :: S := by
  induction P with
  | nil => rfl
  | cons x P ih => simp
theorem swap_cells (pre post : List At) (x y : At) :
    ((((atCells (pre ++ y :: x :: post)).set (pre.length * 2) (.string x.1)).set (pre.length * 2 + 1) (.int .i64 x.2)).set (pre.length * 2 + 2) (.string y.1)).set (pre.length * 2 + 3) (.int .i64 y.2) = atCells (pre ++ x :: y :: post) := by
  have e1 : atCells (pre ++ y :: x :: post) = atCells pre ++ .string y.1 :: .int .i64 y.2 :: .string x.1 :: .int .i64 x.2 :: atCells post := by rw [atCells_append]; rfl
  have e2 : atCells (pre ++ x :: y :: post) = atCells pre ++ .string x.1 :: .int .i64 x.2 :: .string y.1 :: .int .i64 y.2 :: atCells post := by rw [atCells_append]; rfl
  rw [e1, e2, ← atCells_length]
  exact set_mid _ _ _ _ _ _ _ _ _ _

/-- The one that is put has gone left past post. -/
def PutRel (w : World) (d : List At) (x : At) (g N c : Nat) (pre post : List At) (wr : World) : Prop :=
  pre ++ post = d ∧ (∀ y ∈ post, 0 < cmpId y.1 x.1) ∧ wr.ownsRow w.heap.size 104 2 (.slice (some ⟨g, 0, none⟩) N c) N (atCells (pre ++ x :: post)) ∧ Below w.heap.size w wr
/-- What put leaves: the one stands where those behind it are greater, and the one ahead of it isn't. -/
def PutIs (d : List At) (x : At) (r : List At) : Prop :=
  ∃ pre post, pre ++ post = d ∧ r = pre ++ x :: post ∧ (∀ y ∈ post, 0 < cmpId y.1 x.1) ∧ (∀ y, pre.getLast? = some y → cmpId y.1 x.1 ≤ 0)

theorem PutRel.len {w : World} {d : List At} {x : At} {g N c : Nat} {pre post : List At} {wr : World} (h : PutRel w d x g N c pre post wr) : pre.length + 1 + post.length = N := by
  have := h.2.2.1.1
  rw [atCells_length] at this
  simp at this
  omega

theorem put_facts {w : World} {d : List At} {x y : At} {g N c : Nat} {pre post : List At} {wr : World} (h : PutRel w d x g N c (pre ++ [y]) post wr) {k : Nat} (hk : k = pre.length + 1) :
    (wr.cell? ⟨g, (k - 1) * 2, none⟩ = some (.string y.1) ∧ wr.cell? ⟨g, (k - 1) * 2 + 1, none⟩ = some (.int .i64 y.2)) ∧ (wr.cell? ⟨g, k * 2, none⟩ = some (.string x.1) ∧ wr.cell? ⟨g, k * 2 + 1, none⟩ = some (.int .i64 x.2)) ∧ g < wr.heap.size ∧ w.heap.size ≤ g := by
  have hv := own_vec h.2.2.1
  have hl := h.len
  simp at hl
  obtain ⟨b, off, e, hlt, hc⟩ := hv.2 (by omega)
  injection e with e
  injection e with e1 e2
  subst e1 e2
  have h1 := hc (k - 1) (by omega)
  have h2 := hc k (by omega)
  subst hk
  have g1 : (pre ++ [y] ++ x :: post).getD (pre.length + 1 - 1) atNil = y := by
    rw [List.getD_eq_getElem?_getD]; simp
  have g2 : (pre ++ [y] ++ x :: post).getD (pre.length + 1) atNil = x := by
    rw [List.getD_eq_getElem?_getD]; simp
  rw [g1] at h1
  rw [g2] at h2
  simp only [Nat.zero_add] at h1 h2
  exact ⟨h1, h2, hlt, (own_lt h.2.2.1 rfl).1⟩

theorem put_swap {w : World} {d : List At} {x y : At} {g N c : Nat} {pre post : List At} {wr wq w' : World} (h : PutRel w d x g N c (pre ++ [y]) post wr) {k : Nat} (hk : k = pre.length + 1) (hp : ∀ v ∈ y :: post, 0 < cmpId v.1 x.1)
    (hq : wq.heap = wr.heap ∧ wq.os = wr.os ∧ wq.tape = wr.tape ∧ wq.output = wr.output)
    (hw : w' = ((((wq.setCell ⟨g, (k - 1) * 2, none⟩ (.string x.1)).setCell ⟨g, (k - 1) * 2 + 1, none⟩ (.int .i64 x.2)).setCell ⟨g, k * 2, none⟩ (.string y.1)).setCell ⟨g, k * 2 + 1, none⟩ (.int .i64 y.2)).drew) :
    PutRel w d x g N c pre (y :: post) w' := by
  obtain ⟨h1, h2, h3, h4⟩ := h
  have hbq : Below wr.heap.size wr wq := ⟨hq.2.1, hq.2.2.1, hq.2.2.2, by rw [hq.1]; exact Nat.le_refl _, fun k _ => by rw [hq.1]⟩
  have hg := (own_lt h3 (show Value.ownBlock _ = some g from rfl)).1
  have h5 := own_below h3 hbq
  have h6 := own_set (own_set (own_set (own_set h5 ((k - 1) * 2) (.string x.1)) ((k - 1) * 2 + 1) (.int .i64 x.2)) (k * 2) (.string y.1)) (k * 2 + 1) (.int .i64 y.2)
  have e1 : (k - 1) * 2 = pre.length * 2 := by omega
  have e2 : k * 2 = pre.length * 2 + 2 := by omega
  rw [e1, e2] at h6
  rw [show pre.length * 2 + 2 + 1 = pre.length * 2 + 3 by omega, show pre ++ [y] ++ x :: post = pre ++ y :: x :: post by simp, swap_cells] at h6
  subst hw
  rw [e1, e2]
  refine ⟨by rw [← h1]; simp, hp, h6.drew, ?_⟩
  exact (((((h4.trans (hbq.mono h4.size)).setCell (p := ⟨g, pre.length * 2, none⟩) hg _).setCell (p := ⟨g, pre.length * 2 + 1, none⟩) hg _).setCell (p := ⟨g, pre.length * 2 + 2, none⟩) hg _).setCell (p := ⟨g, pre.length * 2 + 2 + 1, none⟩) hg _).drew

set_option maxRecDepth 100000 in
set_option maxHeartbeats 8000000 in
theorem put_loop (A : Option Addr) (n c : Nat) (zs : List At) (a : ByteArray) (z : Int) (B : Nat) (w : World) (hB : B ≤ w.heap.size) (hz : VecAt w B A n zs) (hn : n ≤ 1000000) (h1 : 1 ≤ z) (hsh : Short zs) :
    Calls Try.prog 74 #[.slice A n c, .string a, .int .i64 z] w fun e w' => ∃ r, PutIs (dropF zs a) (a, z) r ∧ OwnVec w.heap.size 104 r w e w' := by
  have HZ := Lib.hid hz
  have HSH := Lib.hid hsh
  have hlen : (dropF zs a).length ≤ 1000000 := by have := dropF_len zs a; have := hz.1; omega
  have h1' : ¬ z < 1 := by omega
  clear hz hsh
  go_enter Try.func74, Try.ntmps74
  go_wp2_with fail
  refine (rdrop_any A n c zs a B _ hB HZ.out (by omega)).mono ?_
  generalize hd : dropF zs a = d at hlen
  have HD := Lib.hid hd
  clear hd
  rintro e w1 ⟨A1, c1, rfl, hc1, ho1, hb1⟩
  have HO1 := Lib.hid ho1
  have HB1 := Lib.hid hb1
  have hs1 : w.heap.size ≤ w1.heap.size := hb1.size
  clear ho1 hb1 hc1
  go_wp2_with (at_builtin; refine wpList_append_at (B := w.heap.size) (v := .slice A1 d.length c1) (n := d.length) (zs := d) (m := 1) (ys := [(a, z)]) refTy rfl _ _ rfl rfl (HO1.out.alloc _) rfl (one_at (heap_alloc_new w1 _)) (by omega) (by simp; omega) ?_; intro A3 c3 w3 hown3 hg3 hat3; have HB3 : Hid (Below w.heap.size w w3) := (HB1.out.alloc hs1 _).trans (grown_below hg3 (by simp; omega) (fun g e => (own_lt HO1.out e).1)); have HO3 := Lib.hid hown3; clear hown3 hg3 hat3)
  obtain ⟨g, c4, hform, hgB, hglt⟩ := HO3.out.form (by omega)
  injection hform with hA hn3 hc3
  subst hA hc3
  go_loopw [8] (fun i wr => ∃ (k : Nat) (pre post : List At), pre.length = k ∧ k ≤ 1000000 ∧ i = .int .i64 k ∧ Hid (PutRel w d (a, z) g (d.length + 1) c3 pre post wr)) (fun i _ => (intOf i).toNat)
  case atStart => exact ⟨d.length, d, [], rfl, hlen, rfl, by simp, (fun y hy => by simp at hy), HO3.out, HB3.out⟩
  case round =>
    obtain ⟨k, pre, post, hpk, hk, rfl, HP⟩ := hrel
    by_cases h0 : k = 0
    · have hgd : decide (0 < k) = false := by simp; omega
      have hpre : pre = [] := List.eq_nil_of_length_eq_zero (by omega)
      subst hpre
      have HR : Hid (PutIs d (a, z) ((a, z) :: post)) := ⟨[], post, HP.out.1, rfl, HP.out.2.1, fun y hy => by simp at hy⟩
      have HLn : Hid (((a, z) :: post).length = d.length + 1) := by show _ = _; have := HP.out.len; simp at this ⊢; omega
      clear h0 hpk
      go_wp2_with fail
      go_quiet (fail)
      go_wp2
      go_ret
      exact ⟨_, by rw [HD.out]; exact HR.out, ownVec_ret HLn.out (own_cap HP.out.2.2.1) (own_below HP.out.2.2.1 (below_drewN (Below.refl _ _) _)) (below_drewN HP.out.2.2.2 _)⟩
    · rcases List.eq_nil_or_concat pre with e | ⟨pre', y, e⟩
      · subst e; simp at hpk; omega
      · rw [List.concat_eq_append] at e
        subst e
        have hk' : k = pre'.length + 1 := by simpa using hpk.symm
        obtain ⟨⟨hy0, hy1⟩, ⟨hx0, hx1⟩, hglt2, hgw⟩ := put_facts HP.out hk'
        have hN := HP.out.len
        simp at hN
        have hyz : y ∈ zs := by
          have : y ∈ d := by rw [← HP.out.1]; simp
          rw [← HD.out] at this
          exact (List.mem_filter.mp this).1
        have HSZ : Hid (y.1.size ≤ 9223372036854775807) := by
          obtain ⟨i, _, e⟩ := mem_getD hyz
          have := HSH.out i
          rw [e] at this
          exact this
        have hgd : decide (0 < k) = true := by simp; omega
        have hj0 : (1 : Int) ≤ (k : Int) := by omega
        have hj1 : (0 : Int) ≤ (k : Int) - 1 := by omega
        have hj2 : (k : Int) - 1 < (d.length : Int) + 1 := by omega
        have hj3 : ((k : Int) - 1).toNat = k - 1 := by omega
        have hj4 : IntKind.i64.wrap ((k : Int) - 1) = (k : Int) - 1 := IntWalk.i64_in _ (by omega)
        have hj5 : (0 : Int) ≤ (k : Int) := by omega
        have hj6 : (k : Int) < (d.length : Int) + 1 := by omega
        obtain ⟨q, hq⟩ : ∃ q, cmpId y.1 a = q := ⟨_, rfl⟩
        have HY : Hid (Lib.compareBytes y.1.data.toList a.data.toList = q) := hq
        by_cases hgt : 0 < q
        · have HPost : Hid (∀ v ∈ y :: post, 0 < cmpId v.1 a) := by
            intro v hv
            rcases List.mem_cons.mp hv with rfl | hv
            · rw [hq]; exact hgt
            · exact HP.out.2.1 v hv
          have HK := Lib.hid hk'
          clear hq hyz h0 hpk hk' hN
          go_wp2_with fail
          go_quiet ((go_at_call 55; exact quiet_drawn (rcompare_is _ _ _ HY _ HSZ)))
          go_wp2_with fail
          have hF := own_frozen HP.out.2.2.1
          generalize hwq : wr.drewN _ = wq
          have ey0 : wq.cell? ⟨g, (k - 1) * 2, none⟩ = some (.string y.1) := by rw [← hwq]; exact hy0
          have ey1 : wq.cell? ⟨g, (k - 1) * 2 + 1, none⟩ = some (.int .i64 y.2) := by rw [← hwq]; exact hy1
          have ex0 : wq.cell? ⟨g, k * 2, none⟩ = some (.string a) := by rw [← hwq]; exact hx0
          have ex1 : wq.cell? ⟨g, k * 2 + 1, none⟩ = some (.int .i64 z) := by rw [← hwq]; exact hx1
          have fy0 : wq.frozen? ⟨g, (k - 1) * 2, none⟩ = false := by rw [← hwq]; exact hF _
          have fy1 : wq.frozen? ⟨g, (k - 1) * 2 + 1, none⟩ = false := by rw [← hwq]; exact hF _
          have fx0 : wq.frozen? ⟨g, k * 2, none⟩ = false := by rw [← hwq]; exact hF _
          have fx1 : wq.frozen? ⟨g, k * 2 + 1, none⟩ = false := by rw [← hwq]; exact hF _
          have n1 : ((k - 1) * 2 = k * 2) = False := eq_false (by omega)
          have n2 : ((k - 1) * 2 = k * 2 + 1) = False := eq_false (by omega)
          have n3 : ((k - 1) * 2 + 1 = k * 2) = False := eq_false (by omega)
          have n4 : ((k - 1) * 2 + 1 = k * 2 + 1) = False := eq_false (by omega)
          have n5 : (k * 2 = (k - 1) * 2) = False := eq_false (by omega)
          have n6 : (k * 2 = (k - 1) * 2 + 1) = False := eq_false (by omega)
          have n7 : (k * 2 + 1 = (k - 1) * 2) = False := eq_false (by omega)
          have n8 : (k * 2 + 1 = (k - 1) * 2 + 1) = False := eq_false (by omega)
          have HWQ := Lib.hid hwq
          clear hwq hy0 hy1 hx0 hx1 hF
          go_region
          go_wp2_with fail
          go_roundw
          case rel => exact ⟨k - 1, pre', y :: post, by have := HK.out; omega, by omega, by go_num, put_swap HP.out HK.out HPost.out (by rw [← HWQ.out]; exact ⟨rfl, rfl, rfl, rfl⟩) rfl⟩
          case measure => simp [intOf]; omega
        · have HR : Hid (PutIs d (a, z) ((pre' ++ [y]) ++ (a, z) :: post)) := ⟨pre' ++ [y], post, HP.out.1, rfl, HP.out.2.1, fun v hv => by simp at hv; subst hv; show cmpId y.1 a ≤ 0; omega⟩
          have HLn : Hid (((pre' ++ [y]) ++ (a, z) :: post).length = d.length + 1) := by show _ = _; simp; omega
          clear hq hyz h0 hpk hk' hN
          go_wp2_with fail
          go_quiet ((go_at_call 55; exact quiet_drawn (rcompare_is _ _ _ HY _ HSZ)))
          go_wp2
          go_ret
          exact ⟨_, by rw [HD.out]; exact HR.out, ownVec_ret HLn.out (own_cap HP.out.2.2.1) (own_below HP.out.2.2.1 (below_drewN (Below.refl _ _) _)) (below_drewN HP.out.2.2.2 _)⟩
end Go.Proofs.Ythfdjebeblmmdaa

/- Plain mathematics of Vecs: a rising row of numbers from 1 on is told by how far each one is; Join, Meet, Drop and put in these words. -/
namespace Go.Proofs.Ythfdjebeblmmdaa

def Pos (zs : List At) : Prop := ∀ x ∈ zs, 1 ≤ x.2
theorem ofF_nonneg {zs : List At} (h : Pos zs) (a : ByteArray) : 0 ≤ ofF zs a := by
  induction zs with
  | nil => exact Int.le_refl _
  | cons x r ih =>
    unfold ofF
    split
    · have := h x (by simp); omega
    · exact ih fun y hy => h y (by simp [hy])
theorem ofF_ahead {y : At} {ys : List At} (h : Rising (y :: ys)) {a : ByteArray} (ha : cmpId a y.1 < 0) : ofF (y :: ys) a = 0 := by
  apply ofF_none
  rintro z hz rfl
  rcases List.mem_cons.mp hz with rfl | hz
  · rw [cmpId_self] at ha; omega
  · have h1 := (List.pairwise_cons.mp h).1 z hz
    have := cmpId_lt _ _ _ ha (show cmpId y.1 z.1 ≤ 0 by omega)
    rw [cmpId_self] at this; omega
theorem ofF_tail {x : At} {xs : List At} (h : Rising (x :: xs)) : ofF xs x.1 = 0 := by
  apply ofF_none
  intro z hz e
  have h1 := (List.pairwise_cons.mp h).1 z hz
  rw [e, cmpId_self] at h1; omega
theorem Rising.tail {x : At} {xs : List At} (h : Rising (x :: xs)) : Rising xs := (List.pairwise_cons.mp h).2
theorem Pos.tail {x : At} {xs : List At} (h : Pos (x :: xs)) : Pos xs := fun y hy => h y (by simp [hy])
theorem ofF_head (x : At) (xs : List At) : ofF (x :: xs) x.1 = x.2 := by unfold ofF; rw [if_pos rfl]
theorem ofF_cons_ne {x : At} {xs : List At} {a : ByteArray} (h : x.1 ≠ a) : ofF (x :: xs) a = ofF xs a := by rw [ofF, if_neg h]

/-- Two rising rows of numbers from 1 on in which each one is as far are the same. -/
theorem vec_ext : ∀ {xs ys : List At}, Rising xs → Rising ys → Pos xs → Pos ys → (∀ a, ofF xs a = ofF ys a) → xs = ys
  | [], [], _, _, _, _, _ => rfl
  | [], y :: ys, _, _, _, py, h => by
    have := h y.1
    rw [ofF_head] at this
    have := py y (by simp)
    simp only [ofF] at *
    omega
  | x :: xs, [], _, _, px, _, h => by
    have := h x.1
    rw [ofF_head] at this
    have := px x (by simp)
    simp only [ofF] at *
    omega
  | x :: xs, y :: ys, hx, hy, px, py, h => by
    have p1 := px x (by simp)
    have p2 := py y (by simp)
    have h1 := h x.1
    have h2 := h y.1
    rw [ofF_head] at h1 h2
    rcases cmpId_three x.1 y.1 with c | c | c
    · rw [ofF_ahead hy (by omega)] at h1; omega
    · have e := (cmpId_zero _ _).mp c
      rw [e, ofF_head] at h1
      have exy : x = y := Prod.ext e h1
      subst exy
      congr 1
      refine vec_ext hx.tail hy.tail px.tail py.tail fun a => ?_
      by_cases ha : x.1 = a
      · rw [← ha, ofF_tail hx, ofF_tail hy]
      · have := h a
        rwa [ofF_cons_ne ha, ofF_cons_ne ha] at this
    · have c' := cmpId_neg x.1 y.1
      rw [ofF_ahead hx (by omega)] at h2; omega

theorem mem_join : ∀ (xs ys : List At) {z : At}, z ∈ joinF xs ys → z ∈ xs ∨ z ∈ ys ∨ ∃ x ∈ xs, ∃ y ∈ ys, x.1 = y.1 ∧ z = (x.1, max x.2 y.2)
  | [], ys, z, h => by rw [joinF] at h; exact Or.inr (Or.inl h)
  | x :: xs, [], z, h => by rw [joinF_nil] at h; exact Or.inl h
  | x :: xs, y :: ys, z, h => by
    rcases cmpId_three x.1 y.1 with c | c | c
    · rw [joinF_lt (by omega)] at h
      rcases List.mem_cons.mp h with rfl | h
      · exact Or.inl (by simp)
      · rcases mem_join xs (y :: ys) h with h | h | ⟨u, hu, v, hv, e⟩
        · exact Or.inl (by simp [h])
        · exact Or.inr (Or.inl h)
        · exact Or.inr (Or.inr ⟨u, by simp [hu], v, hv, e⟩)
    · rw [joinF_eq c] at h
      rcases List.mem_cons.mp h with rfl | h
      · exact Or.inr (Or.inr ⟨x, by simp, y, by simp, (cmpId_zero _ _).mp c, rfl⟩)
      · rcases mem_join xs ys h with h | h | ⟨u, hu, v, hv, e⟩
        · exact Or.inl (by simp [h])
        · exact Or.inr (Or.inl (by simp [h]))
        · exact Or.inr (Or.inr ⟨u, by simp [hu], v, by simp [hv], e⟩)
    · rw [joinF_gt (by omega)] at h
      rcases List.mem_cons.mp h with rfl | h
      · exact Or.inr (Or.inl (by simp))
      · rcases mem_join (x :: xs) ys h with h | h | ⟨u, hu, v, hv, e⟩
        · exact Or.inl h
        · exact Or.inr (Or.inl (by simp [h]))
        · exact Or.inr (Or.inr ⟨u, hu, v, by simp [hv], e⟩)
  termination_by xs ys => xs.length + ys.length
theorem join_id {xs ys : List At} {z : At} (h : z ∈ joinF xs ys) : (∃ x ∈ xs, x.1 = z.1) ∨ ∃ y ∈ ys, y.1 = z.1 := by
  rcases mem_join xs ys h with h | h | ⟨u, hu, v, hv, e, rfl⟩
  · exact Or.inl ⟨z, h, rfl⟩
  · exact Or.inr ⟨z, h, rfl⟩
  · exact Or.inl ⟨u, hu, rfl⟩
theorem rising_join : ∀ {xs ys : List At}, Rising xs → Rising ys → Rising (joinF xs ys)
  | [], ys, _, hy => by rw [joinF]; exact hy
  | x :: xs, [], hx, _ => by rw [joinF_nil]; exact hx
  | x :: xs, y :: ys, hx, hy => by
    have hx1 := (List.pairwise_cons.mp hx).1
    have hy1 := (List.pairwise_cons.mp hy).1
    rcases cmpId_three x.1 y.1 with c | c | c
    · rw [joinF_lt (by omega)]
      refine List.pairwise_cons.mpr ⟨fun z hz => ?_, rising_join hx.tail hy⟩
      rcases join_id hz with ⟨u, hu, e⟩ | ⟨u, hu, e⟩
      · rw [← e]; exact hx1 u hu
      · rw [← e]
        rcases List.mem_cons.mp hu with rfl | hu
        · omega
        · exact cmpId_lt _ _ _ (show cmpId x.1 y.1 < 0 by omega) (by have := hy1 u hu; omega)
    · rw [joinF_eq c]
      have e := (cmpId_zero _ _).mp c
      refine List.pairwise_cons.mpr ⟨fun z hz => ?_, rising_join hx.tail hy.tail⟩
      rcases join_id hz with ⟨u, hu, e2⟩ | ⟨u, hu, e2⟩
      · rw [← e2]; exact hx1 u hu
      · rw [← e2]; show cmpId x.1 u.1 < 0; rw [e]; exact hy1 u hu
    · rw [joinF_gt (by omega)]
      have c' := cmpId_neg x.1 y.1
      refine List.pairwise_cons.mpr ⟨fun z hz => ?_, rising_join hx hy.tail⟩
      rcases join_id hz with ⟨u, hu, e⟩ | ⟨u, hu, e⟩
      · rw [← e]
        rcases List.mem_cons.mp hu with rfl | hu
        · omega
        · exact cmpId_lt _ _ _ (show cmpId y.1 x.1 < 0 by omega) (by have := hx1 u hu; omega)
      · rw [← e]; exact hy1 u hu
  termination_by xs ys => xs.length + ys.length
theorem pos_join {xs ys : List At} (px : Pos xs) (py : Pos ys) : Pos (joinF xs ys) := fun z hz => by
  rcases mem_join xs ys hz with h | h | ⟨u, hu, v, hv, _, rfl⟩
  · exact px z h
  · exact py z h
  · have := px u hu; show 1 ≤ max u.2 v.2; omega
theorem ofF_join : ∀ {xs ys : List At}, Rising xs → Rising ys → Pos xs → Pos ys → ∀ a, ofF (joinF xs ys) a = max (ofF xs a) (ofF ys a)
  | [], ys, _, _, _, py, a => by rw [joinF]; have := ofF_nonneg py a; simp only [ofF]; omega
  | x :: xs, [], _, _, px, _, a => by rw [joinF_nil]; have := ofF_nonneg px a; simp only [ofF] at *; omega
  | x :: xs, y :: ys, hx, hy, px, py, a => by
    have p1 := px x (by simp)
    have p2 := py y (by simp)
    rcases cmpId_three x.1 y.1 with c | c | c
    · rw [joinF_lt (by omega)]
      by_cases ha : x.1 = a
      · subst ha
        rw [ofF_head, ofF_head, ofF_ahead hy (by omega)]; omega
      · rw [ofF_cons_ne ha, ofF_cons_ne ha, ofF_join hx.tail hy px.tail py a]
    · rw [joinF_eq c]
      have e := (cmpId_zero _ _).mp c
      by_cases ha : x.1 = a
      · subst ha
        rw [ofF, if_pos rfl, ofF_head, e, ofF_head]
      · rw [ofF_cons_ne (x := (x.1, max x.2 y.2)) ha, ofF_cons_ne ha, ofF_cons_ne (show y.1 ≠ a by rw [← e]; exact ha), ofF_join hx.tail hy.tail px.tail py.tail a]
    · rw [joinF_gt (by omega)]
      have c' := cmpId_neg x.1 y.1
      by_cases ha : y.1 = a
      · subst ha
        rw [ofF_head, ofF_head, ofF_ahead hx (by omega)]; omega
      · rw [ofF_cons_ne ha, ofF_cons_ne (x := y) ha, ofF_join hx hy.tail px py.tail a]
  termination_by xs ys => xs.length + ys.length
theorem join_len : ∀ (xs ys : List At), (joinF xs ys).length ≤ xs.length + ys.length
  | [], ys => by rw [joinF]; simp
  | x :: xs, [] => by rw [joinF_nil]; simp
  | x :: xs, y :: ys => by
    rcases cmpId_three x.1 y.1 with c | c | c
    · rw [joinF_lt (by omega)]; have := join_len xs (y :: ys); simp at this ⊢; omega
    · rw [joinF_eq c]; have := join_len xs ys; simp at this ⊢; omega
    · rw [joinF_gt (by omega)]; have := join_len (x :: xs) ys; simp at this ⊢; omega
  termination_by xs ys => xs.length + ys.length

theorem rising_drop {zs : List At} (h : Rising zs) (a : ByteArray) : Rising (dropF zs a) := List.Pairwise.filter _ h
theorem pos_drop {zs : List At} (h : Pos zs) (a : ByteArray) : Pos (dropF zs a) := fun x hx => h x (List.mem_filter.mp hx).1
theorem drop_ne {zs : List At} {a : ByteArray} {x : At} (h : x ∈ dropF zs a) : x.1 ≠ a := by
  have := (List.mem_filter.mp h).2; simpa using this
theorem ofF_drop (zs : List At) (a b : ByteArray) : ofF (dropF zs a) b = if b = a then 0 else ofF zs b := by
  by_cases e : b = a
  · subst e; rw [if_pos rfl]; exact ofF_none fun x hx => drop_ne hx
  · rw [if_neg e]
    induction zs with
    | nil => rfl
    | cons x r ih =>
      by_cases hx : x.1 = a
      · rw [dropF, List.filter_cons, if_neg (by simpa using hx), ofF_cons_ne (fun h => e (h.symm.trans hx))]; exact ih
      · rw [dropF, List.filter_cons, if_pos (by simpa using hx)]
        by_cases hb : x.1 = b
        · rw [ofF, if_pos hb, ofF, if_pos hb]
        · rw [ofF_cons_ne hb, ofF_cons_ne hb]; exact ih

theorem mem_meet {zs ys : List At} {z : At} (h : z ∈ meetF zs ys) : ∃ x ∈ zs, x.1 = z.1 ∧ z.2 = min x.2 (ofF ys x.1) ∧ 1 ≤ z.2 := by
  obtain ⟨x, hx, e⟩ := List.mem_filterMap.mp h
  by_cases hp : 0 < min x.2 (ofF ys x.1)
  · rw [if_pos hp] at e; injection e with e; subst e; exact ⟨x, hx, rfl, rfl, by show 1 ≤ min x.2 (ofF ys x.1); omega⟩
  · rw [if_neg hp] at e; cases e
theorem rising_meet : ∀ {zs : List At} (ys : List At), Rising zs → Rising (meetF zs ys)
  | [], _, _ => List.Pairwise.nil
  | x :: zs, ys, h => by
    have ih := rising_meet ys h.tail
    rw [meetF, List.filterMap_cons]
    split
    · exact ih
    · rename_i b hb
      refine List.pairwise_cons.mpr ⟨fun z hz => ?_, ih⟩
      have hb1 : b.1 = x.1 := by
        split at hb
        · injection hb with hb; rw [← hb]
        · cases hb
      obtain ⟨u, hu, e, _⟩ := mem_meet hz
      rw [hb1, ← e]
      exact (List.pairwise_cons.mp h).1 u hu
theorem pos_meet {zs ys : List At} : Pos (meetF zs ys) := fun z hz => by obtain ⟨_, _, _, _, h⟩ := mem_meet hz; exact h
theorem ofF_meet : ∀ {zs ys : List At}, Rising zs → Pos zs → Pos ys → ∀ a, ofF (meetF zs ys) a = min (ofF zs a) (ofF ys a)
  | [], ys, _, _, py, a => by have := ofF_nonneg py a; simp only [meetF, List.filterMap_nil, ofF]; omega
  | x :: zs, ys, h, px, py, a => by
    have ih := ofF_meet h.tail px.tail py a
    have p1 := px x (by simp)
    have py0 := ofF_nonneg py a
    have e : meetF (x :: zs) ys = if 0 < min x.2 (ofF ys x.1) then (x.1, min x.2 (ofF ys x.1)) :: meetF zs ys else meetF zs ys := by
      rw [meetF, List.filterMap_cons]
      by_cases hp : 0 < min x.2 (ofF ys x.1)
      · simp only [hp, if_true]; rfl
      · simp only [hp, if_false]; rfl
    rw [e]
    by_cases ha : x.1 = a
    · subst ha
      rw [ofF_head]
      by_cases hp : 0 < min x.2 (ofF ys x.1)
      · rw [if_pos hp, ofF, if_pos rfl]
      · rw [if_neg hp, ih, ofF_tail h]; omega
    · rw [ofF_cons_ne ha]
      by_cases hp : 0 < min x.2 (ofF ys x.1)
      · rw [if_pos hp, ofF_cons_ne (x := (x.1, min x.2 (ofF ys x.1))) ha, ih]
      · rw [if_neg hp, ih]

/-- One is just so far. -/
def putV (zs : List At) (a : ByteArray) (z : Int) : List At := if z < 1 then dropF zs a else joinF (dropF zs a) [(a, z)]
theorem rising_one (x : At) : Rising [x] := List.pairwise_singleton _ _
theorem pos_one {x : At} (h : 1 ≤ x.2) : Pos [x] := fun y hy => by simp at hy; subst hy; exact h
theorem rising_put {zs : List At} (h : Rising zs) (a : ByteArray) (z : Int) : Rising (putV zs a z) := by
  unfold putV; split
  · exact rising_drop h a
  · exact rising_join (rising_drop h a) (rising_one _)
theorem pos_put {zs : List At} (h : Pos zs) (a : ByteArray) (z : Int) : Pos (putV zs a z) := by
  unfold putV; split
  · exact pos_drop h a
  · exact pos_join (pos_drop h a) (pos_one (by show 1 ≤ z; omega))
theorem ofF_put {zs : List At} (h : Rising zs) (p : Pos zs) (a : ByteArray) (z : Int) (b : ByteArray) : ofF (putV zs a z) b = if b = a then max z 0 else ofF zs b := by
  unfold putV
  split
  · rw [ofF_drop]; split <;> omega
  · rw [ofF_join (rising_drop h a) (rising_one _) (pos_drop p a) (pos_one (by show 1 ≤ z; omega)), ofF_drop]
    by_cases e : b = a
    · subst e; rw [if_pos rfl, if_pos rfl, ofF, if_pos rfl]; omega
    · rw [if_neg e, if_neg e, ofF_cons_ne (fun h => e h.symm)]
      have := ofF_nonneg p b
      simp only [ofF]; omega
theorem put_len (zs : List At) (a : ByteArray) (z : Int) : (putV zs a z).length ≤ zs.length + 1 := by
  unfold putV; have := dropF_len zs a; split
  · omega
  · have := join_len (dropF zs a) [(a, z)]; simp at this; omega

theorem ofF_split (pre post : List At) (x : At) (b : ByteArray) (h : ∀ y ∈ pre ++ post, y.1 ≠ x.1) : ofF (pre ++ x :: post) b = if b = x.1 then x.2 else ofF (pre ++ post) b := by
  induction pre with
  | nil =>
    simp only [List.nil_append]
    by_cases e : b = x.1
    · subst e; rw [if_pos rfl, ofF_head]
    · rw [if_neg e, ofF_cons_ne (fun h => e h.symm)]
  | cons y r ih =>
    have hy := h y (by simp)
    have ih' := ih fun z hz => h z (by simp at hz ⊢; exact Or.inr hz)
    rw [List.cons_append, List.cons_append]
    by_cases hb : y.1 = b
    · rw [ofF, if_pos hb, ofF, if_pos hb, if_neg (fun e => hy (hb.trans e))]
    · rw [ofF_cons_ne hb, ofF_cons_ne hb]; exact ih'
/-- What put leaves of a rising row. -/
theorem put_is {zs : List At} {a : ByteArray} {z : Int} {r : List At} (h : Rising zs) (p : Pos zs) (hz : 1 ≤ z) (hr : PutIs (dropF zs a) (a, z) r) : r = putV zs a z := by
  obtain ⟨pre, post, hd, rfl, hpost, hlast⟩ := hr
  have hR := rising_drop h a
  have hP := pos_drop p a
  have hne : ∀ y ∈ pre ++ post, y.1 ≠ a := fun y hy => by rw [hd] at hy; exact drop_ne hy
  rw [← hd] at hR hP
  have hR2 := List.pairwise_append.mp hR
  refine vec_ext ?_ (rising_put h a z) ?_ (pos_put p a z) fun b => ?_
  · refine List.pairwise_append.mpr ⟨hR2.1, List.pairwise_cons.mpr ⟨fun y hy => ?_, hR2.2.1⟩, fun y hy v hv => ?_⟩
    · have h1 : 0 < cmpId y.1 a := hpost y hy
      have h2 := cmpId_neg y.1 a
      show cmpId a y.1 < 0
      omega
    · rcases List.mem_cons.mp hv with rfl | hv
      · show cmpId y.1 a < 0
        rcases List.eq_nil_or_concat pre with e | ⟨p', l, e⟩
        · subst e; simp at hy
        · rw [List.concat_eq_append] at e
          subst e
          have h1 : cmpId l.1 a ≤ 0 := hlast l (by simp)
          have h2 : cmpId l.1 a ≠ 0 := fun e => hne l (by simp) ((cmpId_zero _ _).mp e)
          rcases List.mem_append.mp hy with hy | hy
          · have h3 := (List.pairwise_append.mp hR2.1).2.2 y hy l (by simp)
            exact cmpId_lt _ _ _ h3 h1
          · simp at hy; subst hy; omega
      · exact hR2.2.2 y hy v hv
  · intro y hy
    rcases List.mem_append.mp hy with hy | hy
    · exact hP y (by simp [hy])
    · rcases List.mem_cons.mp hy with rfl | hy
      · exact hz
      · exact hP y (by simp [hy])
  · rw [ofF_put h p, ofF_split _ _ _ _ hne, hd, ofF_drop]
    by_cases e : b = a
    · subst e; rw [if_pos rfl, if_pos rfl]; show z = max z 0; omega
    · rw [if_neg e, if_neg e, if_neg e]

theorem within_iff {xs ys : List At} (hx : Rising xs) (py : Pos ys) : withinF xs ys = true ↔ ∀ a, ofF xs a ≤ ofF ys a := by
  unfold withinF
  rw [List.all_eq_true]
  constructor
  · intro h a
    by_cases h0 : ofF xs a = 0
    · rw [h0]; exact ofF_nonneg py a
    · obtain ⟨x, hxm, rfl⟩ := ofF_pos h0
      rw [ofF_mem hx hxm]
      simpa using h x hxm
  · intro h x hxm
    have := h x.1
    rw [ofF_mem hx hxm] at this
    simpa using this

theorem right_iff (zs : List At) : rightV zs = true ↔ Rising zs ∧ ∀ x ∈ zs, okAt x = true := by
  rw [rightV_iff]
  constructor
  · intro h
    refine ⟨List.pairwise_iff_getElem.mpr fun i j hi hj hij => ?_, fun x hx => ?_⟩
    · have key : ∀ m, i + m + 1 < zs.length → cmpId (zs.getD i atNil).1 (zs.getD (i + m + 1) atNil).1 < 0 := by
        intro m
        induction m with
        | zero => intro hm; have := (h (i + 1) hm).2 (by omega); simpa using this
        | succ m ih =>
          intro hm
          have h1 := ih (by omega)
          have h2 := (h (i + (m + 1) + 1) hm).2 (by omega)
          exact cmpId_lt _ _ _ h1 (by rw [show i + (m + 1) + 1 - 1 = i + m + 1 by omega] at h2; omega)
      have := key (j - i - 1) (by omega)
      rw [show i + (j - i - 1) + 1 = j by omega] at this
      simpa [List.getD_eq_getElem?_getD, hi, hj] using this
    · obtain ⟨k, hk, e⟩ := mem_getD hx
      rw [← e]; exact (h k hk).1
  · rintro ⟨h1, h2⟩ j hj
    exact ⟨h2 _ (getD_mem hj), fun h0 => rising_lt h1 (j - 1) j (by omega) hj⟩
theorem okAt_pos {x : At} (h : okAt x = true) : 1 ≤ x.2 ∧ x.2 ≤ 1048576 ∧ rightL x.1.data.toList = true := by
  unfold okAt at h; simp at h; exact ⟨h.2.1, h.2.2, h.1⟩
end Go.Proofs.Ythfdjebeblmmdaa

/- The document's put, Set and Within of a right Vec; the law's From. -/
namespace Go.Proofs.Ythfdjebeblmmdaa
open Go.RowKit

/-- A Vec that may be. -/
def Good (zs : List At) : Prop := Rising zs ∧ ∀ x ∈ zs, okAt x = true
theorem Good.pos {zs : List At} (h : Good zs) : Pos zs := fun x hx => (okAt_pos (h.2 x hx)).1
theorem right_len {l : List UInt8} (h : rightL l = true) : l.length ≤ 6 := ((rightL_iff l).mp h).1.2.1
theorem Good.short {zs : List At} (h : Good zs) : Short zs := fun k => by
  by_cases hk : k < zs.length
  · have h1 := right_len (okAt_pos (h.2 _ (getD_mem hk))).2.2
    have h2 : (zs.getD k atNil).1.size = (zs.getD k atNil).1.data.toList.length := Lib.size_eq _
    omega
  · rw [List.getD_eq_getElem?_getD, List.getElem?_eq_none (by omega)]
    show 0 ≤ _
    omega
theorem okAt_mk {a : ByteArray} {z : Int} (ha : rightL a.data.toList = true) (h1 : 1 ≤ z) (h2 : z ≤ 1048576) : okAt (a, z) = true := okAt_yes ha (by show ¬ z < 1; omega) (by show ¬ 1048576 < z; omega)
theorem Good.nil : Good [] := ⟨List.Pairwise.nil, fun x hx => by simp at hx⟩
theorem Good.join {xs ys : List At} (hx : Good xs) (hy : Good ys) : Good (joinF xs ys) := ⟨rising_join hx.1 hy.1, fun z hz => by
  rcases mem_join xs ys hz with h | h | ⟨u, hu, v, hv, _, rfl⟩
  · exact hx.2 z h
  · exact hy.2 z h
  · have h1 := okAt_pos (hx.2 u hu); have h2 := okAt_pos (hy.2 v hv); exact okAt_mk h1.2.2 (by omega) (by omega)⟩
theorem Good.drop {zs : List At} (h : Good zs) (a : ByteArray) : Good (dropF zs a) := ⟨rising_drop h.1 a, fun x hx => h.2 x (List.mem_filter.mp hx).1⟩
theorem Good.meet {zs : List At} (h : Good zs) (ys : List At) : Good (meetF zs ys) := ⟨rising_meet ys h.1, fun z hz => by
  obtain ⟨x, hx, e1, e2, e3⟩ := mem_meet hz
  have h1 := okAt_pos (h.2 x hx)
  have : z = (z.1, z.2) := rfl
  rw [this]
  exact okAt_mk (by rw [← e1]; exact h1.2.2) e3 (by omega)⟩
theorem good_one {a : ByteArray} {z : Int} (ha : rightL a.data.toList = true) (h1 : 1 ≤ z) (h2 : z ≤ 1048576) : Good [(a, z)] := ⟨rising_one _, fun x hx => by simp at hx; subst hx; exact okAt_mk ha h1 h2⟩
theorem Good.put {zs : List At} (h : Good zs) {a : ByteArray} {z : Int} (ha : rightL a.data.toList = true) (h2 : z ≤ 1048576) : Good (putV zs a z) := by
  unfold putV; split
  · exact h.drop a
  · exact (h.drop a).join (good_one ha (by omega) h2)
theorem good_iff (zs : List At) : rightV zs = true ↔ Good zs := right_iff zs
theorem good_ofF {zs : List At} (h : Good zs) (a : ByteArray) : 0 ≤ ofF zs a ∧ ofF zs a ≤ 1048576 := by
  refine ⟨ofF_nonneg h.pos a, ?_⟩
  by_cases h0 : ofF zs a = 0
  · omega
  · obtain ⟨x, hx, rfl⟩ := ofF_pos h0
    rw [ofF_mem h.1 hx]
    have := okAt_pos (h.2 x hx); omega
theorem Good.ext {xs ys : List At} (hx : Good xs) (hy : Good ys) (h : ∀ a, ofF xs a = ofF ys a) : xs = ys := vec_ext hx.1 hy.1 hx.pos hy.pos h

set_option maxRecDepth 100000 in
set_option maxHeartbeats 2000000 in
theorem put_any (A : Option Addr) (n c : Nat) (zs : List At) (a : ByteArray) (z : Int) (B : Nat) (w : World) (hB : B ≤ w.heap.size) (hz : VecAt w B A n zs) (hn : n ≤ 1000000) (hg : Good zs) :
    Calls Try.prog 74 #[.slice A n c, .string a, .int .i64 z] w (OwnVec w.heap.size 104 (putV zs a z) w) := by
  by_cases h1 : z < 1
  · have HZ := Lib.hid hz
    have HP : Hid (putV zs a z = dropF zs a) := if_pos h1
    rw [HP.out]
    clear hz hg HP
    go_enter Try.func74, Try.ntmps74
    go_wp2_with fail
    refine (rdrop_any A n c zs a B _ hB HZ.out (by omega)).mono ?_
    rintro e w1 ⟨A1, c1, rfl, hc1, ho1, hb1⟩
    go_wp2
    go_ret
    exact ⟨A1, c1, rfl, hc1, ho1, hb1⟩
  · refine (put_loop A n c zs a z B w hB hz hn (by omega) hg.short).mono ?_
    rintro e w1 ⟨r, hr, ho⟩
    rw [← put_is hg.1 hg.pos (by omega) hr]
    exact ho

theorem own_empty (w : World) (B : Nat) (e : TypeId) (hB : B ≤ w.heap.size) : (w.alloc (.cells #[] e)).ownsRow B e 2 (.slice (some ⟨w.heap.size, 0, none⟩) 0 0) 0 (atCells []) :=
  ⟨rfl, .inr ⟨w.heap.size, 0, #[], rfl, hB, heap_alloc_new w _, Nat.le_refl _, by unfold maxLen; omega, rfl, rfl⟩⟩

theorem set_put {zs : List At} (h : Good zs) {a : ByteArray} {n : Int} (ha : rightL a.data.toList = true) (h1 : 1 ≤ n) : setF zs a n = putV zs a (max (ofF zs a) (min n 1048576)) := by
  have g := good_ofF h a
  unfold setF
  rw [if_pos ⟨ha, h1⟩]
  refine Good.ext (h.join (good_one ha (by omega) (by omega))) (h.put ha (by omega)) fun b => ?_
  rw [ofF_join h.1 (rising_one _) h.pos (pos_one (by show 1 ≤ min n 1048576; omega)), ofF_put h.1 h.pos]
  by_cases e : b = a
  · subst e; rw [if_pos rfl, ofF, if_pos rfl]; simp only; omega
  · rw [if_neg e, ofF_cons_ne (fun h => e h.symm)]
    have := ofF_nonneg h.pos b
    simp only [ofF]; omega

end Go.Proofs.Ythfdjebeblmmdaa

/- The law's From; whether two Vecs are the same. -/
namespace Go.Proofs.Ythfdjebeblmmdaa
open Go.RowKit

set_option maxRecDepth 100000 in
set_option maxHeartbeats 4000000 in
theorem from_any (A : Option Addr) (n c : Nat) (zs : List At) (B : Nat) (w : World) (hB : B ≤ w.heap.size) (hz : VecAt w B A n zs) (hn : n ≤ 1073741824) :
    Calls Try.prog 40 #[.slice A n c] w (OwnVec w.heap.size 104 zs w) := by
  have hl : zs.length = n := hz.1
  have HL := Lib.hid hl
  have HZ := Lib.hid hz
  clear hl hz
  go_enter Try.func40, Try.ntmps40
  go_wp2
  go_loopw [3, 4] (fun v i wr => ∃ (k : Nat) (Av : Option Addr) (cv : Nat), k ≤ n ∧ i = .int .i64 k ∧ v = .slice Av k cv ∧ Hid (CopyRel w 104 zs k Av cv wr)) (fun _ i _ => n - (intOf i).toNat)
  case atStart => exact ⟨0, none, 0, by omega, rfl, rfl, own_nil _ _ _, Below.refl _ _⟩
  case round =>
    obtain ⟨k, Av, cv, hk, rfl, rfl, HC⟩ := hrel
    obtain ⟨hown, hbel⟩ := HC.out
    have HOw := Lib.hid hown
    have HB := Lib.hid hbel
    have hsz : w.heap.size ≤ wr.heap.size := hbel.size
    clear hown hbel HC
    by_cases hlt : k < n
    · obtain ⟨blk, off, rfl, hbB, hc1, hc2⟩ := HZ.out.cells (HB.out.mono hB) (k := k) hlt
      have hts := take_snoc (zs := zs) (k := k) (by have := HL.out; omega)
      generalize zs.getD k atNil = x at hc1 hc2 hts
      have HTS := Lib.hid hts
      have hblk : blk < wr.heap.size := by omega
      have hne : some blk ≠ Value.ownBlock (.slice Av k cv) := fun e => by have := (own_lt HOw.out e.symm).1; omega
      have hi0 : (0 : Int) ≤ (k : Int) := by omega
      have hi1 : (k : Int) < (n : Int) := by omega
      clear hts
      go_wp2_with fail
      go_region_held3 (fun w' => w'.cell? ⟨blk, off + k * 2, none⟩ = some (.string x.1) ∧ w'.cell? ⟨blk, off + k * 2 + 1, none⟩ = some (.int .i64 x.2))
        (first | go_keep | (go_split_ands; refine ⟨(hg3.cell_far _ (by simp; omega) hne).trans (by assumption), (hg3.cell_far _ (by simp; omega) hne).trans (by assumption)⟩))
        ((refine step_append_at (B := w.heap.size) (v := .slice Av k cv) (n := k) (zs := zs.take k) (m := 1) (ys := [x]) refTy (by rfl) _ _ (by rfl) (by rfl) (HOw.out.alloc _).drew (by rfl) (one_at (heap_alloc_new wr _)) (by omega) (by simp; omega) ?_; intro A3 c3 w3 hown3 hg3 hat3))
      rw [← HTS.out] at hown3
      have HC3 : Hid (CopyRel w 104 zs (k + 1) A3 c3 w3) := ⟨hown3, (HB.out.alloc hsz _).drew.trans (grown_below hg3 (by simp; omega) (fun g e => (own_lt HOw.out e).1))⟩
      clear hown3 hg3 hat3
      go_wp2_with fail
      go_roundw
      case rel => exact ⟨k + 1, A3, c3, by omega, by go_num, rfl, HC3⟩
      case measure => simp [intOf]; omega
    · obtain rfl : k = n := by omega
      have HT : Hid (zs.take k = zs) := List.take_of_length_le (by have := HL.out; omega)
      go_wp2
      go_ret
      exact ownVec_ret HL.out (own_cap HOw.out) (by have := HOw.out; rwa [HT.out] at this) HB.out


theorem fields_ref : Try.prog.fieldsOf 104 = #[{ name := "Id", type := 9, offset := 0, embedded := false, tag := "", pkgPath := "", byteOffset := 0 }, { name := "N", type := 3, offset := 1, embedded := false, tag := "", pkgPath := "", byteOffset := 16 }] := by
  unfold Program.fieldsOf
  rw [Try.underlying104]
theorem neq_ref (x y : At) (w : World) : (binOp .neq 104 (.agg #[.string x.1, .int .i64 x.2]) (.agg #[.string y.1, .int .i64 y.2])).run Try.prog w = .ok (.bool (!((x.1.toList == y.1.toList) && (x.2 == y.2)))) w := by
  rw [run_neq_struct, run_equalIn_struct w 9999 104 _ _ (by rw [fields_ref]; exact Try.underlying104) (by kernel_rfl), fields_ref]
  cases h1 : (x.1.toList == y.1.toList)
  · simp [Op.eqFields, go_sem, h1, Try.underlying9]
  · cases h2 : (x.2 == y.2)
    · simp [Op.eqFields, go_sem, h1, h2, Try.underlying9, Try.underlying3]
    · simp [Op.eqFields, go_sem, h1, h2, Try.underlying9, Try.underlying3]
theorem neq_same_ref (x : At) : ∀ W, (binOp .neq 104 (.agg #[.string x.1, .int .i64 x.2]) (.agg #[.string x.1, .int .i64 x.2])).run Try.prog W = .ok (.bool false) W := fun W => by
  rw [neq_ref x x W, beq_yes rfl]; simp
theorem neq_other_ref {x y : At} (h : ¬ x = y) : ∀ W, (binOp .neq 104 (.agg #[.string x.1, .int .i64 x.2]) (.agg #[.string y.1, .int .i64 y.2])).run Try.prog W = .ok (.bool true) W := fun W => by
  rw [neq_ref x y W]
  by_cases h1 : x.1 = y.1
  · have h2 : (x.2 == y.2) = false := by simp; exact fun e => h (Prod.ext h1 e)
    rw [beq_yes h1, h2]; rfl
  · rw [beq_no h1]; rfl
theorem guard_ref (op : BinOp) (p q : Operand) (xs ys : Array Value) (W : World) : (eqGuard op 104 p q (.agg xs) (.agg ys)).run Try.prog W = .ok () W := run_eqGuard_agg (P := Try.prog) W op 104 p q xs ys (by kernel_rfl)

theorem fields_vec : Try.prog.fieldsOf 75 = #[{ name := "Id", type := 36, offset := 0, embedded := false, tag := "", pkgPath := "", byteOffset := 0 }, { name := "N", type := 3, offset := 1, embedded := false, tag := "", pkgPath := "", byteOffset := 16 }] := by
  unfold Program.fieldsOf
  rw [Try.underlying75]
theorem neq_vec (x y : At) (w : World) : (binOp .neq 75 (.agg #[.string x.1, .int .i64 x.2]) (.agg #[.string y.1, .int .i64 y.2])).run Try.prog w = .ok (.bool (!((x.1.toList == y.1.toList) && (x.2 == y.2)))) w := by
  rw [run_neq_struct, run_equalIn_struct w 9999 75 _ _ (by rw [fields_vec]; exact Try.underlying75) (by kernel_rfl), fields_vec]
  cases h1 : (x.1.toList == y.1.toList)
  · simp [Op.eqFields, go_sem, h1, Try.underlying36]
  · cases h2 : (x.2 == y.2)
    · simp [Op.eqFields, go_sem, h1, h2, Try.underlying36, Try.underlying3]
    · simp [Op.eqFields, go_sem, h1, h2, Try.underlying36, Try.underlying3]
theorem neq_same_vec (x : At) : ∀ W, (binOp .neq 75 (.agg #[.string x.1, .int .i64 x.2]) (.agg #[.string x.1, .int .i64 x.2])).run Try.prog W = .ok (.bool false) W := fun W => by
  rw [neq_vec x x W, beq_yes rfl]; simp
theorem neq_other_vec {x y : At} (h : ¬ x = y) : ∀ W, (binOp .neq 75 (.agg #[.string x.1, .int .i64 x.2]) (.agg #[.string y.1, .int .i64 y.2])).run Try.prog W = .ok (.bool true) W := fun W => by
  rw [neq_vec x y W]
  by_cases h1 : x.1 = y.1
  · have h2 : (x.2 == y.2) = false := by simp; exact fun e => h (Prod.ext h1 e)
    rw [beq_yes h1, h2]; rfl
  · rw [beq_no h1]; rfl
theorem guard_vec (op : BinOp) (p q : Operand) (xs ys : Array Value) (W : World) : (eqGuard op 75 p q (.agg xs) (.agg ys)).run Try.prog W = .ok () W := run_eqGuard_agg (P := Try.prog) W op 75 p q xs ys (by kernel_rfl)

set_option maxRecDepth 100000 in
set_option maxHeartbeats 4000000 in
theorem rsame_any (A : Option Addr) (n c : Nat) (zs : List At) (A' : Option Addr) (n' c' : Nat) (ys : List At) (B : Nat) (w : World) (hz : VecAt w B A n zs) (hy : VecAt w B A' n' ys) (hn : n ≤ 1099511627776) (hn' : n' ≤ 1099511627776) :
    Calls Try.prog 39 #[.slice A n c, .slice A' n' c'] w fun e w' => e = .returned (.bool (decide (zs = ys))) ∧ Hid (Drawn w w') := by
  have hl : zs.length = n := hz.1
  have hl' : ys.length = n' := hy.1
  by_cases hnn : n = n'
  · subst hnn
    have HL := Lib.hid hl
    have HL' := Lib.hid hl'
    have HZ := Lib.hid hz
    have HY := Lib.hid hy
    clear hl hl' hz hy
    go_enter Try.func39, Try.ntmps39
    go_wp2
    go_loopw [5] (fun i wr => ∃ k : Nat, k ≤ n ∧ i = .int .i64 k ∧ Hid (zs.take k = ys.take k) ∧ Hid (Drawn w wr)) (fun i _ => n - (intOf i).toNat)
    case atStart => exact ⟨0, by omega, rfl, rfl, Drawn.refl w⟩
    case round =>
      obtain ⟨k, hk, rfl, HA, HD⟩ := hrel
      by_cases hlt : k < n
      · obtain ⟨b1, o1, rfl, hb1, hc1, hc2⟩ := HZ.out.cells (drawn_below HD.out B) (k := k) hlt
        obtain ⟨b2, o2, rfl, hb2, hd1, hd2⟩ := HY.out.cells (drawn_below HD.out B) (k := k) hlt
        have hi0 : (0 : Int) ≤ (k : Int) := by omega
        have hi1 : (k : Int) < (n : Int) := by omega
        have hkz : k < zs.length := by have := HL.out; omega
        have hky : k < ys.length := by have := HL'.out; omega
        by_cases he : zs.getD k atNil = ys.getD k atNil
        · have HN : Hid (zs.take (k + 1) = ys.take (k + 1)) := by show _ = _; rw [take_snoc hkz, take_snoc hky, HA.out, he]
          rw [← he] at hd1 hd2
          generalize zs.getD k atNil = x at hc1 hc2 hd1 hd2
          have hq := neq_same_ref x
          have hgu := guard_ref
          clear he hkz hky
          go_wp2_with fail
          go_quiet (fail)
          go_wp2
          go_roundw
          case rel => exact ⟨k + 1, by omega, by go_num, HN, HD.out.more _⟩
          case measure => simp [intOf]; omega
        · have HF : Hid (decide (zs = ys) = false) := decide_eq_false (fun e => he (by rw [e]))
          generalize zs.getD k atNil = x at hc1 hc2 he
          generalize ys.getD k atNil = y at hd1 hd2 he
          have hq := neq_other_ref he
          have hgu := guard_ref
          clear he hkz hky
          go_wp2_with fail
          go_quiet (fail)
          go_wp2
          go_ret
          exact ⟨ret_bool HF.out.symm, HD.out.more _⟩
      · have HF : Hid (decide (zs = ys) = true) := decide_eq_true (by
          have := HA.out
          rwa [List.take_of_length_le (by have := HL.out; omega), List.take_of_length_le (by have := HL'.out; omega)] at this)
        go_wp2
        go_ret
        exact ⟨ret_bool HF.out.symm, HD.out⟩
  · have HF : Hid (decide (zs = ys) = false) := decide_eq_false (fun e => hnn (by rw [← hl, ← hl', e]))
    have hne : ((n : Int) != (n' : Int)) = true := by simp; omega
    have hne' : (n != n') = true := by simp [hnn]
    clear hl hl' hz hy hnn
    go_enter Try.func39, Try.ntmps39
    go_wp2
    go_ret
    exact ⟨ret_bool HF.out.symm, Drawn.refl w⟩



end Go.Proofs.Ythfdjebeblmmdaa

/- The document's Fix: a name out of any text. -/
namespace Go.Proofs.Ythfdjebeblmmdaa
open Go.RowKit

theorem fix_snoc {l : List UInt8} {k : Nat} (hk : k < l.length) (h5 : k < 5) : fixL (l.take (k + 1)) = fixL (l.take k) ++ [fixB l[k]] := by
  unfold fixL
  rw [List.take_take, List.take_take, Nat.min_eq_right (by omega), Nat.min_eq_right (by omega), List.take_succ_eq_append_getElem hk, List.map_append]
  rfl
theorem fix_end {l : List UInt8} {k : Nat} (h : l.length ≤ k ∨ 5 ≤ k) : fixL (l.take k) = fixL l := by
  unfold fixL
  rw [List.take_take]
  congr 2
  by_cases h5 : 5 ≤ k
  · rw [Nat.min_eq_left (by omega)]
  · rw [List.take_of_length_le (by omega), List.take_of_length_le (by omega)]
/-- The one byte that Fix puts. -/
def fixOne (c : UInt8) : ByteArray := ⟨#[fixB c]⟩
theorem fixOne_size (x : ByteArray) (c : UInt8) : (x ++ fixOne c).size = x.size + 1 := ByteArray.size_append
theorem fix_nine (c : UInt8) : c.toNat % 9 = 0 ∨ c.toNat % 9 = 1 ∨ c.toNat % 9 = 2 ∨ c.toNat % 9 = 3 ∨ c.toNat % 9 = 4 ∨ c.toNat % 9 = 5 ∨ c.toNat % 9 = 6 ∨ c.toNat % 9 = 7 ∨ c.toNat % 9 = 8 := by omega

set_option maxRecDepth 100000 in
set_option maxHeartbeats 4000000 in
theorem fix_any (s : ByteArray) (w : World) :
    Calls Try.prog 57 #[.string s] w fun e w' => e = .returned (.string ⟨(fixL s.data.toList).toArray⟩) ∧ Hid (Drawn w w') := by
  have hl : s.data.toList.length = s.size := by simp
  have HL := Lib.hid hl
  clear hl
  go_enter Try.func57, Try.ntmps57
  go_wp2
  go_loopw [3, 4] (fun o i wr => ∃ (k : Nat) (x : ByteArray), k ≤ s.size ∧ k ≤ 5 ∧ i = .int .i64 k ∧ o = .string x ∧ x.size ≤ 6 ∧ Hid (x = ⟨(fixL (s.data.toList.take k)).toArray⟩) ∧ Hid (Drawn w wr)) (fun _ i _ => 5 - (intOf i).toNat)
  case atStart => exact ⟨0, ⟨#[48]⟩, by omega, by omega, rfl, rfl, by decide, by show _ = _; simp [fixL], Drawn.refl w⟩
  case round =>
    obtain ⟨k, x, hk, hk5, rfl, rfl, hx, HX, HD⟩ := hrel
    by_cases h1 : k < s.size
    · by_cases h2 : k < 5
      · have hq : (s[k].toNat : Int) < 256 := by have := s[k].toNat_lt; omega
        have HK : Hid (x ++ fixOne s[k] = ⟨(fixL (s.data.toList.take (k + 1))).toArray⟩) := by
          show _ = _
          rw [HX.out, fix_snoc (by have := HL.out; omega) h2]
          exact Go.ByteArray.mk_append_mk _ _
        have hsz : x.size + 1 ≤ 6 := by
          have h3 : x.size = (fixL (s.data.toList.take k)).length := by rw [HX.out]; rfl
          rw [fixL_len, List.length_take] at h3
          omega
        have HS : ∀ c, Hid ((x ++ fixOne c).size ≤ 6) := fun c => by
          show _ ≤ _
          have := fixOne_size x c
          omega
        obtain ⟨c, hc⟩ : ∃ c, s[k] = c := ⟨_, rfl⟩
        rw [hc] at HK hq
        rcases fix_nine c with h | h | h | h | h | h | h | h | h
        · have hm1 : (c.toNat : Int) % 9 = 0 := by omega
          have hm2 : ((c.toNat : Int)).tmod 9 = 0 := by rw [Int.tmod_eq_emod_of_nonneg (by omega)]; omega
          have HO : Hid ((ByteArray.mk #[49, 50, 51, 52, 53, 54, 55, 56, 57]).extract 0 1 = fixOne c) := by
            show _ = _
            unfold fixOne fixB
            rw [h]
            rfl
          clear h
          go_wp2
          go_quiet (fail)
          go_wp2
          go_roundw
          case rel => exact ⟨k + 1, x ++ fixOne c, by omega, by omega, by go_num, by rw [HO.out], (HS c).out, HK.out, HD.out.more _⟩
          case measure => simp [intOf]; omega
        · have hm1 : (c.toNat : Int) % 9 = 1 := by omega
          have hm2 : ((c.toNat : Int)).tmod 9 = 1 := by rw [Int.tmod_eq_emod_of_nonneg (by omega)]; omega
          have HO : Hid ((ByteArray.mk #[49, 50, 51, 52, 53, 54, 55, 56, 57]).extract 1 2 = fixOne c) := by
            show _ = _
            unfold fixOne fixB
            rw [h]
            rfl
          clear h
          go_wp2
          go_quiet (fail)
          go_wp2
          go_roundw
          case rel => exact ⟨k + 1, x ++ fixOne c, by omega, by omega, by go_num, by rw [HO.out], (HS c).out, HK.out, HD.out.more _⟩
          case measure => simp [intOf]; omega
        · have hm1 : (c.toNat : Int) % 9 = 2 := by omega
          have hm2 : ((c.toNat : Int)).tmod 9 = 2 := by rw [Int.tmod_eq_emod_of_nonneg (by omega)]; omega
          have HO : Hid ((ByteArray.mk #[49, 50, 51, 52, 53, 54, 55, 56, 57]).extract 2 3 = fixOne c) := by
            show _ = _
            unfold fixOne fixB
            rw [h]
            rfl
          clear h
          go_wp2
          go_quiet (fail)
          go_wp2
          go_roundw
          case rel => exact ⟨k + 1, x ++ fixOne c, by omega, by omega, by go_num, by rw [HO.out], (HS c).out, HK.out, HD.out.more _⟩
          case measure => simp [intOf]; omega
        · have hm1 : (c.toNat : Int) % 9 = 3 := by omega
          have hm2 : ((c.toNat : Int)).tmod 9 = 3 := by rw [Int.tmod_eq_emod_of_nonneg (by omega)]; omega
          have HO : Hid ((ByteArray.mk #[49, 50, 51, 52, 53, 54, 55, 56, 57]).extract 3 4 = fixOne c) := by
            show _ = _
            unfold fixOne fixB
            rw [h]
            rfl
          clear h
          go_wp2
          go_quiet (fail)
          go_wp2
          go_roundw
          case rel => exact ⟨k + 1, x ++ fixOne c, by omega, by omega, by go_num, by rw [HO.out], (HS c).out, HK.out, HD.out.more _⟩
          case measure => simp [intOf]; omega
        · have hm1 : (c.toNat : Int) % 9 = 4 := by omega
          have hm2 : ((c.toNat : Int)).tmod 9 = 4 := by rw [Int.tmod_eq_emod_of_nonneg (by omega)]; omega
          have HO : Hid ((ByteArray.mk #[49, 50, 51, 52, 53, 54, 55, 56, 57]).extract 4 5 = fixOne c) := by
            show _ = _
            unfold fixOne fixB
            rw [h]
            rfl
          clear h
          go_wp2
          go_quiet (fail)
          go_wp2
          go_roundw
          case rel => exact ⟨k + 1, x ++ fixOne c, by omega, by omega, by go_num, by rw [HO.out], (HS c).out, HK.out, HD.out.more _⟩
          case measure => simp [intOf]; omega
        · have hm1 : (c.toNat : Int) % 9 = 5 := by omega
          have hm2 : ((c.toNat : Int)).tmod 9 = 5 := by rw [Int.tmod_eq_emod_of_nonneg (by omega)]; omega
          have HO : Hid ((ByteArray.mk #[49, 50, 51, 52, 53, 54, 55, 56, 57]).extract 5 6 = fixOne c) := by
            show _ = _
            unfold fixOne fixB
            rw [h]
            rfl
          clear h
          go_wp2
          go_quiet (fail)
          go_wp2
          go_roundw
          case rel => exact ⟨k + 1, x ++ fixOne c, by omega, by omega, by go_num, by rw [HO.out], (HS c).out, HK.out, HD.out.more _⟩
          case measure => simp [intOf]; omega
        · have hm1 : (c.toNat : Int) % 9 = 6 := by omega
          have hm2 : ((c.toNat : Int)).tmod 9 = 6 := by rw [Int.tmod_eq_emod_of_nonneg (by omega)]; omega
          have HO : Hid ((ByteArray.mk #[49, 50, 51, 52, 53, 54, 55, 56, 57]).extract 6 7 = fixOne c) := by
            show _ = _
            unfold fixOne fixB
            rw [h]
            rfl
          clear h
          go_wp2
          go_quiet (fail)
          go_wp2
          go_roundw
          case rel => exact ⟨k + 1, x ++ fixOne c, by omega, by omega, by go_num, by rw [HO.out], (HS c).out, HK.out, HD.out.more _⟩
          case measure => simp [intOf]; omega
        · have hm1 : (c.toNat : Int) % 9 = 7 := by omega
          have hm2 : ((c.toNat : Int)).tmod 9 = 7 := by rw [Int.tmod_eq_emod_of_nonneg (by omega)]; omega
          have HO : Hid ((ByteArray.mk #[49, 50, 51, 52, 53, 54, 55, 56, 57]).extract 7 8 = fixOne c) := by
            show _ = _
            unfold fixOne fixB
            rw [h]
            rfl
          clear h
          go_wp2
          go_quiet (fail)
          go_wp2
          go_roundw
          case rel => exact ⟨k + 1, x ++ fixOne c, by omega, by omega, by go_num, by rw [HO.out], (HS c).out, HK.out, HD.out.more _⟩
          case measure => simp [intOf]; omega
        · have hm1 : (c.toNat : Int) % 9 = 8 := by omega
          have hm2 : ((c.toNat : Int)).tmod 9 = 8 := by rw [Int.tmod_eq_emod_of_nonneg (by omega)]; omega
          have HO : Hid ((ByteArray.mk #[49, 50, 51, 52, 53, 54, 55, 56, 57]).extract 8 9 = fixOne c) := by
            show _ = _
            unfold fixOne fixB
            rw [h]
            rfl
          clear h
          go_wp2
          go_quiet (fail)
          go_wp2
          go_roundw
          case rel => exact ⟨k + 1, x ++ fixOne c, by omega, by omega, by go_num, by rw [HO.out], (HS c).out, HK.out, HD.out.more _⟩
          case measure => simp [intOf]; omega
      · have HE : Hid (fixL (s.data.toList.take k) = fixL s.data.toList) := fix_end (Or.inr (by omega))
        have h3 : decide ((k : Int) < 5) = false := by simp; omega
        go_wp2
        go_ret
        exact ⟨by rw [HX.out, HE.out]; rfl, HD.out⟩
    · have HE : Hid (fixL (s.data.toList.take k) = fixL s.data.toList) := fix_end (Or.inl (by have := HL.out; omega))
      go_wp2
      go_ret
      exact ⟨by rw [HX.out, HE.out]; rfl, HD.out⟩
end Go.Proofs.Ythfdjebeblmmdaa

/- The document's Fix, Join and Meet of Vecs. -/
namespace Go.Proofs.Ythfdjebeblmmdaa
open Go.RowKit

/-- How far Fix puts one. -/
def elV (y : Int) : Int := IntKind.i64.wrap (1 + IntKind.i64.wrap ((IntKind.u64.wrap y).tmod 1000))
theorem elV_bd (y : Int) : 1 ≤ elV y ∧ elV y ≤ 1000 := by
  have hw : 0 ≤ IntKind.u64.wrap y := by
    have := IntKind.wrap_u64 y
    omega
  have h2 := Int.tmod_nonneg 1000 hw
  have h3 := Int.tmod_lt_of_pos (IntKind.u64.wrap y) (show (0 : Int) < 1000 by omega)
  unfold elV
  rw [IntWalk.i64_in ((IntKind.u64.wrap y).tmod 1000) (by omega), IntWalk.i64_in _ (by omega)]
  omega
theorem put1_is (s x : ByteArray) (h : Hid (ByteArray.mk (fixL s.data.toList).toArray = x)) (w : World) :
    Calls Try.prog 57 #[.string s] w fun e w' => e = .returned (.string x) ∧ Hid (Drawn w w') := by
  rw [← h.out]; exact fix_any s w

/-- A Vec that may be, of at most so many, in a row of the call's own. -/
def GoodVec (B : Nat) (ty : TypeId) (m : Nat) (w : World) (e : Ending) (w' : World) : Prop := ∃ r, Good r ∧ r.length ≤ m ∧ OwnVec B ty r w e w'

set_option maxRecDepth 100000 in
set_option maxHeartbeats 8000000 in
theorem fixv_any (A : Option Addr) (n c : Nat) (zs : List At) (B : Nat) (w : World) (hB : B ≤ w.heap.size) (hz : VecAt w B A n zs) :
    Calls Try.prog 35 #[.slice A n c] w (GoodVec w.heap.size 104 12 w) := by
  have HZ := Lib.hid hz
  clear hz
  go_enter Try.func35, Try.ntmps35
  go_wp2
  go_loopw [3, 4] (fun v i wr => ∃ (k : Nat) (Av : Option Addr) (nv cv : Nat) (out : List At), k ≤ n ∧ k ≤ 12 ∧ nv ≤ k ∧ i = .int .i64 k ∧ v = .slice Av nv cv ∧ Hid (Good out) ∧ Hid (MakeRel w 104 out Av nv cv wr)) (fun _ i _ => 12 - (intOf i).toNat)
  case atStart => exact ⟨0, none, 0, 0, [], by omega, by omega, by omega, rfl, rfl, Good.nil, MakeRel.start w _⟩
  case round =>
    obtain ⟨k, Av, nv, cv, out, hk, hk12, hnv, rfl, rfl, HG, HM⟩ := hrel
    have HB := Lib.hid HM.out.2.2
    have hsz : w.heap.size ≤ wr.heap.size := HB.out.size
    by_cases hlt : k < n
    · by_cases hl2 : k < 12
      · obtain ⟨blk, off, rfl, hbB, hc1, hc2⟩ := HZ.out.cells (HB.out.mono hB) (k := k) hlt
        generalize zs.getD k atNil = x at hc1 hc2
        obtain ⟨s, hs⟩ : ∃ s, ByteArray.mk (fixL x.1.data.toList).toArray = s := ⟨_, rfl⟩
        have hsr : rightL s.data.toList = true := by rw [← hs]; exact fixL_right _
        have HS := Lib.hid hs
        have HSR := Lib.hid hsr
        have hbd := elV_bd x.2
        have hblk : blk < wr.heap.size := by omega
        have hi0 : (0 : Int) ≤ (k : Int) := by omega
        have hi1 : (k : Int) < (n : Int) := by omega
        have hl3 : (k : Int) < 12 := by omega
        have HV : Hid (VecAt wr wr.heap.size Av nv out) := own_vec HM.out.2.1
        clear hs hsr
        go_wp2_with fail
        go_region_held3 (fun w' => w'.cell? ⟨blk, off + k * 2, none⟩ = some (.string x.1) ∧ w'.cell? ⟨blk, off + k * 2 + 1, none⟩ = some (.int .i64 x.2))
          (first | go_keep | (go_split_ands; refine ⟨(hbp.cell (by show blk < _; omega)).trans (by assumption), (hbp.cell (by show blk < _; omega)).trans (by assumption)⟩) | (go_split_ands; refine ⟨(hbf.cell (by show blk < _; omega)).trans (by assumption), (hbf.cell (by show blk < _; omega)).trans (by assumption)⟩))
          (first
            | (go_at_call 57; refine (put1_is _ _ HS _).mono ?_; rintro e w1 ⟨rfl, hd1⟩; have hbf := drawn_below hd1.out wr.heap.size; have hs1 : wr.heap.size ≤ w1.heap.size := hbf.size; have HB1 : Hid (Below wr.heap.size wr w1) := (Below.refl _ _).drew.trans hbf; clear hd1)
            | (go_at_call 74; refine (put_any Av nv cv out s (elV x.2) wr.heap.size _ hs1 (HV.out.keep HB1.out) (by omega) HG.out).mono ?_; rintro e w2 ⟨A2, c2, rfl, hc2', ho2, hbp⟩))
        have HG2 : Hid (Good (putV out s (elV x.2))) := HG.out.put HSR.out (by omega)
        have hln := put_len out s (elV x.2)
        have hol : out.length = nv := HM.out.1
        generalize putV out s (elV x.2) = out2 at ho2 hc2' HG2 hln
        have HM2 : Hid (MakeRel w 104 out2 A2 out2.length c2 w2) := ⟨rfl, own_base ho2 (by omega), HB.out.trans ((HB1.out.trans (hbp.mono hs1)).mono hsz)⟩
        clear ho2 hbp hc2' hol
        go_wp2_with fail
        go_roundw
        case rel => exact ⟨k + 1, A2, out2.length, c2, out2, by omega, by omega, by have := HM.out.1; omega, by go_num, rfl, HG2, HM2⟩
        case measure => simp [intOf]; omega
      · have h3 : decide ((k : Int) < 12) = false := by simp; omega
        go_wp2
        go_ret
        exact ⟨out, HG.out, by have := HM.out.1; omega, HM.out.own⟩
    · go_wp2
      go_ret
      exact ⟨out, HG.out, by have := HM.out.1; omega, HM.out.own⟩
end Go.Proofs.Ythfdjebeblmmdaa

/- The document's Join and Meet of Vecs that may be. -/
namespace Go.Proofs.Ythfdjebeblmmdaa
open Go.RowKit

theorem take_ne {ys : List At} (h : Rising ys) {k : Nat} (hk : k < ys.length) : ∀ u ∈ ys.take k, u.1 ≠ (ys.getD k atNil).1 := by
  intro u hu
  obtain ⟨i, hi, rfl⟩ := mem_getD hu
  rw [List.length_take] at hi
  have h1 := rising_lt h i k (by omega) hk
  have h2 : (ys.take k).getD i atNil = ys.getD i atNil := by
    rw [List.getD_eq_getElem?_getD, List.getD_eq_getElem?_getD, List.getElem?_take_of_lt (by omega)]
  rw [h2]
  intro e
  rw [e, cmpId_self] at h1
  omega
theorem ofF_take0 {ys : List At} (h : Rising ys) {k : Nat} (hk : k < ys.length) : ofF (ys.take k) (ys.getD k atNil).1 = 0 := ofF_none (take_ne h hk)
theorem ofF_take {ys : List At} (h : Rising ys) {k : Nat} (hk : k < ys.length) (c : ByteArray) : ofF (ys.take (k + 1)) c = if c = (ys.getD k atNil).1 then (ys.getD k atNil).2 else ofF (ys.take k) c := by
  rw [take_snoc hk]
  have := ofF_split (ys.take k) [] (ys.getD k atNil) c (fun u hu => by rw [List.append_nil] at hu; exact take_ne h hk u hu)
  rwa [List.append_nil] at this
theorem join_step {xs ys out : List At} {k : Nat} {y : At} {z o : Int} (gx : Pos xs) (go : Good out) (hf : ∀ c, ofF out c = max (ofF xs c) (ofF (ys.take k) c)) (hot : ∀ c, ofF (ys.take (k + 1)) c = if c = y.1 then y.2 else ofF (ys.take k) c) (h0 : ofF (ys.take k) y.1 = 0)
    (ho : ofF out y.1 = o) (hy : 1 ≤ y.2) (hz : z = max o y.2) : ∀ c, ofF (putV out y.1 z) c = max (ofF xs c) (ofF (ys.take (k + 1)) c) := fun c => by
  rw [ofF_put go.1 go.pos, hot c]
  by_cases e : c = y.1
  · subst e
    rw [if_pos rfl, if_pos rfl]
    have h1 := hf y.1
    have h5 := ofF_nonneg gx y.1
    omega
  · rw [if_neg e, if_neg e]; exact hf c
theorem meet_step2 {xs ys out : List At} {k : Nat} {x : At} {z o : Int} (gy : Pos ys) (go : Good out) (hf : ∀ c, ofF out c = min (ofF (xs.take k) c) (ofF ys c)) (hot : ∀ c, ofF (xs.take (k + 1)) c = if c = x.1 then x.2 else ofF (xs.take k) c)
    (ho : ofF ys x.1 = o) (hx : 1 ≤ x.2) (hz : z = min x.2 o) : ∀ c, ofF (putV out x.1 z) c = min (ofF (xs.take (k + 1)) c) (ofF ys c) := fun c => by
  rw [ofF_put go.1 go.pos, hot c]
  by_cases e : c = x.1
  · subst e
    rw [if_pos rfl, if_pos rfl]
    have h5 := ofF_nonneg gy x.1
    omega
  · rw [if_neg e, if_neg e]; exact hf c

end Go.Proofs.Ythfdjebeblmmdaa

/- Rows that are at hand, all together. -/
namespace Go.Proofs.Ythfdjebeblmmdaa
open Go.RowKit

/-- These rows are there. -/
def Vs (w : World) (vs : List (Option Addr × List At)) : Prop := ∀ v ∈ vs, VecAt w w.heap.size v.1 v.2.length v.2
theorem Vs.nil (w : World) : Vs w [] := fun v hv => by simp at hv
theorem Vs.keep {w w1 : World} {vs : List (Option Addr × List At)} (h : Vs w vs) (hb : Below w.heap.size w w1) : Vs w1 vs := fun v hv => ((h v hv).keep hb).more hb.size
theorem Vs.own {w w1 : World} {vs : List (Option Addr × List At)} {B c : Nat} {ty : TypeId} {A : Option Addr} {zs : List At} (h : Vs w vs) (ho : w1.ownsRow B ty 2 (.slice A zs.length c) zs.length (atCells zs)) (hb : Below w.heap.size w w1) : Vs w1 ((A, zs) :: vs) := fun v hv => by
  rcases List.mem_cons.mp hv with rfl | hv
  · exact own_vec ho
  · exact h.keep hb v hv
theorem Vs.get {w : World} {vs : List (Option Addr × List At)} {A : Option Addr} {zs : List At} (h : Vs w vs) (hm : (A, zs) ∈ vs) : VecAt w w.heap.size A zs.length zs := h _ hm
theorem Good.set {zs : List At} (h : Good zs) (a : ByteArray) (n : Int) : Good (setF zs a n) := by
  unfold setF; split
  · rename_i hr; exact h.join (good_one hr.1 (by omega) (by omega))
  · exact h
theorem set_len (zs : List At) (a : ByteArray) (n : Int) : (setF zs a n).length ≤ zs.length + 1 := by
  unfold setF; split
  · have := join_len zs [(a, min n 1048576)]; simp at this; omega
  · omega
theorem same_self (xs : List At) : decide (xs = xs) = true := decide_eq_true rfl
theorem same_true {xs ys : List At} (h : xs = ys) : Hid (decide (xs = ys) = true) := decide_eq_true h
theorem good_right {zs : List At} (h : Good zs) : Hid (rightV zs = true) := (good_iff zs).mpr h
end Go.Proofs.Ythfdjebeblmmdaa

/- Rows of structs: how they lie in memory. -/
namespace Go.Proofs.Ythfdjebeblmmdaa
open Go.RowKit

/-- In w the slice (A, n) holds zs, each in d cells, in a block below B. -/
def RowAt {α : Type} (cf : α → List Value) (d : Nat) (w : World) (B : Nat) (A : Option Addr) (n : Nat) (zs : List α) : Prop :=
  zs.length = n ∧ (0 < n → ∃ b off, A = some ⟨b, off, none⟩ ∧ b < B ∧ ∀ k (_ : k < zs.length) j u, (cf zs[k])[j]? = some u → w.cell? ⟨b, off + k * d + j, none⟩ = some u)

section
variable {α : Type} {cf : α → List Value} {d : Nat} {w w' : World} {B : Nat} {A : Option Addr} {n : Nat} {zs : List α}
theorem RowAt.nil : RowAt cf d w B A 0 [] := ⟨rfl, fun h => absurd h (by omega)⟩
theorem RowAt.hold (h : RowAt cf d w B A n zs) (hk : ∀ b o, b < B → w'.cell? ⟨b, o, none⟩ = w.cell? ⟨b, o, none⟩) : RowAt cf d w' B A n zs :=
  ⟨h.1, fun hn => by
    obtain ⟨b, off, e, hlt, hc⟩ := h.2 hn
    exact ⟨b, off, e, hlt, fun k hk' j u hu => (hk b _ hlt).trans (hc k hk' j u hu)⟩⟩
theorem RowAt.keep (h : RowAt cf d w B A n zs) (hb : Below B w w') : RowAt cf d w' B A n zs := h.hold fun b o hlt => hb.cell (p := ⟨b, o, none⟩) hlt
theorem RowAt.more {B' : Nat} (h : RowAt cf d w B A n zs) (hB : B ≤ B') : RowAt cf d w B' A n zs :=
  ⟨h.1, fun hn => by
    obtain ⟨b, off, e, hlt, hc⟩ := h.2 hn
    exact ⟨b, off, e, by omega, hc⟩⟩
theorem RowAt.take (h : RowAt cf d w B A n zs) {m : Nat} (hm : m ≤ n) : RowAt cf d w B A m (zs.take m) :=
  ⟨by rw [List.length_take, h.1]; omega, fun hn => by
    obtain ⟨b, off, e, hlt, hc⟩ := h.2 (by omega)
    refine ⟨b, off, e, hlt, fun k hk j u hu => ?_⟩
    rw [List.getElem_take] at hu
    exact hc k (by rw [List.length_take] at hk; omega) j u hu⟩
/-- One of them. -/
theorem RowAt.get (h : RowAt cf d w B A n zs) {k : Nat} (hk : k < n) : ∃ b off, A = some ⟨b, off, none⟩ ∧ b < B ∧ ∃ z, zs[k]? = some z ∧ ∀ j u, (cf z)[j]? = some u → w.cell? ⟨b, off + k * d + j, none⟩ = some u := by
  obtain ⟨b, off, e, hlt, hc⟩ := h.2 (by omega)
  have hk' : k < zs.length := by rw [h.1]; exact hk
  exact ⟨b, off, e, hlt, zs[k], List.getElem?_eq_getElem hk', hc k hk'⟩
end
end Go.Proofs.Ythfdjebeblmmdaa

/- Rows of structs of the call's own: append onto them. -/
namespace Go.Proofs.Ythfdjebeblmmdaa
open Go.RowKit

def rowCells {α : Type} (cf : α → List Value) (zs : List α) : List Value := zs.flatMap cf
/-- A slice type and its element's, whose values are laid by cf in d cells. -/
structure RowTy {α : Type} (cf : α → List Value) (d by' : Nat) (z : Value) (sl e : TypeId) : Prop where
  u : Try.prog.underlying sl = some (.slice e)
  i : (Try.prog.info? e).map (fun i => (i.zero, i.size, i.bytes)) = some (some z, d, by')
  zs : z.cells.size = d
  pos : 0 < d
  small : by' ≤ 128
  len : ∀ x, (cf x).length = d
  one : ∀ x, ∀ u ∈ cf x, u.oneCell' = true
theorem rowCells_append {α : Type} (cf : α → List Value) (xs ys : List α) : rowCells cf (xs ++ ys) = rowCells cf xs ++ rowCells cf ys := by simp [rowCells]
theorem rowCells_length {α : Type} {cf : α → List Value} {d : Nat} (hl : ∀ x, (cf x).length = d) (zs : List α) : (rowCells cf zs).length = zs.length * d := by
  induction zs with
  | nil => simp [rowCells]
  | cons x r ih =>
    have := hl x
    simp only [rowCells, List.flatMap_cons, List.length_append, List.length_cons] at ih ⊢
    rw [ih, this, Nat.add_mul, Nat.one_mul, Nat.add_comm]
theorem rowCells_get {α : Type} {cf : α → List Value} {d : Nat} (hl : ∀ x, (cf x).length = d) : ∀ (zs : List α) (k : Nat) (hk : k < zs.length) (j : Nat), j < d → (rowCells cf zs)[k * d + j]? = (cf zs[k])[j]? := by
  intro zs
  induction zs with
  | nil => intro k hk; simp at hk
  | cons x r ih =>
    intro k hk j hj
    have hx := hl x
    cases k with
    | zero =>
      simp only [rowCells, List.flatMap_cons, Nat.zero_mul, Nat.zero_add, List.getElem_cons_zero]
      rw [List.getElem?_append_left (by omega)]
    | succ k =>
      have := ih k (by simpa using hk) j hj
      simp only [rowCells, List.flatMap_cons, List.getElem_cons_succ] at this ⊢
      rw [List.getElem?_append_right (by rw [Nat.add_mul]; omega), hx, show (k + 1) * d + j - d = k * d + j by rw [Nat.add_mul]; omega]
      exact this
theorem rowCells_some {α : Type} {cf : α → List Value} {d : Nat} (hl : ∀ x, (cf x).length = d) (hd : 0 < d) {zs : List α} {j : Nat} {u : Value} (h : (rowCells cf zs)[j]? = some u) : ∃ k, ∃ hk : k < zs.length, j = k * d + j % d ∧ (cf zs[k])[j % d]? = some u := by
  have hj : j < zs.length * d := by
    have := (List.getElem?_eq_some_iff.mp h).1
    rwa [rowCells_length hl] at this
  have hk : j / d < zs.length := Nat.div_lt_of_lt_mul (by rw [Nat.mul_comm]; exact hj)
  have e : j = j / d * d + j % d := by have := Nat.div_add_mod j d; rw [Nat.mul_comm] at this; omega
  refine ⟨j / d, hk, e, ?_⟩
  rw [← rowCells_get hl zs (j / d) hk (j % d) (Nat.mod_lt _ hd), ← e]
  exact h
theorem radd (b o j : Nat) : (⟨b, o, none⟩ : Addr).add j = ⟨b, o + j, none⟩ := by unfold Addr.add; split <;> simp_all

section
variable {α : Type} {cf : α → List Value} {d by' : Nat} {z : Value} {sl e : TypeId}
theorem RowTy.mem (T : RowTy cf d by' z sl e) {zs : List α} : ∀ u ∈ rowCells cf zs, u.oneCell' = true := by
  intro u hu
  simp only [rowCells, List.mem_flatMap] at hu
  obtain ⟨x, _, hx⟩ := hu
  exact T.one x u hx
theorem row_cells (T : RowTy cf d by' z sl e) {w : World} {B : Nat} {ad : Addr} {m : Nat} {ys : List α} (h : RowAt cf d w B (some ad) m ys) : ∀ j u, (rowCells cf ys)[j]? = some u → w.cell? (ad.add j) = some u := by
  intro j u hu
  obtain ⟨k, hk, hj, hu'⟩ := rowCells_some T.len T.pos hu
  obtain ⟨b, off, e, _, hc⟩ := h.2 (by have := h.1; omega)
  injection e with e
  subst e
  rw [radd, hj, ← Nat.add_assoc]
  exact hc k hk _ u hu'
theorem rown_form {w : World} {B : Nat} {v : Value} {n : Nat} {xs : List Value} (h : w.ownsRow B e d v n xs) : ∃ A c, v = .slice A n c := by
  rcases h.2 with ⟨rfl, rfl⟩ | ⟨g, cap, _, rfl, _⟩
  · exact ⟨none, 0, rfl⟩
  · exact ⟨_, cap, rfl⟩
theorem own_row (T : RowTy cf d by' z sl e) {w : World} {B : Nat} {A : Option Addr} {n c : Nat} {zs : List α} (h : w.ownsRow B e d (.slice A n c) n (rowCells cf zs)) : RowAt cf d w w.heap.size A n zs := by
  have hl : zs.length = n := by
    have := h.1
    rw [rowCells_length T.len] at this
    exact Nat.eq_of_mul_eq_mul_right T.pos this
  refine ⟨hl, fun hn => ?_⟩
  have hh := h
  obtain ⟨g, cap, hv, _, hlt⟩ := h.form hn
  injection hv with hA
  subst hA
  refine ⟨g, 0, rfl, hlt, fun k hk j u hu => ?_⟩
  have hj : j < d := by
    have := (List.getElem?_eq_some_iff.mp hu).1
    rwa [T.len] at this
  have h1 := rowCells_get T.len zs k hk j hj
  have h2 := hh.cells (g := g) rfl (k * d + j) u (h1.trans hu)
  rw [radd] at h2
  rw [show 0 + k * d + j = 0 + (k * d + j) by omega]
  exact h2
theorem rown_cap {w : World} {B : Nat} {A : Option Addr} {n c : Nat} {xs : List Value} (h : w.ownsRow B e d (.slice A n c) n xs) : n ≤ c := by
  rcases h.2 with ⟨h1, rfl⟩ | ⟨g, cap, _, h1, _, _, hc, _⟩
  · omega
  · injection h1 with _ _ h3; omega
theorem run_append_row (T : RowTy cf d by' z sl e) {ty : TypeId} {w : World} {B B' : Nat} {v : Value} {n : Nat} {zs : List α} (hown : w.ownsRow B e d v n (rowCells cf zs)) {A : Option Addr} {m : Nat} {ys : List α} (c : Nat)
    (hr : RowAt cf d w B' A m ys) (hb : n + m ≤ 1099511627776) (hB : B ≤ w.heap.size) :
    ∃ v' w', (Builtin.append_ #[sl, sl] ty #[v, .slice A m c]).run Try.prog w = .ok v' w' ∧ w'.ownsRow B e d v' (n + m) (rowCells cf (zs ++ ys)) ∧ w.grownBy w' v.ownBlock ∧ (v'.ownBlock = v.ownBlock ∨ v'.ownBlock = some w.heap.size) := by
  obtain ⟨i, hi, hz0, hz1, hz2⟩ := info_parts T.i
  rcases A with _ | ad
  · have hm : m = 0 := by
      rcases Nat.eq_zero_or_pos m with h0 | h0
      · exact h0
      · obtain ⟨_, _, h, _⟩ := hr.2 h0
        cases h
    subst hm
    have hy : ys = [] := List.eq_nil_of_length_eq_zero hr.1
    subst hy
    refine ⟨v, w, ?_, by simpa using hown, World.grownBy.refl w _, .inl rfl⟩
    rcases hown.2 with ⟨rfl, rfl⟩ | ⟨g, cap, cur, rfl, _, _, hnc, _⟩
    · simp [Builtin.append_, run_underlying T.u, sizeOf, typeInfo, hi, Builtin.lenOf, Builtin.firstCells]
    · simp [Builtin.append_, run_underlying T.u, sizeOf, typeInfo, hi, Builtin.lenOf, Builtin.firstCells, hnc, storeCells]
  · have hs : (n + m) * by' ≤ 140737488355328 := by
      have := Nat.mul_le_mul hb T.small
      omega
    obtain ⟨v', w', hrun, h2, h3, _, h5⟩ := run_append_own_at (P := Try.prog) w B sl ty e i z d by' T.u hi hz0 hz1 hz2 T.zs T.pos v n _ hown ad m c (rowCells cf ys) (by rw [rowCells_length T.len, hr.1]) (row_cells T hr)
      T.mem (by unfold maxLen; omega) hs hB
    exact ⟨v', w', hrun, by rw [rowCells_append]; exact h2, h3, h5⟩
theorem wp_append_row (T : RowTy cf d by' z sl e) {o : Oper} {a : Act} {K : Act → World → Prop} {Q : Exit → Act → World → Prop} (s x : Operand) (ho : o.op = .call { callee := .builtin .append, args := #[s, x], argTypes := #[sl, sl] })
    {w : World} {B B' : Nat} {v : Value} {n : Nat} {zs : List α} (hs : a.eval s = v) (hown : w.ownsRow B e d v n (rowCells cf zs)) {A : Option Addr} {m : Nat} {ys : List α} {c : Nat} (hx : a.eval x = .slice A m c)
    (hr : RowAt cf d w B' A m ys) (hb : n + m ≤ 1099511627776) (hB : B ≤ w.heap.size)
    (h : ∀ A' c' w', w'.ownsRow B e d (.slice A' (n + m) c') (n + m) (rowCells cf (zs ++ ys)) → w.grownBy w' v.ownBlock → (Value.ownBlock (.slice A' (n + m) c') = v.ownBlock ∨ Value.ownBlock (.slice A' (n + m) c') = some w.heap.size) → K (a.put o.dst (.slice A' (n + m) c')) w') : o.wp Try.prog a w K Q := by
  obtain ⟨v', w', hrun, h2, h3, h4⟩ := run_append_row T (ty := o.type) hown c hr hb hB
  obtain ⟨A', c', rfl⟩ := rown_form h2
  unfold Oper.wp execOp
  simp only [ho, resolve, invoke, builtin, Sem.run_bind, Sem.run_pure, Result.andThen_ok, List.map_toArray, List.map_cons, List.map_nil, hs, hx, hrun]
  exact h A' c' w' h2 h3 h4
theorem wpList_append_row (T : RowTy cf d by' z sl e) {ops : Array Oper} {rest : List Oper} {o : Oper} {a : Act} {Q : Exit → Act → World → Prop} (hgd : o.guard = none) (s x : Operand) (ho : o.op = .call { callee := .builtin .append, args := #[s, x], argTypes := #[sl, sl] })
    {w : World} {B B' : Nat} {v : Value} {n : Nat} {zs : List α} (hs : a.eval s = v) (hown : w.ownsRow B e d v n (rowCells cf zs)) {A : Option Addr} {m : Nat} {ys : List α} {c : Nat} (hx : a.eval x = .slice A m c)
    (hr : RowAt cf d w B' A m ys) (hb : n + m ≤ 1099511627776) (hB : B ≤ w.heap.size)
    (h : ∀ A' c' w', w'.ownsRow B e d (.slice A' (n + m) c') (n + m) (rowCells cf (zs ++ ys)) → w.grownBy w' v.ownBlock → (Value.ownBlock (.slice A' (n + m) c') = v.ownBlock ∨ Value.ownBlock (.slice A' (n + m) c') = some w.heap.size) → wpList Try.prog ops Q rest (a.put o.dst (.slice A' (n + m) c')) w') :
    wpList Try.prog ops Q (o :: rest) a w :=
  wpList_plain hgd fun _ hK => wp_append_row T s x ho hs hown hx hr hb hB fun A' c' w' h2 h3 h4 => hK _ _ (h A' c' w' h2 h3 h4)
theorem one_row (T : RowTy cf d by' z sl e) {w : World} {g : Nat} {e' : TypeId} {x : α} {fr : Nat × Nat} (h : w.heap[g]? = some (.cells (cf x).toArray e' fr)) : RowAt cf d w (g + 1) (some ⟨g, 0, none⟩) 1 [x] :=
  ⟨rfl, fun _ => ⟨_, _, rfl, by omega, fun k hk j u hu => by
    obtain rfl : k = 0 := by simpa using hk
    have hj : j < d := by
      have := (List.getElem?_eq_some_iff.mp hu).1
      simpa [T.len] using this
    have := cell_of_row w g j _ _ _ h
    simp only [List.getElem_cons_zero] at hu
    simpa [hu] using this⟩⟩
theorem rown_nil (w : World) (B : Nat) : w.ownsRow B e d (.slice none 0 0) 0 (rowCells cf ([] : List α)) := ⟨by simp [rowCells], .inl ⟨rfl, rfl⟩⟩
theorem rown_grown {w w' : World} {B : Nat} {v : Value} {n : Nat} {xs : List Value} (h : w.ownsRow B e d v n xs) {row : Option Nat} (hg : w.grownBy w' row) (hne : row = none ∨ v.ownBlock ≠ row) : w'.ownsRow B e d v n xs :=
  h.kept (row := row) hg (by
    rcases hne with rfl | hne
    · cases hv : v.ownBlock <;> simp
    · exact .inr hne)
theorem rgrown_of_below {w w' : World} (h : Below w.heap.size w w') (row : Option Nat) : w.grownBy w' row := ⟨h.os, h.tape, h.output, h.size, fun k hk _ => h.block k hk⟩
theorem rown_below {w w' : World} {B : Nat} {v : Value} {n : Nat} {xs : List Value} (h : w.ownsRow B e d v n xs) (hb : Below w.heap.size w w') : w'.ownsRow B e d v n xs :=
  rown_grown h (rgrown_of_below hb none) (.inl rfl)
theorem rown_base {w : World} {B B' : Nat} {v : Value} {n : Nat} {xs : List Value} (h : w.ownsRow B e d v n xs) (hB : B' ≤ B) : w.ownsRow B' e d v n xs := by
  refine ⟨h.1, ?_⟩
  rcases h.2 with h0 | ⟨g, cap, cur, h1, h2, h3⟩
  · exact .inl h0
  · exact .inr ⟨g, cap, cur, h1, Nat.le_trans hB h2, h3⟩
/-- A row of the call's own is answered. -/
def OwnRow (cf : α → List Value) (d : Nat) (e : TypeId) (zs : List α) (w : World) (en : Ending) (w' : World) : Prop :=
  ∃ A c, en = .returned (.slice A zs.length c) ∧ w'.ownsRow w.heap.size e d (.slice A zs.length c) zs.length (rowCells cf zs) ∧ Below w.heap.size w w'
end
end Go.Proofs.Ythfdjebeblmmdaa

/- Rows of structs of the call's own: a store of one element; append inside a drawn region. -/
namespace Go.Proofs.Ythfdjebeblmmdaa
open Go.RowKit

def setsAt : List Value → Nat → List Value → List Value
  | l, _, [] => l
  | l, o, v :: vs => setsAt (l.set o v) (o + 1) vs
def wsets : World → Nat → Nat → List Value → World
  | w, _, _, [] => w
  | w, g, o, v :: vs => wsets (w.setCell ⟨g, o, none⟩ v) g (o + 1) vs
theorem setsAt_length : ∀ (vs l : List Value) (o : Nat), (setsAt l o vs).length = l.length
  | [], _, _ => rfl
  | v :: vs, l, o => by unfold setsAt; rw [setsAt_length vs]; simp
theorem setsAt_get : ∀ (vs l : List Value) (o i : Nat), o + vs.length ≤ l.length → (setsAt l o vs)[i]? = if o ≤ i ∧ i < o + vs.length then vs[i - o]? else l[i]?
  | [], l, o, i, _ => by unfold setsAt; rw [if_neg (by simp)]
  | v :: vs, l, o, i, h => by
    unfold setsAt
    rw [setsAt_get vs (l.set o v) (o + 1) i (by simp at h ⊢; omega)]
    simp only [List.length_cons] at h ⊢
    by_cases h1 : o = i
    · subst h1
      rw [if_neg (by omega), if_pos (by omega)]
      simp [show o < l.length by omega]
    · by_cases h2 : o + 1 ≤ i ∧ i < o + 1 + vs.length
      · rw [if_pos h2, if_pos (by omega), show i - o = (i - (o + 1)) + 1 by omega, List.getElem?_cons_succ]
      · rw [if_neg h2, if_neg (by omega), List.getElem?_set_ne h1]
section
variable {α : Type} {cf : α → List Value} {d by' : Nat} {z : Value} {sl e : TypeId}
theorem rowCells_put (T : RowTy cf d by' z sl e) {zs : List α} {k : Nat} (hk : k < zs.length) (x : α) : setsAt (rowCells cf zs) (k * d) (cf x) = rowCells cf (zs.set k x) := by
  have hl := T.len
  have hkd : k * d + d ≤ zs.length * d := by
    have := Nat.mul_le_mul_right d (Nat.succ_le_of_lt hk)
    rw [Nat.succ_mul] at this
    exact this
  apply List.ext_getElem?
  intro i
  rw [setsAt_get _ _ _ _ (by rw [rowCells_length hl, hl]; exact hkd), hl x]
  by_cases hi : i < zs.length * d
  · have hq : i / d < zs.length := Nat.div_lt_of_lt_mul (by rw [Nat.mul_comm]; exact hi)
    have ei : i = i / d * d + i % d := by have := Nat.div_add_mod i d; rw [Nat.mul_comm] at this; omega
    have hr : i % d < d := Nat.mod_lt _ T.pos
    have r1 : (rowCells cf (zs.set k x))[i]? = (cf ((zs.set k x)[i / d]'(by simpa using hq)))[i % d]? := by
      conv => lhs; rw [ei]
      exact rowCells_get hl (zs.set k x) (i / d) (by simpa using hq) (i % d) hr
    have r2 : (rowCells cf zs)[i]? = (cf zs[i / d])[i % d]? := by
      conv => lhs; rw [ei]
      exact rowCells_get hl zs (i / d) hq (i % d) hr
    rw [r1, List.getElem_set]
    by_cases h1 : k = i / d
    · rw [if_pos h1, if_pos (by subst h1; omega)]
      congr 1
      subst h1
      omega
    · rw [if_neg h1, if_neg ?_, r2]
      intro h2
      apply h1
      have h3 : k ≤ i / d := (Nat.le_div_iff_mul_le T.pos).mpr h2.1
      have h4 : i / d < k + 1 := (Nat.div_lt_iff_lt_mul T.pos).mpr (by rw [Nat.add_mul, Nat.one_mul]; exact h2.2)
      omega
  · rw [if_neg (by omega), List.getElem?_eq_none (by rw [rowCells_length hl]; omega), List.getElem?_eq_none (by rw [rowCells_length hl, List.length_set]; omega)]
theorem own_sets {B g n cap : Nat} : ∀ (vs : List Value) (o : Nat) (w : World) (xs : List Value), w.ownsRow B e d (.slice (some ⟨g, 0, none⟩) n cap) n xs → (wsets w g o vs).ownsRow B e d (.slice (some ⟨g, 0, none⟩) n cap) n (setsAt xs o vs)
  | [], _, _, _, h => h
  | v :: vs, o, _, _, h => own_sets vs (o + 1) _ _ (h.stored o v).1
theorem own_put (T : RowTy cf d by' z sl e) {w : World} {B g n cap k : Nat} {zs : List α} (h : w.ownsRow B e d (.slice (some ⟨g, 0, none⟩) n cap) n (rowCells cf zs)) (hk : k < zs.length) (x : α) : (wsets w g (k * d) (cf x)).ownsRow B e d (.slice (some ⟨g, 0, none⟩) n cap) n (rowCells cf (zs.set k x)) := by
  rw [← rowCells_put T hk x]
  exact own_sets _ _ _ _ h
theorem below_wsets {B g : Nat} {w0 : World} (hg : B ≤ g) : ∀ (vs : List Value) (o : Nat) (w : World), Below B w0 w → Below B w0 (wsets w g o vs)
  | [], _, _, h => h
  | v :: vs, o, _, h => below_wsets hg vs (o + 1) _ (h.setCell (by simpa using hg) v)
theorem step_append_row (T : RowTy cf d by' z sl e) {ops : Array Oper} {o : Oper} {a : Act} {K : Act → World → Prop} {Q : Exit → Act → World → Prop} {E : Prop} (hgd : o.guard = none) (s x : Operand) (ho : o.op = .call { callee := .builtin .append, args := #[s, x], argTypes := #[sl, sl] })
    {w : World} {B B' : Nat} {v : Value} {n : Nat} {zs : List α} (hs : a.eval s = v) (hown : w.ownsRow B e d v n (rowCells cf zs)) {A : Option Addr} {m : Nat} {ys : List α} {c : Nat} (hx : a.eval x = .slice A m c)
    (hr : RowAt cf d w B' A m ys) (hb : n + m ≤ 1099511627776) (hB : B ≤ w.heap.size)
    (h : ∀ A' c' w', w'.ownsRow B e d (.slice A' (n + m) c') (n + m) (rowCells cf (zs ++ ys)) → w.grownBy w' v.ownBlock → (Value.ownBlock (.slice A' (n + m) c') = v.ownBlock ∨ Value.ownBlock (.slice A' (n + m) c') = some w.heap.size) → K (a.put o.dst (.slice A' (n + m) c')) w') :
    if Region.wanted o (yielded ops a.tmps) = true then Oper.wp Try.prog o a w K Q else E := by
  have hw : Region.wanted o (yielded ops a.tmps) = true := by simp [Region.wanted, hgd]
  rw [if_pos hw]
  exact wp_append_row T s x ho hs hown hx hr hb hB h
end
end Go.Proofs.Ythfdjebeblmmdaa
