/- The law IdChilds walked. -/
import Derived.Test.YthplmnoalanhjaaDoorIf
import Derived.ProofKit
import Derived.OpenShut
import Derived.Lib.SmallJoins
namespace Go.Proofs.YthplmnoalanhjaaDoor
open Go.RowKit

/-- What Child answers: the name and the error's number. -/
def childF (s : ByteArray) (n : Int) : ByteArray × Int :=
  if rightL s.data.toList = false then (⟨#[]⟩, 4) else if n < 1 ∨ 9 < n then (⟨#[]⟩, 1) else if s.size = 6 then (⟨#[]⟩, 18) else (s ++ digit n, 0)

theorem child_any (s : ByteArray) (n : Int) (p : ByteArray) (e : Int) (h : Hid (childF s n = (p, e))) (w : World) :
    Calls Tryd.prog 15 #[.string s, .int .i64 n] w fun e' w' => e' = .returned (.tuple #[.string p, .int .i64 e]) ∧ w = w' := by
  have h := h.out
  unfold childF at h
  by_cases hr : rightL s.data.toList = false
  · rw [if_pos hr] at h; cases h; exact child_no s n hr w
  · rw [if_neg hr] at h
    have hr' : rightL s.data.toList = true := by simpa using hr
    by_cases hn : n < 1 ∨ 9 < n
    · rw [if_pos hn] at h; cases h; exact child_arg s n hr' hn w
    · rw [if_neg hn] at h
      by_cases h6 : s.size = 6
      · rw [if_pos h6] at h; cases h; exact child_full s n hr' (by omega) (by omega) h6 w
      · rw [if_neg h6] at h; cases h; exact child_yes s n hr' (by omega) (by omega) (by have := right_size hr'; omega) w
theorem rchild_any (s : ByteArray) (n : Int) (p : ByteArray) (e : Int) (h : Hid (childF s n = (p, e))) (w : World) :
    Calls Tryd.prog 16 #[.string s, .int .i64 n] w fun e' w' => e' = .returned (.tuple #[.string p, .int .i64 e]) ∧ w = w' := by
  have h := h.out
  unfold childF at h
  by_cases hr : rightL s.data.toList = false
  · rw [if_pos hr] at h; cases h; exact rchild_no s n hr w
  · rw [if_neg hr] at h
    have hr' : rightL s.data.toList = true := by simpa using hr
    by_cases hn : n < 1 ∨ 9 < n
    · rw [if_pos hn] at h; cases h; exact rchild_arg s n hr' hn w
    · rw [if_neg hn] at h
      by_cases h6 : s.size = 6
      · rw [if_pos h6] at h; cases h; exact rchild_full s n hr' (by omega) (by omega) h6 w
      · rw [if_neg h6] at h; cases h; exact rchild_yes s n hr' (by omega) (by omega) (by have := right_size hr'; omega) w

theorem childF_ok {s : ByteArray} {n : Int} {p : ByteArray} (h : childF s n = (p, 0)) : rightL s.data.toList = true ∧ 1 ≤ n ∧ n ≤ 9 ∧ s.size < 6 ∧ p = s ++ digit n := by
  unfold childF at h
  by_cases hr : rightL s.data.toList = false
  · rw [if_pos hr] at h; simp at h
  · rw [if_neg hr] at h
    have hr' : rightL s.data.toList = true := by simpa using hr
    by_cases hn : n < 1 ∨ 9 < n
    · rw [if_pos hn] at h; simp at h
    · rw [if_neg hn] at h
      by_cases h6 : s.size = 6
      · rw [if_pos h6] at h; simp at h
      · rw [if_neg h6] at h
        exact ⟨hr', by omega, by omega, by have := right_size hr'; omega, by simpa using h.symm⟩

theorem cat_bytes (s : ByteArray) (n : Int) : (s ++ digit n).data.toList = s.data.toList ++ [UInt8.ofNat (48 + n.toNat)] := by
  rw [ByteArray.data_append]; simp [digit]
theorem digit_nat {n : Int} (h1 : 1 ≤ n) (h2 : n ≤ 9) : (UInt8.ofNat (48 + n.toNat)).toNat = 48 + n.toNat := by
  rw [UInt8.toNat_ofNat']; omega
theorem right_cat {l : List UInt8} {c : UInt8} (h : rightL l = true) (h6 : l.length < 6) (h1 : 49 ≤ c.toNat) (h2 : c.toNat ≤ 57) : rightL (l ++ [c]) = true := by
  rw [rightL_iff] at h ⊢
  have hl : (l ++ [c]).length = l.length + 1 := by simp
  have g : ∀ j, j < l.length → at8 (l ++ [c]) j = at8 l j := fun j hj => by
    unfold at8
    rw [List.getD_eq_getElem?_getD, List.getD_eq_getElem?_getD, List.getElem?_append_left hj]
  refine ⟨⟨by omega, by omega, by rw [g 0 (by omega)]; exact h.1.2.2⟩, fun j a b => ?_⟩
  by_cases hj : j < l.length
  · rw [g j hj]; exact h.2 j a hj
  · have : at8 (l ++ [c]) j = c.toNat := by
      unfold at8
      rw [List.getD_eq_getElem?_getD, List.getElem?_append_right (by omega), show j - l.length = 0 by omega]; rfl
    omega

/-- All that IdChilds asks of a child that was handed out. -/
theorem child_facts {a : ByteArray} {x : Int} {p : ByteArray} (h : childF a x = (p, 0)) :
    rightL p.data.toList = true ∧ (p.toList == [48]) = false ∧ 1 ≤ p.size ∧ p.size ≤ 6 ∧ p.extract 0 (p.size - 1) = a ∧ aboveL a.data.toList p.data.toList = true := by
  obtain ⟨hr, h1, h2, h6, rfl⟩ := childF_ok h
  have hs := right_size hr
  have hl : a.data.toList.length = a.size := by simp
  have hd := digit_nat h1 h2
  have hR : rightL (a ++ digit x).data.toList = true := by rw [cat_bytes]; exact right_cat hr (by omega) (by omega) (by omega)
  have hsz : (a ++ digit x).size = a.size + 1 := ByteArray.size_append
  refine ⟨hR, not_root (by omega), by omega, by omega, ?_, (aboveL_iff _ _).mpr ⟨hr, hR, by rw [cat_bytes]; simp, by rw [cat_bytes]; exact List.prefix_append _ _⟩⟩
  apply ByteArray.ext
  apply Array.ext'
  rw [Lib.extract_data, hsz, cat_bytes]
  simp
theorem child_same {a b p q : ByteArray} {x y : Int} (h : childF a x = (p, 0)) (h' : childF b y = (q, 0)) : (p.toList == q.toList) = ((a.toList == b.toList) && (x == y)) := by
  obtain ⟨hr, h1, h2, h6, rfl⟩ := childF_ok h
  obtain ⟨hr', h1', h2', h6', rfl⟩ := childF_ok h'
  have hd := digit_nat h1 h2
  have hd' := digit_nat h1' h2'
  rw [Bool.eq_iff_iff, Bool.and_eq_true, beq_iff_eq, beq_iff_eq, beq_iff_eq, Go.ByteArray.toList_eq, Go.ByteArray.toList_eq, Go.ByteArray.toList_eq, Go.ByteArray.toList_eq, cat_bytes, cat_bytes]
  constructor
  · intro e
    obtain ⟨e1, e2⟩ := List.append_inj' e rfl
    refine ⟨e1, ?_⟩
    simp only [List.cons.injEq, and_true] at e2
    rw [e2] at hd
    omega
  · rintro ⟨e1, e2⟩
    rw [e1, e2]

set_option maxHeartbeats 4000000 in
theorem idChilds_walk (a b : ByteArray) (x y : Int) (w : World) :
    Calls Tryd.prog 4 #[.string a, .string b, .agg #[.int .i64 x, .int .i64 y]] w fun e w' => e = .returned (.bool true) ∧ Below w.heap.size w w' := by
  obtain ⟨p, e, he⟩ : ∃ p e, childF a x = (p, e) := ⟨_, _, rfl⟩
  obtain ⟨q, f, hf⟩ : ∃ q f, childF b y = (q, f) := ⟨_, _, rfl⟩
  have HE := Lib.hid he
  have HF := Lib.hid hf
  clear he hf
  by_cases h0 : e = 0
  · subst h0
    by_cases h1 : f = 0
    · subst h1
      obtain ⟨hr, hq, hs1, hs6, hx, ha⟩ := child_facts HE.out
      have hs := child_same HE.out HF.out
      have HR := Lib.hid hr
      have HX := Lib.hid hx
      have HA := Lib.hid ha
      clear hr hx ha
      cases hab : (a.toList == b.toList)
      · have hpq : (p.toList == q.toList) = false := by rw [hs, hab]; rfl
        clear hs
        go_enter Tryd.func4, Tryd.ntmps4
        go_wp2_with fail
        refine (child_any _ _ _ _ HE _).mono ?_
        rintro e w' ⟨rfl, rfl⟩
        go_wp2_with fail
        refine (child_any _ _ _ _ HF _).mono ?_
        rintro e w' ⟨rfl, rfl⟩
        go_wp2_with fail
        refine (rchild_any _ _ _ _ HE _).mono ?_
        rintro e w' ⟨rfl, rfl⟩
        go_wp2_with fail
        refine (told_any _).mono ?_
        rintro e w' ⟨rfl, rfl⟩
        go_wp2_with fail
        refine (parent_yes _ HR hq hs1 hs6 _).mono ?_
        rw [HX.out]
        rintro e w' ⟨rfl, rfl⟩
        go_wp2_with fail
        refine (above_is _ _ true HA _).mono ?_
        rintro e w' ⟨rfl, rfl⟩
        go_wp2
        go_ret
        exact ⟨rfl, (Below.refl _ _).alloc (Nat.le_refl _) _⟩
      · cases hxy : (x == y)
        all_goals
          have hpq := hs
          rw [hab, hxy, Bool.true_and] at hpq
          clear hs
          go_enter Tryd.func4, Tryd.ntmps4
          go_wp2_with fail
          refine (child_any _ _ _ _ HE _).mono ?_
          rintro e w' ⟨rfl, rfl⟩
          go_wp2_with fail
          refine (child_any _ _ _ _ HF _).mono ?_
          rintro e w' ⟨rfl, rfl⟩
          go_wp2_with fail
          refine (rchild_any _ _ _ _ HE _).mono ?_
          rintro e w' ⟨rfl, rfl⟩
          go_wp2_with fail
          refine (told_any _).mono ?_
          rintro e w' ⟨rfl, rfl⟩
          go_wp2_with fail
          refine (parent_yes _ HR hq hs1 hs6 _).mono ?_
          rw [HX.out]
          rintro e w' ⟨rfl, rfl⟩
          go_wp2_with fail
          refine (above_is _ _ true HA _).mono ?_
          rintro e w' ⟨rfl, rfl⟩
          go_wp2
          go_ret
          exact ⟨rfl, (Below.refl _ _).alloc (Nat.le_refl _) _⟩
    · have hn : (f != 0) = true := by simpa using h1
      go_enter Tryd.func4, Tryd.ntmps4
      go_wp2_with fail
      refine (child_any _ _ _ _ HE _).mono ?_
      rintro e w' ⟨rfl, rfl⟩
      go_wp2_with fail
      refine (child_any _ _ _ _ HF _).mono ?_
      rintro e w' ⟨rfl, rfl⟩
      go_wp2_with fail
      refine (rchild_any _ _ _ _ HE _).mono ?_
      rintro e w' ⟨rfl, rfl⟩
      go_wp2_with fail
      refine (told_any _).mono ?_
      rintro e w' ⟨rfl, rfl⟩
      go_wp2
      go_ret
      exact ⟨rfl, (Below.refl _ _).alloc (Nat.le_refl _) _⟩
  · have hn : (e != 0) = true := by simpa using h0
    go_enter Tryd.func4, Tryd.ntmps4
    go_wp2_with fail
    refine (child_any _ _ _ _ HE _).mono ?_
    rintro e w' ⟨rfl, rfl⟩
    go_wp2_with fail
    refine (child_any _ _ _ _ HF _).mono ?_
    rintro e w' ⟨rfl, rfl⟩
    go_wp2_with fail
    refine (rchild_any _ _ _ _ HE _).mono ?_
    rintro e w' ⟨rfl, rfl⟩
    go_wp2_with fail
    refine (told_any _).mono ?_
    rintro e w' ⟨rfl, rfl⟩
    go_wp2
    go_ret
    exact ⟨rfl, (Below.refl _ _).alloc (Nat.le_refl _) _⟩

theorem cellsP : Tryd.prog.cellsOf 31 = 2 := by kernel_rfl
theorem cellsI : Tryd.prog.cellsOf 3 = 1 := by kernel_rfl
theorem open_pair {H : Type} {enc : TypeId × Value → H} {W : World} {base : Nat} {v : Value} {d : DataW H} {p : List MemPlace} (hv : Value.okWide Tryd.prog W .any base 31 v) (h : DataW.Trod enc Tryd.prog W 0 (fun _ => true) true 31 v d p) :
    ∃ (x y : Int), v = .agg #[.int .i64 x, .int .i64 y] := by
  simp only [Value.okWide, Tryd.underlying31] at hv
  obtain ⟨cs, rfl, hsz, _⟩ := hv
  obtain ⟨c0, c1, rfl⟩ := Go.Joins.array2 (hsz.trans cellsP)
  obtain ⟨fuel, hf⟩ := h
  obtain ⟨xs, m, _, hx, _, hl, hxs⟩ := DataW.trod_array Tryd.underlying31 hf
  match xs, hl with
  | [y0, y1], _ =>
    have h0 := hxs 0 (by omega)
    have h1 := hxs 1 (by omega)
    rw [cellsI] at h0 h1
    simp [Value.cells] at h0 h1
    obtain ⟨a, e0, _, _⟩ := DataW.trod_int Tryd.underlying3 h0
    obtain ⟨b, e1, _, _⟩ := DataW.trod_int Tryd.underlying3 h1
    simp only [List.cons.injEq, and_true] at e0 e1
    subst e0 e1
    exact ⟨a, b, rfl⟩
end Go.Proofs.YthplmnoalanhjaaDoor
