/- id.Has and know.Only. -/
import Derived.Test.YthfdjebeblmmdaaHEq
import Derived.Test.YthfdjebeblmmdaaHUd
namespace Go.Proofs.Ythfdjebeblmmdaa
open Go.RowKit

set_option maxRecDepth 100000 in
set_option maxHeartbeats 1000000 in
theorem index_any (A : Option Addr) (n c : Nat) (zs : List ByteArray) (a : ByteArray) (B : Nat) (w : World) (hz : RowAt cellsT 1 w B A n zs) (hn : n ≤ 1000000) :
    Calls Try.prog 95 #[.slice A n c, .string a] w fun e w' => ∃ r : Int, e = .returned (.int .i64 r) ∧ (0 ≤ r ↔ a ∈ zs) ∧ w = w' := by
  have hl : zs.length = n := hz.1
  have HL := Lib.hid hl
  have HZ := Lib.hid hz
  clear hl hz
  go_enter Try.func95, Try.ntmps95
  go_wp2
  go_loop [5, 8] (fun _ i => ∃ k : Nat, k ≤ n ∧ i = .int .i64 k ∧ Hid (∀ s ∈ zs.take k, s ≠ a)) (fun _ i => n - (intOf i).toNat)
  case atStart => exact ⟨0, by omega, rfl, fun s hs => by simp at hs⟩
  case round =>
    obtain ⟨k, hk, rfl, HN⟩ := hrel
    by_cases hlt : k < n
    · obtain ⟨blk, off, s, rfl, hbB, hzk, e0⟩ := HZ.out.text (Below.refl _ _) hlt
      have hi1 : (k : Int) < n := by omega
      by_cases he : a = s
      · have hq := beq_yes he
        have HM : Hid (a ∈ zs) := by rw [he]; exact List.mem_of_getElem? hzk
        clear he hzk
        go_wp2
        go_ret
        exact ⟨k, rfl, ⟨fun _ => HM.out, fun _ => by omega⟩, rfl⟩
      · have hq := beq_no he
        have HN2 : Hid (∀ s ∈ zs.take (k + 1), s ≠ a) := fun t ht => by
          rw [snocT hzk] at ht
          rcases List.mem_append.mp ht with ht | ht
          · exact HN.out t ht
          · simp at ht; subst ht; exact fun e => he e.symm
        clear he hzk
        go_wp2
        go_round
        case rel => exact ⟨k + 1, by omega, by go_num, HN2⟩
        case measure => simp [intOf]; omega
    · have HM : Hid (¬ a ∈ zs) := fun h => HN.out a (by rw [List.take_of_length_le (by have := HL.out; omega)]; exact h) rfl
      go_wp2
      go_ret
      exact ⟨-1, rfl, ⟨fun h => absurd h (by omega), fun h => absurd h HM.out⟩, rfl⟩
set_option maxRecDepth 100000 in
set_option maxHeartbeats 1000000 in
theorem contains_any (A : Option Addr) (n c : Nat) (zs : List ByteArray) (a : ByteArray) (B : Nat) (w : World) (hz : RowAt cellsT 1 w B A n zs) (hn : n ≤ 1000000) :
    Calls Try.prog 87 #[.slice A n c, .string a] w fun e w' => e = .returned (.bool (hasT zs a)) ∧ w = w' := by
  have HI := Lib.hid (index_any A n c zs a B w hz hn)
  clear hz
  go_enter Try.func87, Try.ntmps87
  go_wp2_with fail
  refine HI.out.mono ?_
  rintro e w1 ⟨r, rfl, hr, rfl⟩
  have HR : Hid (decide (0 ≤ r) = hasT zs a) := by
    show _ = _
    rw [Bool.eq_iff_iff, decide_eq_true_iff, hasT_iff]; exact hr
  clear hr HI
  go_wp2
  go_ret
  exact ⟨ret_bool HR.out, rfl⟩
theorem idHas_is (A : Option Addr) (n c : Nat) (zs : List ByteArray) (a : ByteArray) (B : Nat) (b : Bool) (h : Hid (hasT zs a = b)) (w : World) (hz : RowAt cellsT 1 w B A n zs) (hn : n ≤ 1000000) :
    Calls Try.prog 77 #[.slice A n c, .string a] w fun e w' => e = .returned (.bool b) ∧ w = w' := by
  have HI := Lib.hid (contains_any A n c zs a B w hz hn)
  rw [h.out] at HI
  clear hz
  go_enter Try.func77, Try.ntmps77
  go_wp2_with fail
  refine HI.out.mono ?_
  rintro e w1 ⟨rfl, rfl⟩
  clear HI
  go_wp2
  go_ret
  exact ⟨rfl, rfl⟩
/-- The Rows of some ids. -/
def onlyM (m : Mat) (l : List ByteArray) : Mat := m.filter fun x => hasT l x.1
theorem onlyM_len (m : Mat) (l : List ByteArray) : (onlyM m l).length ≤ m.length := List.length_filter_le _ _
theorem onlyM_take {m : Mat} {k : Nat} {x : ByteArray × (Int × List Int)} (l : List ByteArray) (h : m[k]? = some x) : onlyM (m.take (k + 1)) l = onlyM (m.take k) l ++ (if hasT l x.1 = true then [x] else []) := by
  rw [takeM h]
  unfold onlyM
  rw [List.filter_append, List.filter_cons, List.filter_nil]
set_option maxRecDepth 100000 in
set_option maxHeartbeats 4000000 in
theorem onlyM_any (A : Option Addr) (n c : Nat) (m : Mat) (A' : Option Addr) (n' c' : Nat) (l : List ByteArray) (B : Nat) (w : World) (hB : B ≤ w.heap.size) (hz : MatAt w B A n m) (hy : RowAt cellsT 1 w B A' n' l) (hn : n ≤ 100000) (hn' : n' ≤ 100000) (hv : ∀ x ∈ m, OkS x.2) :
    Calls Try.prog 44 #[.slice A n c, .slice A' n' c'] w (OwnMat 77 (onlyM m l) w) := by
  have HL := Lib.hid hz.len
  have HZ := Lib.hid hz
  have HY := Lib.hid hy
  have HV := Lib.hid hv
  clear hz hy hv
  go_enter Try.func44, Try.ntmps44
  go_wp2
  go_loopw [5, 10] (fun v i wr => ∃ (k : Nat) (Av : Option Addr) (cv : Nat), k ≤ n ∧ i = .int .i64 k ∧ v = .slice Av (onlyM (m.take k) l).length cv ∧ Hid (OwnsM wr w.heap.size 77 Av (onlyM (m.take k) l).length cv (onlyM (m.take k) l)) ∧ Hid (Below w.heap.size w wr)) (fun _ i _ => n - (intOf i).toNat)
  case atStart => exact ⟨0, none, 0, by omega, rfl, rfl, OwnsM.nil _ _ _, Below.refl _ _⟩
  case round =>
    obtain ⟨k, Av, cv, hk, rfl, rfl, HO, HB⟩ := hrel
    by_cases hlt : k < n
    · obtain ⟨blk, off, r, rfl, hbB, hmk, e0, e1, e2, hf⟩ := HZ.out.get (HB.out.mono hB) hlt
      have HTS := Lib.hid (onlyM_take l hmk)
      have hi1 : (k : Int) < (n : Int) := by omega
      have hvl : OkS (r.u, r.v) := HV.out _ (List.mem_of_getElem? hmk)
      have HVL := Lib.hid hvl
      have hdl : (onlyM (m.take k) l).length ≤ 100000 := Nat.le_trans (onlyM_len _ _) (by rw [List.length_take]; omega)
      have hsz := HB.out.size
      have hbw : Below wr.heap.size wr (wr.alloc (.cells #[.string r.id, .int .i64 r.u, .slice r.A r.v.length r.c] 77)) := (Below.refl _ _).alloc (Nat.le_refl _) _
      have HB1 := Lib.hid (HB.out.trans (hbw.mono hsz))
      have HO1 := Lib.hid (HO.out.below hbw)
      have HY1 := Lib.hid (HY.out.keep ((HB.out.trans (hbw.mono hsz)).mono hB))
      cases hh : hasT l r.id with
      | false =>
        have HH := Lib.hid hh
        have HN : Hid (onlyM (m.take (k + 1)) l = onlyM (m.take k) l) := by show _ = _; rw [HTS.out, if_neg (by simp [hh]), List.append_nil]
        obtain ⟨id, u, Ar, cr, v⟩ := r
        simp only at e0 e1 e2 HB1 HO1 HH HY1
        clear hmk hf hbw HTS hh hvl HVL
        generalize onlyM (m.take k) l = d at *
        go_wp2_with fail
        refine (idHas_is A' n' c' l id B false HH _ HY1.out (by omega)).mono ?_
        rintro e w' ⟨rfl, rfl⟩
        go_wp2_with fail
        go_roundw
        case rel => exact ⟨k + 1, Av, cv, by omega, by go_num, by rw [HN.out], by rw [HN.out]; exact HO1, HB1⟩
        case measure => simp [intOf]; omega
      | true =>
        have HH := Lib.hid hh
        have HP := Lib.hid (push_m Av (onlyM (m.take k) l).length cv (onlyM (m.take k) l) r.id r.u r.A r.c r.v w.heap.size (wr.alloc (.cells #[.string r.id, .int .i64 r.u, .slice r.A r.v.length r.c] 77)) (Nat.le_trans hsz hbw.size) (HO.out.below hbw) ((hf.vec.more (Nat.le_trans hB hsz)).keep hbw |>.more hbw.size) hf.cap (by omega) HVL.out)
        have HN : Hid (onlyM (m.take (k + 1)) l = onlyM (m.take k) l ++ [(r.id, (r.u, r.v))]) := by show _ = _; rw [HTS.out, if_pos hh]
        obtain ⟨id, u, Ar, cr, v⟩ := r
        simp only at e0 e1 e2 HB1 HO1 HH HY1 HP HN
        have k0 : (wr.alloc (.cells #[.string id, .int .i64 u, .slice Ar v.length cr] 77)).cell? ⟨wr.heap.size, 0, none⟩ = some (.string id) := by simp [go_sem]
        clear hmk hf hbw HTS hh hvl HVL
        generalize onlyM (m.take k) l = d at *
        go_wp2_with fail
        refine (idHas_is A' n' c' l id B true HH _ HY1.out (by omega)).mono ?_
        rintro e w' ⟨rfl, rfl⟩
        go_wp2_with fail
        refine HP.out.mono ?_
        rintro e w1 ⟨A3, c3, rfl, ho, hb⟩
        have HO3 := Lib.hid ho
        have HB3 := Lib.hid (HB1.out.trans hb)
        clear ho hb HP HB1 e0 e1 e2 k0 HO HO1 HB HY1
        have HLn : Hid ((onlyM (m.take (k + 1)) l).length = d.length + 1) := by show _ = _; rw [HN.out]; simp
        go_wp2_with fail
        go_roundw
        case rel => exact ⟨k + 1, A3, c3, by omega, by go_num, by rw [HLn.out], by rw [HLn.out, HN.out]; exact HO3, HB3⟩
        case measure => simp [intOf]; omega
    · obtain rfl : k = n := by omega
      have HT : Hid (m.take k = m) := List.take_of_length_le (by have := HL.out; omega)
      go_wp2
      go_ret
      rw [HT.out] at HO ⊢
      exact ⟨Av, cv, rfl, HO.out, HB.out⟩
end Go.Proofs.Ythfdjebeblmmdaa
