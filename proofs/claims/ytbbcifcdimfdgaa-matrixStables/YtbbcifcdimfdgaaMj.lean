/- The reference's Of and Drop of a Matrix. -/
import Derived.Test.YtbbcifcdimfdgaaMg
namespace Go.Proofs.Ytbbcifcdimfdgaa
open Go.RowKit

theorem mOf_step {m : Mat} {k : Nat} {x : ByteArray × List At} {a : ByteArray} (h : m[k]? = some x) (he : x.1 ≠ a) : mOf (m.drop k) a = mOf (m.drop (k + 1)) a := by
  obtain ⟨hk, rfl⟩ := List.getElem?_eq_some_iff.mp h
  rw [List.drop_eq_getElem_cons hk, mOf, if_neg he]
theorem mOf_hit {m : Mat} {k : Nat} {x : ByteArray × List At} {a : ByteArray} (h : m[k]? = some x) (he : x.1 = a) : mOf (m.drop k) a = x.2 := by
  obtain ⟨hk, rfl⟩ := List.getElem?_eq_some_iff.mp h
  rw [List.drop_eq_getElem_cons hk, mOf, if_pos he]
set_option maxRecDepth 100000 in
set_option maxHeartbeats 2000000 in
theorem rofM_any (A : Option Addr) (n c : Nat) (m : Mat) (a : ByteArray) (B : Nat) (w : World) (hz : MatAt w B A n m) (hn : n ≤ 1000000) :
    Calls Try.prog 24 #[.slice A n c, .string a] w fun e w' => ∃ A1 c1, e = .returned (.slice A1 (mOf m a).length c1) ∧ (mOf m a).length ≤ c1 ∧ VecAt w B A1 (mOf m a).length (mOf m a) ∧ w = w' := by
  have HL := Lib.hid hz.len
  have HZ := Lib.hid hz
  clear hz
  obtain ⟨v, hv⟩ : ∃ v, mOf m a = v := ⟨_, rfl⟩
  have HV0 : Hid (mOf (m.drop 0) a = v) := hv
  rw [hv]
  clear hv
  go_enter Try.func24, Try.ntmps24
  go_wp2
  go_loop [5] (fun i => ∃ k : Nat, k ≤ n ∧ i = .int .i64 k ∧ Hid (mOf (m.drop k) a = v)) (fun i => n - (intOf i).toNat)
  case atStart => exact ⟨0, by omega, rfl, HV0⟩
  case round =>
    clear HV0
    obtain ⟨k, hk, rfl, HO⟩ := hrel
    by_cases hlt : k < n
    · obtain ⟨blk, off, r, rfl, hbB, hmk, e0, e1, hf⟩ := HZ.out.get (Below.refl _ _) hlt
      have hi1 : (k : Int) < (n : Int) := by omega
      by_cases he : r.id = a
      · have HR : Hid (r.v = v) := (mOf_hit hmk he).symm.trans HO.out
        have hq := beq_yes he
        have HF := Lib.hid hf
        obtain ⟨id, Ar, cr, vv⟩ := r
        simp only at e0 e1 hq HR
        clear he hmk hf
        go_wp2
        go_ret
        rw [← HR.out]
        exact ⟨Ar, cr, rfl, HF.out.cap, HF.out.vec, rfl⟩
      · have HN : Hid (mOf (m.drop (k + 1)) a = v) := (mOf_step hmk he).symm.trans HO.out
        have hq := beq_no he
        obtain ⟨id, Ar, cr, vv⟩ := r
        simp only at e0 e1 hq
        clear he hmk hf
        go_wp2
        go_round
        case rel => exact ⟨k + 1, by omega, by go_num, HN⟩
        case measure => simp [intOf]; omega
    · have HR : Hid (v = []) := by show _ = _; rw [← HO.out, List.drop_of_length_le (by have := HL.out; omega)]; rfl
      go_wp2
      go_ret
      rw [HR.out]
      exact ⟨none, 0, rfl, Nat.le_refl _, VecAt.nil _ _ _, rfl⟩
theorem apart_old {w w1 : World} {B B0 : Nat} {e : TypeId} {A : Option Addr} {n c : Nat} {rs : List Hd} {r : Hd} (h : OwnsH w B0 e A n c rs) (hf : Fine w1 B r) (hB : B ≤ B0) : Apart r (Value.ownBlock (.slice A n c)) := fun hn ad e1 e2 => by
  have h1 := (h.own.lt ad.block e2).1
  obtain ⟨b, off, e3, hlt, _⟩ := hf.vec.2 hn
  rw [e1] at e3
  injection e3 with e3
  subst e3
  simp only at h1 hlt
  omega
set_option maxRecDepth 100000 in
set_option maxHeartbeats 4000000 in
theorem rdropM_any (A : Option Addr) (n c : Nat) (m : Mat) (a : ByteArray) (B : Nat) (w : World) (hB : B ≤ w.heap.size) (hz : MatAt w B A n m) (hn : n ≤ 100000) :
    Calls Try.prog 20 #[.slice A n c, .string a] w (OwnMat 25 (dropM m a) w) := by
  have HL := Lib.hid hz.len
  have HZ := Lib.hid hz
  clear hz
  go_enter Try.func20, Try.ntmps20
  go_wp2
  go_loopw [5, 6] (fun v i wr => ∃ (k : Nat) (Av : Option Addr) (cv : Nat), k ≤ n ∧ i = .int .i64 k ∧ v = .slice Av (dropM (m.take k) a).length cv ∧ Hid (OwnsM wr w.heap.size 25 Av (dropM (m.take k) a).length cv (dropM (m.take k) a)) ∧ Hid (Below w.heap.size w wr)) (fun _ i _ => n - (intOf i).toNat)
  case atStart => exact ⟨0, none, 0, by omega, rfl, rfl, OwnsM.nil _ _ _, Below.refl _ _⟩
  case round =>
    obtain ⟨k, Av, cv, hk, rfl, rfl, HOM, HB⟩ := hrel
    by_cases hlt : k < n
    · obtain ⟨blk, off, r, rfl, hbB, hmk, e0, e1, hf⟩ := HZ.out.get (HB.out.mono hB) hlt
      have HTS := Lib.hid (dropM_take a hmk)
      have hi1 : (k : Int) < (n : Int) := by omega
      have hdl : (dropM (m.take k) a).length ≤ 100000 := Nat.le_trans (dropM_len _ _) (by rw [List.length_take]; omega)
      have hsz := HB.out.size
      by_cases he : r.id = a
      · have HN : Hid (dropM (m.take (k + 1)) a = dropM (m.take k) a) := by show _ = _; rw [HTS.out, if_pos he, List.append_nil]
        have hq := beq_yes he
        obtain ⟨id, Ar, cr, v⟩ := r
        simp only at e0 e1 hq
        clear hmk hf HTS he
        generalize dropM (m.take k) a = d at *
        go_wp2_with fail
        go_roundw
        case rel => exact ⟨k + 1, Av, cv, by omega, by go_num, by rw [HN.out], by rw [HN.out]; exact HOM, HB⟩
        case measure => simp [intOf]; omega
      · have HN : Hid (dropM (m.take (k + 1)) a = dropM (m.take k) a ++ [(r.id, r.v)]) := by show _ = _; rw [HTS.out, if_neg he]
        have hq := beq_no he
        obtain ⟨rs, habs, hown⟩ := HOM.out
        have HAB := Lib.hid habs
        have hbw : Below wr.heap.size wr (wr.alloc (.cells #[.string r.id, .slice r.A r.v.length r.c] 25)) := (Below.refl _ _).alloc (Nat.le_refl _) _
        have HAP := Lib.hid (apart_old hown hf hB)
        have HO1 := Lib.hid (hown.below hbw)
        have HF1 := Lib.hid (((hf.more (Nat.le_trans hB hsz)).keep hbw).more hbw.size)
        have HB1 := Lib.hid (HB.out.trans (hbw.mono hsz))
        have HX1 : Hid (RowAt cellsH 2 (wr.alloc (.cells #[.string r.id, .slice r.A r.v.length r.c] 25)) (wr.heap.size + 1) (some ⟨wr.heap.size, 0, none⟩) 1 [r]) := one_row rowN (heap_alloc_new wr _)
        obtain ⟨id, Ar, cr, v⟩ := r
        simp only at e0 e1 hq HB1 HO1 HN HX1 HF1 HAP
        clear hmk hf hbw HTS he hown habs HOM
        generalize dropM (m.take k) a = d at *
        go_wp2_with (at_builtin; refine wpList_append_row rowN (B := w.heap.size) (v := .slice Av d.length cv) (n := d.length) (zs := rs) (m := 1) (ys := [⟨id, Ar, cr, v⟩]) rfl _ _ rfl rfl HO1.out.own rfl HX1.out (by omega) HB1.out.size ?_; intro A3 c3 w3 hown3 hg3 hat3)
        have HO3 := Lib.hid (HO1.out.snoc HF1.out HAP.out hown3 hg3 hat3)
        have HB3 := Lib.hid (HB1.out.grown hg3 HB1.out.size (fun g e => (HO1.out.own.lt g e).1))
        clear hown3 hg3 hat3
        have HLn : Hid ((dropM (m.take (k + 1)) a).length = d.length + 1) := by show _ = _; rw [HN.out]; simp
        go_wp2_with fail
        go_roundw
        case rel => exact ⟨k + 1, A3, c3, by omega, by go_num, by rw [HLn.out], by rw [HLn.out, HN.out]; exact ⟨rs ++ [⟨id, Ar, cr, v⟩], by rw [absH_append, HAB.out]; rfl, HO3.out⟩, HB3⟩
        case measure => simp [intOf]; omega
    · obtain rfl : k = n := by omega
      have HT : Hid (m.take k = m) := List.take_of_length_le (by have := HL.out; omega)
      go_wp2
      go_ret
      rw [HT.out] at HOM ⊢
      exact ⟨Av, cv, rfl, HOM.out, HB.out⟩
end Go.Proofs.Ytbbcifcdimfdgaa
