/- The reference's Of, Has, Drop, Count and Extras of a Know. -/
import Derived.Test.YthfdjebeblmmdaaHEi
namespace Go.Proofs.Ythfdjebeblmmdaa
open Go.RowKit

theorem mOf_step {m : Mat} {k : Nat} {x : ByteArray × (Int × List Int)} {a : ByteArray} (h : m[k]? = some x) (he : x.1 ≠ a) : mOf (m.drop k) a = mOf (m.drop (k + 1)) a := by
  obtain ⟨hk, rfl⟩ := List.getElem?_eq_some_iff.mp h
  rw [List.drop_eq_getElem_cons hk, mOf, if_neg he]
theorem mOf_hit {m : Mat} {k : Nat} {x : ByteArray × (Int × List Int)} {a : ByteArray} (h : m[k]? = some x) (he : x.1 = a) : mOf (m.drop k) a = x.2 := by
  obtain ⟨hk, rfl⟩ := List.getElem?_eq_some_iff.mp h
  rw [List.drop_eq_getElem_cons hk, mOf, if_pos he]
set_option maxRecDepth 100000 in
set_option maxHeartbeats 2000000 in
theorem rofM_any (A : Option Addr) (n c : Nat) (m : Mat) (a : ByteArray) (B : Nat) (w : World) (hB : B ≤ w.heap.size) (hz : MatAt w B A n m) (hn : n ≤ 1000000) :
    Calls Try.prog 23 #[.slice A n c, .string a] w (SeeS B (mOf m a) w) := by
  have HL := Lib.hid hz.len
  have HZ := Lib.hid hz
  clear hz
  obtain ⟨v, hv⟩ : ∃ v, mOf m a = v := ⟨_, rfl⟩
  have HV0 : Hid (mOf (m.drop 0) a = v) := hv
  rw [hv]
  clear hv
  go_enter Try.func23, Try.ntmps23
  go_wp2
  go_loop [5] (fun i => ∃ k : Nat, k ≤ n ∧ i = .int .i64 k ∧ Hid (mOf (m.drop k) a = v)) (fun i => n - (intOf i).toNat)
  case atStart => exact ⟨0, by omega, rfl, HV0⟩
  case round =>
    clear HV0
    obtain ⟨k, hk, rfl, HO⟩ := hrel
    by_cases hlt : k < n
    · obtain ⟨blk, off, r, rfl, hbB, hmk, e0, e1, e2, hf⟩ := HZ.out.get (Below.refl _ _) hlt
      have hi1 : (k : Int) < (n : Int) := by omega
      have hbl : blk < w.heap.size := by omega
      by_cases he : r.id = a
      · have HR : Hid ((r.u, r.v) = v) := (mOf_hit hmk he).symm.trans HO.out
        have hq := beq_yes he
        have HF := Lib.hid hf
        obtain ⟨id, u, Ar, cr, vv⟩ := r
        simp only at e0 e1 e2 hq HR
        clear he hmk hf
        go_wp2
        refine bodyPost_ret (v := .agg #[.int .i64 u, .slice Ar vv.length cr]) ?_ rfl ?_
        · simp [results, Try.results23, go_sem]
        · unfold SeeS
          rw [← HR.out]
          exact ⟨Ar, cr, rfl, HF.out.cap, HF.out.vec.keep ((Below.refl _ _).alloc hB _), (Below.refl _ _).alloc (Nat.le_refl _) _⟩
      · have HN : Hid (mOf (m.drop (k + 1)) a = v) := (mOf_step hmk he).symm.trans HO.out
        have hq := beq_no he
        obtain ⟨id, u, Ar, cr, vv⟩ := r
        simp only at e0 e1 e2 hq
        clear he hmk hf
        go_wp2
        go_round
        case rel => exact ⟨k + 1, by omega, by go_num, HN⟩
        case measure => simp [intOf]; omega
    · have HR : Hid (v = (0, [])) := by show _ = _; rw [← HO.out, List.drop_of_length_le (by have := HL.out; omega)]; rfl
      go_wp2
      refine bodyPost_ret (v := .agg #[.int .i64 0, .slice none 0 0]) ?_ rfl ?_
      · simp [results, Try.results23, go_sem]
      · unfold SeeS
        rw [HR.out]
        exact ⟨none, 0, rfl, Nat.le_refl _, Sp.IntsAt.nil _ _ _, (Below.refl _ _).alloc (Nat.le_refl _) _⟩
set_option maxRecDepth 100000 in
set_option maxHeartbeats 1000000 in
theorem rhasM_any (A : Option Addr) (n c : Nat) (m : Mat) (a : ByteArray) (t : Int) (B : Nat) (w : World) (hB : B ≤ w.heap.size) (hz : MatAt w B A n m) (hn : n ≤ 1000000) (hl : (mOf m a).2.length ≤ 100000) :
    Calls Try.prog 25 #[.slice A n c, .string a, .int .i64 t] w fun e w' => e = .returned (.bool (Sp.refHasF (mOf m a) t)) ∧ Below w.heap.size w w' := by
  have HF := Lib.hid (rofM_any A n c m a B w hB hz hn)
  generalize mOf m a = s at *
  clear hz
  obtain ⟨u, v⟩ := s
  simp only at hl
  have HP : Hid (∀ w2 A2 c2, Sp.IntsAt w2 B A2 v.length v → B ≤ w2.heap.size → Calls Try.prog 65 #[.agg #[.int .i64 u, .slice A2 v.length c2], .int .i64 t] w2 fun e w' => e = .returned (.bool (Sp.refHasF (u, v) t)) ∧ Below w2.heap.size w2 w') := fun w2 A2 c2 h hb => Sp.refHas_any u A2 v.length c2 v t B w2 hb h (by omega)
  generalize Sp.refHasF (u, v) t = d at *
  go_enter Try.func25, Try.ntmps25
  go_wp2_with fail
  refine HF.out.mono ?_
  rintro e w1 ⟨A1, c1, rfl, hc1, hv, hb⟩
  dsimp only at hc1 hv ⊢
  have HQ := Lib.hid (HP.out w1 A1 c1 hv (Nat.le_trans hB hb.size))
  have HB := Lib.hid hb
  clear hv hb HF HP
  go_wp2_with fail
  refine HQ.out.mono ?_
  rintro e w2 ⟨rfl, hb⟩
  have HB2 := Lib.hid (HB.out.trans (hb.mono HB.out.size))
  clear hb HQ
  go_wp2
  go_ret
  exact ⟨rfl, HB2.out⟩
theorem apart_old {w w1 : World} {B B0 : Nat} {e : TypeId} {A : Option Addr} {n c : Nat} {rs : List Hd} {r : Hd} (h : OwnsH w B0 e A n c rs) (hf : Fine w1 B r) (hB : B ≤ B0) : Apart r (Value.ownBlock (.slice A n c)) := fun hn ad e1 e2 => by
  have h1 := (h.own.lt ad.block e2).1
  obtain ⟨b, off, e3, hlt, _⟩ := hf.vec.2 hn
  rw [e1] at e3
  injection e3 with e3
  subst e3
  simp only at h1 hlt
  omega
set_option maxRecDepth 100000 in
set_option maxHeartbeats 4000000 in
theorem rdropM_any (A : Option Addr) (n c : Nat) (m : Mat) (a : ByteArray) (B : Nat) (w : World) (hB : B ≤ w.heap.size) (hz : MatAt w B A n m) (hn : n ≤ 100000) :
    Calls Try.prog 19 #[.slice A n c, .string a] w (OwnMat 27 (dropM m a) w) := by
  have HL := Lib.hid hz.len
  have HZ := Lib.hid hz
  clear hz
  go_enter Try.func19, Try.ntmps19
  go_wp2
  go_loopw [5, 6] (fun v i wr => ∃ (k : Nat) (Av : Option Addr) (cv : Nat), k ≤ n ∧ i = .int .i64 k ∧ v = .slice Av (dropM (m.take k) a).length cv ∧ Hid (OwnsM wr w.heap.size 27 Av (dropM (m.take k) a).length cv (dropM (m.take k) a)) ∧ Hid (Below w.heap.size w wr)) (fun _ i _ => n - (intOf i).toNat)
  case atStart => exact ⟨0, none, 0, by omega, rfl, rfl, OwnsM.nil _ _ _, Below.refl _ _⟩
  case round =>
    obtain ⟨k, Av, cv, hk, rfl, rfl, HOM, HB⟩ := hrel
    by_cases hlt : k < n
    · obtain ⟨blk, off, r, rfl, hbB, hmk, e0, e1, e2, hf⟩ := HZ.out.get (HB.out.mono hB) hlt
      have HTS := Lib.hid (dropM_take a hmk)
      have hi1 : (k : Int) < (n : Int) := by omega
      have hdl : (dropM (m.take k) a).length ≤ 100000 := Nat.le_trans (dropM_len _ _) (by rw [List.length_take]; omega)
      have hsz := HB.out.size
      by_cases he : r.id = a
      · have HN : Hid (dropM (m.take (k + 1)) a = dropM (m.take k) a) := by show _ = _; rw [HTS.out, if_pos he, List.append_nil]
        have hq := beq_yes he
        obtain ⟨id, u, Ar, cr, v⟩ := r
        simp only at e0 e1 e2 hq
        clear hmk hf HTS he
        generalize dropM (m.take k) a = d at *
        go_wp2_with fail
        go_roundw
        case rel => exact ⟨k + 1, Av, cv, by omega, by go_num, by rw [HN.out], by rw [HN.out]; exact HOM, HB⟩
        case measure => simp [intOf]; omega
      · have HN : Hid (dropM (m.take (k + 1)) a = dropM (m.take k) a ++ [(r.id, (r.u, r.v))]) := by show _ = _; rw [HTS.out, if_neg he]
        have hq := beq_no he
        obtain ⟨rs, habs, hown⟩ := HOM.out
        have HAB := Lib.hid habs
        have hbw : Below wr.heap.size wr (wr.alloc (.cells #[.string r.id, .int .i64 r.u, .slice r.A r.v.length r.c] 27)) := (Below.refl _ _).alloc (Nat.le_refl _) _
        have HAP := Lib.hid (apart_old hown hf hB)
        have HO1 := Lib.hid (hown.below hbw)
        have HF1 := Lib.hid (((hf.more (Nat.le_trans hB hsz)).keep hbw).more hbw.size)
        have HB1 := Lib.hid (HB.out.trans (hbw.mono hsz))
        have HX1 : Hid (RowAt cellsH 3 (wr.alloc (.cells #[.string r.id, .int .i64 r.u, .slice r.A r.v.length r.c] 27)) (wr.heap.size + 1) (some ⟨wr.heap.size, 0, none⟩) 1 [r]) := one_row rowN (heap_alloc_new wr _)
        obtain ⟨id, u, Ar, cr, v⟩ := r
        simp only at e0 e1 e2 hq HB1 HO1 HN HX1 HF1 HAP
        clear hmk hf hbw HTS he hown habs HOM
        generalize dropM (m.take k) a = d at *
        go_wp2_with (at_builtin; refine wpList_append_row rowN (B := w.heap.size) (v := .slice Av d.length cv) (n := d.length) (zs := rs) (m := 1) (ys := [⟨id, u, Ar, cr, v⟩]) rfl _ _ rfl rfl HO1.out.own rfl HX1.out (by omega) HB1.out.size ?_; intro A3 c3 w3 hown3 hg3 hat3)
        have HO3 := Lib.hid (HO1.out.snoc HF1.out HAP.out hown3 hg3 hat3)
        have HB3 := Lib.hid (HB1.out.grown hg3 HB1.out.size (fun g e => (HO1.out.own.lt g e).1))
        clear hown3 hg3 hat3
        have HLn : Hid ((dropM (m.take (k + 1)) a).length = d.length + 1) := by show _ = _; rw [HN.out]; simp
        go_wp2_with fail
        go_roundw
        case rel => exact ⟨k + 1, A3, c3, by omega, by go_num, by rw [HLn.out], by rw [HLn.out, HN.out]; exact ⟨rs ++ [⟨id, u, Ar, cr, v⟩], by rw [absH_append, HAB.out]; rfl, HO3.out⟩, HB3⟩
        case measure => simp [intOf]; omega
    · obtain rfl : k = n := by omega
      have HT : Hid (m.take k = m) := List.take_of_length_le (by have := HL.out; omega)
      go_wp2
      go_ret
      rw [HT.out] at HOM ⊢
      exact ⟨Av, cv, rfl, HOM.out, HB.out⟩
set_option maxRecDepth 100000 in
set_option maxHeartbeats 1000000 in
theorem rcountM_any (A : Option Addr) (n c : Nat) (m : Mat) (B : Nat) (w : World) (hB : B ≤ w.heap.size) (hz : MatAt w B A n m) (hn : n ≤ 100000) (hv : ∀ x ∈ m, OkS x.2) :
    Calls Try.prog 27 #[.slice A n c] w fun e w' => e = .returned (.int .i64 (countM m)) ∧ Below w.heap.size w w' := by
  have HL := Lib.hid hz.len
  have HZ := Lib.hid hz
  have HV := Lib.hid hv
  clear hz hv
  go_enter Try.func27, Try.ntmps27
  go_wp2
  go_loopw [3, 4] (fun v i wr => ∃ k : Nat, k ≤ n ∧ i = .int .i64 k ∧ v = .int .i64 (countM (m.take k)) ∧ Hid (Below w.heap.size w wr)) (fun _ i _ => n - (intOf i).toNat)
  case atStart => exact ⟨0, by omega, rfl, rfl, Below.refl _ _⟩
  case round =>
    obtain ⟨k, hk, rfl, rfl, HB⟩ := hrel
    by_cases hlt : k < n
    · obtain ⟨blk, off, r, rfl, hbB, hmk, e0, e1, e2, hf⟩ := HZ.out.get (HB.out.mono hB) hlt
      have hi1 : (k : Int) < (n : Int) := by omega
      have hvl : OkS (r.u, r.v) := HV.out _ (List.mem_of_getElem? hmk)
      have hbd := sum_bd (fun x => x.2.1 + (x.2.2.length : Int)) 2000000 (by omega) (m.take k) (fun x hx => okS_bd (HV.out x (List.mem_of_mem_take hx)))
      have hb2 : ((m.take k).length : Int) * 2000000 ≤ 200000000000 := mul_bd (by rw [List.length_take]; omega)
      have HN : Hid (countM (m.take (k + 1)) = countM (m.take k) + (r.u + (r.v.length : Int))) := sum_take (f := fun x => x.2.1 + (x.2.2.length : Int)) hmk
      have hc0 : 0 ≤ countM (m.take k) := hbd.1
      have hc1 : countM (m.take k) ≤ 200000000000 := Int.le_trans hbd.2 hb2
      have hr0 : 0 ≤ r.u := hvl.ok.1
      have hr1 : r.u ≤ 1048576 := hvl.hi
      have hr2 : r.v.length ≤ 100000 := hvl.len
      obtain ⟨id, u, Ar, cr, v⟩ := r
      simp only at e0 e1 e2 HN hr0 hr1 hr2
      clear hmk hf hvl hbd hb2
      generalize countM (m.take k) = d at *
      generalize v.length = nv at *
      go_wp2_with fail
      refine (Sp.refCount_any u Ar nv cr _ hr0 hr1 (by omega)).mono ?_
      rintro e w1 ⟨rfl, hb⟩
      replace HB := Lib.hid (HB.out.trans (hb.mono HB.out.size))
      clear hb e0 e1 e2
      go_wp2_with fail
      go_roundw
      case rel => exact ⟨k + 1, by omega, by go_num, by rw [HN.out], HB⟩
      case measure => simp [intOf]; omega
    · obtain rfl : k = n := by omega
      have HT : Hid (m.take k = m) := List.take_of_length_le (by have := HL.out; omega)
      rw [HT.out]
      go_wp2
      go_ret
      exact ⟨rfl, HB.out⟩
set_option maxRecDepth 100000 in
set_option maxHeartbeats 1000000 in
theorem rextrasM_any (A : Option Addr) (n c : Nat) (m : Mat) (B : Nat) (w : World) (hB : B ≤ w.heap.size) (hz : MatAt w B A n m) (hn : n ≤ 100000) (hv : ∀ x ∈ m, OkS x.2) :
    Calls Try.prog 29 #[.slice A n c] w fun e w' => e = .returned (.int .i64 (extrasM m)) ∧ Below w.heap.size w w' := by
  have HL := Lib.hid hz.len
  have HZ := Lib.hid hz
  have HV := Lib.hid hv
  clear hz hv
  go_enter Try.func29, Try.ntmps29
  go_wp2
  go_loopw [3, 4] (fun v i wr => ∃ k : Nat, k ≤ n ∧ i = .int .i64 k ∧ v = .int .i64 (extrasM (m.take k)) ∧ Hid (Below w.heap.size w wr)) (fun _ i _ => n - (intOf i).toNat)
  case atStart => exact ⟨0, by omega, rfl, rfl, Below.refl _ _⟩
  case round =>
    obtain ⟨k, hk, rfl, rfl, HB⟩ := hrel
    by_cases hlt : k < n
    · obtain ⟨blk, off, r, rfl, hbB, hmk, e0, e1, e2, hf⟩ := HZ.out.get (HB.out.mono hB) hlt
      have hi1 : (k : Int) < (n : Int) := by omega
      have hvl : OkS (r.u, r.v) := HV.out _ (List.mem_of_getElem? hmk)
      have hbd := sum_bd (fun x => (x.2.2.length : Int)) 2000000 (by omega) (m.take k) (fun x hx => by have := (HV.out x (List.mem_of_mem_take hx)).len; omega)
      have hb2 : ((m.take k).length : Int) * 2000000 ≤ 200000000000 := mul_bd (by rw [List.length_take]; omega)
      have HN : Hid (extrasM (m.take (k + 1)) = extrasM (m.take k) + (r.v.length : Int)) := sum_take (f := fun x => (x.2.2.length : Int)) hmk
      have hc0 : 0 ≤ extrasM (m.take k) := hbd.1
      have hc1 : extrasM (m.take k) ≤ 200000000000 := Int.le_trans hbd.2 hb2
      have hr2 : r.v.length ≤ 100000 := hvl.len
      obtain ⟨id, u, Ar, cr, v⟩ := r
      simp only at e0 e1 e2 HN hr2
      clear hmk hf hvl hbd hb2
      generalize extrasM (m.take k) = d at *
      generalize v.length = nv at *
      go_wp2_with fail
      go_roundw
      case rel => exact ⟨k + 1, by omega, by go_num, by rw [HN.out], HB⟩
      case measure => simp [intOf]; omega
    · obtain rfl : k = n := by omega
      have HT : Hid (m.take k = m) := List.take_of_length_le (by have := HL.out; omega)
      rw [HT.out]
      go_wp2
      go_ret
      exact ⟨rfl, HB.out⟩
end Go.Proofs.Ythfdjebeblmmdaa
