/- The law KnowFirsts walked. -/
import Derived.Test.YthfdjebeblmmdaaHEza
import Derived.Test.YthfdjebeblmmdaaHEt
namespace Go.Proofs.Ythfdjebeblmmdaa
open Go.RowKit

theorem first_in {u : Int} (h0 : 0 ≤ u) (h1 : u ≤ 1048576) : Sp.firstU u = u := by unfold Sp.firstU; omega
theorem kfrom_good {v : List At} (h : Good v) : kfromF v = rfromF v := by
  unfold kfromF rfromF
  refine List.map_congr_left fun x hx => ?_
  have := okAt_pos (h.2 x hx)
  rw [first_in (by omega) (by omega)]
/-- What is known without a hole. -/
def backM (m : Mat) : Mat := m.filterMap fun x => if 0 < x.2.1 then some (x.1, (x.2.1, [])) else none
theorem back_is {k : Nat} : ∀ {m : Mat}, GK k m → kfromF (firstsF m) = backM m
  | [], _ => rfl
  | x :: m, h => by
    have hx := (h.row x (by simp)).2.1
    have ih := back_is h.tail
    unfold kfromF firstsF backM at ih ⊢
    rw [List.filterMap_cons, List.filterMap_cons]
    by_cases h0 : 0 < x.2.1
    · simp only [if_pos h0, List.map_cons]
      rw [ih, first_in (by omega) hx.hi]
    · simp only [if_neg h0]
      exact ih
theorem firsts_back (m : Mat) : firstsF (backM m) = firstsF m := by
  unfold firstsF backM
  rw [List.filterMap_filterMap]
  congr 1
  funext x
  by_cases h0 : 0 < x.2.1 <;> simp [h0]
theorem back_mem {m : Mat} {y : ByteArray × (Int × List Int)} (h : y ∈ backM m) : ∃ x ∈ m, 0 < x.2.1 ∧ y = (x.1, (x.2.1, [])) := by
  unfold backM at h
  obtain ⟨x, hx, e⟩ := List.mem_filterMap.mp h
  by_cases h0 : 0 < x.2.1
  · rw [if_pos h0] at e; injection e with e; exact ⟨x, hx, h0, e.symm⟩
  · rw [if_neg h0] at e; cases e
theorem back_up : ∀ {m : Mat}, RisingM m → RisingM (backM m)
  | [], _ => (risingM_iff _).mpr List.Pairwise.nil
  | x :: m, h => by
    have ih := back_up h.tail
    unfold backM at ih ⊢
    rw [List.filterMap_cons]
    by_cases h0 : 0 < x.2.1
    · simp only [if_pos h0]
      refine RisingM.cons (fun y hy => ?_) ih
      obtain ⟨z, hz, _, rfl⟩ := back_mem hy
      exact h.head z hz
    · simp only [if_neg h0]; exact ih
theorem GK.back {k : Nat} {m : Mat} (h : GK k m) : GK k (backM m) := ⟨back_up h.up, fun y hy => by
  obtain ⟨x, hx, h0, rfl⟩ := back_mem hy
  have hn := (h.row x hx).2.1
  refine ⟨(h.row x hx).1, ⟨⟨by simp only; omega, List.Pairwise.nil, by simp⟩, fun n hn2 => ?_, Nat.zero_le _⟩, fun e => ?_⟩
  · rcases hn2 with hn2 | hn2
    · have := hn.hi; simp only at hn2; omega
    · simp at hn2
  · injection e with e; omega⟩
theorem back_len (m : Mat) : (backM m).length ≤ m.length := List.length_filterMap_le _ _
theorem back_within {k : Nat} {m : Mat} (h : GK k m) : withinM (backM m) m = true := by
  unfold withinM
  rw [List.all_eq_true]
  intro y hy
  obtain ⟨x, hx, h0, rfl⟩ := back_mem hy
  simp only
  rw [mOf_mem h.up hx]
  refine (Sp.within_mem (h.row x hx).2.1.ok).mpr fun n hn => ?_
  rcases hn with hn | hn
  · exact .inl hn
  · simp at hn
theorem sum_zero {f : ByteArray × (Int × List Int) → Int} : ∀ {m : Mat}, (∀ x ∈ m, 0 ≤ f x) → (m.map f).sum = 0 → ∀ x ∈ m, f x = 0
  | [], _, _ => by simp
  | y :: m, h, hs => by
    have h1 := h y (by simp)
    have h2 : 0 ≤ (m.map f).sum := by
      clear hs
      induction m with
      | nil => simp
      | cons z m ih => have := h z (by simp); have := ih (fun x hx => h x (by simp at hx ⊢; rcases hx with hx | hx <;> simp [hx])); simp only [List.map_cons, List.sum_cons]; omega
    simp only [List.map_cons, List.sum_cons] at hs
    have ih := sum_zero (m := m) (fun x hx => h x (by simp [hx])) (by omega)
    intro x hx
    rcases List.mem_cons.mp hx with rfl | hx
    · omega
    · exact ih x hx
theorem back_same : ∀ {k : Nat} {m : Mat}, GK k m → (∀ x ∈ m, x.2.2.length = 0) → backM m = m
  | _, [], _, _ => rfl
  | k, x :: m, h, he => by
    have ih := back_same h.tail (fun y hy => he y (by simp [hy]))
    have hn := h.row x (by simp)
    have h2 : x.2.2 = [] := List.eq_nil_of_length_eq_zero (he x (by simp))
    have h0 : 0 < x.2.1 := by
      have h1 := hn.2.1.ok.1
      rcases Int.lt_or_le 0 x.2.1 with h3 | h3
      · exact h3
      · exact absurd (Prod.ext (by show x.2.1 = 0; omega) h2) hn.2.2
    unfold backM at ih ⊢
    rw [List.filterMap_cons]
    simp only [if_pos h0]
    rw [ih]
    congr 1
    exact Prod.ext rfl (Prod.ext rfl h2.symm)
theorem back_extras {k : Nat} {m : Mat} (h : GK k m) : sameM (backM m) m = decide (extrasM m = 0) := by
  unfold sameM
  rw [Bool.eq_iff_iff, decide_eq_true_iff, decide_eq_true_iff]
  constructor
  · intro e
    unfold extrasM
    have : ∀ x ∈ m, (x.2.2.length : Int) = 0 := fun x hx => by
      rw [← e] at hx
      obtain ⟨y, _, _, rfl⟩ := back_mem hx
      simp
    clear e h
    induction m with
    | nil => simp
    | cons y m ih => have h1 := this y (by simp); have h2 := ih (fun x hx => this x (by simp [hx])); simp only [List.map_cons, List.sum_cons]; omega
  · intro e
    refine back_same h fun x hx => ?_
    have := sum_zero (f := fun x => (x.2.2.length : Int)) (fun x _ => by omega) e x hx
    omega
theorem cutS_upto (A : Option Addr) (n c p : Nat) (h1 : p ≤ n) (h2 : n ≤ c) : ∀ W, (Instr.slice 56 (.slice A n c) none (some (.int .i64 (p : Int))) none).run Try.prog W = .ok (.slice A p c) W := by
  intro W
  have hel : Try.prog.elem 56 = 9 := by kernel_rfl
  have hsz : ∀ W, (sizeOf 9).run Try.prog W = .ok 1 W := fun W => by
    obtain ⟨i, hi, _, hz1, _⟩ := info_parts rowR.i
    simp [sizeOf, typeInfo, hi, hz1]
  rw [run_slice_h (P := Try.prog) W 56 A n c (by rw [hel]; exact Try.underlying56) .i64 (p : Int) (by omega) (by omega), hel, hsz]
  cases A <;> simp [sliced, Result.andThen, Addr.add]
theorem kfrom_lens (v : List At) : ∀ x ∈ rfromF v, x.2.2.length ≤ 1000 := fun x hx => by
  unfold rfromF at hx
  obtain ⟨y, _, rfl⟩ := List.mem_map.mp hx
  simp
set_option maxRecDepth 100000 in
set_option maxHeartbeats 16000000 in
theorem knowFirsts_walk (A0 : Option Addr) (n0 c0 : Nat) (z0 : Mat) (A1 : Option Addr) (n1 c1 : Nat) (z1 : List At) (A2 : Option Addr) (n2 c2 : Nat) (z2 : List ByteArray) (w : World) (hz0 : MatAt w w.heap.size A0 n0 z0) (_hc0 : n0 ≤ c0) (hs0 : ShortM z0) (_hn0 : c0 ≤ 9223372036854775807) (hz1 : VecAt w w.heap.size A1 n1 z1) (_hc1 : n1 ≤ c1) (_hs1 : Short z1) (_hn1 : n1 ≤ 9223372036854775807) (hz2 : RowAt cellsT 1 w w.heap.size A2 n2 z2) (hc2 : n2 ≤ c2) (hs2 : ∀ s ∈ z2, s.size ≤ 9223372036854775807) (_hn2 : c2 ≤ 9223372036854775807) :
    Calls Try.prog 6 #[.slice A0 n0 c0, .slice A1 n1 c1, .slice A2 n2 c2] w fun e w' => e = .returned (.bool true) ∧ Below w.heap.size w w' := by
  have HZ0 := Lib.hid hz0
  have HS0 := Lib.hid hs0
  have HZ1 := Lib.hid hz1
  obtain ⟨m0, hm0⟩ : ∃ m : Nat, (if 12 < (n2 : Int) then (12 : Int) else n2) = m := ⟨min n2 12, by split <;> omega⟩
  have hmn0 : m0 ≤ n2 := by split at hm0 <;> omega
  have hm12 : m0 ≤ 12 := by split at hm0 <;> omega
  have HZ2 := Lib.hid (hz2.take hmn0)
  have HS2 : Hid (∀ s ∈ z2.take m0, s.size ≤ 9223372036854775807) := fun s hs => hs2 s (List.mem_of_mem_take hs)
  have hu0 := cutS_upto A2 n2 c2 m0 hmn0 hc2
  have hlz : (z2.take m0).length = m0 := HZ2.out.1
  generalize z2.take m0 = zt at *
  clear hz0 hs0 hz1 hz2 hs2
  go_enter Try.func6, Try.ntmps6
  go_wp2_with fail
  refine (rfixM_any A0 n0 c0 z0 w.heap.size _ (Nat.le_refl _) HZ0.out HS0.out).mono ?_
  rintro e w1 ⟨r, sr, lr, Ar, cr, rfl, ho, hb⟩
  have hcr := ho.cap
  have Sr := Lib.hid sr
  have Gr := Lib.hid sr.gk
  clear sr
  have HM1 : Hid (Ms w1 [(Ar, r)]) := (Ms.nil _).ownM ho hb
  have HB1 : Hid (Below w.heap.size w w1) := hb
  clear hb ho
  go_wp2_with fail
  refine (fixv_any A1 n1 c1 z1 w.heap.size _ HB1.out.size (HZ1.out.keep HB1.out)).mono ?_
  rintro e w2 ⟨v, gv, lv, Bv, dv, rfl, hdv, ho, hb⟩
  have Gv := Lib.hid gv
  have HVv := Lib.hid (own_vec ho)
  clear gv ho
  have HM2 : Hid (Ms w2 [(Ar, r)]) := HM1.out.keep hb
  clear HM1
  have HB2 : Hid (Below w.heap.size w w2) := HB1.out.trans (hb.mono HB1.out.size)
  clear HB1
  clear hb
  go_wp2_with fail
  refine (runion_any A2 m0 c2 zt none 0 0 [] w.heap.size _ HB2.out.size (HZ2.out.keep HB2.out) RowAt.nil (by omega) (by rw [List.append_nil]; exact HS2.out)).mono ?_
  have hll := unionF_len (zt ++ [])
  rw [List.append_nil, hlz] at hll
  rw [List.append_nil]
  generalize unionF zt = l at *
  rintro e w3 ⟨Al, cl, rfl, ho, hb⟩
  have HTl := Lib.hid (own_row rowR ho)
  clear ho
  have HM3 : Hid (Ms w3 [(Ar, r)]) := HM2.out.keep hb
  clear HM2
  replace HVv := Lib.hid ((HVv.out.keep hb).more hb.size)
  have HB3 : Hid (Below w.heap.size w w3) := HB2.out.trans (hb.mono HB2.out.size)
  clear HB2
  clear hb
  go_wp2_with fail
  refine (toM_any Ar (List.length r) cr r w3.heap.size _ (Nat.le_refl _) (HM3.out.get (by simp)) (by omega) (fun z hz => by have := Gr.out.len z hz; omega)).mono ?_
  rintro e w4 ⟨Ax, cx, rfl, ho, hb⟩
  have hcx := ho.cap
  have HM4 : Hid (Ms w4 [(Ax, r), (Ar, r)]) := HM3.out.ownM ho hb
  clear HM3
  replace HVv := Lib.hid ((HVv.out.keep hb).more hb.size)
  replace HTl := Lib.hid ((HTl.out.keep hb).more hb.size)
  have HB4 : Hid (Below w.heap.size w w4) := HB3.out.trans (hb.mono HB3.out.size)
  clear HB3
  clear hb ho
  obtain ⟨f, hf⟩ : ∃ f, firstsF r = f := ⟨_, rfl⟩
  obtain ⟨b, hb⟩ : ∃ b, backM r = b := ⟨_, rfl⟩
  have HF := Lib.hid hf
  have lf : f.length ≤ 10 := by have := firsts_len r; rw [hf] at this; omega
  have HKB : Hid (kfromF f = b) := by show _ = _; rw [← hf, ← hb]; exact back_is Gr.out
  have Gb : Hid (GK 60 b) := hb ▸ Gr.out.back
  have lb : List.length b ≤ 10 := by have := back_len r; rw [hb] at this; omega
  have HFB : Hid (firstsF b = f) := by show _ = _; rw [← hb, ← hf]; exact firsts_back r
  have HWB : Hid (withinM b r = true) := hb ▸ back_within Gr.out
  obtain ⟨ex, hex⟩ : ∃ e, extrasM r = e := ⟨_, rfl⟩
  have HEX := Lib.hid hex
  have HSB : Hid (sameM b r = decide (ex = 0)) := by show _ = _; rw [← hb, ← hex]; exact back_extras Gr.out
  have HKV : Hid (kfromF v = rfromF v) := kfrom_good Gv.out
  obtain ⟨fv, hfv⟩ : ∃ fv, rfromF v = fv := ⟨_, rfl⟩
  have HFV := Lib.hid hfv
  have lfv : List.length fv ≤ 12 := by have := rfrom_len v; rw [hfv] at this; omega
  have HLV : Hid (∀ x ∈ fv, x.2.2.length ≤ 1000) := hfv ▸ kfrom_lens v
  obtain ⟨o, ho⟩ : ∃ o, onlyM r l = o := ⟨_, rfl⟩
  have HON := Lib.hid ho
  have Go : Hid (GK 60 o) := ho ▸ Gr.out.filter _
  have lo : List.length o ≤ 10 := by have := onlyM_len r l; rw [ho] at this; omega
  clear hf hb hex hfv ho
  go_wp2_with fail
  refine (firstsM_any Ax (List.length r) cx r w4.heap.size _ (Nat.le_refl _) (HM4.out.get (by simp)) (by omega)).mono ?_
  rw [HF.out]
  rintro e w5 ⟨Af, cf, rfl, hcf, ho, hb⟩
  have HVf := Lib.hid (own_vec ho)
  clear ho
  have HM5 : Hid (Ms w5 [(Ax, r), (Ar, r)]) := HM4.out.keep hb
  clear HM4
  replace HVv := Lib.hid ((HVv.out.keep hb).more hb.size)
  replace HTl := Lib.hid ((HTl.out.keep hb).more hb.size)
  have HB5 : Hid (Below w.heap.size w w5) := HB4.out.trans (hb.mono HB4.out.size)
  clear HB4
  clear hb
  go_wp2_with fail
  refine (kfromM_any Af (List.length f) cf f w5.heap.size _ (Nat.le_refl _) HVf.out (by omega)).mono ?_
  rw [HKB.out]
  rintro e w6 ⟨Ab, cb, rfl, ho, hb⟩
  have hcb := ho.cap
  have HM6 : Hid (Ms w6 [(Ab, b), (Ax, r), (Ar, r)]) := HM5.out.ownM ho hb
  clear HM5
  replace HVv := Lib.hid ((HVv.out.keep hb).more hb.size)
  replace HTl := Lib.hid ((HTl.out.keep hb).more hb.size)
  replace HVf := Lib.hid ((HVf.out.keep hb).more hb.size)
  have HB6 : Hid (Below w.heap.size w w6) := HB5.out.trans (hb.mono HB5.out.size)
  clear HB5
  clear hb ho
  go_wp2_with fail
  refine (ktold_any _).mono ?_
  rintro e w7 ⟨rfl, hb⟩
  have HM7 : Hid (Ms w7 [(Ab, b), (Ax, r), (Ar, r)]) := HM6.out.keep hb
  clear HM6
  replace HVv := Lib.hid ((HVv.out.keep hb).more hb.size)
  replace HTl := Lib.hid ((HTl.out.keep hb).more hb.size)
  replace HVf := Lib.hid ((HVf.out.keep hb).more hb.size)
  have HB7 : Hid (Below w.heap.size w w7) := HB6.out.trans (hb.mono HB6.out.size)
  clear HB6
  clear hb
  go_wp2_with fail
  refine (from_any Af (List.length f) cf f w7.heap.size _ (Nat.le_refl _) HVf.out (by omega)).mono ?_
  rintro e w8 ⟨Ag, cg, rfl, hcg, ho, hb⟩
  have HVg := Lib.hid (own_vec ho)
  clear ho
  have HM8 : Hid (Ms w8 [(Ab, b), (Ax, r), (Ar, r)]) := HM7.out.keep hb
  clear HM7
  replace HVv := Lib.hid ((HVv.out.keep hb).more hb.size)
  replace HTl := Lib.hid ((HTl.out.keep hb).more hb.size)
  replace HVf := Lib.hid ((HVf.out.keep hb).more hb.size)
  have HB8 : Hid (Below w.heap.size w w8) := HB7.out.trans (hb.mono HB7.out.size)
  clear HB7
  clear hb
  go_wp2_with fail
  refine (rfirstsM_any Ar (List.length r) cr r w8.heap.size _ (Nat.le_refl _) (HM8.out.get (by simp)) (by omega)).mono ?_
  rw [HF.out]
  rintro e w9 ⟨Ah, ch, rfl, hch, ho, hb⟩
  have HVh := Lib.hid (own_vec ho)
  clear ho
  have HM9 : Hid (Ms w9 [(Ab, b), (Ax, r), (Ar, r)]) := HM8.out.keep hb
  clear HM8
  replace HVv := Lib.hid ((HVv.out.keep hb).more hb.size)
  replace HTl := Lib.hid ((HTl.out.keep hb).more hb.size)
  replace HVf := Lib.hid ((HVf.out.keep hb).more hb.size)
  replace HVg := Lib.hid ((HVg.out.keep hb).more hb.size)
  have HB9 : Hid (Below w.heap.size w w9) := HB8.out.trans (hb.mono HB8.out.size)
  clear HB8
  clear hb
  go_wp2_with fail
  refine (rsame_any Ag (List.length f) cg f Ah (List.length f) ch f w9.heap.size _ HVg.out HVh.out (by omega) (by omega)).mono ?_
  rw [same_self]
  rintro e w10 ⟨rfl, hd⟩
  have hb := drawn_below hd.out w9.heap.size
  clear hd
  have HM10 : Hid (Ms w10 [(Ab, b), (Ax, r), (Ar, r)]) := HM9.out.keep hb
  clear HM9
  replace HVv := Lib.hid ((HVv.out.keep hb).more hb.size)
  replace HTl := Lib.hid ((HTl.out.keep hb).more hb.size)
  replace HVf := Lib.hid ((HVf.out.keep hb).more hb.size)
  replace HVg := Lib.hid ((HVg.out.keep hb).more hb.size)
  replace HVh := Lib.hid ((HVh.out.keep hb).more hb.size)
  have HB10 : Hid (Below w.heap.size w w10) := HB9.out.trans (hb.mono HB9.out.size)
  clear HB9
  clear hb
  clear HVg HVh
  go_wp2_with fail
  refine (to_any Bv (List.length v) dv v w10.heap.size _ (Nat.le_refl _) HVv.out (by omega)).mono ?_
  rintro e w11 ⟨Atv, ctv, rfl, hctv, ho, hb⟩
  have HVt := Lib.hid (own_vec ho)
  clear ho
  have HM11 : Hid (Ms w11 [(Ab, b), (Ax, r), (Ar, r)]) := HM10.out.keep hb
  clear HM10
  replace HVv := Lib.hid ((HVv.out.keep hb).more hb.size)
  replace HTl := Lib.hid ((HTl.out.keep hb).more hb.size)
  replace HVf := Lib.hid ((HVf.out.keep hb).more hb.size)
  have HB11 : Hid (Below w.heap.size w w11) := HB10.out.trans (hb.mono HB10.out.size)
  clear HB10
  clear hb
  go_wp2_with fail
  refine (kfromM_any Atv (List.length v) ctv v w11.heap.size _ (Nat.le_refl _) HVt.out (by omega)).mono ?_
  rw [HKV.out, HFV.out]
  rintro e w12 ⟨Akv, ckv, rfl, ho, hb⟩
  have hckv := ho.cap
  have HM12 : Hid (Ms w12 [(Akv, fv), (Ab, b), (Ax, r), (Ar, r)]) := HM11.out.ownM ho hb
  clear HM11
  replace HVv := Lib.hid ((HVv.out.keep hb).more hb.size)
  replace HTl := Lib.hid ((HTl.out.keep hb).more hb.size)
  replace HVf := Lib.hid ((HVf.out.keep hb).more hb.size)
  replace HVt := Lib.hid ((HVt.out.keep hb).more hb.size)
  have HB12 : Hid (Below w.heap.size w w12) := HB11.out.trans (hb.mono HB11.out.size)
  clear HB11
  clear hb ho
  clear HVt
  go_wp2_with fail
  refine (fromM_any Akv (List.length fv) ckv fv w12.heap.size _ (Nat.le_refl _) (HM12.out.get (by simp)) (by omega) (fun z hz => by have := HLV.out z hz; omega)).mono ?_
  rintro e w13 ⟨Afk, cfk, rfl, ho, hb⟩
  have hcfk := ho.cap
  have HM13 : Hid (Ms w13 [(Afk, fv), (Akv, fv), (Ab, b), (Ax, r), (Ar, r)]) := HM12.out.ownM ho hb
  clear HM12
  replace HVv := Lib.hid ((HVv.out.keep hb).more hb.size)
  replace HTl := Lib.hid ((HTl.out.keep hb).more hb.size)
  replace HVf := Lib.hid ((HVf.out.keep hb).more hb.size)
  have HB13 : Hid (Below w.heap.size w w13) := HB12.out.trans (hb.mono HB12.out.size)
  clear HB12
  clear hb ho
  go_wp2_with fail
  refine (rfromM_any Bv (List.length v) dv v w13.heap.size _ (Nat.le_refl _) HVv.out (by omega)).mono ?_
  rw [HFV.out]
  rintro e w14 ⟨Arv, crv, rfl, ho, hb⟩
  have hcrv := ho.cap
  have HM14 : Hid (Ms w14 [(Arv, fv), (Afk, fv), (Akv, fv), (Ab, b), (Ax, r), (Ar, r)]) := HM13.out.ownM ho hb
  clear HM13
  replace HVv := Lib.hid ((HVv.out.keep hb).more hb.size)
  replace HTl := Lib.hid ((HTl.out.keep hb).more hb.size)
  replace HVf := Lib.hid ((HVf.out.keep hb).more hb.size)
  have HB14 : Hid (Below w.heap.size w w14) := HB13.out.trans (hb.mono HB13.out.size)
  clear HB13
  clear hb ho
  go_wp2_with fail
  refine (rsameM_any Afk (List.length fv) cfk fv Arv (List.length fv) crv fv w14.heap.size _ (Nat.le_refl _) (HM14.out.get (by simp)) (HM14.out.get (by simp)) (by omega) (fun z hz => by have := HLV.out z hz; omega)).mono ?_
  rw [sameM_self]
  rintro e w15 ⟨rfl, hb⟩
  have HM15 : Hid (Ms w15 [(Arv, fv), (Afk, fv), (Akv, fv), (Ab, b), (Ax, r), (Ar, r)]) := HM14.out.keep hb
  clear HM14
  replace HVv := Lib.hid ((HVv.out.keep hb).more hb.size)
  replace HTl := Lib.hid ((HTl.out.keep hb).more hb.size)
  replace HVf := Lib.hid ((HVf.out.keep hb).more hb.size)
  have HB15 : Hid (Below w.heap.size w w15) := HB14.out.trans (hb.mono HB14.out.size)
  clear HB14
  clear hb
  go_wp2_with fail
  refine (idTo_any Al (List.length l) cl l w15.heap.size _ (Nat.le_refl _) HTl.out (by omega)).mono ?_
  rintro e w16 ⟨Ai, ci, rfl, ho, hb⟩
  have HTi := Lib.hid (own_row rowT ho)
  clear ho
  have HM16 : Hid (Ms w16 [(Arv, fv), (Afk, fv), (Akv, fv), (Ab, b), (Ax, r), (Ar, r)]) := HM15.out.keep hb
  clear HM15
  replace HVv := Lib.hid ((HVv.out.keep hb).more hb.size)
  replace HTl := Lib.hid ((HTl.out.keep hb).more hb.size)
  replace HVf := Lib.hid ((HVf.out.keep hb).more hb.size)
  have HB16 : Hid (Below w.heap.size w w16) := HB15.out.trans (hb.mono HB15.out.size)
  clear HB15
  clear hb
  go_wp2_with fail
  refine (onlyM_any Ax (List.length r) cx r Ai (List.length l) ci l w16.heap.size _ (Nat.le_refl _) (HM16.out.get (by simp)) HTi.out (by omega) (by omega) (Gr.out.okS (by omega))).mono ?_
  rw [HON.out]
  rintro e w17 ⟨Ao, co, rfl, ho, hb⟩
  have hco := ho.cap
  have HM17 : Hid (Ms w17 [(Ao, o), (Arv, fv), (Afk, fv), (Akv, fv), (Ab, b), (Ax, r), (Ar, r)]) := HM16.out.ownM ho hb
  clear HM16
  replace HVv := Lib.hid ((HVv.out.keep hb).more hb.size)
  replace HTl := Lib.hid ((HTl.out.keep hb).more hb.size)
  replace HVf := Lib.hid ((HVf.out.keep hb).more hb.size)
  have HB17 : Hid (Below w.heap.size w w17) := HB16.out.trans (hb.mono HB16.out.size)
  clear HB16
  clear hb ho
  clear HTi
  go_wp2_with fail
  refine (fromM_any Ao (List.length o) co o w17.heap.size _ (Nat.le_refl _) (HM17.out.get (by simp)) (by omega) (fun z hz => by have := Go.out.len z hz; omega)).mono ?_
  rintro e w18 ⟨Afo, cfo, rfl, ho, hb⟩
  have hcfo := ho.cap
  have HM18 : Hid (Ms w18 [(Afo, o), (Ao, o), (Arv, fv), (Afk, fv), (Akv, fv), (Ab, b), (Ax, r), (Ar, r)]) := HM17.out.ownM ho hb
  clear HM17
  replace HVv := Lib.hid ((HVv.out.keep hb).more hb.size)
  replace HTl := Lib.hid ((HTl.out.keep hb).more hb.size)
  replace HVf := Lib.hid ((HVf.out.keep hb).more hb.size)
  have HB18 : Hid (Below w.heap.size w w18) := HB17.out.trans (hb.mono HB17.out.size)
  clear HB17
  clear hb ho
  go_wp2_with fail
  refine (ronlyM_any Ar (List.length r) cr r Al (List.length l) cl l w18.heap.size _ (Nat.le_refl _) (HM18.out.get (by simp)) HTl.out (by omega) (by omega)).mono ?_
  rw [HON.out]
  rintro e w19 ⟨Aro, cro, rfl, ho, hb⟩
  have hcro := ho.cap
  have HM19 : Hid (Ms w19 [(Aro, o), (Afo, o), (Ao, o), (Arv, fv), (Afk, fv), (Akv, fv), (Ab, b), (Ax, r), (Ar, r)]) := HM18.out.ownM ho hb
  clear HM18
  replace HVv := Lib.hid ((HVv.out.keep hb).more hb.size)
  replace HTl := Lib.hid ((HTl.out.keep hb).more hb.size)
  replace HVf := Lib.hid ((HVf.out.keep hb).more hb.size)
  have HB19 : Hid (Below w.heap.size w w19) := HB18.out.trans (hb.mono HB18.out.size)
  clear HB18
  clear hb ho
  go_wp2_with fail
  refine (rsameM_any Afo (List.length o) cfo o Aro (List.length o) cro o w19.heap.size _ (Nat.le_refl _) (HM19.out.get (by simp)) (HM19.out.get (by simp)) (by omega) (fun z hz => by have := Go.out.len z hz; omega)).mono ?_
  rw [sameM_self]
  rintro e w20 ⟨rfl, hb⟩
  have HM20 : Hid (Ms w20 [(Aro, o), (Afo, o), (Ao, o), (Arv, fv), (Afk, fv), (Akv, fv), (Ab, b), (Ax, r), (Ar, r)]) := HM19.out.keep hb
  clear HM19
  replace HVv := Lib.hid ((HVv.out.keep hb).more hb.size)
  replace HTl := Lib.hid ((HTl.out.keep hb).more hb.size)
  replace HVf := Lib.hid ((HVf.out.keep hb).more hb.size)
  have HB20 : Hid (Below w.heap.size w w20) := HB19.out.trans (hb.mono HB19.out.size)
  clear HB19
  clear hb
  go_wp2_with fail
  refine (withinM_any Ab (List.length b) cb b Ax (List.length r) cx r w20.heap.size _ (Nat.le_refl _) (HM20.out.get (by simp)) (HM20.out.get (by simp)) (by omega) (by omega) (Gb.out.okS (by omega)) (Gr.out.okS (by omega)) Gr.out.up).mono ?_
  rw [HWB.out]
  rintro e w21 ⟨rfl, hb⟩
  have HM21 : Hid (Ms w21 [(Aro, o), (Afo, o), (Ao, o), (Arv, fv), (Afk, fv), (Akv, fv), (Ab, b), (Ax, r), (Ar, r)]) := HM20.out.keep hb
  clear HM20
  replace HVv := Lib.hid ((HVv.out.keep hb).more hb.size)
  replace HTl := Lib.hid ((HTl.out.keep hb).more hb.size)
  replace HVf := Lib.hid ((HVf.out.keep hb).more hb.size)
  have HB21 : Hid (Below w.heap.size w w21) := HB20.out.trans (hb.mono HB20.out.size)
  clear HB20
  clear hb
  go_wp2_with fail
  refine (sameM_any Ab (List.length b) cb b Ax (List.length r) cx r w21.heap.size _ (Nat.le_refl _) (HM21.out.get (by simp)) (HM21.out.get (by simp)) (by omega) (fun z hz => by have := Gb.out.len z hz; omega)).mono ?_
  rw [HSB.out]
  rintro e w22 ⟨rfl, hb⟩
  have HM22 : Hid (Ms w22 [(Aro, o), (Afo, o), (Ao, o), (Arv, fv), (Afk, fv), (Akv, fv), (Ab, b), (Ax, r), (Ar, r)]) := HM21.out.keep hb
  clear HM21
  replace HVv := Lib.hid ((HVv.out.keep hb).more hb.size)
  replace HTl := Lib.hid ((HTl.out.keep hb).more hb.size)
  replace HVf := Lib.hid ((HVf.out.keep hb).more hb.size)
  have HB22 : Hid (Below w.heap.size w w22) := HB21.out.trans (hb.mono HB21.out.size)
  clear HB21
  clear hb
  go_wp2_with fail
  refine (extrasM_any Ax (List.length r) cx r w22.heap.size _ (Nat.le_refl _) (HM22.out.get (by simp)) (by omega) (Gr.out.okS (by omega))).mono ?_
  rw [HEX.out]
  rintro e w23 ⟨rfl, hb⟩
  have HM23 : Hid (Ms w23 [(Aro, o), (Afo, o), (Ao, o), (Arv, fv), (Afk, fv), (Akv, fv), (Ab, b), (Ax, r), (Ar, r)]) := HM22.out.keep hb
  clear HM22
  replace HVv := Lib.hid ((HVv.out.keep hb).more hb.size)
  replace HTl := Lib.hid ((HTl.out.keep hb).more hb.size)
  replace HVf := Lib.hid ((HVf.out.keep hb).more hb.size)
  have HB23 : Hid (Below w.heap.size w w23) := HB22.out.trans (hb.mono HB22.out.size)
  clear HB22
  clear hb
  have HEQ : Hid ((decide (ex = 0) == (ex == 0)) = true) := by
    show _ = _
    by_cases h : ex = 0 <;> simp [h]
  have hee := HEQ.out
  go_wp2_with fail
  refine (firstsM_any Ab (List.length b) cb b w23.heap.size _ (Nat.le_refl _) (HM23.out.get (by simp)) (by omega)).mono ?_
  rw [HFB.out]
  rintro e w24 ⟨Afb, cfb, rfl, hcfb, ho, hb⟩
  have HVb := Lib.hid (own_vec ho)
  clear ho
  have HM24 : Hid (Ms w24 [(Aro, o), (Afo, o), (Ao, o), (Arv, fv), (Afk, fv), (Akv, fv), (Ab, b), (Ax, r), (Ar, r)]) := HM23.out.keep hb
  clear HM23
  replace HVv := Lib.hid ((HVv.out.keep hb).more hb.size)
  replace HTl := Lib.hid ((HTl.out.keep hb).more hb.size)
  replace HVf := Lib.hid ((HVf.out.keep hb).more hb.size)
  have HB24 : Hid (Below w.heap.size w w24) := HB23.out.trans (hb.mono HB23.out.size)
  clear HB23
  clear hb
  go_wp2_with fail
  refine (from_any Afb (List.length f) cfb f w24.heap.size _ (Nat.le_refl _) HVb.out (by omega)).mono ?_
  rintro e w25 ⟨Ag2, cg2, rfl, hcg2, ho, hb⟩
  have HVg2 := Lib.hid (own_vec ho)
  clear ho
  have HM25 : Hid (Ms w25 [(Aro, o), (Afo, o), (Ao, o), (Arv, fv), (Afk, fv), (Akv, fv), (Ab, b), (Ax, r), (Ar, r)]) := HM24.out.keep hb
  clear HM24
  replace HVv := Lib.hid ((HVv.out.keep hb).more hb.size)
  replace HTl := Lib.hid ((HTl.out.keep hb).more hb.size)
  replace HVf := Lib.hid ((HVf.out.keep hb).more hb.size)
  replace HVb := Lib.hid ((HVb.out.keep hb).more hb.size)
  have HB25 : Hid (Below w.heap.size w w25) := HB24.out.trans (hb.mono HB24.out.size)
  clear HB24
  clear hb
  go_wp2_with fail
  refine (from_any Af (List.length f) cf f w25.heap.size _ (Nat.le_refl _) HVf.out (by omega)).mono ?_
  rintro e w26 ⟨Ag3, cg3, rfl, hcg3, ho, hb⟩
  have HVg3 := Lib.hid (own_vec ho)
  clear ho
  have HM26 : Hid (Ms w26 [(Aro, o), (Afo, o), (Ao, o), (Arv, fv), (Afk, fv), (Akv, fv), (Ab, b), (Ax, r), (Ar, r)]) := HM25.out.keep hb
  clear HM25
  replace HVv := Lib.hid ((HVv.out.keep hb).more hb.size)
  replace HTl := Lib.hid ((HTl.out.keep hb).more hb.size)
  replace HVf := Lib.hid ((HVf.out.keep hb).more hb.size)
  replace HVb := Lib.hid ((HVb.out.keep hb).more hb.size)
  replace HVg2 := Lib.hid ((HVg2.out.keep hb).more hb.size)
  have HB26 : Hid (Below w.heap.size w w26) := HB25.out.trans (hb.mono HB25.out.size)
  clear HB25
  clear hb
  go_wp2_with fail
  refine (rsame_any Ag2 (List.length f) cg2 f Ag3 (List.length f) cg3 f w26.heap.size _ HVg2.out HVg3.out (by omega) (by omega)).mono ?_
  rw [same_self]
  rintro e w27 ⟨rfl, hd⟩
  have hb := drawn_below hd.out w26.heap.size
  clear hd
  have HM27 : Hid (Ms w27 [(Aro, o), (Afo, o), (Ao, o), (Arv, fv), (Afk, fv), (Akv, fv), (Ab, b), (Ax, r), (Ar, r)]) := HM26.out.keep hb
  clear HM26
  replace HVv := Lib.hid ((HVv.out.keep hb).more hb.size)
  replace HTl := Lib.hid ((HTl.out.keep hb).more hb.size)
  replace HVf := Lib.hid ((HVf.out.keep hb).more hb.size)
  replace HVb := Lib.hid ((HVb.out.keep hb).more hb.size)
  replace HVg2 := Lib.hid ((HVg2.out.keep hb).more hb.size)
  replace HVg3 := Lib.hid ((HVg3.out.keep hb).more hb.size)
  have HB27 : Hid (Below w.heap.size w w27) := HB26.out.trans (hb.mono HB26.out.size)
  clear HB26
  clear hb
  go_wp2
  go_ret
  exact ⟨rfl, HB27.out⟩
end Go.Proofs.Ythfdjebeblmmdaa
