/- The document's Join and Meet of Vecs that may be. -/
import Derived.Test.YtbbcifcdimfdgaaVp
namespace Go.Proofs.Ytbbcifcdimfdgaa
open Go.RowKit

theorem take_ne {ys : List At} (h : Rising ys) {k : Nat} (hk : k < ys.length) : ∀ u ∈ ys.take k, u.1 ≠ (ys.getD k atNil).1 := by
  intro u hu
  obtain ⟨i, hi, rfl⟩ := mem_getD hu
  rw [List.length_take] at hi
  have h1 := rising_lt h i k (by omega) hk
  have h2 : (ys.take k).getD i atNil = ys.getD i atNil := by
    rw [List.getD_eq_getElem?_getD, List.getD_eq_getElem?_getD, List.getElem?_take_of_lt (by omega)]
  rw [h2]
  intro e
  rw [e, cmpId_self] at h1
  omega
theorem ofF_take0 {ys : List At} (h : Rising ys) {k : Nat} (hk : k < ys.length) : ofF (ys.take k) (ys.getD k atNil).1 = 0 := ofF_none (take_ne h hk)
theorem ofF_take {ys : List At} (h : Rising ys) {k : Nat} (hk : k < ys.length) (c : ByteArray) : ofF (ys.take (k + 1)) c = if c = (ys.getD k atNil).1 then (ys.getD k atNil).2 else ofF (ys.take k) c := by
  rw [take_snoc hk]
  have := ofF_split (ys.take k) [] (ys.getD k atNil) c (fun u hu => by rw [List.append_nil] at hu; exact take_ne h hk u hu)
  rwa [List.append_nil] at this
theorem join_step {xs ys out : List At} {k : Nat} {y : At} {z o : Int} (gx : Pos xs) (go : Good out) (hf : ∀ c, ofF out c = max (ofF xs c) (ofF (ys.take k) c)) (hot : ∀ c, ofF (ys.take (k + 1)) c = if c = y.1 then y.2 else ofF (ys.take k) c) (h0 : ofF (ys.take k) y.1 = 0)
    (ho : ofF out y.1 = o) (hy : 1 ≤ y.2) (hz : z = max o y.2) : ∀ c, ofF (putV out y.1 z) c = max (ofF xs c) (ofF (ys.take (k + 1)) c) := fun c => by
  rw [ofF_put go.1 go.pos, hot c]
  by_cases e : c = y.1
  · subst e
    rw [if_pos rfl, if_pos rfl]
    have h1 := hf y.1
    have h5 := ofF_nonneg gx y.1
    omega
  · rw [if_neg e, if_neg e]; exact hf c
theorem meet_step2 {xs ys out : List At} {k : Nat} {x : At} {z o : Int} (gy : Pos ys) (go : Good out) (hf : ∀ c, ofF out c = min (ofF (xs.take k) c) (ofF ys c)) (hot : ∀ c, ofF (xs.take (k + 1)) c = if c = x.1 then x.2 else ofF (xs.take k) c)
    (ho : ofF ys x.1 = o) (hx : 1 ≤ x.2) (hz : z = min x.2 o) : ∀ c, ofF (putV out x.1 z) c = min (ofF (xs.take (k + 1)) c) (ofF ys c) := fun c => by
  rw [ofF_put go.1 go.pos, hot c]
  by_cases e : c = x.1
  · subst e
    rw [if_pos rfl, if_pos rfl]
    have h5 := ofF_nonneg gy x.1
    omega
  · rw [if_neg e, if_neg e]; exact hf c

set_option maxRecDepth 100000 in
set_option maxHeartbeats 8000000 in
theorem rjoin_any (A : Option Addr) (n c : Nat) (xs : List At) (A' : Option Addr) (m c' : Nat) (ys : List At) (B : Nat) (w : World) (hB : B ≤ w.heap.size) (hx : VecAt w B A n xs) (hy : VecAt w B A' m ys) (hn : n ≤ 100000) (hm : m ≤ 100000) (gx : Good xs) (gy : Good ys) :
    Calls Try.prog 43 #[.slice A n c, .slice A' m c'] w (OwnVec w.heap.size 76 (joinF xs ys) w) := by
  have HX := Lib.hid hx
  have HY := Lib.hid hy
  have GX := Lib.hid gx
  have GY := Lib.hid gy
  have HL : Hid (ys.length = m) := hy.1
  clear hx hy gx gy
  go_enter Try.func43, Try.ntmps43
  go_wp2_with (at_builtin; refine wpList_append_at (B := w.heap.size) (n := 0) (zs := []) refTy rfl _ _ rfl rfl (own_empty w _ _ (Nat.le_refl _)) rfl (HX.out.alloc hB _) (by omega) (by simp) ?_; intro A3 c3 w3 hown3 hg3 hat3; have HB3 : Hid (Below w.heap.size w w3) := ((Below.refl _ _).alloc (Nat.le_refl _) _).trans (grown_below hg3 (by simp) (fun g e => by injection e with e; exact Nat.le_of_eq e)); have HO3 := Lib.hid hown3; clear hown3 hg3 hat3)
  rw [Nat.zero_add, List.nil_append] at HO3
  have HM0 : Hid (MakeRel w 76 xs A3 n c3 w3) := ⟨HX.out.1, HO3.out, HB3.out⟩
  clear HO3
  go_loopw [5, 6] (fun v i wr => ∃ (k : Nat) (Av : Option Addr) (nv cv : Nat) (out : List At), k ≤ m ∧ nv ≤ n + k ∧ i = .int .i64 k ∧ v = .slice Av nv cv ∧ Hid (Good out) ∧ Hid (∀ c, ofF out c = max (ofF xs c) (ofF (ys.take k) c)) ∧ Hid (MakeRel w 76 out Av nv cv wr)) (fun _ i _ => m - (intOf i).toNat)
  case atStart => exact ⟨0, A3, n, c3, xs, by omega, by omega, rfl, by simp, GX, (fun c => by have := ofF_nonneg GX.out.pos c; simp only [List.take_zero, ofF]; omega), HM0⟩
  case round =>
    obtain ⟨k, Av, nv, cv, out, hk, hnv, rfl, rfl, HG, HF, HM⟩ := hrel
    have HB := Lib.hid HM.out.2.2
    have hsz : w.heap.size ≤ wr.heap.size := HB.out.size
    by_cases hlt : k < m
    · obtain ⟨blk, off, rfl, hbB, hc1, hc2⟩ := HY.out.cells (HB.out.mono hB) (k := k) hlt
      have hky : k < ys.length := by have := HL.out; omega
      have hyk := okAt_pos (GY.out.2 _ (getD_mem hky))
      have hot := ofF_take GY.out.1 hky
      have H0 : Hid (ofF (ys.take k) (ys.getD k atNil).1 = 0) := ofF_take0 GY.out.1 hky
      generalize ys.getD k atNil = y at hc1 hc2 hyk hot H0
      have HOT := Lib.hid hot
      have HYR := Lib.hid hyk.2.2
      have hy1 : y.2 ≤ 1048576 := hyk.2.1
      have hy0 : 1 ≤ y.2 := hyk.1
      obtain ⟨o, ho⟩ : ∃ o, ofF out y.1 = o := ⟨_, rfl⟩
      have hob := good_ofF HG.out y.1
      rw [ho] at hob
      have HO := Lib.hid ho
      have hblk : blk < wr.heap.size := by omega
      have hi0 : (0 : Int) ≤ (k : Int) := by omega
      have hi1 : (k : Int) < (m : Int) := by omega
      have HV : Hid (VecAt wr wr.heap.size Av nv out) := own_vec HM.out.2.1
      by_cases hmx : o < y.2
      · have HST : Hid (∀ c, ofF (putV out y.1 y.2) c = max (ofF xs c) (ofF (ys.take (k + 1)) c)) := join_step GX.out.pos HG.out HF.out HOT.out H0.out ho hy0 (by omega)
        clear hyk hot ho
        go_wp2_with fail
        go_region_held3 (fun w' => w'.cell? ⟨blk, off + k * 2, none⟩ = some (.string y.1) ∧ w'.cell? ⟨blk, off + k * 2 + 1, none⟩ = some (.int .i64 y.2))
          (first | go_keep | (go_split_ands; refine ⟨(hbp.cell (by show blk < _; simp; omega)).trans (by assumption), (hbp.cell (by show blk < _; simp; omega)).trans (by assumption)⟩))
          (first
            | (go_at_call 60; refine (rof_is Av nv cv out y.1 wr.heap.size o HO _ HV.out.drew (by omega)).mono ?_; rintro e w1 ⟨rfl, rfl⟩)
            | (go_at_call 42; refine (put_any Av nv cv out y.1 y.2 wr.heap.size _ (by simp) HV.out.drew (by omega) HG.out).mono ?_; rintro e w2 ⟨A2, c2, rfl, hc2', ho2, hbp⟩))
        have HG2 : Hid (Good (putV out y.1 y.2)) := HG.out.put HYR.out (by omega)
        have hln := put_len out y.1 y.2
        generalize putV out y.1 y.2 = out2 at ho2 hc2' HG2 hln HST
        have HM2 : Hid (MakeRel w 76 out2 A2 out2.length c2 w2) := ⟨rfl, own_base ho2 (by simp; omega), HB.out.trans (((Below.refl _ _).drew.trans hbp).mono hsz)⟩
        clear ho2 hbp hc2'
        go_wp2_with fail
        go_roundw
        case rel => exact ⟨k + 1, A2, out2.length, c2, out2, by omega, by have := HM.out.1; omega, by go_num, rfl, HG2, HST, HM2⟩
        case measure => simp [intOf]; omega
      · have HST : Hid (∀ c, ofF (putV out y.1 o) c = max (ofF xs c) (ofF (ys.take (k + 1)) c)) := join_step GX.out.pos HG.out HF.out HOT.out H0.out ho hy0 (by omega)
        have hmf : (o < y.2) = False := eq_false hmx
        clear hyk hot ho
        go_wp2_with fail
        go_region_held3 (fun w' => w'.cell? ⟨blk, off + k * 2, none⟩ = some (.string y.1) ∧ w'.cell? ⟨blk, off + k * 2 + 1, none⟩ = some (.int .i64 y.2))
          (first | go_keep | (go_split_ands; refine ⟨(hbp.cell (by show blk < _; simp; omega)).trans (by assumption), (hbp.cell (by show blk < _; simp; omega)).trans (by assumption)⟩))
          (first
            | (go_at_call 60; refine (rof_is Av nv cv out y.1 wr.heap.size o HO _ HV.out.drew (by omega)).mono ?_; rintro e w1 ⟨rfl, rfl⟩)
            | (go_at_call 42; refine (put_any Av nv cv out y.1 o wr.heap.size _ (by simp) HV.out.drew (by omega) HG.out).mono ?_; rintro e w2 ⟨A2, c2, rfl, hc2', ho2, hbp⟩))
        have HG2 : Hid (Good (putV out y.1 o)) := HG.out.put HYR.out (by omega)
        have hln := put_len out y.1 o
        generalize putV out y.1 o = out2 at ho2 hc2' HG2 hln HST
        have HM2 : Hid (MakeRel w 76 out2 A2 out2.length c2 w2) := ⟨rfl, own_base ho2 (by simp; omega), HB.out.trans (((Below.refl _ _).drew.trans hbp).mono hsz)⟩
        clear ho2 hbp hc2'
        go_wp2_with fail
        go_roundw
        case rel => exact ⟨k + 1, A2, out2.length, c2, out2, by omega, by have := HM.out.1; omega, by go_num, rfl, HG2, HST, HM2⟩
        case measure => simp [intOf]; omega
    · have HT : Hid (out = joinF xs ys) := by
        show _ = _
        refine Good.ext HG.out (GX.out.join GY.out) fun c => ?_
        rw [HF.out c, ofF_join GX.out.1 GY.out.1 GX.out.pos GY.out.pos, List.take_of_length_le (by have := HL.out; omega)]
      go_wp2
      go_ret
      exact HT.out ▸ HM.out.own

set_option maxRecDepth 100000 in
set_option maxHeartbeats 8000000 in
theorem rmeet_any (A : Option Addr) (n c : Nat) (xs : List At) (A' : Option Addr) (m c' : Nat) (ys : List At) (B : Nat) (w : World) (hB : B ≤ w.heap.size) (hx : VecAt w B A n xs) (hy : VecAt w B A' m ys) (hn : n ≤ 100000) (hm : m ≤ 100000) (gx : Good xs) (gy : Good ys) :
    Calls Try.prog 52 #[.slice A n c, .slice A' m c'] w (OwnVec w.heap.size 76 (meetF xs ys) w) := by
  have HX := Lib.hid hx
  have HY := Lib.hid hy
  have GX := Lib.hid gx
  have GY := Lib.hid gy
  have HL : Hid (xs.length = n) := hx.1
  clear hx hy gx gy
  go_enter Try.func52, Try.ntmps52
  go_wp2
  go_loopw [5, 6] (fun v i wr => ∃ (k : Nat) (Av : Option Addr) (nv cv : Nat) (out : List At), k ≤ n ∧ nv ≤ k ∧ i = .int .i64 k ∧ v = .slice Av nv cv ∧ Hid (Good out) ∧ Hid (∀ c, ofF out c = min (ofF (xs.take k) c) (ofF ys c)) ∧ Hid (MakeRel w 76 out Av nv cv wr)) (fun _ i _ => n - (intOf i).toNat)
  case atStart => exact ⟨0, none, 0, 0, [], by omega, by omega, rfl, rfl, Good.nil, (fun c => by have := ofF_nonneg GY.out.pos c; simp only [List.take_zero, ofF]; omega), MakeRel.start w _⟩
  case round =>
    obtain ⟨k, Av, nv, cv, out, hk, hnv, rfl, rfl, HG, HF, HM⟩ := hrel
    have HB := Lib.hid HM.out.2.2
    have hsz : w.heap.size ≤ wr.heap.size := HB.out.size
    by_cases hlt : k < n
    · obtain ⟨blk, off, rfl, hbB, hc1, hc2⟩ := HX.out.cells (HB.out.mono hB) (k := k) hlt
      have hkx : k < xs.length := by have := HL.out; omega
      have hxk := okAt_pos (GX.out.2 _ (getD_mem hkx))
      have hot := ofF_take GX.out.1 hkx
      generalize xs.getD k atNil = x at hc1 hc2 hxk hot
      have HOT := Lib.hid hot
      have HYR := Lib.hid hxk.2.2
      have hx1 : x.2 ≤ 1048576 := hxk.2.1
      have hx0 : 1 ≤ x.2 := hxk.1
      obtain ⟨o, ho⟩ : ∃ o, ofF ys x.1 = o := ⟨_, rfl⟩
      have HO := Lib.hid ho
      have hblk : blk < wr.heap.size := by omega
      have hi0 : (0 : Int) ≤ (k : Int) := by omega
      have hi1 : (k : Int) < (n : Int) := by omega
      have HV : Hid (VecAt wr wr.heap.size Av nv out) := own_vec HM.out.2.1
      have HYw : Hid (VecAt wr B A' m ys) := HY.out.keep (HB.out.mono hB)
      by_cases hmn : o < x.2
      · have HST : Hid (∀ c, ofF (putV out x.1 o) c = min (ofF (xs.take (k + 1)) c) (ofF ys c)) := meet_step2 GY.out.pos HG.out HF.out HOT.out ho hx0 (by omega)
        clear hxk hot ho
        go_wp2_with fail
        go_region_held3 (fun w' => w'.cell? ⟨blk, off + k * 2, none⟩ = some (.string x.1) ∧ w'.cell? ⟨blk, off + k * 2 + 1, none⟩ = some (.int .i64 x.2))
          (first | go_keep | (go_split_ands; refine ⟨(hbp.cell (by show blk < _; simp; omega)).trans (by assumption), (hbp.cell (by show blk < _; simp; omega)).trans (by assumption)⟩))
          (first
            | (go_at_call 60; refine (rof_is A' m c' ys x.1 B o HO _ HYw.out.drew (by omega)).mono ?_; rintro e w1 ⟨rfl, rfl⟩)
            | (go_at_call 42; refine (put_any Av nv cv out x.1 o wr.heap.size _ (by simp) HV.out.drew (by omega) HG.out).mono ?_; rintro e w2 ⟨A2, c2, rfl, hc2', ho2, hbp⟩))
        have HG2 : Hid (Good (putV out x.1 o)) := HG.out.put HYR.out (by omega)
        have hln := put_len out x.1 o
        generalize putV out x.1 o = out2 at ho2 hc2' HG2 hln HST
        have HM2 : Hid (MakeRel w 76 out2 A2 out2.length c2 w2) := ⟨rfl, own_base ho2 (by simp; omega), HB.out.trans (((Below.refl _ _).drew.trans hbp).mono hsz)⟩
        clear ho2 hbp hc2'
        go_wp2_with fail
        go_roundw
        case rel => exact ⟨k + 1, A2, out2.length, c2, out2, by omega, by have := HM.out.1; omega, by go_num, rfl, HG2, HST, HM2⟩
        case measure => simp [intOf]; omega
      · have HST : Hid (∀ c, ofF (putV out x.1 x.2) c = min (ofF (xs.take (k + 1)) c) (ofF ys c)) := meet_step2 GY.out.pos HG.out HF.out HOT.out ho hx0 (by omega)
        have hmf : (o < x.2) = False := eq_false hmn
        clear hxk hot ho
        go_wp2_with fail
        go_region_held3 (fun w' => w'.cell? ⟨blk, off + k * 2, none⟩ = some (.string x.1) ∧ w'.cell? ⟨blk, off + k * 2 + 1, none⟩ = some (.int .i64 x.2))
          (first | go_keep | (go_split_ands; refine ⟨(hbp.cell (by show blk < _; simp; omega)).trans (by assumption), (hbp.cell (by show blk < _; simp; omega)).trans (by assumption)⟩))
          (first
            | (go_at_call 60; refine (rof_is A' m c' ys x.1 B o HO _ HYw.out.drew (by omega)).mono ?_; rintro e w1 ⟨rfl, rfl⟩)
            | (go_at_call 42; refine (put_any Av nv cv out x.1 x.2 wr.heap.size _ (by simp) HV.out.drew (by omega) HG.out).mono ?_; rintro e w2 ⟨A2, c2, rfl, hc2', ho2, hbp⟩))
        have HG2 : Hid (Good (putV out x.1 x.2)) := HG.out.put HYR.out (by omega)
        have hln := put_len out x.1 x.2
        generalize putV out x.1 x.2 = out2 at ho2 hc2' HG2 hln HST
        have HM2 : Hid (MakeRel w 76 out2 A2 out2.length c2 w2) := ⟨rfl, own_base ho2 (by simp; omega), HB.out.trans (((Below.refl _ _).drew.trans hbp).mono hsz)⟩
        clear ho2 hbp hc2'
        go_wp2_with fail
        go_roundw
        case rel => exact ⟨k + 1, A2, out2.length, c2, out2, by omega, by have := HM.out.1; omega, by go_num, rfl, HG2, HST, HM2⟩
        case measure => simp [intOf]; omega
    · have HT : Hid (out = meetF xs ys) := by
        show _ = _
        refine Good.ext HG.out (GX.out.meet ys) fun c => ?_
        rw [HF.out c, ofF_meet GX.out.1 GX.out.pos GY.out.pos, List.take_of_length_le (by have := HL.out; omega)]
      go_wp2
      go_ret
      exact HT.out ▸ HM.out.own
end Go.Proofs.Ytbbcifcdimfdgaa
