/- frame: Take. -/
import Derived.Test.YtbookbgfipbaoaaGreatDoorH19
namespace Go.Proofs.YtbookbgfipbaoaaGreatDoor
open Go.RowKit
open By (Rd ReaderAt)

theorem below_sets {a w : World} {B b : Nat} {v0 v1 v2 v3 v4 v5 v6 v7 v8 v9 v10 v11 : Value} (h : Below B a w) (hb : B ≤ b) : Below B a (sets12 w b v0 v1 v2 v3 v4 v5 v6 v7 v8 v9 v10 v11) := sets12_any (P := fun u => Below B a u) (fun _ o v k => k.setCell (p := ⟨b, o, none⟩) hb v) h
theorem zone_small {rs : List Zo.RSt} (h : Zo.rightZ rs = true) : rs.length ≤ 32 ∧ ∀ r ∈ rs, Zo.SmallR r := by
  refine ⟨?_, fun r hr => ?_⟩
  · unfold Zo.rightZ at h
    rw [Bool.and_eq_true, decide_eq_true_eq] at h
    exact h.1
  · obtain ⟨k, hk⟩ := List.getElem?_of_mem hr
    exact Zo.fits_small (Zo.run_step 0 0 h hk).1
theorem tkAll_len {α : Type} (one : Rd → α × Rd) (most : Int) (hm : 0 ≤ most) (st : Rd) : ((tkAll one most st).1.length : Int) ≤ most := by
  obtain ⟨n, hn, hnm⟩ := num_count st most hm
  unfold tkAll
  rw [hn, many_len]
  omega
theorem many_all {α : Type} {P : α → Prop} {one : Rd → α × Rd} (h : ∀ st, P (one st).1) : ∀ (n : Nat) (st : Rd), ∀ x ∈ (many one n st).1, P x
  | 0, _ => fun x hx => by simp [many] at hx
  | n + 1, st => fun x hx => by
    have ih := many_all h n st
    have hx' : x ∈ (many one n st).1 ++ [(one (many one n st).2).1] := hx
    rcases List.mem_append.mp hx' with hx | hx
    · exact ih x hx
    · simp only [List.mem_singleton] at hx
      rw [hx]; exact h _
theorem tkAll_all {α : Type} {P : α → Prop} {one : Rd → α × Rd} (h : ∀ st, P (one st).1) (most : Int) (st : Rd) : ∀ x ∈ (tkAll one most st).1, P x := many_all h _ _
theorem items_small (st : Rd) : (tkItems st).1.2.length ≤ 100 ∧ ∀ i ∈ (tkItems st).1.2, SmallI i := by
  obtain ⟨n, hn, hnm⟩ := num_count st 32 (by omega)
  unfold tkItems
  rw [hn]
  have h1 := its_len n (By.numF st 32).2
  refine ⟨by rw [Int.toNat_natCast]; omega, fun i hi => By.right_small (its_right _ _ i hi)⟩
theorem zoneT_small (k : Int) (st : Rd) : (tkZone k st).1.2.length ≤ 3000 ∧ ∀ r ∈ (tkZone k st).1.2, Zo.SmallR r := by
  unfold tkZone
  split
  · cases h : Zo.rightZ (Zo.parseQ (txZ st)) with
    | true =>
      have := zone_small h
      exact ⟨by simp only [if_true]; omega, by simp only [if_true]; exact this.2⟩
    | false => exact ⟨by simp, fun r hr => by simp at hr⟩
  · exact ⟨by simp, fun r hr => by simp at hr⟩
theorem rest_small (k : Int) (st : Rd) : ((tkRest k st).1.2.1.length ≤ 3000 ∧ ∀ r ∈ (tkRest k st).1.2.1, Zo.SmallR r) ∧ (tkRest k st).1.2.2.1.length ≤ 100 ∧ ∀ i ∈ (tkRest k st).1.2.2.1, SmallI i := by
  unfold tkRest
  split
  · exact ⟨zoneT_small k st, items_small _⟩
  · exact ⟨⟨by simp, fun r hr => by simp at hr⟩, by simp, fun r hr => by simp at hr⟩
theorem few_zero : FewF zeroFrm := ⟨⟨by simp [zeroFrm], fun z h => by simp [zeroFrm] at h⟩, by simp [zeroFrm], by simp [zeroFrm], ⟨by simp [zeroFrm], fun z h => by simp [zeroFrm] at h⟩, ⟨by simp [zeroFrm], fun z h => by simp [zeroFrm] at h⟩, ⟨by simp [zeroFrm], fun z h => by simp [zeroFrm] at h⟩, by simp [zeroFrm]⟩
theorem few_tk (st : Rd) : FewF (tkFrm st).1.1 := by
  unfold tkFrm
  split
  · exact few_zero
  · split
    · have h1 := tkAll_len tkAt 64 (by omega) (fb st).2
      have e1 : (fv st).1 = (tkAll tkAt 64 (fb st).2).1 := by unfold fv; rfl
      exact ⟨⟨by simp, fun z h => by simp at h⟩, by simp, by simp, ⟨by simp, fun z h => by simp at h⟩, ⟨by simp, fun z h => by simp at h⟩, ⟨by simp, fun z h => by simp at h⟩, by show (fv st).1.length ≤ 100; rw [e1]; omega⟩
    · have e1 : fn st = tkAll tkKnown 64 (fb st).2 := by unfold fn; rfl
      have e2 : fm st = tkAll tkId 64 (fc st).2 := by unfold fm; rfl
      have e3 : fe st = tkAll tkAt 64 (fm st).2 := by unfold fe; rfl
      have e4 : fo st = tkAll tkRow 64 (fe st).2 := by unfold fo; rfl
      have e5 : fr st = tkRest (fk st).1 (fo st).2 := by unfold fr; rfl
      have h1 := tkAll_len tkKnown 64 (by omega) (fb st).2
      have h2 := tkAll_len tkId 64 (by omega) (fc st).2
      have h3 := tkAll_len tkAt 64 (by omega) (fm st).2
      have h4 := tkAll_len tkRow 64 (by omega) (fe st).2
      have h5 := tkAll_all (P := fun z : ByteArray × (Int × List Int) => z.2.2.length ≤ 5000) (one := tkKnown) (fun s => by
        have := tkAll_len tkNum 4096 (by omega) (tkNum (tkId s).2).2
        have e : (tkKnown s).1.2.2 = (tkAll tkNum 4096 (tkNum (tkId s).2).2).1 := by unfold tkKnown; rfl
        rw [e]
        omega) 64 (fb st).2
      have h6 := tkAll_all (P := fun z : ByteArray × List At => z.2.length ≤ 100) (one := tkRow) (fun s => by
        have := tkAll_len tkAt 64 (by omega) (tkId s).2
        have e : (tkRow s).1.2 = (tkAll tkAt 64 (tkId s).2).1 := by unfold tkRow; rfl
        rw [e]
        omega) 64 (fe st).2
      have h7 := rest_small (fk st).1 (fo st).2
      rw [← e1] at h1 h5
      rw [← e2] at h2
      rw [← e3] at h3
      rw [← e4] at h4 h6
      rw [← e5] at h7
      generalize fn st = x1 at *
      generalize fm st = x2 at *
      generalize fe st = x3 at *
      generalize fo st = x4 at *
      generalize fr st = x5 at *
      refine ⟨⟨?_, h5⟩, ?_, ?_, ⟨?_, h6⟩, h7.1, h7.2, ?_⟩
      · show x1.1.length ≤ 100; omega
      · show x2.1.length ≤ 100; omega
      · show x3.1.length ≤ 100; omega
      · show x4.1.length ≤ 100; omega
      · simp
def takeF (bs : List UInt8) : Frm × Int :=
  if (tkFrm (bs, 0)).2.2 ≠ 0 then (zeroFrm, ((tkFrm (bs, 0)).2.2 : Int))
  else if (tkFrm (bs, 0)).1.2 = true ∧ By.endF (tkFrm (bs, 0)).2 = 0 ∧ rightFrm (tkFrm (bs, 0)).1.1 = true then ((tkFrm (bs, 0)).1.1, 0) else (zeroFrm, 3)
def TakeRet (T : Frm × Int) (w : World) (en : Ending) (w' : World) : Prop :=
  ∃ h : Lie, en = .returned (.tuple #[frmV T.1 h, .int .i64 T.2]) ∧ FrmAt w' w'.heap.size T.1 h ∧ Below w.heap.size w w'
def lie0 : Lie := ⟨none, 0, none, 0, none, 0, none, 0, none, 0, none, 0, none, 0⟩
theorem zero_at (w : World) (B : Nat) : FrmAt w B zeroFrm lie0 := ⟨mat_nilK _ _, RowAt.nil, VecAt.nil _ _ _, mat_nilM _ _, ⟨[], RowAt.nil, rfl, fun k z r h => by simp at h⟩, RowAt.nil, VecAt.nil _ _ _⟩
set_option maxRecDepth 100000 in
set_option maxHeartbeats 8000000 in
theorem takeB_any (A : Option Addr) (c g : Nat) (bs : List UInt8) (w : World) (hz : By.BytesAt w g A bs.length bs) (hn : bs.length ≤ 1099511627776) (hg : Zo.Glob w) (h9 : 9 ≤ w.heap.size) :
    Calls Tryz.prog 17 #[.slice A bs.length c] w (TakeRet (takeF bs) w) := by
  have HGL := Lib.hid hg
  have hb0 : Below w.heap.size w (w.alloc (.cells #[.int .i64 0, .string ⟨#[]⟩, .string ⟨#[]⟩, .slice none 0 0, .int .i64 0, .slice none 0 0, .slice none 0 0, .slice none 0 0, .slice none 0 0, .slice none 0 0, .bool false, .slice none 0 0] 45)) := (Below.refl _ _).alloc (Nat.le_refl _) _
  have HC := Lib.hid (By.read_any A c g bs (w.alloc (.cells #[.int .i64 0, .string ⟨#[]⟩, .string ⟨#[]⟩, .slice none 0 0, .int .i64 0, .slice none 0 0, .slice none 0 0, .slice none 0 0, .slice none 0 0, .slice none 0 0, .bool false, .slice none 0 0] 45)) (hz.keep hb0) hn)
  have HD : Hid (∀ (h : Lie) (f : Frm) (e : Int) (w' : World), takeF bs = (f, e) → FrmAt w' w'.heap.size f h → Below w.heap.size w w' → TakeRet (takeF bs) w (.returned (.tuple #[frmV f h, .int .i64 e])) w') := fun h f e w' e1 h1 h2 => by rw [e1]; exact ⟨h, rfl, h1, h2⟩
  have HF : Hid (takeF bs = if (tkFrm (bs, 0)).2.2 ≠ 0 then (zeroFrm, ((tkFrm (bs, 0)).2.2 : Int)) else if (tkFrm (bs, 0)).1.2 = true ∧ By.endF (tkFrm (bs, 0)).2 = 0 ∧ rightFrm (tkFrm (bs, 0)).1.1 = true then ((tkFrm (bs, 0)).1.1, 0) else (zeroFrm, 3)) := rfl
  have HFW := Lib.hid (few_tk (bs, 0))
  generalize TakeRet (takeF bs) w = PR at *
  have HB : Hid (Below w.heap.size w (w.alloc (.cells #[.int .i64 0, .string ⟨#[]⟩, .string ⟨#[]⟩, .slice none 0 0, .int .i64 0, .slice none 0 0, .slice none 0 0, .slice none 0 0, .slice none 0 0, .slice none 0 0, .bool false, .slice none 0 0] 45))) := hb0
  clear hz hg hb0
  go_enter Tryz.func17, Tryz.ntmps17
  go_upto_region 1 with fail
  have HZB : Hid (Blk (w.alloc (.cells #[.int .i64 0, .string ⟨#[]⟩, .string ⟨#[]⟩, .slice none 0 0, .int .i64 0, .slice none 0 0, .slice none 0 0, .slice none 0 0, .slice none 0 0, .slice none 0 0, .bool false, .slice none 0 0] 45)) w.heap.size [.int .i64 0, .string ⟨#[]⟩, .string ⟨#[]⟩, .slice none 0 0, .int .i64 0, .slice none 0 0, .slice none 0 0, .slice none 0 0, .slice none 0 0, .slice none 0 0, .bool false, .slice none 0 0]) := Blk.new w [.int .i64 0, .string ⟨#[]⟩, .string ⟨#[]⟩, .slice none 0 0, .int .i64 0, .slice none 0 0, .slice none 0 0, .slice none 0 0, .slice none 0 0, .slice none 0 0, .bool false, .slice none 0 0] 45
  generalize (w.alloc (.cells #[.int .i64 0, .string ⟨#[]⟩, .string ⟨#[]⟩, .slice none 0 0, .int .i64 0, .slice none 0 0, .slice none 0 0, .slice none 0 0, .slice none 0 0, .slice none 0 0, .bool false, .slice none 0 0] 45)) = W0 at *
  have hz0 := HZB.out.z
  go_wp2_with fail
  refine HC.out.mono ?_
  rintro e w1 ⟨R, g1, rfl, hrd, hR, hg1, hb⟩
  replace HZB := Lib.hid (HZB.out.below hb)
  replace HB := Lib.hid (HB.out.trans (hb.mono HB.out.size))
  have hz1 := HZB.out.z
  have hR0 : w.heap.size < R := by omega
  have HRD : Hid (Rdr w1 R g1 w1.heap.size (bs, 0)) := ⟨hrd, hrd.lt, fun hn => hrd.glt hn, Nat.le_refl _⟩
  have HTK := Lib.hid (take12_any w1 HRD.out (HGL.out.below HB.out) (by omega))
  unfold TkFrm at HTK
  generalize tkFrm (bs, 0) = TT at *
  clear hrd hR hg1 hb HC HRD
  obtain ⟨⟨f, ok⟩, st⟩ := TT
  simp only at HTK HF HFW
  obtain ⟨p1, p2, p3, p4, p5, p6, p7, p8, p9, p10, p11, p12⟩ := f
  unfold frmV at HTK
  simp only at HTK
  go_wp2_with fail
  refine HTK.out.mono ?_
  rintro e w2 ⟨hh, rfl, hat, hrd, hg⟩
  have HN : some w.heap.size ≠ (some R : Option Nat) := fun e => by injection e with e; omega
  replace HZB := Lib.hid (HZB.out.far hg HN)
  replace HB : Hid (Below w.heap.size w w2) := ⟨hg.os.trans HB.out.os, hg.tape.trans HB.out.tape, hg.output.trans HB.out.output, Nat.le_trans HB.out.size hg.size, fun b hb => (hg.block b (Nat.lt_of_lt_of_le hb HB.out.size) (fun e => by injection e with e; omega)).trans (HB.out.block b hb)⟩
  have HAT := Lib.hid hat
  have HRD := Lib.hid hrd
  clear hat hrd hg HTK HN
  go_upto_region 3 with fail
  have HKB : Hid (Blk (w2.alloc (.cells #[.int .i64 p1, .string p2, .string p3, .slice hh.kA p4.length hh.kc, .int .i64 p5, .slice hh.mA p6.length hh.mc, .slice hh.cA p7.length hh.cc, .slice hh.rA p8.length hh.rc, .slice hh.zA p9.length hh.zc, .slice hh.iA p10.length hh.ic, .bool p11, .slice hh.fA p12.length hh.fc] 45)) w2.heap.size [.int .i64 p1, .string p2, .string p3, .slice hh.kA p4.length hh.kc, .int .i64 p5, .slice hh.mA p6.length hh.mc, .slice hh.cA p7.length hh.cc, .slice hh.rA p8.length hh.rc, .slice hh.zA p9.length hh.zc, .slice hh.iA p10.length hh.ic, .bool p11, .slice hh.fA p12.length hh.fc]) := Blk.new w2 [.int .i64 p1, .string p2, .string p3, .slice hh.kA p4.length hh.kc, .int .i64 p5, .slice hh.mA p6.length hh.mc, .slice hh.cA p7.length hh.cc, .slice hh.rA p8.length hh.rc, .slice hh.zA p9.length hh.zc, .slice hh.iA p10.length hh.ic, .bool p11, .slice hh.fA p12.length hh.fc] 45
  have hba : Below w2.heap.size w2 (w2.alloc (.cells #[.int .i64 p1, .string p2, .string p3, .slice hh.kA p4.length hh.kc, .int .i64 p5, .slice hh.mA p6.length hh.mc, .slice hh.cA p7.length hh.cc, .slice hh.rA p8.length hh.rc, .slice hh.zA p9.length hh.zc, .slice hh.iA p10.length hh.ic, .bool p11, .slice hh.fA p12.length hh.fc] 45)) := (Below.refl _ _).alloc (Nat.le_refl _) _
  replace HZB := Lib.hid (HZB.out.below hba)
  have hP2 : w.heap.size + 1 ≤ w1.heap.size := hz1
  replace HAT := Lib.hid ((HAT.out.low hP2).above (Above.below hba))
  replace HRD := Lib.hid (HRD.out.below hba)
  replace HB := Lib.hid (HB.out.trans (hba.mono HB.out.size))
  clear hba
  generalize (w2.alloc (.cells #[.int .i64 p1, .string p2, .string p3, .slice hh.kA p4.length hh.kc, .int .i64 p5, .slice hh.mA p6.length hh.mc, .slice hh.cA p7.length hh.cc, .slice hh.rA p8.length hh.rc, .slice hh.zA p9.length hh.zc, .slice hh.iA p10.length hh.ic, .bool p11, .slice hh.fA p12.length hh.fc] 45)) = W1 at *
  generalize hQ : w2.heap.size = Q at *
  have HER := Lib.hid (fun (u : World) (hb : Below W1.heap.size W1 u) => By.err_any u (HRD.out.rd.keep hb))
  have HEN := Lib.hid (fun (u : World) (hb : Below W1.heap.size W1 u) => By.end_any u (HRD.out.rd.keep hb))
  have HRT := Lib.hid (fun (u : World) (hb : Below W1.heap.size W1 u) => right12_any _ hh W1.heap.size u hb.size (HAT.out.at.keep hb) HFW.out)
  generalize rightFrm ⟨p1, p2, p3, p4, p5, p6, p7, p8, p9, p10, p11, p12⟩ = rg at *
  unfold frmV at HRT
  simp only at HRT
  generalize By.endF st = en at *
  obtain ⟨sb, er⟩ := st
  simp only at HF HER HEN HRD
  obtain ⟨k0, k1, k2, k3, k4, k5, k6, k7, k8, k9, k10, k11⟩ := HKB.out.cs
  go_wp2_with fail
  refine (HER.out W1 (Below.refl _ _)).mono ?_
  rintro e w3 ⟨rfl, rfl⟩
  by_cases he : er = 0
  rotate_left
  · have he1 : ((er : Int) != 0) = true := by simpa using he
    have HE0 := Lib.hid he
    clear he
    obtain ⟨z0, z1, z2, z3, z4, z5, z6, z7, z8, z9, z10, z11⟩ := HZB.out.cs
    obtain ⟨y0, y1, y2, y3, y4, y5, y6, y7, y8, y9, y10, y11⟩ := HZB.out.fs
    go_wp2
    refine bodyPost_ret (v := .tuple #[.agg #[.int .i64 0, .string ⟨#[]⟩, .string ⟨#[]⟩, .slice none 0 0, .int .i64 0, .slice none 0 0, .slice none 0 0, .slice none 0 0, .slice none 0 0, .slice none 0 0, .bool false, .slice none 0 0], .int .i64 (er : Int)]) ?_ rfl ?_
    · simp [results, Tryz.results17, go_sem, z0, z1, z2, z3, z4, z5, z6, z7, z8, z9, z10, z11]
    · exact HD.out lie0 zeroFrm (er : Int) _ (by rw [HF.out, if_pos HE0.out]) (zero_at _ _) (below_sets HB.out (Nat.le_refl _))
  subst he
  cases ok
  · skip
    obtain ⟨z0, z1, z2, z3, z4, z5, z6, z7, z8, z9, z10, z11⟩ := HZB.out.cs
    obtain ⟨y0, y1, y2, y3, y4, y5, y6, y7, y8, y9, y10, y11⟩ := HZB.out.fs
    go_wp2
    refine bodyPost_ret (v := .tuple #[.agg #[.int .i64 0, .string ⟨#[]⟩, .string ⟨#[]⟩, .slice none 0 0, .int .i64 0, .slice none 0 0, .slice none 0 0, .slice none 0 0, .slice none 0 0, .slice none 0 0, .bool false, .slice none 0 0], .int .i64 3]) ?_ rfl ?_
    · simp [results, Tryz.results17, go_sem, z0, z1, z2, z3, z4, z5, z6, z7, z8, z9, z10, z11]
    · exact HD.out lie0 zeroFrm 3 _ (by rw [HF.out]; simp) (zero_at _ _) (below_sets HB.out (Nat.le_refl _))
  go_wp2_with fail
  refine (HEN.out W1 (Below.refl _ _)).mono ?_
  rintro e w3 ⟨rfl, rfl⟩
  by_cases hen : en = 0
  rotate_left
  · have he1 : ((en : Int) != 0) = true := by simpa using hen
    have HE0 := Lib.hid hen
    clear hen
    obtain ⟨z0, z1, z2, z3, z4, z5, z6, z7, z8, z9, z10, z11⟩ := HZB.out.cs
    obtain ⟨y0, y1, y2, y3, y4, y5, y6, y7, y8, y9, y10, y11⟩ := HZB.out.fs
    go_wp2
    refine bodyPost_ret (v := .tuple #[.agg #[.int .i64 0, .string ⟨#[]⟩, .string ⟨#[]⟩, .slice none 0 0, .int .i64 0, .slice none 0 0, .slice none 0 0, .slice none 0 0, .slice none 0 0, .slice none 0 0, .bool false, .slice none 0 0], .int .i64 3]) ?_ rfl ?_
    · simp [results, Tryz.results17, go_sem, z0, z1, z2, z3, z4, z5, z6, z7, z8, z9, z10, z11]
    · exact HD.out lie0 zeroFrm 3 _ (by rw [HF.out]; simp [HE0.out]) (zero_at _ _) (below_sets HB.out (Nat.le_refl _))
  subst hen
  go_wp2_with fail
  refine (HRT.out W1 (Below.refl _ _)).mono ?_
  rintro e w4 ⟨rfl, hb⟩
  clear k0 k1 k2 k3 k4 k5 k6 k7 k8 k9 k10 k11
  replace HZB := Lib.hid (HZB.out.below hb)
  replace HKB := Lib.hid (HKB.out.below hb)
  replace HAT := Lib.hid (HAT.out.above (Above.below hb))
  replace HB := Lib.hid (HB.out.trans (hb.mono HB.out.size))
  clear hb
  cases rg
  · skip
    obtain ⟨z0, z1, z2, z3, z4, z5, z6, z7, z8, z9, z10, z11⟩ := HZB.out.cs
    obtain ⟨y0, y1, y2, y3, y4, y5, y6, y7, y8, y9, y10, y11⟩ := HZB.out.fs
    go_wp2
    refine bodyPost_ret (v := .tuple #[.agg #[.int .i64 0, .string ⟨#[]⟩, .string ⟨#[]⟩, .slice none 0 0, .int .i64 0, .slice none 0 0, .slice none 0 0, .slice none 0 0, .slice none 0 0, .slice none 0 0, .bool false, .slice none 0 0], .int .i64 3]) ?_ rfl ?_
    · simp [results, Tryz.results17, go_sem, z0, z1, z2, z3, z4, z5, z6, z7, z8, z9, z10, z11]
    · exact HD.out lie0 zeroFrm 3 _ (by rw [HF.out]; simp) (zero_at _ _) (below_sets HB.out (Nat.le_refl _))
  · skip
    obtain ⟨k0, k1, k2, k3, k4, k5, k6, k7, k8, k9, k10, k11⟩ := HKB.out.cs
    obtain ⟨z0, z1, z2, z3, z4, z5, z6, z7, z8, z9, z10, z11⟩ := HZB.out.cs
    obtain ⟨y0, y1, y2, y3, y4, y5, y6, y7, y8, y9, y10, y11⟩ := HZB.out.fs
    go_wp2
    refine bodyPost_ret (v := .tuple #[.agg #[.int .i64 p1, .string p2, .string p3, .slice hh.kA p4.length hh.kc, .int .i64 p5, .slice hh.mA p6.length hh.mc, .slice hh.cA p7.length hh.cc, .slice hh.rA p8.length hh.rc, .slice hh.zA p9.length hh.zc, .slice hh.iA p10.length hh.ic, .bool p11, .slice hh.fA p12.length hh.fc], .int .i64 0]) ?_ rfl ?_
    · simp [results, Tryz.results17, go_sem, z0, z1, z2, z3, z4, z5, z6, z7, z8, z9, z10, z11]
    · exact HD.out hh ⟨p1, p2, p3, p4, p5, p6, p7, p8, p9, p10, p11, p12⟩ 0 _ (by rw [HF.out]; simp) ((HAT.out.above (above_sets (Nat.lt_succ_self _))).at) (below_sets HB.out (Nat.le_refl _))
end Go.Proofs.YtbookbgfipbaoaaGreatDoor

/- the law of frames: told. -/
namespace Go.Proofs.YtbookbgfipbaoaaGreatDoor
open Go.RowKit

def toldF : Frm := ⟨3, ⟨#[48]⟩, ⟨#[48, 49]⟩, [], 0, [], [], [], [], [], false, []⟩
def toldB : List UInt8 := [3, 1, 48, 2, 48, 49, 0]
theorem told_right : rightFrm toldF = true := by kernel_rfl
theorem told_put : frmB toldF = toldB := by kernel_rfl
theorem told_take : takeF toldB = (toldF, 0) := by kernel_rfl
theorem told_zero : takeF [0] = (zeroFrm, 3) := by kernel_rfl
theorem told_few : FewF toldF := ⟨⟨by simp [toldF], fun z h => by simp [toldF] at h⟩, by simp [toldF], by simp [toldF], ⟨by simp [toldF], fun z h => by simp [toldF] at h⟩, ⟨by simp [toldF], fun z h => by simp [toldF] at h⟩, ⟨by simp [toldF], fun z h => by simp [toldF] at h⟩, by simp [toldF]⟩
theorem told_at (w : World) (B : Nat) : FrmAt w B toldF lie0 := ⟨mat_nilK _ _, RowAt.nil, VecAt.nil _ _ _, mat_nilM _ _, ⟨[], RowAt.nil, rfl, fun k z r h => by simp at h⟩, RowAt.nil, VecAt.nil _ _ _⟩
set_option maxRecDepth 100000 in
set_option maxHeartbeats 8000000 in
theorem told12_any (w : World) (hg : Zo.Glob w) (h9 : 9 ≤ w.heap.size) : Calls Tryz.prog 9 #[] w fun e w' => e = .returned (.bool true) ∧ Below w.heap.size w w' := by
  have HGL := Lib.hid hg
  have HP := Lib.hid (fun (u : World) (hb : Below w.heap.size w u) => put12_any toldF lie0 0 u (Nat.zero_le _) (told_at u 0) told_few (HGL.out.below hb))
  rw [told_put] at HP
  have HS := Lib.hid (fun (u : World) (h : Lie) (ha : FrmAt u u.heap.size toldF h) => same12_any toldF toldF lie0 h u.heap.size u (Nat.le_refl _) (told_at u _) ha told_few told_few)
  have HR := Lib.hid (fun (u : World) => right12_any toldF lie0 0 u (Nat.zero_le _) (told_at u 0) told_few)
  rw [told_right] at HR
  rw [(sameFrm_iff toldF toldF).mpr rfl] at HS
  have HTK := Lib.hid (fun (u : World) (A : Option Addr) (c g : Nat) (hb : Below w.heap.size w u) (hz : By.BytesAt u g A toldB.length toldB) => takeB_any A c g toldB u hz (by decide) (HGL.out.below hb) (Nat.le_trans h9 hb.size))
  rw [told_take] at HTK
  have HT0 := Lib.hid (fun (u : World) (A : Option Addr) (g : Nat) (hb : Below w.heap.size w u) (hz : By.BytesAt u g A [(0 : UInt8)].length [0]) => takeB_any A 1 g [0] u hz (by decide) (HGL.out.below hb) (Nat.le_trans h9 hb.size))
  rw [told_zero] at HT0
  have hl7 : toldB.length = 7 := rfl
  rw [hl7] at HTK
  have hl1 : [(0 : UInt8)].length = 1 := rfl
  rw [hl1] at HT0
  unfold TakeRet at HTK HT0
  unfold By.OwnBytes at HP
  rw [hl7] at HP
  have hcs : (⟨toldB.toArray⟩ : ByteArray) = ⟨#[3, 1, 48, 2, 48, 49, 0]⟩ := rfl
  unfold toldF frmV lie0 at HP HS HR
  unfold toldF frmV at HTK
  unfold zeroFrm frmV at HT0
  simp only [List.length_nil] at HP HS HR HTK HT0
  clear hg
  go_enter Tryz.func9, Tryz.ntmps9
  go_upto_region 2 with fail
  have k0 : (w.alloc (.cells #[.int .i64 3, .string ⟨#[48]⟩, .string ⟨#[48, 49]⟩, .slice none 0 0, .int .i64 0, .slice none 0 0, .slice none 0 0, .slice none 0 0, .slice none 0 0, .slice none 0 0, .bool false, .slice none 0 0] 45)).cell? ⟨w.heap.size, 0, none⟩ = some (.int .i64 3) := by simp [go_sem]
  have kf0 : (w.alloc (.cells #[.int .i64 3, .string ⟨#[48]⟩, .string ⟨#[48, 49]⟩, .slice none 0 0, .int .i64 0, .slice none 0 0, .slice none 0 0, .slice none 0 0, .slice none 0 0, .slice none 0 0, .bool false, .slice none 0 0] 45)).frozen? ⟨w.heap.size, 0, none⟩ = false := by simp [go_sem]
  have k1 : (w.alloc (.cells #[.int .i64 3, .string ⟨#[48]⟩, .string ⟨#[48, 49]⟩, .slice none 0 0, .int .i64 0, .slice none 0 0, .slice none 0 0, .slice none 0 0, .slice none 0 0, .slice none 0 0, .bool false, .slice none 0 0] 45)).cell? ⟨w.heap.size, 1, none⟩ = some (.string ⟨#[48]⟩) := by simp [go_sem]
  have kf1 : (w.alloc (.cells #[.int .i64 3, .string ⟨#[48]⟩, .string ⟨#[48, 49]⟩, .slice none 0 0, .int .i64 0, .slice none 0 0, .slice none 0 0, .slice none 0 0, .slice none 0 0, .slice none 0 0, .bool false, .slice none 0 0] 45)).frozen? ⟨w.heap.size, 1, none⟩ = false := by simp [go_sem]
  have k2 : (w.alloc (.cells #[.int .i64 3, .string ⟨#[48]⟩, .string ⟨#[48, 49]⟩, .slice none 0 0, .int .i64 0, .slice none 0 0, .slice none 0 0, .slice none 0 0, .slice none 0 0, .slice none 0 0, .bool false, .slice none 0 0] 45)).cell? ⟨w.heap.size, 2, none⟩ = some (.string ⟨#[48, 49]⟩) := by simp [go_sem]
  have kf2 : (w.alloc (.cells #[.int .i64 3, .string ⟨#[48]⟩, .string ⟨#[48, 49]⟩, .slice none 0 0, .int .i64 0, .slice none 0 0, .slice none 0 0, .slice none 0 0, .slice none 0 0, .slice none 0 0, .bool false, .slice none 0 0] 45)).frozen? ⟨w.heap.size, 2, none⟩ = false := by simp [go_sem]
  have k3 : (w.alloc (.cells #[.int .i64 3, .string ⟨#[48]⟩, .string ⟨#[48, 49]⟩, .slice none 0 0, .int .i64 0, .slice none 0 0, .slice none 0 0, .slice none 0 0, .slice none 0 0, .slice none 0 0, .bool false, .slice none 0 0] 45)).cell? ⟨w.heap.size, 3, none⟩ = some (.slice none 0 0) := by simp [go_sem]
  have kf3 : (w.alloc (.cells #[.int .i64 3, .string ⟨#[48]⟩, .string ⟨#[48, 49]⟩, .slice none 0 0, .int .i64 0, .slice none 0 0, .slice none 0 0, .slice none 0 0, .slice none 0 0, .slice none 0 0, .bool false, .slice none 0 0] 45)).frozen? ⟨w.heap.size, 3, none⟩ = false := by simp [go_sem]
  have k4 : (w.alloc (.cells #[.int .i64 3, .string ⟨#[48]⟩, .string ⟨#[48, 49]⟩, .slice none 0 0, .int .i64 0, .slice none 0 0, .slice none 0 0, .slice none 0 0, .slice none 0 0, .slice none 0 0, .bool false, .slice none 0 0] 45)).cell? ⟨w.heap.size, 4, none⟩ = some (.int .i64 0) := by simp [go_sem]
  have kf4 : (w.alloc (.cells #[.int .i64 3, .string ⟨#[48]⟩, .string ⟨#[48, 49]⟩, .slice none 0 0, .int .i64 0, .slice none 0 0, .slice none 0 0, .slice none 0 0, .slice none 0 0, .slice none 0 0, .bool false, .slice none 0 0] 45)).frozen? ⟨w.heap.size, 4, none⟩ = false := by simp [go_sem]
  have k5 : (w.alloc (.cells #[.int .i64 3, .string ⟨#[48]⟩, .string ⟨#[48, 49]⟩, .slice none 0 0, .int .i64 0, .slice none 0 0, .slice none 0 0, .slice none 0 0, .slice none 0 0, .slice none 0 0, .bool false, .slice none 0 0] 45)).cell? ⟨w.heap.size, 5, none⟩ = some (.slice none 0 0) := by simp [go_sem]
  have kf5 : (w.alloc (.cells #[.int .i64 3, .string ⟨#[48]⟩, .string ⟨#[48, 49]⟩, .slice none 0 0, .int .i64 0, .slice none 0 0, .slice none 0 0, .slice none 0 0, .slice none 0 0, .slice none 0 0, .bool false, .slice none 0 0] 45)).frozen? ⟨w.heap.size, 5, none⟩ = false := by simp [go_sem]
  have k6 : (w.alloc (.cells #[.int .i64 3, .string ⟨#[48]⟩, .string ⟨#[48, 49]⟩, .slice none 0 0, .int .i64 0, .slice none 0 0, .slice none 0 0, .slice none 0 0, .slice none 0 0, .slice none 0 0, .bool false, .slice none 0 0] 45)).cell? ⟨w.heap.size, 6, none⟩ = some (.slice none 0 0) := by simp [go_sem]
  have kf6 : (w.alloc (.cells #[.int .i64 3, .string ⟨#[48]⟩, .string ⟨#[48, 49]⟩, .slice none 0 0, .int .i64 0, .slice none 0 0, .slice none 0 0, .slice none 0 0, .slice none 0 0, .slice none 0 0, .bool false, .slice none 0 0] 45)).frozen? ⟨w.heap.size, 6, none⟩ = false := by simp [go_sem]
  have k7 : (w.alloc (.cells #[.int .i64 3, .string ⟨#[48]⟩, .string ⟨#[48, 49]⟩, .slice none 0 0, .int .i64 0, .slice none 0 0, .slice none 0 0, .slice none 0 0, .slice none 0 0, .slice none 0 0, .bool false, .slice none 0 0] 45)).cell? ⟨w.heap.size, 7, none⟩ = some (.slice none 0 0) := by simp [go_sem]
  have kf7 : (w.alloc (.cells #[.int .i64 3, .string ⟨#[48]⟩, .string ⟨#[48, 49]⟩, .slice none 0 0, .int .i64 0, .slice none 0 0, .slice none 0 0, .slice none 0 0, .slice none 0 0, .slice none 0 0, .bool false, .slice none 0 0] 45)).frozen? ⟨w.heap.size, 7, none⟩ = false := by simp [go_sem]
  have k8 : (w.alloc (.cells #[.int .i64 3, .string ⟨#[48]⟩, .string ⟨#[48, 49]⟩, .slice none 0 0, .int .i64 0, .slice none 0 0, .slice none 0 0, .slice none 0 0, .slice none 0 0, .slice none 0 0, .bool false, .slice none 0 0] 45)).cell? ⟨w.heap.size, 8, none⟩ = some (.slice none 0 0) := by simp [go_sem]
  have kf8 : (w.alloc (.cells #[.int .i64 3, .string ⟨#[48]⟩, .string ⟨#[48, 49]⟩, .slice none 0 0, .int .i64 0, .slice none 0 0, .slice none 0 0, .slice none 0 0, .slice none 0 0, .slice none 0 0, .bool false, .slice none 0 0] 45)).frozen? ⟨w.heap.size, 8, none⟩ = false := by simp [go_sem]
  have k9 : (w.alloc (.cells #[.int .i64 3, .string ⟨#[48]⟩, .string ⟨#[48, 49]⟩, .slice none 0 0, .int .i64 0, .slice none 0 0, .slice none 0 0, .slice none 0 0, .slice none 0 0, .slice none 0 0, .bool false, .slice none 0 0] 45)).cell? ⟨w.heap.size, 9, none⟩ = some (.slice none 0 0) := by simp [go_sem]
  have kf9 : (w.alloc (.cells #[.int .i64 3, .string ⟨#[48]⟩, .string ⟨#[48, 49]⟩, .slice none 0 0, .int .i64 0, .slice none 0 0, .slice none 0 0, .slice none 0 0, .slice none 0 0, .slice none 0 0, .bool false, .slice none 0 0] 45)).frozen? ⟨w.heap.size, 9, none⟩ = false := by simp [go_sem]
  have k10 : (w.alloc (.cells #[.int .i64 3, .string ⟨#[48]⟩, .string ⟨#[48, 49]⟩, .slice none 0 0, .int .i64 0, .slice none 0 0, .slice none 0 0, .slice none 0 0, .slice none 0 0, .slice none 0 0, .bool false, .slice none 0 0] 45)).cell? ⟨w.heap.size, 10, none⟩ = some (.bool false) := by simp [go_sem]
  have kf10 : (w.alloc (.cells #[.int .i64 3, .string ⟨#[48]⟩, .string ⟨#[48, 49]⟩, .slice none 0 0, .int .i64 0, .slice none 0 0, .slice none 0 0, .slice none 0 0, .slice none 0 0, .slice none 0 0, .bool false, .slice none 0 0] 45)).frozen? ⟨w.heap.size, 10, none⟩ = false := by simp [go_sem]
  have k11 : (w.alloc (.cells #[.int .i64 3, .string ⟨#[48]⟩, .string ⟨#[48, 49]⟩, .slice none 0 0, .int .i64 0, .slice none 0 0, .slice none 0 0, .slice none 0 0, .slice none 0 0, .slice none 0 0, .bool false, .slice none 0 0] 45)).cell? ⟨w.heap.size, 11, none⟩ = some (.slice none 0 0) := by simp [go_sem]
  have kf11 : (w.alloc (.cells #[.int .i64 3, .string ⟨#[48]⟩, .string ⟨#[48, 49]⟩, .slice none 0 0, .int .i64 0, .slice none 0 0, .slice none 0 0, .slice none 0 0, .slice none 0 0, .slice none 0 0, .bool false, .slice none 0 0] 45)).frozen? ⟨w.heap.size, 11, none⟩ = false := by simp [go_sem]
  have kz : w.heap.size < (w.alloc (.cells #[.int .i64 3, .string ⟨#[48]⟩, .string ⟨#[48, 49]⟩, .slice none 0 0, .int .i64 0, .slice none 0 0, .slice none 0 0, .slice none 0 0, .slice none 0 0, .slice none 0 0, .bool false, .slice none 0 0] 45)).heap.size := by simp <;> omega
  have HB : Hid (Below w.heap.size w (w.alloc (.cells #[.int .i64 3, .string ⟨#[48]⟩, .string ⟨#[48, 49]⟩, .slice none 0 0, .int .i64 0, .slice none 0 0, .slice none 0 0, .slice none 0 0, .slice none 0 0, .slice none 0 0, .bool false, .slice none 0 0] 45))) := (Below.refl _ _).alloc (Nat.le_refl _) _
  generalize (w.alloc (.cells #[.int .i64 3, .string ⟨#[48]⟩, .string ⟨#[48, 49]⟩, .slice none 0 0, .int .i64 0, .slice none 0 0, .slice none 0 0, .slice none 0 0, .slice none 0 0, .slice none 0 0, .bool false, .slice none 0 0] 45)) = W0 at *
  go_wp2_with fail
  refine (HP.out W0 HB.out).mono ?_
  rintro e w1 ⟨A1, c1, rfl, hown, hb⟩
  replace k0 := (hb.cell (p := ⟨w.heap.size, 0, none⟩) kz).trans k0
  replace kf0 := (hb.frozen (p := ⟨w.heap.size, 0, none⟩) kz).trans kf0
  replace k1 := (hb.cell (p := ⟨w.heap.size, 1, none⟩) kz).trans k1
  replace kf1 := (hb.frozen (p := ⟨w.heap.size, 1, none⟩) kz).trans kf1
  replace k2 := (hb.cell (p := ⟨w.heap.size, 2, none⟩) kz).trans k2
  replace kf2 := (hb.frozen (p := ⟨w.heap.size, 2, none⟩) kz).trans kf2
  replace k3 := (hb.cell (p := ⟨w.heap.size, 3, none⟩) kz).trans k3
  replace kf3 := (hb.frozen (p := ⟨w.heap.size, 3, none⟩) kz).trans kf3
  replace k4 := (hb.cell (p := ⟨w.heap.size, 4, none⟩) kz).trans k4
  replace kf4 := (hb.frozen (p := ⟨w.heap.size, 4, none⟩) kz).trans kf4
  replace k5 := (hb.cell (p := ⟨w.heap.size, 5, none⟩) kz).trans k5
  replace kf5 := (hb.frozen (p := ⟨w.heap.size, 5, none⟩) kz).trans kf5
  replace k6 := (hb.cell (p := ⟨w.heap.size, 6, none⟩) kz).trans k6
  replace kf6 := (hb.frozen (p := ⟨w.heap.size, 6, none⟩) kz).trans kf6
  replace k7 := (hb.cell (p := ⟨w.heap.size, 7, none⟩) kz).trans k7
  replace kf7 := (hb.frozen (p := ⟨w.heap.size, 7, none⟩) kz).trans kf7
  replace k8 := (hb.cell (p := ⟨w.heap.size, 8, none⟩) kz).trans k8
  replace kf8 := (hb.frozen (p := ⟨w.heap.size, 8, none⟩) kz).trans kf8
  replace k9 := (hb.cell (p := ⟨w.heap.size, 9, none⟩) kz).trans k9
  replace kf9 := (hb.frozen (p := ⟨w.heap.size, 9, none⟩) kz).trans kf9
  replace k10 := (hb.cell (p := ⟨w.heap.size, 10, none⟩) kz).trans k10
  replace kf10 := (hb.frozen (p := ⟨w.heap.size, 10, none⟩) kz).trans kf10
  replace k11 := (hb.cell (p := ⟨w.heap.size, 11, none⟩) kz).trans k11
  replace kf11 := (hb.frozen (p := ⟨w.heap.size, 11, none⟩) kz).trans kf11
  replace kz := Nat.lt_of_lt_of_le kz hb.size
  replace HB := Lib.hid (HB.out.trans (hb.mono HB.out.size))
  obtain ⟨g1, hz1, _, _, _⟩ := By.own_bytes hown
  have HZ := Lib.hid hz1
  clear hown hb hz1
  go_wp2_with fail
  refine (HTK.out w1 A1 c1 g1 HB.out HZ.out).mono ?_
  rintro e w2 ⟨hh, rfl, hat, hb⟩
  replace k0 := (hb.cell (p := ⟨w.heap.size, 0, none⟩) kz).trans k0
  replace kf0 := (hb.frozen (p := ⟨w.heap.size, 0, none⟩) kz).trans kf0
  replace k1 := (hb.cell (p := ⟨w.heap.size, 1, none⟩) kz).trans k1
  replace kf1 := (hb.frozen (p := ⟨w.heap.size, 1, none⟩) kz).trans kf1
  replace k2 := (hb.cell (p := ⟨w.heap.size, 2, none⟩) kz).trans k2
  replace kf2 := (hb.frozen (p := ⟨w.heap.size, 2, none⟩) kz).trans kf2
  replace k3 := (hb.cell (p := ⟨w.heap.size, 3, none⟩) kz).trans k3
  replace kf3 := (hb.frozen (p := ⟨w.heap.size, 3, none⟩) kz).trans kf3
  replace k4 := (hb.cell (p := ⟨w.heap.size, 4, none⟩) kz).trans k4
  replace kf4 := (hb.frozen (p := ⟨w.heap.size, 4, none⟩) kz).trans kf4
  replace k5 := (hb.cell (p := ⟨w.heap.size, 5, none⟩) kz).trans k5
  replace kf5 := (hb.frozen (p := ⟨w.heap.size, 5, none⟩) kz).trans kf5
  replace k6 := (hb.cell (p := ⟨w.heap.size, 6, none⟩) kz).trans k6
  replace kf6 := (hb.frozen (p := ⟨w.heap.size, 6, none⟩) kz).trans kf6
  replace k7 := (hb.cell (p := ⟨w.heap.size, 7, none⟩) kz).trans k7
  replace kf7 := (hb.frozen (p := ⟨w.heap.size, 7, none⟩) kz).trans kf7
  replace k8 := (hb.cell (p := ⟨w.heap.size, 8, none⟩) kz).trans k8
  replace kf8 := (hb.frozen (p := ⟨w.heap.size, 8, none⟩) kz).trans kf8
  replace k9 := (hb.cell (p := ⟨w.heap.size, 9, none⟩) kz).trans k9
  replace kf9 := (hb.frozen (p := ⟨w.heap.size, 9, none⟩) kz).trans kf9
  replace k10 := (hb.cell (p := ⟨w.heap.size, 10, none⟩) kz).trans k10
  replace kf10 := (hb.frozen (p := ⟨w.heap.size, 10, none⟩) kz).trans kf10
  replace k11 := (hb.cell (p := ⟨w.heap.size, 11, none⟩) kz).trans k11
  replace kf11 := (hb.frozen (p := ⟨w.heap.size, 11, none⟩) kz).trans kf11
  replace kz := Nat.lt_of_lt_of_le kz hb.size
  replace HB := Lib.hid (HB.out.trans (hb.mono HB.out.size))
  replace HZ := Lib.hid (HZ.out.keep hb)
  have HAT := Lib.hid hat
  clear hat hb HTK
  go_upto_region 4 with fail
  have j0 : (w2.alloc (.cells #[.int .i64 3, .string ⟨#[48]⟩, .string ⟨#[48, 49]⟩, .slice hh.kA 0 hh.kc, .int .i64 0, .slice hh.mA 0 hh.mc, .slice hh.cA 0 hh.cc, .slice hh.rA 0 hh.rc, .slice hh.zA 0 hh.zc, .slice hh.iA 0 hh.ic, .bool false, .slice hh.fA 0 hh.fc] 45)).cell? ⟨w2.heap.size, 0, none⟩ = some (.int .i64 3) := by simp [go_sem]
  have jf0 : (w2.alloc (.cells #[.int .i64 3, .string ⟨#[48]⟩, .string ⟨#[48, 49]⟩, .slice hh.kA 0 hh.kc, .int .i64 0, .slice hh.mA 0 hh.mc, .slice hh.cA 0 hh.cc, .slice hh.rA 0 hh.rc, .slice hh.zA 0 hh.zc, .slice hh.iA 0 hh.ic, .bool false, .slice hh.fA 0 hh.fc] 45)).frozen? ⟨w2.heap.size, 0, none⟩ = false := by simp [go_sem]
  have j1 : (w2.alloc (.cells #[.int .i64 3, .string ⟨#[48]⟩, .string ⟨#[48, 49]⟩, .slice hh.kA 0 hh.kc, .int .i64 0, .slice hh.mA 0 hh.mc, .slice hh.cA 0 hh.cc, .slice hh.rA 0 hh.rc, .slice hh.zA 0 hh.zc, .slice hh.iA 0 hh.ic, .bool false, .slice hh.fA 0 hh.fc] 45)).cell? ⟨w2.heap.size, 1, none⟩ = some (.string ⟨#[48]⟩) := by simp [go_sem]
  have jf1 : (w2.alloc (.cells #[.int .i64 3, .string ⟨#[48]⟩, .string ⟨#[48, 49]⟩, .slice hh.kA 0 hh.kc, .int .i64 0, .slice hh.mA 0 hh.mc, .slice hh.cA 0 hh.cc, .slice hh.rA 0 hh.rc, .slice hh.zA 0 hh.zc, .slice hh.iA 0 hh.ic, .bool false, .slice hh.fA 0 hh.fc] 45)).frozen? ⟨w2.heap.size, 1, none⟩ = false := by simp [go_sem]
  have j2 : (w2.alloc (.cells #[.int .i64 3, .string ⟨#[48]⟩, .string ⟨#[48, 49]⟩, .slice hh.kA 0 hh.kc, .int .i64 0, .slice hh.mA 0 hh.mc, .slice hh.cA 0 hh.cc, .slice hh.rA 0 hh.rc, .slice hh.zA 0 hh.zc, .slice hh.iA 0 hh.ic, .bool false, .slice hh.fA 0 hh.fc] 45)).cell? ⟨w2.heap.size, 2, none⟩ = some (.string ⟨#[48, 49]⟩) := by simp [go_sem]
  have jf2 : (w2.alloc (.cells #[.int .i64 3, .string ⟨#[48]⟩, .string ⟨#[48, 49]⟩, .slice hh.kA 0 hh.kc, .int .i64 0, .slice hh.mA 0 hh.mc, .slice hh.cA 0 hh.cc, .slice hh.rA 0 hh.rc, .slice hh.zA 0 hh.zc, .slice hh.iA 0 hh.ic, .bool false, .slice hh.fA 0 hh.fc] 45)).frozen? ⟨w2.heap.size, 2, none⟩ = false := by simp [go_sem]
  have j3 : (w2.alloc (.cells #[.int .i64 3, .string ⟨#[48]⟩, .string ⟨#[48, 49]⟩, .slice hh.kA 0 hh.kc, .int .i64 0, .slice hh.mA 0 hh.mc, .slice hh.cA 0 hh.cc, .slice hh.rA 0 hh.rc, .slice hh.zA 0 hh.zc, .slice hh.iA 0 hh.ic, .bool false, .slice hh.fA 0 hh.fc] 45)).cell? ⟨w2.heap.size, 3, none⟩ = some (.slice hh.kA 0 hh.kc) := by simp [go_sem]
  have jf3 : (w2.alloc (.cells #[.int .i64 3, .string ⟨#[48]⟩, .string ⟨#[48, 49]⟩, .slice hh.kA 0 hh.kc, .int .i64 0, .slice hh.mA 0 hh.mc, .slice hh.cA 0 hh.cc, .slice hh.rA 0 hh.rc, .slice hh.zA 0 hh.zc, .slice hh.iA 0 hh.ic, .bool false, .slice hh.fA 0 hh.fc] 45)).frozen? ⟨w2.heap.size, 3, none⟩ = false := by simp [go_sem]
  have j4 : (w2.alloc (.cells #[.int .i64 3, .string ⟨#[48]⟩, .string ⟨#[48, 49]⟩, .slice hh.kA 0 hh.kc, .int .i64 0, .slice hh.mA 0 hh.mc, .slice hh.cA 0 hh.cc, .slice hh.rA 0 hh.rc, .slice hh.zA 0 hh.zc, .slice hh.iA 0 hh.ic, .bool false, .slice hh.fA 0 hh.fc] 45)).cell? ⟨w2.heap.size, 4, none⟩ = some (.int .i64 0) := by simp [go_sem]
  have jf4 : (w2.alloc (.cells #[.int .i64 3, .string ⟨#[48]⟩, .string ⟨#[48, 49]⟩, .slice hh.kA 0 hh.kc, .int .i64 0, .slice hh.mA 0 hh.mc, .slice hh.cA 0 hh.cc, .slice hh.rA 0 hh.rc, .slice hh.zA 0 hh.zc, .slice hh.iA 0 hh.ic, .bool false, .slice hh.fA 0 hh.fc] 45)).frozen? ⟨w2.heap.size, 4, none⟩ = false := by simp [go_sem]
  have j5 : (w2.alloc (.cells #[.int .i64 3, .string ⟨#[48]⟩, .string ⟨#[48, 49]⟩, .slice hh.kA 0 hh.kc, .int .i64 0, .slice hh.mA 0 hh.mc, .slice hh.cA 0 hh.cc, .slice hh.rA 0 hh.rc, .slice hh.zA 0 hh.zc, .slice hh.iA 0 hh.ic, .bool false, .slice hh.fA 0 hh.fc] 45)).cell? ⟨w2.heap.size, 5, none⟩ = some (.slice hh.mA 0 hh.mc) := by simp [go_sem]
  have jf5 : (w2.alloc (.cells #[.int .i64 3, .string ⟨#[48]⟩, .string ⟨#[48, 49]⟩, .slice hh.kA 0 hh.kc, .int .i64 0, .slice hh.mA 0 hh.mc, .slice hh.cA 0 hh.cc, .slice hh.rA 0 hh.rc, .slice hh.zA 0 hh.zc, .slice hh.iA 0 hh.ic, .bool false, .slice hh.fA 0 hh.fc] 45)).frozen? ⟨w2.heap.size, 5, none⟩ = false := by simp [go_sem]
  have j6 : (w2.alloc (.cells #[.int .i64 3, .string ⟨#[48]⟩, .string ⟨#[48, 49]⟩, .slice hh.kA 0 hh.kc, .int .i64 0, .slice hh.mA 0 hh.mc, .slice hh.cA 0 hh.cc, .slice hh.rA 0 hh.rc, .slice hh.zA 0 hh.zc, .slice hh.iA 0 hh.ic, .bool false, .slice hh.fA 0 hh.fc] 45)).cell? ⟨w2.heap.size, 6, none⟩ = some (.slice hh.cA 0 hh.cc) := by simp [go_sem]
  have jf6 : (w2.alloc (.cells #[.int .i64 3, .string ⟨#[48]⟩, .string ⟨#[48, 49]⟩, .slice hh.kA 0 hh.kc, .int .i64 0, .slice hh.mA 0 hh.mc, .slice hh.cA 0 hh.cc, .slice hh.rA 0 hh.rc, .slice hh.zA 0 hh.zc, .slice hh.iA 0 hh.ic, .bool false, .slice hh.fA 0 hh.fc] 45)).frozen? ⟨w2.heap.size, 6, none⟩ = false := by simp [go_sem]
  have j7 : (w2.alloc (.cells #[.int .i64 3, .string ⟨#[48]⟩, .string ⟨#[48, 49]⟩, .slice hh.kA 0 hh.kc, .int .i64 0, .slice hh.mA 0 hh.mc, .slice hh.cA 0 hh.cc, .slice hh.rA 0 hh.rc, .slice hh.zA 0 hh.zc, .slice hh.iA 0 hh.ic, .bool false, .slice hh.fA 0 hh.fc] 45)).cell? ⟨w2.heap.size, 7, none⟩ = some (.slice hh.rA 0 hh.rc) := by simp [go_sem]
  have jf7 : (w2.alloc (.cells #[.int .i64 3, .string ⟨#[48]⟩, .string ⟨#[48, 49]⟩, .slice hh.kA 0 hh.kc, .int .i64 0, .slice hh.mA 0 hh.mc, .slice hh.cA 0 hh.cc, .slice hh.rA 0 hh.rc, .slice hh.zA 0 hh.zc, .slice hh.iA 0 hh.ic, .bool false, .slice hh.fA 0 hh.fc] 45)).frozen? ⟨w2.heap.size, 7, none⟩ = false := by simp [go_sem]
  have j8 : (w2.alloc (.cells #[.int .i64 3, .string ⟨#[48]⟩, .string ⟨#[48, 49]⟩, .slice hh.kA 0 hh.kc, .int .i64 0, .slice hh.mA 0 hh.mc, .slice hh.cA 0 hh.cc, .slice hh.rA 0 hh.rc, .slice hh.zA 0 hh.zc, .slice hh.iA 0 hh.ic, .bool false, .slice hh.fA 0 hh.fc] 45)).cell? ⟨w2.heap.size, 8, none⟩ = some (.slice hh.zA 0 hh.zc) := by simp [go_sem]
  have jf8 : (w2.alloc (.cells #[.int .i64 3, .string ⟨#[48]⟩, .string ⟨#[48, 49]⟩, .slice hh.kA 0 hh.kc, .int .i64 0, .slice hh.mA 0 hh.mc, .slice hh.cA 0 hh.cc, .slice hh.rA 0 hh.rc, .slice hh.zA 0 hh.zc, .slice hh.iA 0 hh.ic, .bool false, .slice hh.fA 0 hh.fc] 45)).frozen? ⟨w2.heap.size, 8, none⟩ = false := by simp [go_sem]
  have j9 : (w2.alloc (.cells #[.int .i64 3, .string ⟨#[48]⟩, .string ⟨#[48, 49]⟩, .slice hh.kA 0 hh.kc, .int .i64 0, .slice hh.mA 0 hh.mc, .slice hh.cA 0 hh.cc, .slice hh.rA 0 hh.rc, .slice hh.zA 0 hh.zc, .slice hh.iA 0 hh.ic, .bool false, .slice hh.fA 0 hh.fc] 45)).cell? ⟨w2.heap.size, 9, none⟩ = some (.slice hh.iA 0 hh.ic) := by simp [go_sem]
  have jf9 : (w2.alloc (.cells #[.int .i64 3, .string ⟨#[48]⟩, .string ⟨#[48, 49]⟩, .slice hh.kA 0 hh.kc, .int .i64 0, .slice hh.mA 0 hh.mc, .slice hh.cA 0 hh.cc, .slice hh.rA 0 hh.rc, .slice hh.zA 0 hh.zc, .slice hh.iA 0 hh.ic, .bool false, .slice hh.fA 0 hh.fc] 45)).frozen? ⟨w2.heap.size, 9, none⟩ = false := by simp [go_sem]
  have j10 : (w2.alloc (.cells #[.int .i64 3, .string ⟨#[48]⟩, .string ⟨#[48, 49]⟩, .slice hh.kA 0 hh.kc, .int .i64 0, .slice hh.mA 0 hh.mc, .slice hh.cA 0 hh.cc, .slice hh.rA 0 hh.rc, .slice hh.zA 0 hh.zc, .slice hh.iA 0 hh.ic, .bool false, .slice hh.fA 0 hh.fc] 45)).cell? ⟨w2.heap.size, 10, none⟩ = some (.bool false) := by simp [go_sem]
  have jf10 : (w2.alloc (.cells #[.int .i64 3, .string ⟨#[48]⟩, .string ⟨#[48, 49]⟩, .slice hh.kA 0 hh.kc, .int .i64 0, .slice hh.mA 0 hh.mc, .slice hh.cA 0 hh.cc, .slice hh.rA 0 hh.rc, .slice hh.zA 0 hh.zc, .slice hh.iA 0 hh.ic, .bool false, .slice hh.fA 0 hh.fc] 45)).frozen? ⟨w2.heap.size, 10, none⟩ = false := by simp [go_sem]
  have j11 : (w2.alloc (.cells #[.int .i64 3, .string ⟨#[48]⟩, .string ⟨#[48, 49]⟩, .slice hh.kA 0 hh.kc, .int .i64 0, .slice hh.mA 0 hh.mc, .slice hh.cA 0 hh.cc, .slice hh.rA 0 hh.rc, .slice hh.zA 0 hh.zc, .slice hh.iA 0 hh.ic, .bool false, .slice hh.fA 0 hh.fc] 45)).cell? ⟨w2.heap.size, 11, none⟩ = some (.slice hh.fA 0 hh.fc) := by simp [go_sem]
  have jf11 : (w2.alloc (.cells #[.int .i64 3, .string ⟨#[48]⟩, .string ⟨#[48, 49]⟩, .slice hh.kA 0 hh.kc, .int .i64 0, .slice hh.mA 0 hh.mc, .slice hh.cA 0 hh.cc, .slice hh.rA 0 hh.rc, .slice hh.zA 0 hh.zc, .slice hh.iA 0 hh.ic, .bool false, .slice hh.fA 0 hh.fc] 45)).frozen? ⟨w2.heap.size, 11, none⟩ = false := by simp [go_sem]
  have jz : w2.heap.size < (w2.alloc (.cells #[.int .i64 3, .string ⟨#[48]⟩, .string ⟨#[48, 49]⟩, .slice hh.kA 0 hh.kc, .int .i64 0, .slice hh.mA 0 hh.mc, .slice hh.cA 0 hh.cc, .slice hh.rA 0 hh.rc, .slice hh.zA 0 hh.zc, .slice hh.iA 0 hh.ic, .bool false, .slice hh.fA 0 hh.fc] 45)).heap.size := by simp <;> omega
  have hb : Below w2.heap.size w2 (w2.alloc (.cells #[.int .i64 3, .string ⟨#[48]⟩, .string ⟨#[48, 49]⟩, .slice hh.kA 0 hh.kc, .int .i64 0, .slice hh.mA 0 hh.mc, .slice hh.cA 0 hh.cc, .slice hh.rA 0 hh.rc, .slice hh.zA 0 hh.zc, .slice hh.iA 0 hh.ic, .bool false, .slice hh.fA 0 hh.fc] 45)) := (Below.refl _ _).alloc (Nat.le_refl _) _
  replace k0 := (hb.cell (p := ⟨w.heap.size, 0, none⟩) kz).trans k0
  replace kf0 := (hb.frozen (p := ⟨w.heap.size, 0, none⟩) kz).trans kf0
  replace k1 := (hb.cell (p := ⟨w.heap.size, 1, none⟩) kz).trans k1
  replace kf1 := (hb.frozen (p := ⟨w.heap.size, 1, none⟩) kz).trans kf1
  replace k2 := (hb.cell (p := ⟨w.heap.size, 2, none⟩) kz).trans k2
  replace kf2 := (hb.frozen (p := ⟨w.heap.size, 2, none⟩) kz).trans kf2
  replace k3 := (hb.cell (p := ⟨w.heap.size, 3, none⟩) kz).trans k3
  replace kf3 := (hb.frozen (p := ⟨w.heap.size, 3, none⟩) kz).trans kf3
  replace k4 := (hb.cell (p := ⟨w.heap.size, 4, none⟩) kz).trans k4
  replace kf4 := (hb.frozen (p := ⟨w.heap.size, 4, none⟩) kz).trans kf4
  replace k5 := (hb.cell (p := ⟨w.heap.size, 5, none⟩) kz).trans k5
  replace kf5 := (hb.frozen (p := ⟨w.heap.size, 5, none⟩) kz).trans kf5
  replace k6 := (hb.cell (p := ⟨w.heap.size, 6, none⟩) kz).trans k6
  replace kf6 := (hb.frozen (p := ⟨w.heap.size, 6, none⟩) kz).trans kf6
  replace k7 := (hb.cell (p := ⟨w.heap.size, 7, none⟩) kz).trans k7
  replace kf7 := (hb.frozen (p := ⟨w.heap.size, 7, none⟩) kz).trans kf7
  replace k8 := (hb.cell (p := ⟨w.heap.size, 8, none⟩) kz).trans k8
  replace kf8 := (hb.frozen (p := ⟨w.heap.size, 8, none⟩) kz).trans kf8
  replace k9 := (hb.cell (p := ⟨w.heap.size, 9, none⟩) kz).trans k9
  replace kf9 := (hb.frozen (p := ⟨w.heap.size, 9, none⟩) kz).trans kf9
  replace k10 := (hb.cell (p := ⟨w.heap.size, 10, none⟩) kz).trans k10
  replace kf10 := (hb.frozen (p := ⟨w.heap.size, 10, none⟩) kz).trans kf10
  replace k11 := (hb.cell (p := ⟨w.heap.size, 11, none⟩) kz).trans k11
  replace kf11 := (hb.frozen (p := ⟨w.heap.size, 11, none⟩) kz).trans kf11
  replace kz := Nat.lt_of_lt_of_le kz hb.size
  replace HB := Lib.hid (HB.out.trans (hb.mono HB.out.size))
  replace HZ := Lib.hid (HZ.out.keep hb)
  replace HAT := Lib.hid ((HAT.out.keep hb).more hb.size)
  clear hb
  generalize (w2.alloc (.cells #[.int .i64 3, .string ⟨#[48]⟩, .string ⟨#[48, 49]⟩, .slice hh.kA 0 hh.kc, .int .i64 0, .slice hh.mA 0 hh.mc, .slice hh.cA 0 hh.cc, .slice hh.rA 0 hh.rc, .slice hh.zA 0 hh.zc, .slice hh.iA 0 hh.ic, .bool false, .slice hh.fA 0 hh.fc] 45)) = W2 at *
  generalize hX : w2.heap.size = X at *
  have hb : Below W2.heap.size W2 (W2.alloc (.cells #[.int .u8 0] 5)) := (Below.refl _ _).alloc (Nat.le_refl _) _
  have HZ0 : Hid (By.BytesAt (W2.alloc (.cells #[.int .u8 0] 5)) W2.heap.size (some ⟨W2.heap.size, 0, none⟩) 1 [0]) := By.one_byte (x := 0) (by rfl) (heap_alloc_new W2 _)
  replace k0 := (hb.cell (p := ⟨w.heap.size, 0, none⟩) kz).trans k0
  replace kf0 := (hb.frozen (p := ⟨w.heap.size, 0, none⟩) kz).trans kf0
  replace k1 := (hb.cell (p := ⟨w.heap.size, 1, none⟩) kz).trans k1
  replace kf1 := (hb.frozen (p := ⟨w.heap.size, 1, none⟩) kz).trans kf1
  replace k2 := (hb.cell (p := ⟨w.heap.size, 2, none⟩) kz).trans k2
  replace kf2 := (hb.frozen (p := ⟨w.heap.size, 2, none⟩) kz).trans kf2
  replace k3 := (hb.cell (p := ⟨w.heap.size, 3, none⟩) kz).trans k3
  replace kf3 := (hb.frozen (p := ⟨w.heap.size, 3, none⟩) kz).trans kf3
  replace k4 := (hb.cell (p := ⟨w.heap.size, 4, none⟩) kz).trans k4
  replace kf4 := (hb.frozen (p := ⟨w.heap.size, 4, none⟩) kz).trans kf4
  replace k5 := (hb.cell (p := ⟨w.heap.size, 5, none⟩) kz).trans k5
  replace kf5 := (hb.frozen (p := ⟨w.heap.size, 5, none⟩) kz).trans kf5
  replace k6 := (hb.cell (p := ⟨w.heap.size, 6, none⟩) kz).trans k6
  replace kf6 := (hb.frozen (p := ⟨w.heap.size, 6, none⟩) kz).trans kf6
  replace k7 := (hb.cell (p := ⟨w.heap.size, 7, none⟩) kz).trans k7
  replace kf7 := (hb.frozen (p := ⟨w.heap.size, 7, none⟩) kz).trans kf7
  replace k8 := (hb.cell (p := ⟨w.heap.size, 8, none⟩) kz).trans k8
  replace kf8 := (hb.frozen (p := ⟨w.heap.size, 8, none⟩) kz).trans kf8
  replace k9 := (hb.cell (p := ⟨w.heap.size, 9, none⟩) kz).trans k9
  replace kf9 := (hb.frozen (p := ⟨w.heap.size, 9, none⟩) kz).trans kf9
  replace k10 := (hb.cell (p := ⟨w.heap.size, 10, none⟩) kz).trans k10
  replace kf10 := (hb.frozen (p := ⟨w.heap.size, 10, none⟩) kz).trans kf10
  replace k11 := (hb.cell (p := ⟨w.heap.size, 11, none⟩) kz).trans k11
  replace kf11 := (hb.frozen (p := ⟨w.heap.size, 11, none⟩) kz).trans kf11
  replace kz := Nat.lt_of_lt_of_le kz hb.size
  replace j0 := (hb.cell (p := ⟨X, 0, none⟩) jz).trans j0
  replace jf0 := (hb.frozen (p := ⟨X, 0, none⟩) jz).trans jf0
  replace j1 := (hb.cell (p := ⟨X, 1, none⟩) jz).trans j1
  replace jf1 := (hb.frozen (p := ⟨X, 1, none⟩) jz).trans jf1
  replace j2 := (hb.cell (p := ⟨X, 2, none⟩) jz).trans j2
  replace jf2 := (hb.frozen (p := ⟨X, 2, none⟩) jz).trans jf2
  replace j3 := (hb.cell (p := ⟨X, 3, none⟩) jz).trans j3
  replace jf3 := (hb.frozen (p := ⟨X, 3, none⟩) jz).trans jf3
  replace j4 := (hb.cell (p := ⟨X, 4, none⟩) jz).trans j4
  replace jf4 := (hb.frozen (p := ⟨X, 4, none⟩) jz).trans jf4
  replace j5 := (hb.cell (p := ⟨X, 5, none⟩) jz).trans j5
  replace jf5 := (hb.frozen (p := ⟨X, 5, none⟩) jz).trans jf5
  replace j6 := (hb.cell (p := ⟨X, 6, none⟩) jz).trans j6
  replace jf6 := (hb.frozen (p := ⟨X, 6, none⟩) jz).trans jf6
  replace j7 := (hb.cell (p := ⟨X, 7, none⟩) jz).trans j7
  replace jf7 := (hb.frozen (p := ⟨X, 7, none⟩) jz).trans jf7
  replace j8 := (hb.cell (p := ⟨X, 8, none⟩) jz).trans j8
  replace jf8 := (hb.frozen (p := ⟨X, 8, none⟩) jz).trans jf8
  replace j9 := (hb.cell (p := ⟨X, 9, none⟩) jz).trans j9
  replace jf9 := (hb.frozen (p := ⟨X, 9, none⟩) jz).trans jf9
  replace j10 := (hb.cell (p := ⟨X, 10, none⟩) jz).trans j10
  replace jf10 := (hb.frozen (p := ⟨X, 10, none⟩) jz).trans jf10
  replace j11 := (hb.cell (p := ⟨X, 11, none⟩) jz).trans j11
  replace jf11 := (hb.frozen (p := ⟨X, 11, none⟩) jz).trans jf11
  replace jz := Nat.lt_of_lt_of_le jz hb.size
  replace HB := Lib.hid (HB.out.trans (hb.mono HB.out.size))
  replace HZ := Lib.hid (HZ.out.keep hb)
  replace HAT := Lib.hid ((HAT.out.keep hb).more hb.size)
  clear hb
  go_wp2_with fail
  refine (HT0.out (W2.alloc (.cells #[.int .u8 0] 5)) _ _ HB.out HZ0.out).mono ?_
  rintro e w3 ⟨h3, rfl, _, hb⟩
  replace k0 := (hb.cell (p := ⟨w.heap.size, 0, none⟩) kz).trans k0
  replace kf0 := (hb.frozen (p := ⟨w.heap.size, 0, none⟩) kz).trans kf0
  replace k1 := (hb.cell (p := ⟨w.heap.size, 1, none⟩) kz).trans k1
  replace kf1 := (hb.frozen (p := ⟨w.heap.size, 1, none⟩) kz).trans kf1
  replace k2 := (hb.cell (p := ⟨w.heap.size, 2, none⟩) kz).trans k2
  replace kf2 := (hb.frozen (p := ⟨w.heap.size, 2, none⟩) kz).trans kf2
  replace k3 := (hb.cell (p := ⟨w.heap.size, 3, none⟩) kz).trans k3
  replace kf3 := (hb.frozen (p := ⟨w.heap.size, 3, none⟩) kz).trans kf3
  replace k4 := (hb.cell (p := ⟨w.heap.size, 4, none⟩) kz).trans k4
  replace kf4 := (hb.frozen (p := ⟨w.heap.size, 4, none⟩) kz).trans kf4
  replace k5 := (hb.cell (p := ⟨w.heap.size, 5, none⟩) kz).trans k5
  replace kf5 := (hb.frozen (p := ⟨w.heap.size, 5, none⟩) kz).trans kf5
  replace k6 := (hb.cell (p := ⟨w.heap.size, 6, none⟩) kz).trans k6
  replace kf6 := (hb.frozen (p := ⟨w.heap.size, 6, none⟩) kz).trans kf6
  replace k7 := (hb.cell (p := ⟨w.heap.size, 7, none⟩) kz).trans k7
  replace kf7 := (hb.frozen (p := ⟨w.heap.size, 7, none⟩) kz).trans kf7
  replace k8 := (hb.cell (p := ⟨w.heap.size, 8, none⟩) kz).trans k8
  replace kf8 := (hb.frozen (p := ⟨w.heap.size, 8, none⟩) kz).trans kf8
  replace k9 := (hb.cell (p := ⟨w.heap.size, 9, none⟩) kz).trans k9
  replace kf9 := (hb.frozen (p := ⟨w.heap.size, 9, none⟩) kz).trans kf9
  replace k10 := (hb.cell (p := ⟨w.heap.size, 10, none⟩) kz).trans k10
  replace kf10 := (hb.frozen (p := ⟨w.heap.size, 10, none⟩) kz).trans kf10
  replace k11 := (hb.cell (p := ⟨w.heap.size, 11, none⟩) kz).trans k11
  replace kf11 := (hb.frozen (p := ⟨w.heap.size, 11, none⟩) kz).trans kf11
  replace kz := Nat.lt_of_lt_of_le kz hb.size
  replace j0 := (hb.cell (p := ⟨X, 0, none⟩) jz).trans j0
  replace jf0 := (hb.frozen (p := ⟨X, 0, none⟩) jz).trans jf0
  replace j1 := (hb.cell (p := ⟨X, 1, none⟩) jz).trans j1
  replace jf1 := (hb.frozen (p := ⟨X, 1, none⟩) jz).trans jf1
  replace j2 := (hb.cell (p := ⟨X, 2, none⟩) jz).trans j2
  replace jf2 := (hb.frozen (p := ⟨X, 2, none⟩) jz).trans jf2
  replace j3 := (hb.cell (p := ⟨X, 3, none⟩) jz).trans j3
  replace jf3 := (hb.frozen (p := ⟨X, 3, none⟩) jz).trans jf3
  replace j4 := (hb.cell (p := ⟨X, 4, none⟩) jz).trans j4
  replace jf4 := (hb.frozen (p := ⟨X, 4, none⟩) jz).trans jf4
  replace j5 := (hb.cell (p := ⟨X, 5, none⟩) jz).trans j5
  replace jf5 := (hb.frozen (p := ⟨X, 5, none⟩) jz).trans jf5
  replace j6 := (hb.cell (p := ⟨X, 6, none⟩) jz).trans j6
  replace jf6 := (hb.frozen (p := ⟨X, 6, none⟩) jz).trans jf6
  replace j7 := (hb.cell (p := ⟨X, 7, none⟩) jz).trans j7
  replace jf7 := (hb.frozen (p := ⟨X, 7, none⟩) jz).trans jf7
  replace j8 := (hb.cell (p := ⟨X, 8, none⟩) jz).trans j8
  replace jf8 := (hb.frozen (p := ⟨X, 8, none⟩) jz).trans jf8
  replace j9 := (hb.cell (p := ⟨X, 9, none⟩) jz).trans j9
  replace jf9 := (hb.frozen (p := ⟨X, 9, none⟩) jz).trans jf9
  replace j10 := (hb.cell (p := ⟨X, 10, none⟩) jz).trans j10
  replace jf10 := (hb.frozen (p := ⟨X, 10, none⟩) jz).trans jf10
  replace j11 := (hb.cell (p := ⟨X, 11, none⟩) jz).trans j11
  replace jf11 := (hb.frozen (p := ⟨X, 11, none⟩) jz).trans jf11
  replace jz := Nat.lt_of_lt_of_le jz hb.size
  replace HB := Lib.hid (HB.out.trans (hb.mono HB.out.size))
  replace HZ := Lib.hid (HZ.out.keep hb)
  replace HAT := Lib.hid ((HAT.out.keep hb).more hb.size)
  clear hb HZ0 HT0
  go_upto_region 5 with fail
  have hb : Below w3.heap.size w3 (w3.alloc (.cells #[.int .i64 0, .string ⟨#[]⟩, .string ⟨#[]⟩, .slice h3.kA 0 h3.kc, .int .i64 0, .slice h3.mA 0 h3.mc, .slice h3.cA 0 h3.cc, .slice h3.rA 0 h3.rc, .slice h3.zA 0 h3.zc, .slice h3.iA 0 h3.ic, .bool false, .slice h3.fA 0 h3.fc] 45)) := (Below.refl _ _).alloc (Nat.le_refl _) _
  replace k0 := (hb.cell (p := ⟨w.heap.size, 0, none⟩) kz).trans k0
  replace kf0 := (hb.frozen (p := ⟨w.heap.size, 0, none⟩) kz).trans kf0
  replace k1 := (hb.cell (p := ⟨w.heap.size, 1, none⟩) kz).trans k1
  replace kf1 := (hb.frozen (p := ⟨w.heap.size, 1, none⟩) kz).trans kf1
  replace k2 := (hb.cell (p := ⟨w.heap.size, 2, none⟩) kz).trans k2
  replace kf2 := (hb.frozen (p := ⟨w.heap.size, 2, none⟩) kz).trans kf2
  replace k3 := (hb.cell (p := ⟨w.heap.size, 3, none⟩) kz).trans k3
  replace kf3 := (hb.frozen (p := ⟨w.heap.size, 3, none⟩) kz).trans kf3
  replace k4 := (hb.cell (p := ⟨w.heap.size, 4, none⟩) kz).trans k4
  replace kf4 := (hb.frozen (p := ⟨w.heap.size, 4, none⟩) kz).trans kf4
  replace k5 := (hb.cell (p := ⟨w.heap.size, 5, none⟩) kz).trans k5
  replace kf5 := (hb.frozen (p := ⟨w.heap.size, 5, none⟩) kz).trans kf5
  replace k6 := (hb.cell (p := ⟨w.heap.size, 6, none⟩) kz).trans k6
  replace kf6 := (hb.frozen (p := ⟨w.heap.size, 6, none⟩) kz).trans kf6
  replace k7 := (hb.cell (p := ⟨w.heap.size, 7, none⟩) kz).trans k7
  replace kf7 := (hb.frozen (p := ⟨w.heap.size, 7, none⟩) kz).trans kf7
  replace k8 := (hb.cell (p := ⟨w.heap.size, 8, none⟩) kz).trans k8
  replace kf8 := (hb.frozen (p := ⟨w.heap.size, 8, none⟩) kz).trans kf8
  replace k9 := (hb.cell (p := ⟨w.heap.size, 9, none⟩) kz).trans k9
  replace kf9 := (hb.frozen (p := ⟨w.heap.size, 9, none⟩) kz).trans kf9
  replace k10 := (hb.cell (p := ⟨w.heap.size, 10, none⟩) kz).trans k10
  replace kf10 := (hb.frozen (p := ⟨w.heap.size, 10, none⟩) kz).trans kf10
  replace k11 := (hb.cell (p := ⟨w.heap.size, 11, none⟩) kz).trans k11
  replace kf11 := (hb.frozen (p := ⟨w.heap.size, 11, none⟩) kz).trans kf11
  replace kz := Nat.lt_of_lt_of_le kz hb.size
  replace j0 := (hb.cell (p := ⟨X, 0, none⟩) jz).trans j0
  replace jf0 := (hb.frozen (p := ⟨X, 0, none⟩) jz).trans jf0
  replace j1 := (hb.cell (p := ⟨X, 1, none⟩) jz).trans j1
  replace jf1 := (hb.frozen (p := ⟨X, 1, none⟩) jz).trans jf1
  replace j2 := (hb.cell (p := ⟨X, 2, none⟩) jz).trans j2
  replace jf2 := (hb.frozen (p := ⟨X, 2, none⟩) jz).trans jf2
  replace j3 := (hb.cell (p := ⟨X, 3, none⟩) jz).trans j3
  replace jf3 := (hb.frozen (p := ⟨X, 3, none⟩) jz).trans jf3
  replace j4 := (hb.cell (p := ⟨X, 4, none⟩) jz).trans j4
  replace jf4 := (hb.frozen (p := ⟨X, 4, none⟩) jz).trans jf4
  replace j5 := (hb.cell (p := ⟨X, 5, none⟩) jz).trans j5
  replace jf5 := (hb.frozen (p := ⟨X, 5, none⟩) jz).trans jf5
  replace j6 := (hb.cell (p := ⟨X, 6, none⟩) jz).trans j6
  replace jf6 := (hb.frozen (p := ⟨X, 6, none⟩) jz).trans jf6
  replace j7 := (hb.cell (p := ⟨X, 7, none⟩) jz).trans j7
  replace jf7 := (hb.frozen (p := ⟨X, 7, none⟩) jz).trans jf7
  replace j8 := (hb.cell (p := ⟨X, 8, none⟩) jz).trans j8
  replace jf8 := (hb.frozen (p := ⟨X, 8, none⟩) jz).trans jf8
  replace j9 := (hb.cell (p := ⟨X, 9, none⟩) jz).trans j9
  replace jf9 := (hb.frozen (p := ⟨X, 9, none⟩) jz).trans jf9
  replace j10 := (hb.cell (p := ⟨X, 10, none⟩) jz).trans j10
  replace jf10 := (hb.frozen (p := ⟨X, 10, none⟩) jz).trans jf10
  replace j11 := (hb.cell (p := ⟨X, 11, none⟩) jz).trans j11
  replace jf11 := (hb.frozen (p := ⟨X, 11, none⟩) jz).trans jf11
  replace jz := Nat.lt_of_lt_of_le jz hb.size
  replace HB := Lib.hid (HB.out.trans (hb.mono HB.out.size))
  replace HZ := Lib.hid (HZ.out.keep hb)
  replace HAT := Lib.hid ((HAT.out.keep hb).more hb.size)
  clear hb
  generalize (w3.alloc (.cells #[.int .i64 0, .string ⟨#[]⟩, .string ⟨#[]⟩, .slice h3.kA 0 h3.kc, .int .i64 0, .slice h3.mA 0 h3.mc, .slice h3.cA 0 h3.cc, .slice h3.rA 0 h3.rc, .slice h3.zA 0 h3.zc, .slice h3.iA 0 h3.ic, .bool false, .slice h3.fA 0 h3.fc] 45)) = W3 at *
  have hcv : (convert 48 9 (.slice A1 7 c1)).run Tryz.prog W3 = .ok (.string ⟨#[3, 1, 48, 2, 48, 49, 0]⟩) W3 := by
    rw [← hcs]; exact By.run_text c1 HZ.out
  go_wp2_with fail
  refine (HS.out W3 hh HAT.out).mono ?_
  rintro e w4 ⟨rfl, hb⟩
  replace k0 := (hb.cell (p := ⟨w.heap.size, 0, none⟩) kz).trans k0
  replace kf0 := (hb.frozen (p := ⟨w.heap.size, 0, none⟩) kz).trans kf0
  replace k1 := (hb.cell (p := ⟨w.heap.size, 1, none⟩) kz).trans k1
  replace kf1 := (hb.frozen (p := ⟨w.heap.size, 1, none⟩) kz).trans kf1
  replace k2 := (hb.cell (p := ⟨w.heap.size, 2, none⟩) kz).trans k2
  replace kf2 := (hb.frozen (p := ⟨w.heap.size, 2, none⟩) kz).trans kf2
  replace k3 := (hb.cell (p := ⟨w.heap.size, 3, none⟩) kz).trans k3
  replace kf3 := (hb.frozen (p := ⟨w.heap.size, 3, none⟩) kz).trans kf3
  replace k4 := (hb.cell (p := ⟨w.heap.size, 4, none⟩) kz).trans k4
  replace kf4 := (hb.frozen (p := ⟨w.heap.size, 4, none⟩) kz).trans kf4
  replace k5 := (hb.cell (p := ⟨w.heap.size, 5, none⟩) kz).trans k5
  replace kf5 := (hb.frozen (p := ⟨w.heap.size, 5, none⟩) kz).trans kf5
  replace k6 := (hb.cell (p := ⟨w.heap.size, 6, none⟩) kz).trans k6
  replace kf6 := (hb.frozen (p := ⟨w.heap.size, 6, none⟩) kz).trans kf6
  replace k7 := (hb.cell (p := ⟨w.heap.size, 7, none⟩) kz).trans k7
  replace kf7 := (hb.frozen (p := ⟨w.heap.size, 7, none⟩) kz).trans kf7
  replace k8 := (hb.cell (p := ⟨w.heap.size, 8, none⟩) kz).trans k8
  replace kf8 := (hb.frozen (p := ⟨w.heap.size, 8, none⟩) kz).trans kf8
  replace k9 := (hb.cell (p := ⟨w.heap.size, 9, none⟩) kz).trans k9
  replace kf9 := (hb.frozen (p := ⟨w.heap.size, 9, none⟩) kz).trans kf9
  replace k10 := (hb.cell (p := ⟨w.heap.size, 10, none⟩) kz).trans k10
  replace kf10 := (hb.frozen (p := ⟨w.heap.size, 10, none⟩) kz).trans kf10
  replace k11 := (hb.cell (p := ⟨w.heap.size, 11, none⟩) kz).trans k11
  replace kf11 := (hb.frozen (p := ⟨w.heap.size, 11, none⟩) kz).trans kf11
  replace kz := Nat.lt_of_lt_of_le kz hb.size
  replace HB := Lib.hid (HB.out.trans (hb.mono HB.out.size))
  clear hb hcv
  go_wp2_with fail
  refine (HR.out w4).mono ?_
  rintro e w5 ⟨rfl, hb⟩
  replace HB := Lib.hid (HB.out.trans (hb.mono HB.out.size))
  clear hb
  go_wp2
  go_ret
  exact ⟨rfl, HB.out⟩
end Go.Proofs.YtbookbgfipbaoaaGreatDoor
