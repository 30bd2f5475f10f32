/- The law ZoneRights. -/
import Derived.Test.YtkklikkmpmlnbaaDoorZya
import Derived.Test.YtkklikkmpmlnbaaDoorZt
namespace Go.Proofs.YtkklikkmpmlnbaaDoor
open Go.RowKit

theorem few_in {rs : List RSt} (h : fewF rs = true) : (∀ r ∈ rs, SmallR r) ∧ rs.length ≤ 40 := by
  unfold fewF at h
  rw [Bool.and_eq_true, List.all_eq_true] at h
  exact ⟨fun r hr => good_small (h.1 r hr), of_decide_eq_true h.2⟩
theorem text_size (rs : List RSt) : (textF rs).size ≤ 2272 := by
  cases h : rightZ rs with
  | true => rw [tk_all h]; exact tk_size h _
  | false => unfold textF; rw [h, if_neg (by decide)]; decide
theorem parse_right (rs : List RSt) : rightZ (parseQ (textF rs)) = rightZ rs := by
  cases h : rightZ rs with
  | true => rw [parse_text h, h]
  | false => exact parse_none h
set_option maxRecDepth 100000 in
set_option maxHeartbeats 4000000 in
theorem zoneRights_walk (A : Option Addr) (n c : Nat) (rs : List RSt) (w : World) (hz : RowAt cellsR 4 w w.heap.size A n rs) (hn : n ≤ 9223372036854775807) (hg : Glob w) :
    Calls Tryd.prog 3 #[.slice A n c] w fun e w' => e = .returned (.bool true) ∧ Below w.heap.size w w' := by
  have HG := Lib.hid hg
  have HFW := Lib.hid (few_any A n c rs w.heap.size w hz hn)
  have HZ := Lib.hid hz
  have HLN := Lib.hid hz.1
  clear hz hg
  rcases hfw : fewF rs with _ | _
  · rw [hfw] at HFW
    clear hfw
    go_enter Tryd.func3, Tryd.ntmps3
    go_wp2_with fail
    refine HFW.out.mono ?_
    rintro e w1 ⟨rfl, rfl⟩
    go_wp2_with fail
    refine (told_any _ HG.out).mono ?_
    rintro e w2 ⟨rfl, hb⟩
    go_wp2
    go_ret
    exact ⟨rfl, hb⟩
  rw [hfw] at HFW
  have hfi := few_in hfw
  have HS := Lib.hid hfi.1
  have LX : Hid (LikeL (rs.map toS) rs) := to_like fun r hr => small_64 (HS.out r hr)
  have hn40 : n ≤ 40 := by have := HLN.out; omega
  have hts := text_size rs
  have hts' : (textF rs).size < 4294967281 := by omega
  have HPQ := Lib.hid (parse_right rs)
  have HTA := Lib.hid (fun (A' : Option Addr) (c' : Nat) (u : World) (h : RowAt cellsZ 3 u u.heap.size A' n (rs.map toS)) (g : Glob u) => text_any A' n c' (rs.map toS) rs u.heap.size u (Nat.le_refl _) h LX.out g)
  have HTR := Lib.hid (fun (u : World) (h : Below w.heap.size w u) => rtext_any A n c rs w.heap.size u h.size (HZ.out.keep h) hn)
  have HRR := Lib.hid (fun (u : World) (h : Below w.heap.size w u) => rright_any A n c rs w.heap.size u h.size (HZ.out.keep h) hn)
  have HRZ := Lib.hid (fun (A' : Option Addr) (c' : Nat) (u : World) (h : RowAt cellsZ 3 u u.heap.size A' n (rs.map toS)) => rightZ_any A' n c' (rs.map toS) rs u.heap.size u (Nat.le_refl _) h LX.out)
  have HPA := Lib.hid (fun (u : World) (g : Glob u) => parse_any (textF rs) u g hts')
  have HPT : Hid (rightZ rs = true → parseQ (textF rs) = rs) := parse_text
  have HPS : Hid (rightZ rs = true → 0 < rs.length) := fun h => (right_pos h).2
  have HBG := Lib.hid HG.out.big
  have heq : ((textF rs).toList == (textF rs).toList) = true := by simp
  clear hfw hfi hts hts'
  unfold ParseRet at HPA
  rw [HPQ.out] at HPA
  rcases hr : rightZ rs with _ | _
  · have hT : True := trivial
    rw [hr] at HRR HRZ HPA HPT HPS
    simp only [Bool.false_eq_true, if_false] at HPA
    clear HPT HPQ hr
    generalize textF rs = tx at *
    go_enter Tryd.func3, Tryd.ntmps3
    go_wp2_with fail
    refine HFW.out.mono ?_
    rintro e w1 ⟨rfl, rfl⟩
    have HB : Hid (Below w.heap.size w w) := Below.refl _ _
    go_wp2_with fail
    refine (calledZ (m := n) (by rw [List.length_map]; exact HLN.out) (to_any A n c rs w.heap.size _ (Nat.le_refl _) HZ.out (by omega))).mono ?_
    rintro e u1 ⟨A1, c1, rfl, hr, hb⟩
    have HX := Lib.hid hr
    clear hr
    replace HB := Lib.hid (HB.out.trans (hb.mono HB.out.size))
    clear hb
    go_wp2_with fail
    refine (HTA.out A1 c1 _ HX.out (HG.out.keep HB.out HBG.out)).mono ?_
    rintro e u2 ⟨rfl, hb⟩
    replace HX := Lib.hid ((HX.out.keep hb).more hb.size)
    replace HB := Lib.hid (HB.out.trans (hb.mono HB.out.size))
    clear hb
    go_wp2_with fail
    refine (HPA.out _ (HG.out.keep HB.out HBG.out)).mono ?_
    rintro e u3 ⟨A3, n3, c3, zs, rfl, hr, hl, hb⟩
    have HM := Lib.hid hr
    have HML := Lib.hid hl
    clear hr hl
    replace HX := Lib.hid ((HX.out.keep hb).more hb.size)
    replace HB := Lib.hid (HB.out.trans (hb.mono HB.out.size))
    clear hb
    go_wp2_with fail
    refine (HRR.out _ HB.out).mono ?_
    rintro e u4 ⟨rfl, hb⟩
    replace HX := Lib.hid ((HX.out.keep hb).more hb.size)
    replace HM := Lib.hid ((HM.out.keep hb).more hb.size)
    replace HB := Lib.hid (HB.out.trans (hb.mono HB.out.size))
    clear hb
    go_wp2_with fail
    refine (told_any _ (HG.out.keep HB.out HBG.out)).mono ?_
    rintro e u5 ⟨rfl, hb⟩
    replace HX := Lib.hid ((HX.out.keep hb).more hb.size)
    replace HM := Lib.hid ((HM.out.keep hb).more hb.size)
    replace HB := Lib.hid (HB.out.trans (hb.mono HB.out.size))
    clear hb
    go_wp2_with fail
    refine (HRZ.out A1 c1 _ HX.out).mono ?_
    rintro e u6 ⟨rfl, hb⟩
    replace HX := Lib.hid ((HX.out.keep hb).more hb.size)
    replace HM := Lib.hid ((HM.out.keep hb).more hb.size)
    replace HB := Lib.hid (HB.out.trans (hb.mono HB.out.size))
    clear hb
    go_wp2_with fail
    refine (HTA.out A1 c1 _ HX.out (HG.out.keep HB.out HBG.out)).mono ?_
    rintro e u7 ⟨rfl, hb⟩
    replace HX := Lib.hid ((HX.out.keep hb).more hb.size)
    replace HM := Lib.hid ((HM.out.keep hb).more hb.size)
    replace HB := Lib.hid (HB.out.trans (hb.mono HB.out.size))
    clear hb
    go_wp2_with fail
    refine (HTR.out _ HB.out).mono ?_
    rintro e u8 ⟨rfl, hb⟩
    replace HX := Lib.hid ((HX.out.keep hb).more hb.size)
    replace HM := Lib.hid ((HM.out.keep hb).more hb.size)
    replace HB := Lib.hid (HB.out.trans (hb.mono HB.out.size))
    clear hb
    go_wp2
    go_ret
    exact ⟨rfl, HB.out⟩
  · have hT : True := trivial
    rw [hr] at HRR HRZ HPA HPT HPS
    rw [HPT.out rfl] at HPA
    simp only [if_true] at HPA
    clear HPT HPQ hr
    generalize textF rs = tx at *
    go_enter Tryd.func3, Tryd.ntmps3
    go_wp2_with fail
    refine HFW.out.mono ?_
    rintro e w1 ⟨rfl, rfl⟩
    have HB : Hid (Below w.heap.size w w) := Below.refl _ _
    go_wp2_with fail
    refine (calledZ (m := n) (by rw [List.length_map]; exact HLN.out) (to_any A n c rs w.heap.size _ (Nat.le_refl _) HZ.out (by omega))).mono ?_
    rintro e u1 ⟨A1, c1, rfl, hr, hb⟩
    have HX := Lib.hid hr
    clear hr
    replace HB := Lib.hid (HB.out.trans (hb.mono HB.out.size))
    clear hb
    go_wp2_with fail
    refine (HTA.out A1 c1 _ HX.out (HG.out.keep HB.out HBG.out)).mono ?_
    rintro e u2 ⟨rfl, hb⟩
    replace HX := Lib.hid ((HX.out.keep hb).more hb.size)
    replace HB := Lib.hid (HB.out.trans (hb.mono HB.out.size))
    clear hb
    go_wp2_with fail
    refine (HPA.out _ (HG.out.keep HB.out HBG.out)).mono ?_
    rintro e u3 ⟨A3, n3, c3, zs, rfl, hr, hl, hb⟩
    have HM := Lib.hid hr
    have HML := Lib.hid hl
    clear hr hl
    replace HX := Lib.hid ((HX.out.keep hb).more hb.size)
    replace HB := Lib.hid (HB.out.trans (hb.mono HB.out.size))
    clear hb
    go_wp2_with fail
    refine (HRR.out _ HB.out).mono ?_
    rintro e u4 ⟨rfl, hb⟩
    replace HX := Lib.hid ((HX.out.keep hb).more hb.size)
    replace HM := Lib.hid ((HM.out.keep hb).more hb.size)
    replace HB := Lib.hid (HB.out.trans (hb.mono HB.out.size))
    clear hb
    go_wp2_with fail
    refine (told_any _ (HG.out.keep HB.out HBG.out)).mono ?_
    rintro e u5 ⟨rfl, hb⟩
    replace HX := Lib.hid ((HX.out.keep hb).more hb.size)
    replace HM := Lib.hid ((HM.out.keep hb).more hb.size)
    replace HB := Lib.hid (HB.out.trans (hb.mono HB.out.size))
    clear hb
    go_wp2_with fail
    refine (HRZ.out A1 c1 _ HX.out).mono ?_
    rintro e u6 ⟨rfl, hb⟩
    replace HX := Lib.hid ((HX.out.keep hb).more hb.size)
    replace HM := Lib.hid ((HM.out.keep hb).more hb.size)
    replace HB := Lib.hid (HB.out.trans (hb.mono HB.out.size))
    clear hb
    go_wp2_with fail
    refine (HTA.out A1 c1 _ HX.out (HG.out.keep HB.out HBG.out)).mono ?_
    rintro e u7 ⟨rfl, hb⟩
    replace HX := Lib.hid ((HX.out.keep hb).more hb.size)
    replace HM := Lib.hid ((HM.out.keep hb).more hb.size)
    replace HB := Lib.hid (HB.out.trans (hb.mono HB.out.size))
    clear hb
    go_wp2_with fail
    refine (HTR.out _ HB.out).mono ?_
    rintro e u8 ⟨rfl, hb⟩
    replace HX := Lib.hid ((HX.out.keep hb).more hb.size)
    replace HM := Lib.hid ((HM.out.keep hb).more hb.size)
    replace HB := Lib.hid (HB.out.trans (hb.mono HB.out.size))
    clear hb
    have h3 : n3 = n := by have h1 := HML.out.1; have h2 := HM.out.1; have h4 := HLN.out; omega
    subst h3
    have hp : 0 < n3 := by have h1 := HPS.out (by trivial); have h4 := HLN.out; omega
    obtain ⟨b4, o4, rfl, -⟩ := HM.out.2 hp
    obtain ⟨b5, o5, rfl, -⟩ := HX.out.2 hp
    have HSS := Lib.hid (zsame_any b4 o4 n3 c3 b5 o5 n3 c1 zs (rs.map toS) rs rs _ _ HM.out HX.out hp hp (by omega) (by omega) HML.out LX.out HS.out HS.out)
    rw [decide_eq_true (rfl : rs = rs)] at HSS
    go_wp2_with fail
    refine HSS.out.mono ?_
    rintro e v6 ⟨rfl, qd, rfl⟩
    replace HM : Hid (RowAt cellsZ 3 (u8.drewN qd) (u8.drewN qd).heap.size (some ⟨b4, o4, none⟩) n3 zs) := HM.out
    replace HB := Lib.hid (below_dN HB.out qd)
    clear HSS HX
    generalize u8.drewN qd = u9 at *
    go_wp2_with fail
    refine (calledR (m := n3) HLN.out (from_any (some ⟨b4, o4, none⟩) n3 c3 zs rs _ _ (Nat.le_refl _) HM.out HML.out HS.out (by omega))).mono ?_
    rintro e v7 ⟨A7, c7, rfl, hr, hb⟩
    have HF := Lib.hid hr
    replace HB := Lib.hid (HB.out.trans (hb.mono HB.out.size))
    clear hr hb
    have HZ7 : Hid (RowAt cellsR 4 v7 v7.heap.size A n3 rs) := (HZ.out.keep HB.out).more HB.out.size
    have HSR := Lib.hid (rsame_any A7 n3 c7 rs A n3 c rs _ _ HF.out HZ7.out (by omega))
    rw [decide_eq_true (rfl : rs = rs)] at HSR
    go_wp2_with fail
    refine HSR.out.mono ?_
    rintro e v8 ⟨rfl, qe, rfl⟩
    replace HB := Lib.hid (below_dN HB.out qe)
    clear HSR
    go_wp2
    go_ret
    exact ⟨rfl, HB.out⟩
end Go.Proofs.YtkklikkmpmlnbaaDoor
