/- The law's own little check 'told' of layer 10. -/
import Derived.Test.YtbbcifcdimfdgaaMf
namespace Go.Proofs.Ytbbcifcdimfdgaa
open Go.RowKit

def tV : List At := [(ByteArray.mk #[48], 3), (ByteArray.mk #[48, 49], 2)]
def tU : List At := [(ByteArray.mk #[48], 1)]
theorem mtold_1 : putM [] (ByteArray.mk #[48, 49]) tU = [(ByteArray.mk #[48, 49], tU)] := by
  unfold putM
  rw [if_pos ⟨by decide, by unfold tU; simp⟩]
  simp only [mergeF]
theorem mtold_2 : putM [(ByteArray.mk #[48, 49], tU)] (ByteArray.mk #[48]) tV = [(ByteArray.mk #[48], tV), (ByteArray.mk #[48, 49], tU)] := by
  unfold putM
  rw [if_pos ⟨by decide, by unfold tV; simp⟩, mergeF_gt (by decide), mergeF_nil]
def tM : Mat := [(ByteArray.mk #[48], tV), (ByteArray.mk #[48, 49], tU)]
theorem mtold_3 : stableF tM [ByteArray.mk #[48], ByteArray.mk #[48, 49]] = [(ByteArray.mk #[48], 1)] := by decide
theorem mtold_4 : stableF tM [ByteArray.mk #[48], ByteArray.mk #[48, 50]] = [] := by decide
theorem mtold_5 : GoodM tM := by
  refine ⟨by unfold RisingM Rising keyL tM; decide, fun x hx => ?_⟩
  simp only [tM, List.mem_cons, List.not_mem_nil, or_false] at hx
  rcases hx with rfl | rfl
  · exact ⟨by decide, (good_iff _).mp (by decide), by unfold tV; simp⟩
  · exact ⟨by decide, (good_iff _).mp (by decide), by unfold tU; simp⟩
theorem mtold_6 : mOf tM (ByteArray.mk #[48]) = tV := by decide
theorem tM_len : ∀ x ∈ tM, x.2.length ≤ 100000 ∧ Rising x.2 := fun x hx => by
  refine ⟨?_, (mtold_5.2 x hx).2.1.1⟩
  simp only [tM, List.mem_cons, List.not_mem_nil, or_false] at hx
  rcases hx with rfl | rfl <;> decide
theorem two_texts (w : World) (a b : ByteArray) : RowAt cellsT 1 (w.alloc (.cells #[.string a, .string b] 35)) (w.heap.size + 1) (some ⟨w.heap.size, 0, none⟩) 2 [a, b] := by
  refine ⟨rfl, fun _ => ⟨_, _, rfl, by omega, fun k hk j u hu => ?_⟩⟩
  have hj : j = 0 := by
    have := (List.getElem?_eq_some_iff.mp hu).1
    simp [cellsT] at this
    exact this
  subst hj
  have hk3 : k = 0 ∨ k = 1 := by simp at hk; omega
  rcases hk3 with rfl | rfl
  · simp [cellsT] at hu ⊢; rw [← hu]
  · simp [cellsT] at hu ⊢; rw [← hu]
theorem two_vec (w : World) (a b : ByteArray) (x y : Int) : VecAt (w.alloc (.cells #[.string a, .int .i64 x, .string b, .int .i64 y] 67)) (w.heap.size + 1) (some ⟨w.heap.size, 0, none⟩) 2 [(a, x), (b, y)] := by
  refine ⟨rfl, fun _ => ⟨_, _, rfl, by omega, fun k hk => ?_⟩⟩
  have hk3 : k = 0 ∨ k = 1 := by omega
  rcases hk3 with rfl | rfl
  · simp
  · simp
set_option maxRecDepth 100000 in
set_option maxHeartbeats 4000000 in
theorem mtold_any (w : World) : Calls Try.prog 8 #[] w fun e w' => e = .returned (.bool true) ∧ Below w.heap.size w w' := by
  have hb0 : Below w.heap.size w (w.alloc (.cells #[.string (ByteArray.mk #[48]), .int .i64 3, .string (ByteArray.mk #[48, 49]), .int .i64 2] 67)) := (Below.refl _ _).alloc (Nat.le_refl _) _
  have hv0 := two_vec w (ByteArray.mk #[48]) (ByteArray.mk #[48, 49]) 3 2
  have hs0 : w.heap.size + 1 = (w.alloc (.cells #[.string (ByteArray.mk #[48]), .int .i64 3, .string (ByteArray.mk #[48, 49]), .int .i64 2] 67)).heap.size := by simp
  rw [hs0] at hv0
  generalize hW0 : w.alloc (.cells #[.string (ByteArray.mk #[48]), .int .i64 3, .string (ByteArray.mk #[48, 49]), .int .i64 2] 67) = W0 at hb0 hv0
  have hb1 : Below W0.heap.size W0 (W0.alloc (.cells #[.string (ByteArray.mk #[48]), .int .i64 1] 67)) := (Below.refl _ _).alloc (Nat.le_refl _) _
  have hv1 : VecAt (W0.alloc (.cells #[.string (ByteArray.mk #[48]), .int .i64 1] 67)) (W0.alloc (.cells #[.string (ByteArray.mk #[48]), .int .i64 1] 67)).heap.size (some ⟨W0.heap.size, 0, none⟩) 1 tU := (one_at (heap_alloc_new W0 _)).more (by simp)
  have HV : Hid (VecAt (W0.alloc (.cells #[.string (ByteArray.mk #[48]), .int .i64 1] 67)) (W0.alloc (.cells #[.string (ByteArray.mk #[48]), .int .i64 1] 67)).heap.size (some ⟨w.heap.size, 0, none⟩) 2 tV) := (hv0.keep hb1).more hb1.size
  have HP1 := Lib.hid (putM_any none 0 0 [] (ByteArray.mk #[48, 49]) (some ⟨W0.heap.size, 0, none⟩) 1 tU _ (MatAt.nil _ _ _) hv1 (Nat.le_refl _) (by decide) (by omega) (by simp) (by decide))
  have hs1 : W0.heap.size = w.heap.size + 1 := by rw [← hW0]; simp
  rw [mtold_1, show tU.length = 1 from rfl, hs1] at HP1
  have HB : Hid (Below w.heap.size w (W0.alloc (.cells #[.string (ByteArray.mk #[48]), .int .i64 1] 67))) := hb0.trans (hb1.mono hb0.size)
  have hW1 : ((w.alloc (.cells #[.string (ByteArray.mk #[48]), .int .i64 3, .string (ByteArray.mk #[48, 49]), .int .i64 2] 67)).alloc (.cells #[.string (ByteArray.mk #[48]), .int .i64 1] 67)) = W0.alloc (.cells #[.string (ByteArray.mk #[48]), .int .i64 1] 67) := by rw [hW0]
  subst hW0
  clear hv0 hv1 hb0 hb1 hs0 hW1 hs1
  go_enter Try.func8, Try.ntmps8
  go_wp2_with fail
  refine HP1.out.mono ?_
  generalize (w.alloc (.cells #[.string (ByteArray.mk #[48]), .int .i64 3, .string (ByteArray.mk #[48, 49]), .int .i64 2] 67)).alloc (.cells #[.string (ByteArray.mk #[48]), .int .i64 1] 67) = W1 at *
  rintro e w1 ⟨A1, c1, rfl, ho, hb⟩
  have HM1 := Lib.hid ho.mat
  have hc1 := ho.cap
  replace HV := Lib.hid ((HV.out.keep hb).more hb.size)
  replace HB := Lib.hid (HB.out.trans (hb.mono HB.out.size))
  clear ho hb HP1
  go_wp2_with fail
  refine (putM_any A1 1 c1 [(ByteArray.mk #[48, 49], tU)] (ByteArray.mk #[48]) (some ⟨w.heap.size, 0, none⟩) 2 tV w1 HM1.out HV.out hc1 (by decide) (by omega) (by simp [tU]) (by decide)).mono ?_
  rw [mtold_2]
  rintro e w2 ⟨A2, c2, rfl, ho, hb⟩
  have HM2 : Hid (MatAt w2 w2.heap.size A2 2 tM) := ho.mat
  replace HV := Lib.hid ((HV.out.keep hb).more hb.size)
  replace HB := Lib.hid (HB.out.trans (hb.mono HB.out.size))
  clear ho hb HM1 hc1
  have hb3 : Below w2.heap.size w2 (w2.alloc (.cells #[.string (ByteArray.mk #[48]), .string (ByteArray.mk #[48, 49])] 35)) := (Below.refl _ _).alloc (Nat.le_refl _) _
  have HS := Lib.hid (stableM_any A2 2 c2 tM (some ⟨w2.heap.size, 0, none⟩) 2 2 [ByteArray.mk #[48], ByteArray.mk #[48, 49]] (w2.heap.size + 1) (w2.alloc (.cells #[.string (ByteArray.mk #[48]), .string (ByteArray.mk #[48, 49])] 35)) (by simp) ((HM2.out.keep hb3).more (by omega)) (two_texts w2 _ _) (by omega) (by omega) (by omega) mtold_5.1 tM_len)
  rw [mtold_3] at HS
  have HB3 := Lib.hid hb3
  clear hb3
  go_wp2_with fail
  refine HS.out.mono ?_
  rintro e w3 ⟨A3, c3, rfl, hc3, ho, hb⟩
  have hbb : Below w2.heap.size w2 w3 := HB3.out.trans (hb.mono HB3.out.size)
  have hvs := own_vec ho
  have hm3 := (HM2.out.keep hbb).more hbb.size
  replace HV := Lib.hid ((HV.out.keep hbb).more hbb.size)
  replace HB := Lib.hid (HB.out.trans (hbb.mono HB.out.size))
  have HM3 := Lib.hid hm3
  obtain ⟨bs, os, es, hbs, hcs⟩ := hvs.2 (by decide)
  obtain ⟨bm, om, rm, em, hbm, hmm, k0, _, _⟩ := hm3.get (Below.refl _ _) (k := 0) (by omega)
  have k1 : w3.cell? ⟨bs, os + 1, none⟩ = some (.int .i64 1) := by simpa using (hcs 0 (by decide)).2
  simp [tM] at hmm
  rw [← hmm.1, show om + 0 * 2 = om by omega] at k0
  subst es em
  clear ho hb hbb hvs hm3 hcs hmm HM2 HS HB3
  have hb4 : Below w3.heap.size w3 (w3.alloc (.cells #[.string (ByteArray.mk #[48]), .string (ByteArray.mk #[48, 50])] 35)) := (Below.refl _ _).alloc (Nat.le_refl _) _
  have HS := Lib.hid (stableM_any (some ⟨bm, om, none⟩) 2 c2 tM (some ⟨w3.heap.size, 0, none⟩) 2 2 [ByteArray.mk #[48], ByteArray.mk #[48, 50]] (w3.heap.size + 1) (w3.alloc (.cells #[.string (ByteArray.mk #[48]), .string (ByteArray.mk #[48, 50])] 35)) (by simp) ((HM3.out.keep hb4).more (by omega)) (two_texts w3 _ _) (by omega) (by omega) (by omega) mtold_5.1 tM_len)
  rw [mtold_4] at HS
  have HB4 := Lib.hid hb4
  clear hb4
  go_wp2_with fail
  refine HS.out.mono ?_
  rintro e w4 ⟨A4, c4, rfl, hc4, ho, hb⟩
  have hbb : Below w3.heap.size w3 w4 := HB4.out.trans (hb.mono HB4.out.size)
  replace HM3 := Lib.hid ((HM3.out.keep hbb).more hbb.size)
  replace HV := Lib.hid ((HV.out.keep hbb).more hbb.size)
  replace HB := Lib.hid (HB.out.trans (hbb.mono HB.out.size))
  clear ho hb hbb HS HB4 k0 k1
  go_wp2_with fail
  refine (rightM_any (some ⟨bm, om, none⟩) 2 c2 tM w4.heap.size w4 (Nat.le_refl _) HM3.out (by omega) (fun x hx => by have := (tM_len x hx).1; omega)).mono ?_
  rw [(rightM_iff tM).mpr mtold_5]
  rintro e w5 ⟨rfl, hb⟩
  replace HM3 := Lib.hid ((HM3.out.keep hb).more hb.size)
  replace HV := Lib.hid ((HV.out.keep hb).more hb.size)
  replace HB := Lib.hid (HB.out.trans (hb.mono HB.out.size))
  clear hb
  go_wp2_with fail
  refine (ofM_any (some ⟨bm, om, none⟩) 2 c2 tM (ByteArray.mk #[48]) w5.heap.size w5 (Nat.le_refl _) HM3.out (by omega) mtold_5.1 (by rw [mtold_6]; decide)).mono ?_
  rw [mtold_6]
  rintro e w6 ⟨A6, c6, rfl, hc6, ho, hb⟩
  have HO6 := Lib.hid (own_vec ho)
  replace HV := Lib.hid ((HV.out.keep hb).more hb.size)
  replace HB := Lib.hid (HB.out.trans (hb.mono HB.out.size))
  clear ho hb
  go_wp2_with fail
  refine (same_any A6 2 c6 tV (some ⟨w.heap.size, 0, none⟩) 2 2 tV w6.heap.size w6 HO6.out HV.out (by omega) (by omega)).mono ?_
  rw [same_self]
  rintro e w7 ⟨rfl, hd⟩
  replace HB := Lib.hid (HB.out.trans (drawn_below hd.out _))
  clear hd
  go_wp2
  go_ret
  exact ⟨rfl, HB.out⟩
end Go.Proofs.Ytbbcifcdimfdgaa
