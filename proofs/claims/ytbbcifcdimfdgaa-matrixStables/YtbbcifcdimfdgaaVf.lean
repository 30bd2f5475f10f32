/- vec.Join walked. -/
import Derived.Test.YtbbcifcdimfdgaaVe
namespace Go.Proofs.Ytbbcifcdimfdgaa
open Go.RowKit

set_option maxRecDepth 100000 in
set_option maxHeartbeats 8000000 in
theorem join_any (A : Option Addr) (n c : Nat) (xs : List At) (A' : Option Addr) (m c' : Nat) (ys : List At) (B : Nat) (w : World) (hB : B ≤ w.heap.size)
    (hxs : VecAt w B A n xs) (hys : VecAt w B A' m ys) (hnc : n ≤ c) (hmc : m ≤ c') (hn : n ≤ 1073741824) (hm : m ≤ 1073741824) :
    Calls Try.prog 35 #[.slice A n c, .slice A' m c'] w (OwnVec w.heap.size 67 (joinF xs ys) w) := by
  have HX := Lib.hid hxs
  have HY := Lib.hid hys
  clear hxs hys
  go_enter Try.func35, Try.ntmps35
  go_wp2
  go_loopw [0, 1, 5] (fun x y v wr => ∃ A1 n1 c1 A2 n2 c2 Av nv cv, ∃ xs' ys' : List At, x = .slice A1 n1 c1 ∧ y = .slice A2 n2 c2 ∧ v = .slice Av nv cv ∧ n1 ≤ c1 ∧ n2 ≤ c2 ∧ n1 + n2 + nv ≤ 2147483648 ∧ Hid (VecAt w B A1 n1 xs') ∧ Hid (VecAt w B A2 n2 ys') ∧ Hid (JoinRel w (joinF xs ys) xs' ys' Av nv cv wr)) (fun x y _ _ => lenOf x + lenOf y)
  case atStart => exact ⟨A, n, c, A', m, c', none, 0, 0, xs, ys, rfl, rfl, rfl, hnc, hmc, by omega, HX, HY, [], rfl, own_nil _ _ _, rfl, Below.refl _ _⟩
  case round =>
    obtain ⟨A1, n1, c1, A2, n2, c2, Av, nv, cv, xs', ys', rfl, rfl, rfl, h1c, h2c, hsum, HX1, HY1, HJ⟩ := hrel
    by_cases hc : 0 < n1 ∧ 0 < n2
    · obtain ⟨b1, o1, x0, xt, rfl, hb1, rfl, hxl, hx0, hx1⟩ := HX1.out.head hc.1
      obtain ⟨b2, o2, y0, yt, rfl, hb2, rfl, hyl, hy0, hy1⟩ := HY1.out.head hc.2
      obtain ⟨out, hol, hown, hcat, hbel⟩ := HJ.out
      have kx0 : wr.cell? ⟨b1, o1, none⟩ = some (.string x0.1) := (hbel.cell (p := ⟨b1, o1, none⟩) (by simp; omega)).trans hx0
      have kx1 : wr.cell? ⟨b1, o1 + 1, none⟩ = some (.int .i64 x0.2) := (hbel.cell (p := ⟨b1, o1 + 1, none⟩) (by simp; omega)).trans hx1
      have ky0 : wr.cell? ⟨b2, o2, none⟩ = some (.string y0.1) := (hbel.cell (p := ⟨b2, o2, none⟩) (by simp; omega)).trans hy0
      have ky1 : wr.cell? ⟨b2, o2 + 1, none⟩ = some (.int .i64 y0.2) := (hbel.cell (p := ⟨b2, o2 + 1, none⟩) (by simp; omega)).trans hy1
      have hsz : w.heap.size ≤ wr.heap.size := hbel.size
      have HOL := Lib.hid hol
      have HCA := Lib.hid hcat
      have HOw := Lib.hid hown
      have HBe := Lib.hid hbel
      obtain ⟨hc1, hc2⟩ := hc
      have q1 : (0 : Int) < n1 := by omega
      have q2 : (0 : Int) < n2 := by omega
      have l1 : b1 < wr.heap.size := by omega
      have l2 : b2 < wr.heap.size := by omega
      clear hol hcat hown hbel hx0 hx1 hy0 hy1 HJ
      obtain ⟨Ax, hsx, hax⟩ := cut_one ⟨b1, o1, none⟩ n1 c1 hc1 h1c
      obtain ⟨Ay, hsy, hay⟩ := cut_one ⟨b2, o2, none⟩ n2 c2 hc2 h2c
      have HAx := Lib.hid hax
      have HAy := Lib.hid hay
      clear hax hay
      obtain ⟨y, hy⟩ : ∃ y, cmpId x0.1 y0.1 = y := ⟨_, rfl⟩
      have HCy := Lib.hid hy
      clear hy
      go_wp2_with fail
      go_region_held3 (fun w' => w'.cell? ⟨b1, o1, none⟩ = some (.string x0.1) ∧ w'.cell? ⟨b1, o1 + 1, none⟩ = some (.int .i64 x0.2) ∧ w'.cell? ⟨b2, o2, none⟩ = some (.string y0.1))
        (first | go_keep | (go_split_ands; refine ⟨(hbo.cell (by simp; omega)).trans (by assumption), (hbo.cell (by simp; omega)).trans (by assumption), (hbo.cell (by simp; omega)).trans (by assumption)⟩))
        ((go_at_call 56; refine (order_is _ _ _ _ HCy _).mono ?_; rintro e w1 ⟨rfl, hbo⟩))
      have HB1 : Hid (Below wr.heap.size wr w1) := (Below.refl _ _).drew.trans (hbo.mono (by simp))
      have mx0 : w1.cell? ⟨b1, o1, none⟩ = some (.string x0.1) := (HB1.out.cell (p := ⟨b1, o1, none⟩) l1).trans kx0
      have mx1 : w1.cell? ⟨b1, o1 + 1, none⟩ = some (.int .i64 x0.2) := (HB1.out.cell (p := ⟨b1, o1 + 1, none⟩) l1).trans kx1
      have my0 : w1.cell? ⟨b2, o2, none⟩ = some (.string y0.1) := (HB1.out.cell (p := ⟨b2, o2, none⟩) l2).trans ky0
      have my1 : w1.cell? ⟨b2, o2 + 1, none⟩ = some (.int .i64 y0.2) := (HB1.out.cell (p := ⟨b2, o2 + 1, none⟩) l2).trans ky1
      have hs1 : wr.heap.size ≤ w1.heap.size := HB1.out.size
      clear hbo kx0 kx1 ky0 ky1
      have hne1 : some b1 ≠ Value.ownBlock (.slice Av nv cv) := fun e => by have := (own_lt HOw.out e.symm).1; omega
      have hne2 : some b2 ≠ Value.ownBlock (.slice Av nv cv) := fun e => by have := (own_lt HOw.out e.symm).1; omega
      by_cases hlt : y < 0
      · go_wp2_with fail
        go_region_held3 (fun w' => w'.cell? ⟨b1, o1, none⟩ = some (.string x0.1) ∧ w'.cell? ⟨b1, o1 + 1, none⟩ = some (.int .i64 x0.2))
          (first | go_keep | (go_split_ands; refine ⟨(hg3.cell_far _ (by simp; omega) hne1).trans (by assumption), (hg3.cell_far _ (by simp; omega) hne1).trans (by assumption)⟩))
          ((refine step_append_at (B := w.heap.size) (v := .slice Av nv cv) (n := nv) (zs := out) (m := 1) (ys := [x0]) vecTy (by rfl) _ _ (by rfl) (by rfl) ((own_below HOw.out HB1.out).alloc _).drew (by rfl) (one_at (heap_alloc_new w1 _)) (by omega) (by simp; omega) ?_; intro A3 c3 w3 hown3 hg3 hat3))
        go_wp2_with fail
        go_roundw
        case rel => exact ⟨Ax, n1 - 1, c1 - 1, _, n2, c2, A3, nv + 1, c3, xt, y0 :: yt, rfl, rfl, rfl, by omega, by omega, by omega, HAx.out _ _ _ _ HX1.out, HY1, JoinRel.push x0 HOL.out HCA.out (joinF_lt (by rw [HCy.out]; exact hlt)) HBe.out ((HB1.out.alloc hs1 _).drew) ((own_below HOw.out HB1.out).alloc _).drew hown3 hg3⟩
        case measure => exact show (n1 - 1) + n2 < n1 + n2 by omega
      · by_cases hgt : 0 < y
        · go_wp2_with fail
          go_region_held3 (fun w' => w'.cell? ⟨b2, o2, none⟩ = some (.string y0.1) ∧ w'.cell? ⟨b2, o2 + 1, none⟩ = some (.int .i64 y0.2))
            (first | go_keep | (go_split_ands; refine ⟨(hg3.cell_far _ (by simp; omega) hne2).trans (by assumption), (hg3.cell_far _ (by simp; omega) hne2).trans (by assumption)⟩))
            ((refine step_append_at (B := w.heap.size) (v := .slice Av nv cv) (n := nv) (zs := out) (m := 1) (ys := [y0]) vecTy (by rfl) _ _ (by rfl) (by rfl) ((own_below HOw.out HB1.out).alloc _).drew (by rfl) (one_at (heap_alloc_new w1 _)) (by omega) (by simp; omega) ?_; intro A3 c3 w3 hown3 hg3 hat3))
          go_wp2_with fail
          go_roundw
          case rel => exact ⟨_, n1, c1, Ay, n2 - 1, c2 - 1, A3, nv + 1, c3, x0 :: xt, yt, rfl, rfl, rfl, by omega, by omega, by omega, HX1, HAy.out _ _ _ _ HY1.out, JoinRel.push y0 HOL.out HCA.out (joinF_gt (by rw [HCy.out]; exact hgt)) HBe.out ((HB1.out.alloc hs1 _).drew) ((own_below HOw.out HB1.out).alloc _).drew hown3 hg3⟩
          case measure => exact show n1 + (n2 - 1) < n1 + n2 by omega
        · by_cases hmx : x0.2 < y0.2
          · have HMX : Hid (joinF (x0 :: xt) (y0 :: yt) = (x0.1, y0.2) :: joinF xt yt) := by
              show _ = _
              rw [joinF_eq (by rw [HCy.out]; omega), Int.max_eq_right (by omega)]
            go_wp2_with fail
            go_region_held3 (fun w' => w'.cell? ⟨b1, o1, none⟩ = some (.string x0.1) ∧ w'.cell? ⟨b1, o1 + 1, none⟩ = some (.int .i64 x0.2) ∧ w'.cell? ⟨b2, o2 + 1, none⟩ = some (.int .i64 y0.2))
              (first | go_keep | (go_split_ands; refine ⟨(hg3.cell_far _ (by simp; omega) hne1).trans (by assumption), (hg3.cell_far _ (by simp; omega) hne1).trans (by assumption), (hg3.cell_far _ (by simp; omega) hne2).trans (by assumption)⟩))
              ((refine step_append_at (B := w.heap.size) (v := .slice Av nv cv) (n := nv) (zs := out) (m := 1) (ys := [(x0.1, y0.2)]) vecTy (by rfl) _ _ (by rfl) (by rfl) ((own_below HOw.out HB1.out).alloc _).drew (by rfl) (one_at (heap_alloc_new w1 _)) (by omega) (by simp; omega) ?_; intro A3 c3 w3 hown3 hg3 hat3))
            have HJ3 : Hid (JoinRel w (joinF xs ys) xt yt A3 (nv + 1) c3 w3) := JoinRel.push _ HOL.out HCA.out HMX.out HBe.out ((HB1.out.alloc hs1 _).drew) ((own_below HOw.out HB1.out).alloc _).drew hown3 hg3
            clear hown3 hg3 hat3
            go_wp2_with fail
            go_quiet (fail)
            go_wp2_with fail
            go_roundw
            case rel => exact ⟨Ax, n1 - 1, c1 - 1, Ay, n2 - 1, c2 - 1, A3, nv + 1, c3, xt, yt, rfl, rfl, rfl, by omega, by omega, by omega, HAx.out _ _ _ _ HX1.out, HAy.out _ _ _ _ HY1.out, HJ3.out.drewN _⟩
            case measure => exact show (n1 - 1) + (n2 - 1) < n1 + n2 by omega
          · have hmf : (x0.2 < y0.2) = False := eq_false hmx
            have HMX : Hid (joinF (x0 :: xt) (y0 :: yt) = (x0.1, x0.2) :: joinF xt yt) := by
              show _ = _
              rw [joinF_eq (by rw [HCy.out]; omega), Int.max_eq_left (by omega)]
            go_wp2_with fail
            go_region_held3 (fun w' => w'.cell? ⟨b1, o1, none⟩ = some (.string x0.1) ∧ w'.cell? ⟨b1, o1 + 1, none⟩ = some (.int .i64 x0.2) ∧ w'.cell? ⟨b2, o2 + 1, none⟩ = some (.int .i64 y0.2))
              (first | go_keep | (go_split_ands; refine ⟨(hg3.cell_far _ (by simp; omega) hne1).trans (by assumption), (hg3.cell_far _ (by simp; omega) hne1).trans (by assumption), (hg3.cell_far _ (by simp; omega) hne2).trans (by assumption)⟩))
              ((refine step_append_at (B := w.heap.size) (v := .slice Av nv cv) (n := nv) (zs := out) (m := 1) (ys := [(x0.1, x0.2)]) vecTy (by rfl) _ _ (by rfl) (by rfl) ((own_below HOw.out HB1.out).alloc _).drew (by rfl) (one_at (heap_alloc_new w1 _)) (by omega) (by simp; omega) ?_; intro A3 c3 w3 hown3 hg3 hat3))
            have HJ3 : Hid (JoinRel w (joinF xs ys) xt yt A3 (nv + 1) c3 w3) := JoinRel.push _ HOL.out HCA.out HMX.out HBe.out ((HB1.out.alloc hs1 _).drew) ((own_below HOw.out HB1.out).alloc _).drew hown3 hg3
            clear hown3 hg3 hat3
            go_wp2_with fail
            go_quiet (fail)
            go_wp2_with fail
            go_roundw
            case rel => exact ⟨Ax, n1 - 1, c1 - 1, Ay, n2 - 1, c2 - 1, A3, nv + 1, c3, xt, yt, rfl, rfl, rfl, by omega, by omega, by omega, HAx.out _ _ _ _ HX1.out, HAy.out _ _ _ _ HY1.out, HJ3.out.drewN _⟩
            case measure => exact show (n1 - 1) + (n2 - 1) < n1 + n2 by omega
    · obtain ⟨out, hol, hown, hcat, hbel⟩ := HJ.out
      have hj : joinF xs' ys' = xs' ++ ys' := by
        rcases Nat.eq_zero_or_pos n1 with h | h
        · rw [List.eq_nil_of_length_eq_zero (HX1.out.1.trans h)]; simp [joinF]
        · have h2 : n2 = 0 := by omega
          rw [List.eq_nil_of_length_eq_zero (HY1.out.1.trans h2), joinF_nil]; simp
      have HT : Hid (out ++ xs' ++ ys' = joinF xs ys) := by show _ = _; rw [← hcat, hj]; simp
      have HL : Hid (nv + n1 + n2 = (joinF xs ys).length) := by
        show _ = _
        rw [← HT.out]; have h1 := HX1.out.1; have h2 := HY1.out.1; simp; omega
      have hsz : w.heap.size ≤ wr.heap.size := hbel.size
      have HOw := Lib.hid hown
      have HBe := Lib.hid hbel
      have HX2 : Hid (VecAt wr B A1 n1 xs') := HX1.out.keep (HBe.out.mono hB)
      have HY2 : Hid (VecAt wr B A2 n2 ys') := HY1.out.keep (HBe.out.mono hB)
      have hBr : B ≤ wr.heap.size := by omega
      have hrow : ∀ g, Value.ownBlock (.slice Av nv cv) = some g → B ≤ g := fun g e => by have := (own_lt HOw.out e).1; omega
      have HRow := Lib.hid hrow
      have hcase : (0 < n1 ∧ n2 = 0) ∨ n1 = 0 := by omega
      clear hol hown hcat hbel hj HJ hrow hc
      rcases hcase with ⟨hp, rfl⟩ | rfl
      all_goals
        go_wp2_with (first | (at_builtin; refine wpList_append_at (B := w.heap.size) (v := .slice Av nv cv) (n := nv) (zs := out) vecTy rfl _ _ rfl rfl HOw.out rfl HX2.out (by omega) hsz ?_; intro A3 c3 w3 hown3 hg3 hat3; have HB3 : Hid (Below w.heap.size w w3) := HBe.out.trans (grown_below hg3 hsz (fun g e => (own_lt HOw.out e).1)); have HY3 : Hid (VecAt w3 B A2 _ ys') := HY2.out.grown hg3 hBr HRow.out; have hs3 : w.heap.size ≤ w3.heap.size := HB3.out.size; have HO3 := Lib.hid hown3; clear hown3 hg3 hat3) | (at_builtin; refine wpList_append_at (B := w.heap.size) (zs := out ++ xs') vecTy rfl _ _ rfl rfl HO3.out rfl HY3.out (by omega) hs3 ?_; intro A4 c4 w4 hown4 hg4 hat4; have HB4 : Hid (Below w.heap.size w w4) := HB3.out.trans (grown_below hg4 hs3 (fun g e => (own_lt HO3.out e).1)); rw [HT.out] at hown4; have HO4 := Lib.hid hown4; clear hown4 hg4 hat4))
        go_ret
        refine ⟨A4, c4, ?_, ?_, ?_, HB4.out⟩
        · rw [← HL.out]; rfl
        · have := own_cap HO4.out; have := HL.out; omega
        · rw [← HL.out]; exact HO4.out
end Go.Proofs.Ytbbcifcdimfdgaa
