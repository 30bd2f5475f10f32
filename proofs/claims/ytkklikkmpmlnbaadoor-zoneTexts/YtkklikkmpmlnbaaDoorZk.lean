/- The document's Whole and Right of steps. -/
import Derived.Test.YtkklikkmpmlnbaaDoorZd
namespace Go.Proofs.YtkklikkmpmlnbaaDoor
open Go.RowKit

def cellsR (r : RSt) : List Value := [.int .i64 r.op, .int .i64 r.x, .int .i64 r.y, .int .i64 r.sz]
def refV (r : RSt) : Value := .agg #[.int .i64 r.op, .int .i64 r.x, .int .i64 r.y, .int .i64 r.sz]
def zeroR : Value := .agg #[.int .i64 0, .int .i64 0, .int .i64 0, .int .i64 0]
theorem cellsR_one (x : RSt) : ∀ u ∈ cellsR x, u.oneCell' = true := by
  intro u hu
  simp only [cellsR, List.mem_cons, List.not_mem_nil, or_false] at hu
  rcases hu with rfl | rfl | rfl | rfl <;> rfl
theorem rowR : RowTy cellsR 4 32 zeroR 22 59 := ⟨Tryd.underlying22, by kernel_rfl, rfl, by omega, by omega, fun _ => rfl, cellsR_one⟩
theorem cellsR_at {w : World} {b o : Nat} {z : RSt} (h : ∀ j u, (cellsR z)[j]? = some u → w.cell? ⟨b, o + j, none⟩ = some u) :
    w.cell? ⟨b, o, none⟩ = some (.int .i64 z.op) ∧ w.cell? ⟨b, o + 1, none⟩ = some (.int .i64 z.x) ∧ w.cell? ⟨b, o + 2, none⟩ = some (.int .i64 z.y) ∧ w.cell? ⟨b, o + 3, none⟩ = some (.int .i64 z.sz) :=
  ⟨h 0 _ rfl, h 1 _ rfl, h 2 _ rfl, h 3 _ rfl⟩
set_option maxRecDepth 100000 in
set_option maxHeartbeats 1000000 in
theorem near_any (x n : Int) (h0 : 0 ≤ n) (hn : n ≤ 2000000) (w : World) : Calls Tryd.prog 35 #[.int .i64 x, .int .i64 n] w fun e w' => e = .returned (.bool (withinF x (-n) n)) ∧ w = w' := by
  have hneg : (0 : Int) - n = -n := by omega
  have HF : Hid (withinF x (-n) n = (decide (-n ≤ x) && decide (x ≤ n))) := rfl
  by_cases h1 : -n ≤ x
  · have HF' : Hid (withinF x (-n) n = decide (x ≤ n)) := by show _ = _; rw [HF.out]; simp [h1]
    go_enter Tryd.func35, Tryd.ntmps35
    go_wp2
    go_ret
    exact ⟨ret_bool HF'.out.symm, rfl⟩
  · have HF' : Hid (withinF x (-n) n = false) := by show _ = _; rw [HF.out]; simp [h1]
    go_enter Tryd.func35, Tryd.ntmps35
    go_wp2
    go_ret
    exact ⟨ret_bool HF'.out.symm, rfl⟩
set_option maxRecDepth 100000 in
set_option maxHeartbeats 1000000 in
theorem rwhole_any (x y : Int) (w : World) : Calls Tryd.prog 27 #[.agg #[.int .i64 x, .int .i64 y]] w fun e w' => e = .returned (.bool (wholeF x y)) ∧ Below w.heap.size w w' := by
  have H1 := Lib.hid (near_any x 1000 (by omega) (by omega))
  have H2 := Lib.hid (near_any y 1000 (by omega) (by omega))
  have HF : Hid (wholeF x y = (withinF x (-1000) 1000 && withinF y (-1000) 1000)) := rfl
  generalize withinF x (-1000) 1000 = b1 at *
  generalize withinF y (-1000) 1000 = b2 at *
  go_enter Tryd.func27, Tryd.ntmps27
  go_wp2_with fail
  refine (H1.out _).mono ?_
  rintro e w1 ⟨rfl, rfl⟩
  cases b1
  · go_wp2
    go_ret
    exact ⟨ret_bool (by rw [HF.out]; rfl), (Below.refl _ _).alloc (Nat.le_refl _) _⟩
  · go_wp2_with fail
    refine (H2.out _).mono ?_
    rintro e w1 ⟨rfl, rfl⟩
    go_wp2
    go_ret
    exact ⟨ret_bool (by rw [HF.out]; rfl), (Below.refl _ _).alloc (Nat.le_refl _) _⟩

set_option maxRecDepth 100000 in
set_option maxHeartbeats 8000000 in
theorem rright_any (A : Option Addr) (n c : Nat) (rs : List RSt) (B : Nat) (w : World) (hB : B ≤ w.heap.size) (hz : RowAt cellsR 4 w B A n rs) (hn63 : n ≤ 9223372036854775807) :
    Calls Tryd.prog 15 #[.slice A n c] w fun e w' => e = .returned (.bool (rightZ rs)) ∧ Below w.heap.size w w' := by
  have HN : Hid (rs.length = n) := hz.1
  have HZ := Lib.hid hz
  clear hz
  by_cases h1 : n < 1
  · have HF : Hid (rightZ rs = false) := by
      show _ = _
      rw [List.eq_nil_of_length_eq_zero (show rs.length = 0 by have := HN.out; omega)]
      rfl
    have h1' : (n : Int) < 1 := by omega
    clear h1
    go_enter Tryd.func15, Tryd.ntmps15
    go_wp2
    go_ret
    exact ⟨ret_bool HF.out.symm, Below.refl _ _⟩
  have h1' : ¬ (n : Int) < 1 := by omega
  by_cases h32 : 32 < n
  · have HF : Hid (rightZ rs = false) := right_long' (by rw [HN.out]; exact h32)
    have h32' : (32 : Int) < n := by omega
    clear h32 h1
    go_enter Tryd.func15, Tryd.ntmps15
    go_wp2
    go_ret
    exact ⟨ret_bool HF.out.symm, Below.refl _ _⟩
  have h32' : ¬ (32 : Int) < n := by omega
  have hn : n ≤ 32 := by omega
  clear h32 h1
  go_enter Tryd.func15, Tryd.ntmps15
  go_wp2
  go_loopw [3, 4] (fun tr i wr => ∃ (k : Nat) (t : Int), k ≤ n ∧ i = .int .i64 k ∧ tr = .int .i64 t ∧ 0 ≤ t ∧ t ≤ k ∧ Hid (foldR 0 (rs.take k) = some t) ∧ Hid (Below w.heap.size w wr)) (fun _ i _ => n - (intOf i).toNat)
  case atStart => exact ⟨0, 0, by omega, rfl, rfl, by omega, by omega, rfl, Below.refl _ _⟩
  case round =>
    obtain ⟨k, t, hk, rfl, rfl, ht0, htk, HF, HB⟩ := hrel
    by_cases hlt : k < n
    · obtain ⟨blk, off, rfl, hbB, r, hrk, hcell⟩ := HZ.out.get hlt
      obtain ⟨e0, e1, e2, e3⟩ := cellsR_at hcell
      replace e0 := ((HB.out.mono hB).cell (p := ⟨blk, off + k * 4, none⟩) hbB).trans e0
      replace e1 := ((HB.out.mono hB).cell (p := ⟨blk, off + k * 4 + 1, none⟩) hbB).trans e1
      replace e2 := ((HB.out.mono hB).cell (p := ⟨blk, off + k * 4 + 2, none⟩) hbB).trans e2
      replace e3 := ((HB.out.mono hB).cell (p := ⟨blk, off + k * 4 + 3, none⟩) hbB).trans e3
      have hi1 : (k : Int) < n := by omega
      have HS := Lib.hid (foldR_snoc HF.out hrk)
      have HNO : Hid (stepR t r = none → rightZ rs = false) := fun h => right_none (foldR_none (by rw [HS.out]; exact h))
      have HYES : Hid (∀ u, stepR t r = some u → foldR 0 (rs.take (k + 1)) = some u) := fun u h => by rw [HS.out]; exact h
      obtain ⟨op, x, y, z⟩ := r
      simp only at e0 e1 e2 e3
      have HW := Lib.hid (rwhole_any x y)
      clear hcell hrk HS
      go_upto_region 8 with fail
      have k0 : (wr.alloc (.cells #[.int .i64 op, .int .i64 x, .int .i64 y, .int .i64 z] 59)).cell? ⟨wr.heap.size, 0, none⟩ = some (.int .i64 op) := by simp [go_sem]
      have k1 : (wr.alloc (.cells #[.int .i64 op, .int .i64 x, .int .i64 y, .int .i64 z] 59)).cell? ⟨wr.heap.size, 1, none⟩ = some (.int .i64 x) := by simp [go_sem]
      have k2 : (wr.alloc (.cells #[.int .i64 op, .int .i64 x, .int .i64 y, .int .i64 z] 59)).cell? ⟨wr.heap.size, 2, none⟩ = some (.int .i64 y) := by simp [go_sem]
      have k3 : (wr.alloc (.cells #[.int .i64 op, .int .i64 x, .int .i64 y, .int .i64 z] 59)).cell? ⟨wr.heap.size, 3, none⟩ = some (.int .i64 z) := by simp [go_sem]
      have kz : wr.heap.size < (wr.alloc (.cells #[.int .i64 op, .int .i64 x, .int .i64 y, .int .i64 z] 59)).heap.size := by simp
      replace HB : Hid (Below w.heap.size w (wr.alloc (.cells #[.int .i64 op, .int .i64 x, .int .i64 y, .int .i64 z] 59))) := HB.out.alloc HB.out.size _
      clear e0 e1 e2 e3
      generalize (wr.alloc (.cells #[.int .i64 op, .int .i64 x, .int .i64 y, .int .i64 z] 59)) = W1 at *
      generalize wr.heap.size = X at *
      by_cases h2 : op = 2
      · subst h2
        have hfit : fitsR ⟨2, x, y, z⟩ = (wholeF x y && withinF z 0 2000) := rfl
        have htk0 : takesF 2 = 0 := rfl
        generalize hwf : wholeF x y = c1 at *
        go_wp2_with fail
        refine (HW.out _).mono ?_
        rintro e w1 ⟨rfl, hb⟩
        replace k0 := (hb.cell (p := ⟨X, 0, none⟩) kz).trans k0
        replace k1 := (hb.cell (p := ⟨X, 1, none⟩) kz).trans k1
        replace k2 := (hb.cell (p := ⟨X, 2, none⟩) kz).trans k2
        replace k3 := (hb.cell (p := ⟨X, 3, none⟩) kz).trans k3
        replace HB := Lib.hid (HB.out.trans (hb.mono HB.out.size))
        clear hb kz
        cases c1
        · skip
          have HR : Hid (rightZ rs = false) := HNO.out (by unfold stepR; rw [if_neg (fun h => by rw [hfit] at h; simp at h)])
          go_wp2
          go_ret
          exact ⟨ret_bool HR.out.symm, HB.out⟩
        · by_cases hz0 : z < 0
          · skip
            have HR : Hid (rightZ rs = false) := HNO.out (by unfold stepR; rw [if_neg (fun h => by rw [hfit] at h; simp [withinF] at h; omega)])
            go_wp2
            go_ret
            exact ⟨ret_bool HR.out.symm, HB.out⟩
          · by_cases hz1 : 2000 < z
            · skip
              have HR : Hid (rightZ rs = false) := HNO.out (by unfold stepR; rw [if_neg (fun h => by rw [hfit] at h; simp [withinF] at h; omega)])
              go_wp2
              go_ret
              exact ⟨ret_bool HR.out.symm, HB.out⟩
            · skip
              have HR : Hid (foldR 0 (rs.take (k + 1)) = some (t + 1)) := HYES.out _ (by unfold stepR; rw [if_pos ⟨by rw [hfit]; simp [withinF]; omega, by rw [htk0]; omega⟩]; rfl)
              clear HNO HYES
              go_wp2
              go_roundw
              case rel => exact ⟨k + 1, t + 1, by omega, by go_num, by go_num, by omega, by omega, HR, HB⟩
              case measure => simp [intOf]; omega
      by_cases h3 : op = 3
      · subst h3
        clear h2
        have hfit : fitsR ⟨3, x, y, z⟩ = (wholeF x y && withinF z (-2000000) 2000000) := rfl
        have htk0 : takesF 3 = 0 := rfl
        have HNR := Lib.hid (near_any z 2000000 (by omega) (by omega))
        generalize hwf : wholeF x y = c1 at *
        generalize hws : withinF z (-2000000) 2000000 = c2 at *
        go_wp2_with fail
        refine (HW.out _).mono ?_
        rintro e w1 ⟨rfl, hb⟩
        replace k0 := (hb.cell (p := ⟨X, 0, none⟩) kz).trans k0
        replace k1 := (hb.cell (p := ⟨X, 1, none⟩) kz).trans k1
        replace k2 := (hb.cell (p := ⟨X, 2, none⟩) kz).trans k2
        replace k3 := (hb.cell (p := ⟨X, 3, none⟩) kz).trans k3
        replace HB := Lib.hid (HB.out.trans (hb.mono HB.out.size))
        clear hb kz
        cases c1
        · skip
          have HR : Hid (rightZ rs = false) := HNO.out (by unfold stepR; rw [if_neg (fun h => by rw [hfit] at h; simp at h)])
          go_wp2
          go_ret
          exact ⟨ret_bool HR.out.symm, HB.out⟩
        · go_wp2_with fail
          refine (HNR.out _).mono ?_
          rintro e w2 ⟨rfl, rfl⟩
          cases c2
          · skip
            have HR : Hid (rightZ rs = false) := HNO.out (by unfold stepR; rw [if_neg (fun h => by rw [hfit] at h; simp at h)])
            go_wp2
            go_ret
            exact ⟨ret_bool HR.out.symm, HB.out⟩
          · skip
            have HR : Hid (foldR 0 (rs.take (k + 1)) = some (t + 1)) := HYES.out _ (by unfold stepR; rw [if_pos ⟨by rw [hfit]; rfl, by rw [htk0]; omega⟩]; rfl)
            clear HNO HYES
            go_wp2
            go_roundw
            case rel => exact ⟨k + 1, t + 1, by omega, by go_num, by go_num, by omega, by omega, HR, HB⟩
            case measure => simp [intOf]; omega
      by_cases h1 : op = 1
      · subst h1
        have hfit : fitsR ⟨1, x, y, z⟩ = (decide (x = 0) && decide (y = 0) && decide (z = 0)) := rfl
        have htk0 : takesF 1 = 0 := rfl
        clear HW
        by_cases hx : x = 0
        · by_cases hy : y = 0
          · by_cases hzz : z = 0
            · subst hx hy hzz
              have HR : Hid (foldR 0 (rs.take (k + 1)) = some (t + 1)) := HYES.out _ (by unfold stepR; rw [if_pos ⟨by rw [hfit]; rfl, by rw [htk0]; omega⟩]; rfl)
              clear HNO HYES
              go_wp2
              go_roundw
              case rel => exact ⟨k + 1, t + 1, by omega, by go_num, by go_num, by omega, by omega, HR, HB⟩
              case measure => simp [intOf]; omega
            · have hzb : (z != 0) = true := by simpa using hzz
              subst hx hy
              have HR : Hid (rightZ rs = false) := HNO.out (by unfold stepR; rw [if_neg (fun h => by rw [hfit] at h; simp [hzz] at h)])
              go_wp2
              go_ret
              exact ⟨ret_bool HR.out.symm, HB.out⟩
          · have hyb : (y != 0) = true := by simpa using hy
            subst hx
            have HR : Hid (rightZ rs = false) := HNO.out (by unfold stepR; rw [if_neg (fun h => by rw [hfit] at h; simp [hy] at h)])
            go_wp2
            go_ret
            exact ⟨ret_bool HR.out.symm, HB.out⟩
        · have hxb : (x != 0) = true := by simpa using hx
          have HR : Hid (rightZ rs = false) := HNO.out (by unfold stepR; rw [if_neg (fun h => by rw [hfit] at h; simp [hx] at h)])
          go_wp2
          go_ret
          exact ⟨ret_bool HR.out.symm, HB.out⟩
      by_cases h4 : op = 4
      · subst h4
        have hfit : fitsR ⟨4, x, y, z⟩ = (decide (x = 0) && decide (y = 0) && decide (z = 0)) := rfl
        have htk0 : takesF 4 = 1 := rfl
        clear HW
        by_cases hx : x = 0
        · by_cases hy : y = 0
          · by_cases hzz : z = 0
            · subst hx hy hzz
              by_cases htt : t < 1
              · skip
                have HR : Hid (rightZ rs = false) := HNO.out (by unfold stepR; rw [if_neg (fun h => by rw [htk0] at h; omega)])
                go_wp2
                go_ret
                exact ⟨ret_bool HR.out.symm, HB.out⟩
              · skip
                have HR : Hid (foldR 0 (rs.take (k + 1)) = some (t)) := HYES.out _ (by unfold stepR; rw [if_pos ⟨by rw [hfit]; rfl, by rw [htk0]; omega⟩]; exact congrArg some (show t + (1 - 1) = _ by omega))
                clear HNO HYES
                go_wp2
                go_roundw
                case rel => exact ⟨k + 1, t, by omega, by go_num, by go_num, by omega, by omega, HR, HB⟩
                case measure => simp [intOf]; omega
            · have hzb : (z != 0) = true := by simpa using hzz
              subst hx hy
              have HR : Hid (rightZ rs = false) := HNO.out (by unfold stepR; rw [if_neg (fun h => by rw [hfit] at h; simp [hzz] at h)])
              go_wp2
              go_ret
              exact ⟨ret_bool HR.out.symm, HB.out⟩
          · have hyb : (y != 0) = true := by simpa using hy
            subst hx
            have HR : Hid (rightZ rs = false) := HNO.out (by unfold stepR; rw [if_neg (fun h => by rw [hfit] at h; simp [hy] at h)])
            go_wp2
            go_ret
            exact ⟨ret_bool HR.out.symm, HB.out⟩
        · have hxb : (x != 0) = true := by simpa using hx
          have HR : Hid (rightZ rs = false) := HNO.out (by unfold stepR; rw [if_neg (fun h => by rw [hfit] at h; simp [hx] at h)])
          go_wp2
          go_ret
          exact ⟨ret_bool HR.out.symm, HB.out⟩
      by_cases h5 : op = 5
      · subst h5
        have hfit : fitsR ⟨5, x, y, z⟩ = (decide (x = 0) && decide (y = 0) && decide (z = 0)) := rfl
        have htk0 : takesF 5 = 2 := rfl
        clear HW
        by_cases hx : x = 0
        · by_cases hy : y = 0
          · by_cases hzz : z = 0
            · subst hx hy hzz
              by_cases htt : t < 2
              · skip
                have HR : Hid (rightZ rs = false) := HNO.out (by unfold stepR; rw [if_neg (fun h => by rw [htk0] at h; omega)])
                go_wp2
                go_ret
                exact ⟨ret_bool HR.out.symm, HB.out⟩
              · skip
                have HR : Hid (foldR 0 (rs.take (k + 1)) = some (t - 1)) := HYES.out _ (by unfold stepR; rw [if_pos ⟨by rw [hfit]; rfl, by rw [htk0]; omega⟩]; exact congrArg some (show t + (1 - 2) = _ by omega))
                clear HNO HYES
                go_wp2
                go_roundw
                case rel => exact ⟨k + 1, t - 1, by omega, by go_num, by go_num, by omega, by omega, HR, HB⟩
                case measure => simp [intOf]; omega
            · have hzb : (z != 0) = true := by simpa using hzz
              subst hx hy
              have HR : Hid (rightZ rs = false) := HNO.out (by unfold stepR; rw [if_neg (fun h => by rw [hfit] at h; simp [hzz] at h)])
              go_wp2
              go_ret
              exact ⟨ret_bool HR.out.symm, HB.out⟩
          · have hyb : (y != 0) = true := by simpa using hy
            subst hx
            have HR : Hid (rightZ rs = false) := HNO.out (by unfold stepR; rw [if_neg (fun h => by rw [hfit] at h; simp [hy] at h)])
            go_wp2
            go_ret
            exact ⟨ret_bool HR.out.symm, HB.out⟩
        · have hxb : (x != 0) = true := by simpa using hx
          have HR : Hid (rightZ rs = false) := HNO.out (by unfold stepR; rw [if_neg (fun h => by rw [hfit] at h; simp [hx] at h)])
          go_wp2
          go_ret
          exact ⟨ret_bool HR.out.symm, HB.out⟩
      by_cases h6 : op = 6
      · subst h6
        have hfit : fitsR ⟨6, x, y, z⟩ = (decide (x = 0) && decide (y = 0) && decide (z = 0)) := rfl
        have htk0 : takesF 6 = 2 := rfl
        clear HW
        by_cases hx : x = 0
        · by_cases hy : y = 0
          · by_cases hzz : z = 0
            · subst hx hy hzz
              by_cases htt : t < 2
              · skip
                have HR : Hid (rightZ rs = false) := HNO.out (by unfold stepR; rw [if_neg (fun h => by rw [htk0] at h; omega)])
                go_wp2
                go_ret
                exact ⟨ret_bool HR.out.symm, HB.out⟩
              · skip
                have HR : Hid (foldR 0 (rs.take (k + 1)) = some (t - 1)) := HYES.out _ (by unfold stepR; rw [if_pos ⟨by rw [hfit]; rfl, by rw [htk0]; omega⟩]; exact congrArg some (show t + (1 - 2) = _ by omega))
                clear HNO HYES
                go_wp2
                go_roundw
                case rel => exact ⟨k + 1, t - 1, by omega, by go_num, by go_num, by omega, by omega, HR, HB⟩
                case measure => simp [intOf]; omega
            · have hzb : (z != 0) = true := by simpa using hzz
              subst hx hy
              have HR : Hid (rightZ rs = false) := HNO.out (by unfold stepR; rw [if_neg (fun h => by rw [hfit] at h; simp [hzz] at h)])
              go_wp2
              go_ret
              exact ⟨ret_bool HR.out.symm, HB.out⟩
          · have hyb : (y != 0) = true := by simpa using hy
            subst hx
            have HR : Hid (rightZ rs = false) := HNO.out (by unfold stepR; rw [if_neg (fun h => by rw [hfit] at h; simp [hy] at h)])
            go_wp2
            go_ret
            exact ⟨ret_bool HR.out.symm, HB.out⟩
        · have hxb : (x != 0) = true := by simpa using hx
          have HR : Hid (rightZ rs = false) := HNO.out (by unfold stepR; rw [if_neg (fun h => by rw [hfit] at h; simp [hx] at h)])
          go_wp2
          go_ret
          exact ⟨ret_bool HR.out.symm, HB.out⟩
      have hfit : fitsR ⟨op, x, y, z⟩ = false := by
        unfold fitsR
        simp only
        rw [if_neg h2, if_neg h3, if_neg (by omega)]
      have HR : Hid (rightZ rs = false) := HNO.out (by unfold stepR; rw [if_neg (fun h => by rw [hfit] at h; cases h.1)])
      clear HW hfit
      go_wp2
      go_ret
      exact ⟨ret_bool HR.out.symm, HB.out⟩
    · obtain rfl : k = n := by omega
      have HR : Hid (rightZ rs = decide (t = 1)) := right_some (by have := HN.out; omega) (by rw [← HF.out, List.take_of_length_le (by have := HN.out; omega)])
      go_wp2
      go_ret
      exact ⟨ret_bool HR.out.symm, HB.out⟩
end Go.Proofs.YtkklikkmpmlnbaaDoor
