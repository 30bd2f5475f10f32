/- The reference's Fix of a Store. -/
import Derived.Test.YtpaiigminmakgaaPi
import Derived.Deep.CutBlock
import Derived.Deep.DeepCutAuto
namespace Go.Proofs.Ytpaiigminmakgaa
open Go.RowKit

/-- One event: the same stamp and name. -/
def sameE (x z : Itm) : Bool := (z.ver.stamp == x.ver.stamp) && (z.ver.id.toList == x.ver.id.toList)
def stepS (acc : List Itm) (z : Itm) : List Itm := if acc.any (sameE (fixI z)) then acc else (putF acc (fixI z)).1
def fixS (zs : List Itm) : List Itm := (zs.take 12).foldl stepS []
theorem fixS_step {zs : List Itm} {j : Nat} {z : Itm} (h : zs[j]? = some z) : (zs.take (j + 1)).foldl stepS [] = stepS ((zs.take j).foldl stepS []) z := by
  rw [snoc_of h, List.foldl_append]
  rfl
theorem ins_mem {zs : List Itm} {x z : Itm} (h : z ∈ insF zs x) : z = x ∨ z ∈ zs := by
  unfold insF lowF highF at h
  simp only [List.mem_append, List.mem_cons, List.mem_filter] at h
  rcases h with h | h | h
  · exact .inr h.1
  · exact .inl h
  · exact .inr h.1
theorem ins_len (zs : List Itm) (x : Itm) : (insF zs x).length ≤ zs.length + 1 := by
  unfold insF lowF highF
  rw [List.length_append, List.length_cons]
  have : ∀ l : List Itm, (l.filter fun z => decide (z.key < x.key)).length + (l.filter fun z => decide (x.key < z.key)).length ≤ l.length := fun l => by
    induction l with
    | nil => simp
    | cons y r ih =>
      simp only [List.filter_cons, List.length_cons]
      by_cases h1 : y.key < x.key
      · simp [h1, show ¬ x.key < y.key by omega]; omega
      · by_cases h2 : x.key < y.key
        · simp [h1, h2]; omega
        · simp [h1, h2]; omega
  have := this zs
  omega
/-- What a Store that Fix made keeps to. -/
structure GoodS (zs : List Itm) (m : Nat) : Prop where
  keys : Keys zs
  right : ∀ z ∈ zs, rightI z = true
  len : zs.length ≤ m
theorem put_good {zs : List Itm} {x : Itm} {m : Nat} (h : GoodS zs m) (hx : rightI x = true) : GoodS (putF zs x).1 (m + 1) := by
  have hi : GoodS (insF zs x) (m + 1) := ⟨ins_keys h.keys, fun z hz => by rcases ins_mem hz with rfl | hz; exact hx; exact h.right z hz, by have := ins_len zs x; have := h.len; omega⟩
  unfold putF
  split
  · exact hi
  · split
    · exact hi
    · exact ⟨h.keys, h.right, by show zs.length ≤ _; have := h.len; omega⟩
theorem step_good {zs : List Itm} {z : Itm} {m : Nat} (h : GoodS zs m) : GoodS (stepS zs z) (m + 1) := by
  unfold stepS
  split
  · exact ⟨h.keys, h.right, by have := h.len; omega⟩
  · exact put_good h (fix_right z)
theorem any_snoc {zs : List Itm} {j : Nat} {z : Itm} (f : Itm → Bool) (h : zs[j]? = some z) : (zs.take (j + 1)).any f = ((zs.take j).any f || f z) := by
  rw [snoc_of h, List.any_append]
  simp
theorem good_id {zs : List Itm} {m : Nat} (h : GoodS zs m) : ∀ z ∈ zs, z.ver.id.size ≤ 9223372036854775807 := fun z hz => by
  have := (rightV_bounds (right_bounds (h.right z hz)).2.2.1).2.1
  omega

set_option maxRecDepth 100000 in
set_option maxHeartbeats 8000000 in
theorem rfix_any (A : Option Addr) (n c : Nat) (zs : List Itm) (w : World) (hz : RowAt cellsI 9 w w.heap.size A n zs) :
    Calls Try.prog 9 #[.slice A n c] w (OwnRow cellsI 9 28 (fixS zs) w) := by
  have HZ := Lib.hid hz
  have HL := Lib.hid hz.1
  clear hz
  go_enter Try.func9, Try.ntmps9
  go_wp2
  go_loopw [3, 4] (fun v i wr => ∃ (j : Nat) (Av : Option Addr) (cv : Nat) (ys : List Itm), j ≤ n ∧ j ≤ 12 ∧ i = .int .i64 j ∧ v = .slice Av ys.length cv ∧ ys.length ≤ j ∧ Hid (ys = (zs.take j).foldl stepS []) ∧ Hid (GoodS ys j) ∧ Hid (wr.ownsRow w.heap.size 28 9 (.slice Av ys.length cv) ys.length (rowCells cellsI ys)) ∧ Hid (Below w.heap.size w wr)) (fun _ i _ => 12 - (intOf i).toNat)
  case atStart => exact ⟨0, none, 0, [], by omega, by omega, rfl, rfl, by simp, by simp [Hid], ⟨List.Pairwise.nil, fun _ h => by simp at h, by simp⟩, rown_nil _ _, Below.refl _ _⟩
  case round =>
    obtain ⟨j, Av, cv, ys, hj, hj12, rfl, rfl, hyl, HY, HGD, HO, HB⟩ := hrel
    by_cases hlt : j < n
    · by_cases hlt2 : j < 12
      · obtain ⟨blk, off, rfl, hbB, l0, hlj, hcell⟩ := HZ.out.get hlt
        obtain ⟨e0, e1, e2, e3, e4, e5, e6, e7, e8⟩ := cellsI_at hcell
        replace e0 := (HB.out.cell (p := ⟨blk, off + j * 9, none⟩) hbB).trans e0
        replace e1 := (HB.out.cell (p := ⟨blk, off + j * 9 + 1, none⟩) hbB).trans e1
        replace e2 := (HB.out.cell (p := ⟨blk, off + j * 9 + 2, none⟩) hbB).trans e2
        replace e3 := (HB.out.cell (p := ⟨blk, off + j * 9 + 3, none⟩) hbB).trans e3
        replace e4 := (HB.out.cell (p := ⟨blk, off + j * 9 + 4, none⟩) hbB).trans e4
        replace e5 := (HB.out.cell (p := ⟨blk, off + j * 9 + 5, none⟩) hbB).trans e5
        replace e6 := (HB.out.cell (p := ⟨blk, off + j * 9 + 6, none⟩) hbB).trans e6
        replace e7 := (HB.out.cell (p := ⟨blk, off + j * 9 + 7, none⟩) hbB).trans e7
        replace e8 := (HB.out.cell (p := ⟨blk, off + j * 9 + 8, none⟩) hbB).trans e8
        have h1' : (j : Int) < n := by omega
        have h2' : (j : Int) < 12 := by omega
        have HX := Lib.hid (fixRef_any l0)
        have HST := Lib.hid (fixS_step hlj)
        rw [← HY.out] at HST
        have HGN := Lib.hid (step_good (z := l0) HGD.out)
        have HXR := Lib.hid (fix_right l0)
        have HSD := Lib.hid (show stepS ys l0 = if ys.any (sameE (fixI l0)) then ys else (putF ys (fixI l0)).1 from rfl)
        generalize stepS ys l0 = ns at *
        generalize fixI l0 = xx at *
        clear hcell hlj HY
        obtain ⟨key, ⟨d, a, s⟩, dead, x, y, text, held⟩ := l0
        have HXI := Lib.hid (show refV xx = .agg #[.int .i64 xx.key, .string xx.ver.id, .int .i64 xx.ver.seq, .int .i64 xx.ver.stamp, .bool xx.dead, .int .i64 xx.x, .int .i64 xx.y, .string xx.text, .bool xx.held] from rfl)
        rw [HXI.out] at HX
        have HPT : Hid (∀ (w : World) (A : Option Addr) (c B : Nat), B ≤ w.heap.size → RowAt cellsI 9 w B A ys.length ys → Calls Try.prog 18 #[.slice A ys.length c, refV xx] w (RPutRet ys xx w)) := fun w A c B h1 h2 => rput_any A ys.length c ys xx B w h1 h2 (by omega) HGD.out.keys (good_id HGD.out)
        rw [HXI.out] at HPT
        have HSE : Hid (∀ z, sameE xx z = ((z.ver.stamp == xx.ver.stamp) && (z.ver.id.toList == xx.ver.id.toList))) := fun _ => rfl
        unfold refV at HX
        simp only at HX e0 e1 e2 e3 e4 e5 e6 e7 e8
        clear HXI
        generalize xx.key = key2 at *
        generalize xx.ver.id = d2 at *
        generalize xx.ver.seq = a2 at *
        generalize xx.ver.stamp = s2 at *
        generalize xx.dead = dead2 at *
        generalize xx.x = x2 at *
        generalize xx.y = y2 at *
        generalize xx.text = text2 at *
        generalize xx.held = held2 at *
        go_wp2_with fail
        refine (HX.out _).mono ?_
        rintro e w1 ⟨rfl, hb⟩
        replace HO := Lib.hid (rown_below HO.out hb)
        replace HB := Lib.hid (HB.out.trans (hb.mono HB.out.size))
        clear hb e0 e1 e2 e3 e4 e5 e6 e7 e8 HX
        go_upto_region 7 with fail
        have k0 : (w1.alloc (.cells #[.int .i64 key2, .string d2, .int .i64 a2, .int .i64 s2, .bool dead2, .int .i64 x2, .int .i64 y2, .string text2, .bool held2] 28)).cell? ⟨w1.heap.size, 0, none⟩ = some (.int .i64 key2) := by simp [go_sem]
        have kf0 : (w1.alloc (.cells #[.int .i64 key2, .string d2, .int .i64 a2, .int .i64 s2, .bool dead2, .int .i64 x2, .int .i64 y2, .string text2, .bool held2] 28)).frozen? ⟨w1.heap.size, 0, none⟩ = false := by simp [go_sem]
        have k1 : (w1.alloc (.cells #[.int .i64 key2, .string d2, .int .i64 a2, .int .i64 s2, .bool dead2, .int .i64 x2, .int .i64 y2, .string text2, .bool held2] 28)).cell? ⟨w1.heap.size, 1, none⟩ = some (.string d2) := by simp [go_sem]
        have kf1 : (w1.alloc (.cells #[.int .i64 key2, .string d2, .int .i64 a2, .int .i64 s2, .bool dead2, .int .i64 x2, .int .i64 y2, .string text2, .bool held2] 28)).frozen? ⟨w1.heap.size, 1, none⟩ = false := by simp [go_sem]
        have k2 : (w1.alloc (.cells #[.int .i64 key2, .string d2, .int .i64 a2, .int .i64 s2, .bool dead2, .int .i64 x2, .int .i64 y2, .string text2, .bool held2] 28)).cell? ⟨w1.heap.size, 2, none⟩ = some (.int .i64 a2) := by simp [go_sem]
        have kf2 : (w1.alloc (.cells #[.int .i64 key2, .string d2, .int .i64 a2, .int .i64 s2, .bool dead2, .int .i64 x2, .int .i64 y2, .string text2, .bool held2] 28)).frozen? ⟨w1.heap.size, 2, none⟩ = false := by simp [go_sem]
        have k3 : (w1.alloc (.cells #[.int .i64 key2, .string d2, .int .i64 a2, .int .i64 s2, .bool dead2, .int .i64 x2, .int .i64 y2, .string text2, .bool held2] 28)).cell? ⟨w1.heap.size, 3, none⟩ = some (.int .i64 s2) := by simp [go_sem]
        have kf3 : (w1.alloc (.cells #[.int .i64 key2, .string d2, .int .i64 a2, .int .i64 s2, .bool dead2, .int .i64 x2, .int .i64 y2, .string text2, .bool held2] 28)).frozen? ⟨w1.heap.size, 3, none⟩ = false := by simp [go_sem]
        have k4 : (w1.alloc (.cells #[.int .i64 key2, .string d2, .int .i64 a2, .int .i64 s2, .bool dead2, .int .i64 x2, .int .i64 y2, .string text2, .bool held2] 28)).cell? ⟨w1.heap.size, 4, none⟩ = some (.bool dead2) := by simp [go_sem]
        have kf4 : (w1.alloc (.cells #[.int .i64 key2, .string d2, .int .i64 a2, .int .i64 s2, .bool dead2, .int .i64 x2, .int .i64 y2, .string text2, .bool held2] 28)).frozen? ⟨w1.heap.size, 4, none⟩ = false := by simp [go_sem]
        have k5 : (w1.alloc (.cells #[.int .i64 key2, .string d2, .int .i64 a2, .int .i64 s2, .bool dead2, .int .i64 x2, .int .i64 y2, .string text2, .bool held2] 28)).cell? ⟨w1.heap.size, 5, none⟩ = some (.int .i64 x2) := by simp [go_sem]
        have kf5 : (w1.alloc (.cells #[.int .i64 key2, .string d2, .int .i64 a2, .int .i64 s2, .bool dead2, .int .i64 x2, .int .i64 y2, .string text2, .bool held2] 28)).frozen? ⟨w1.heap.size, 5, none⟩ = false := by simp [go_sem]
        have k6 : (w1.alloc (.cells #[.int .i64 key2, .string d2, .int .i64 a2, .int .i64 s2, .bool dead2, .int .i64 x2, .int .i64 y2, .string text2, .bool held2] 28)).cell? ⟨w1.heap.size, 6, none⟩ = some (.int .i64 y2) := by simp [go_sem]
        have kf6 : (w1.alloc (.cells #[.int .i64 key2, .string d2, .int .i64 a2, .int .i64 s2, .bool dead2, .int .i64 x2, .int .i64 y2, .string text2, .bool held2] 28)).frozen? ⟨w1.heap.size, 6, none⟩ = false := by simp [go_sem]
        have k7 : (w1.alloc (.cells #[.int .i64 key2, .string d2, .int .i64 a2, .int .i64 s2, .bool dead2, .int .i64 x2, .int .i64 y2, .string text2, .bool held2] 28)).cell? ⟨w1.heap.size, 7, none⟩ = some (.string text2) := by simp [go_sem]
        have kf7 : (w1.alloc (.cells #[.int .i64 key2, .string d2, .int .i64 a2, .int .i64 s2, .bool dead2, .int .i64 x2, .int .i64 y2, .string text2, .bool held2] 28)).frozen? ⟨w1.heap.size, 7, none⟩ = false := by simp [go_sem]
        have k8 : (w1.alloc (.cells #[.int .i64 key2, .string d2, .int .i64 a2, .int .i64 s2, .bool dead2, .int .i64 x2, .int .i64 y2, .string text2, .bool held2] 28)).cell? ⟨w1.heap.size, 8, none⟩ = some (.bool held2) := by simp [go_sem]
        have kf8 : (w1.alloc (.cells #[.int .i64 key2, .string d2, .int .i64 a2, .int .i64 s2, .bool dead2, .int .i64 x2, .int .i64 y2, .string text2, .bool held2] 28)).frozen? ⟨w1.heap.size, 8, none⟩ = false := by simp [go_sem]
        have kz : w1.heap.size < (w1.alloc (.cells #[.int .i64 key2, .string d2, .int .i64 a2, .int .i64 s2, .bool dead2, .int .i64 x2, .int .i64 y2, .string text2, .bool held2] 28)).heap.size := by simp <;> omega
        have hb : Below w1.heap.size w1 (w1.alloc (.cells #[.int .i64 key2, .string d2, .int .i64 a2, .int .i64 s2, .bool dead2, .int .i64 x2, .int .i64 y2, .string text2, .bool held2] 28)) := (Below.refl _ _).alloc (Nat.le_refl _) _
        replace HO := Lib.hid (rown_below HO.out hb)
        replace HB := Lib.hid (HB.out.trans (hb.mono HB.out.size))
        clear hb
        generalize (w1.alloc (.cells #[.int .i64 key2, .string d2, .int .i64 a2, .int .i64 s2, .bool dead2, .int .i64 x2, .int .i64 y2, .string text2, .bool held2] 28)) = W1 at *
        generalize w1.heap.size = X at *
        have HRW := Lib.hid (own_row rowI HO.out)
        go_wp2_with fail
        go_loopw [6, 7] (fun t i wr => ∃ (q : Nat) (tb : Bool) (m : Nat), i = .int .i64 q ∧ q ≤ ys.length ∧ t = .bool tb ∧ Hid ((ys.take q).any (sameE xx) = tb) ∧ wr = W1.drewN m) (fun _ i _ => ys.length - (intOf i).toNat)
        case atStart => exact ⟨0, false, 0, rfl, by omega, rfl, by simp [Hid], rfl⟩
        case round =>
          obtain ⟨q, tb, m, rfl, hq, rfl, HT, rfl⟩ := hrel
          by_cases hql : q < ys.length
          · obtain ⟨b2, o2, rfl, hb2, zq, hzq, hc2⟩ := HRW.out.get hql
            obtain ⟨_, g1, _, g3, _⟩ := cellsI_at hc2
            have HAS := Lib.hid (any_snoc (sameE xx) hzq)
            rw [HT.out, HSE.out zq] at HAS
            generalize zq.ver.id = d3 at *
            generalize zq.ver.stamp = s3 at *
            have hqi : (q : Int) < ys.length := by omega
            clear hc2 hzq HT
            cases tb
            · by_cases hs : s3 = s2
              · have hs' : (s3 == s2) = true := by simpa using hs
                obtain ⟨ib, hib⟩ : ∃ ib, (d3.toList == d2.toList) = ib := ⟨_, rfl⟩
                have HN : Hid ((ys.take (q + 1)).any (sameE xx) = ib) := by show _ = _; rw [HAS.out, hs', hib]; rfl
                clear HAS hs
                go_wp2
                go_quiet (fail)
                go_wp2
                go_roundw
                case rel => exact ⟨q + 1, ib, _, by go_num, by omega, by first | rfl | rw [hib] | simp [hib], HN, rfl⟩
                case measure => simp [intOf]; omega
              · have hs' : (s3 == s2) = false := by simpa using hs
                have HN : Hid ((ys.take (q + 1)).any (sameE xx) = false) := by show _ = _; rw [HAS.out, hs']; rfl
                clear HAS hs
                go_wp2
                go_quiet (fail)
                go_wp2
                go_roundw
                case rel => exact ⟨q + 1, false, _, by go_num, by omega, rfl, HN, rfl⟩
                case measure => simp [intOf]; omega
            · have HN : Hid ((ys.take (q + 1)).any (sameE xx) = true) := by show _ = _; rw [HAS.out]; rfl
              clear HAS
              go_wp2
              go_quiet (fail)
              go_wp2
              go_roundw
              case rel => exact ⟨q + 1, true, _, by go_num, by omega, rfl, HN, rfl⟩
              case measure => simp [intOf]; omega
          · obtain rfl : q = ys.length := by omega
            rw [List.take_length] at HT
            have HBm : Hid (Below w.heap.size w (W1.drewN m)) := HB.out.trans ⟨rfl, rfl, rfl, Nat.le_refl _, fun _ _ => rfl⟩
            have HOm : Hid ((W1.drewN m).ownsRow w.heap.size 28 9 (.slice Av ys.length cv) ys.length (rowCells cellsI ys)) := HO
            cases tb
            · rw [HT.out, if_neg (by decide)] at HSD
              go_wp2_with fail
              refine (HPT.out _ Av cv (W1.drewN m).heap.size (Nat.le_refl _) (own_row rowI HOm.out)).mono ?_
              rintro e w4 ⟨A4, c4, rfl, ho, hb⟩
              have HO4 : Hid (w4.ownsRow w.heap.size 28 9 (.slice A4 (putF ys xx).1.length c4) (putF ys xx).1.length (rowCells cellsI (putF ys xx).1)) := rown_base ho HBm.out.size
              have HB4 := Lib.hid (HBm.out.trans (hb.mono HBm.out.size))
              rw [← HSD.out] at HO4 ⊢
              generalize (putF ys xx).2 = pb
              clear ho hb
              have hnl := HGN.out.len
              go_wp2
              go_roundw
              case rel => exact ⟨j + 1, A4, c4, ns, by omega, by omega, by go_num, rfl, hnl, HST.out.symm, HGN, HO4, HB4⟩
              case measure => simp [intOf]; omega
            · rw [HT.out, if_pos rfl] at HSD
              have HSD' := Lib.hid HSD.out.symm
              go_wp2
              go_roundw
              case rel => exact ⟨j + 1, Av, cv, ys, by omega, by omega, by go_num, rfl, by omega, by show _ = _; rw [HSD'.out]; exact HST.out.symm, by rw [HSD'.out]; exact HGN, HOm, HBm⟩
              case measure => simp [intOf]; omega
      · have h1' : (j : Int) < n := by omega
        have h2' : decide ((j : Int) < 12) = false := by simp; omega
        obtain rfl : j = 12 := by omega
        go_wp2
        go_ret
        have e : fixS zs = ys := HY.out.symm
        rw [e]
        exact ⟨Av, cv, rfl, HO.out, HB.out⟩
    · have h1' : decide ((j : Int) < n) = false := by simp; omega
      have e : fixS zs = ys := by
        rw [HY.out]
        unfold fixS
        rw [List.take_of_length_le (by rw [HL.out]; omega), List.take_of_length_le (by rw [HL.out]; omega)]
      have HE := Lib.hid e
      clear e
      go_wp2
      go_ret
      rw [HE.out]
      exact ⟨Av, cv, rfl, HO.out, HB.out⟩
end Go.Proofs.Ytpaiigminmakgaa
