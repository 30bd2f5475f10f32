/- Texts Pj Pu Pv, one behind the other. -/
import Derived.Test.YtpaiigminmakgaaHPi
import Derived.Deep.CutBlock
import Derived.Deep.DeepCutAuto
import Derived.BigRegion
/- The reference's Fix of a Store. -/
namespace Go.Proofs.Ytpaiigminmakgaa
open Go.RowKit

/-- One event: the same stamp and name. -/
def sameE (x z : Itm) : Bool := (z.ver.stamp == x.ver.stamp) && (z.ver.id.toList == x.ver.id.toList)
def stepS (acc : List Itm) (z : Itm) : List Itm := if acc.any (sameE (fixI z)) then acc else (putF acc (fixI z)).1
def fixS (zs : List Itm) : List Itm := (zs.take 12).foldl stepS []
theorem fixS_step {zs : List Itm} {j : Nat} {z : Itm} (h : zs[j]? = some z) : (zs.take (j + 1)).foldl stepS [] = stepS ((zs.take j).foldl stepS []) z := by
  rw [snoc_of h, List.foldl_append]
  rfl
theorem ins_mem {zs : List Itm} {x z : Itm} (h : z ∈ insF zs x) : z = x ∨ z ∈ zs := by
  unfold insF lowF highF at h
  simp only [List.mem_append, List.mem_cons, List.mem_filter] at h
  rcases h with h | h | h
  · exact .inr h.1
  · exact .inl h
  · exact .inr h.1
theorem ins_len (zs : List Itm) (x : Itm) : (insF zs x).length ≤ zs.length + 1 := by
  unfold insF lowF highF
  rw [List.length_append, List.length_cons]
  have : ∀ l : List Itm, (l.filter fun z => decide (z.key < x.key)).length + (l.filter fun z => decide (x.key < z.key)).length ≤ l.length := fun l => by
    induction l with
    | nil => simp
    | cons y r ih =>
      simp only [List.filter_cons, List.length_cons]
      by_cases h1 : y.key < x.key
      · simp [h1, show ¬ x.key < y.key by omega]; omega
      · by_cases h2 : x.key < y.key
        · simp [h1, h2]; omega
        · simp [h1, h2]; omega
  have := this zs
  omega
/-- What a Store that Fix made keeps to. -/
structure GoodS (zs : List Itm) (m : Nat) : Prop where
  keys : Keys zs
  right : ∀ z ∈ zs, rightI z = true
  len : zs.length ≤ m
theorem put_good {zs : List Itm} {x : Itm} {m : Nat} (h : GoodS zs m) (hx : rightI x = true) : GoodS (putF zs x).1 (m + 1) := by
  have hi : GoodS (insF zs x) (m + 1) := ⟨ins_keys h.keys, fun z hz => by rcases ins_mem hz with rfl | hz; exact hx; exact h.right z hz, by have := ins_len zs x; have := h.len; omega⟩
  unfold putF
  split
  · exact hi
  · split
    · exact hi
    · exact ⟨h.keys, h.right, by show zs.length ≤ _; have := h.len; omega⟩
theorem step_good {zs : List Itm} {z : Itm} {m : Nat} (h : GoodS zs m) : GoodS (stepS zs z) (m + 1) := by
  unfold stepS
  split
  · exact ⟨h.keys, h.right, by have := h.len; omega⟩
  · exact put_good h (fix_right z)
theorem any_snoc {zs : List Itm} {j : Nat} {z : Itm} (f : Itm → Bool) (h : zs[j]? = some z) : (zs.take (j + 1)).any f = ((zs.take j).any f || f z) := by
  rw [snoc_of h, List.any_append]
  simp
theorem good_id {zs : List Itm} {m : Nat} (h : GoodS zs m) : ∀ z ∈ zs, z.ver.id.size ≤ 9223372036854775807 := fun z hz => by
  have := (rightV_bounds (right_bounds (h.right z hz)).2.2.1).2.1
  omega

set_option maxRecDepth 100000 in
set_option maxHeartbeats 8000000 in
theorem rfix_any (A : Option Addr) (n c : Nat) (zs : List Itm) (w : World) (hz : RowAt cellsI 9 w w.heap.size A n zs) :
    Calls Try.prog 9 #[.slice A n c] w (OwnRow cellsI 9 28 (fixS zs) w) := by
  have HZ := Lib.hid hz
  have HL := Lib.hid hz.1
  clear hz
  go_enter Try.func9, Try.ntmps9
  go_wp2
  go_loopw [3, 4] (fun v i wr => ∃ (j : Nat) (Av : Option Addr) (cv : Nat) (ys : List Itm), j ≤ n ∧ j ≤ 12 ∧ i = .int .i64 j ∧ v = .slice Av ys.length cv ∧ ys.length ≤ j ∧ Hid (ys = (zs.take j).foldl stepS []) ∧ Hid (GoodS ys j) ∧ Hid (wr.ownsRow w.heap.size 28 9 (.slice Av ys.length cv) ys.length (rowCells cellsI ys)) ∧ Hid (Below w.heap.size w wr)) (fun _ i _ => 12 - (intOf i).toNat)
  case atStart => exact ⟨0, none, 0, [], by omega, by omega, rfl, rfl, by simp, by simp [Hid], ⟨List.Pairwise.nil, fun _ h => by simp at h, by simp⟩, rown_nil _ _, Below.refl _ _⟩
  case round =>
    obtain ⟨j, Av, cv, ys, hj, hj12, rfl, rfl, hyl, HY, HGD, HO, HB⟩ := hrel
    by_cases hlt : j < n
    · by_cases hlt2 : j < 12
      · obtain ⟨blk, off, rfl, hbB, l0, hlj, hcell⟩ := HZ.out.get hlt
        obtain ⟨e0, e1, e2, e3, e4, e5, e6, e7, e8⟩ := cellsI_at hcell
        replace e0 := (HB.out.cell (p := ⟨blk, off + j * 9, none⟩) hbB).trans e0
        replace e1 := (HB.out.cell (p := ⟨blk, off + j * 9 + 1, none⟩) hbB).trans e1
        replace e2 := (HB.out.cell (p := ⟨blk, off + j * 9 + 2, none⟩) hbB).trans e2
        replace e3 := (HB.out.cell (p := ⟨blk, off + j * 9 + 3, none⟩) hbB).trans e3
        replace e4 := (HB.out.cell (p := ⟨blk, off + j * 9 + 4, none⟩) hbB).trans e4
        replace e5 := (HB.out.cell (p := ⟨blk, off + j * 9 + 5, none⟩) hbB).trans e5
        replace e6 := (HB.out.cell (p := ⟨blk, off + j * 9 + 6, none⟩) hbB).trans e6
        replace e7 := (HB.out.cell (p := ⟨blk, off + j * 9 + 7, none⟩) hbB).trans e7
        replace e8 := (HB.out.cell (p := ⟨blk, off + j * 9 + 8, none⟩) hbB).trans e8
        have h1' : (j : Int) < n := by omega
        have h2' : (j : Int) < 12 := by omega
        have HX := Lib.hid (fixRef_any l0)
        have HST := Lib.hid (fixS_step hlj)
        rw [← HY.out] at HST
        have HGN := Lib.hid (step_good (z := l0) HGD.out)
        have HXR := Lib.hid (fix_right l0)
        have HSD := Lib.hid (show stepS ys l0 = if ys.any (sameE (fixI l0)) then ys else (putF ys (fixI l0)).1 from rfl)
        generalize stepS ys l0 = ns at *
        generalize fixI l0 = xx at *
        clear hcell hlj HY
        obtain ⟨key, ⟨d, a, s⟩, dead, x, y, text, held⟩ := l0
        have HXI := Lib.hid (show refV xx = .agg #[.int .i64 xx.key, .string xx.ver.id, .int .i64 xx.ver.seq, .int .i64 xx.ver.stamp, .bool xx.dead, .int .i64 xx.x, .int .i64 xx.y, .string xx.text, .bool xx.held] from rfl)
        rw [HXI.out] at HX
        have HPT : Hid (∀ (w : World) (A : Option Addr) (c B : Nat), B ≤ w.heap.size → RowAt cellsI 9 w B A ys.length ys → Calls Try.prog 18 #[.slice A ys.length c, refV xx] w (RPutRet ys xx w)) := fun w A c B h1 h2 => rput_any A ys.length c ys xx B w h1 h2 (by omega) HGD.out.keys (good_id HGD.out)
        rw [HXI.out] at HPT
        have HSE : Hid (∀ z, sameE xx z = ((z.ver.stamp == xx.ver.stamp) && (z.ver.id.toList == xx.ver.id.toList))) := fun _ => rfl
        unfold refV at HX
        simp only at HX e0 e1 e2 e3 e4 e5 e6 e7 e8
        clear HXI
        generalize xx.key = key2 at *
        generalize xx.ver.id = d2 at *
        generalize xx.ver.seq = a2 at *
        generalize xx.ver.stamp = s2 at *
        generalize xx.dead = dead2 at *
        generalize xx.x = x2 at *
        generalize xx.y = y2 at *
        generalize xx.text = text2 at *
        generalize xx.held = held2 at *
        go_wp2_with fail
        refine (HX.out _).mono ?_
        rintro e w1 ⟨rfl, hb⟩
        replace HO := Lib.hid (rown_below HO.out hb)
        replace HB := Lib.hid (HB.out.trans (hb.mono HB.out.size))
        clear hb e0 e1 e2 e3 e4 e5 e6 e7 e8 HX
        go_upto_region 7 with fail
        have k0 : (w1.alloc (.cells #[.int .i64 key2, .string d2, .int .i64 a2, .int .i64 s2, .bool dead2, .int .i64 x2, .int .i64 y2, .string text2, .bool held2] 28)).cell? ⟨w1.heap.size, 0, none⟩ = some (.int .i64 key2) := by simp [go_sem]
        have kf0 : (w1.alloc (.cells #[.int .i64 key2, .string d2, .int .i64 a2, .int .i64 s2, .bool dead2, .int .i64 x2, .int .i64 y2, .string text2, .bool held2] 28)).frozen? ⟨w1.heap.size, 0, none⟩ = false := by simp [go_sem]
        have k1 : (w1.alloc (.cells #[.int .i64 key2, .string d2, .int .i64 a2, .int .i64 s2, .bool dead2, .int .i64 x2, .int .i64 y2, .string text2, .bool held2] 28)).cell? ⟨w1.heap.size, 1, none⟩ = some (.string d2) := by simp [go_sem]
        have kf1 : (w1.alloc (.cells #[.int .i64 key2, .string d2, .int .i64 a2, .int .i64 s2, .bool dead2, .int .i64 x2, .int .i64 y2, .string text2, .bool held2] 28)).frozen? ⟨w1.heap.size, 1, none⟩ = false := by simp [go_sem]
        have k2 : (w1.alloc (.cells #[.int .i64 key2, .string d2, .int .i64 a2, .int .i64 s2, .bool dead2, .int .i64 x2, .int .i64 y2, .string text2, .bool held2] 28)).cell? ⟨w1.heap.size, 2, none⟩ = some (.int .i64 a2) := by simp [go_sem]
        have kf2 : (w1.alloc (.cells #[.int .i64 key2, .string d2, .int .i64 a2, .int .i64 s2, .bool dead2, .int .i64 x2, .int .i64 y2, .string text2, .bool held2] 28)).frozen? ⟨w1.heap.size, 2, none⟩ = false := by simp [go_sem]
        have k3 : (w1.alloc (.cells #[.int .i64 key2, .string d2, .int .i64 a2, .int .i64 s2, .bool dead2, .int .i64 x2, .int .i64 y2, .string text2, .bool held2] 28)).cell? ⟨w1.heap.size, 3, none⟩ = some (.int .i64 s2) := by simp [go_sem]
        have kf3 : (w1.alloc (.cells #[.int .i64 key2, .string d2, .int .i64 a2, .int .i64 s2, .bool dead2, .int .i64 x2, .int .i64 y2, .string text2, .bool held2] 28)).frozen? ⟨w1.heap.size, 3, none⟩ = false := by simp [go_sem]
        have k4 : (w1.alloc (.cells #[.int .i64 key2, .string d2, .int .i64 a2, .int .i64 s2, .bool dead2, .int .i64 x2, .int .i64 y2, .string text2, .bool held2] 28)).cell? ⟨w1.heap.size, 4, none⟩ = some (.bool dead2) := by simp [go_sem]
        have kf4 : (w1.alloc (.cells #[.int .i64 key2, .string d2, .int .i64 a2, .int .i64 s2, .bool dead2, .int .i64 x2, .int .i64 y2, .string text2, .bool held2] 28)).frozen? ⟨w1.heap.size, 4, none⟩ = false := by simp [go_sem]
        have k5 : (w1.alloc (.cells #[.int .i64 key2, .string d2, .int .i64 a2, .int .i64 s2, .bool dead2, .int .i64 x2, .int .i64 y2, .string text2, .bool held2] 28)).cell? ⟨w1.heap.size, 5, none⟩ = some (.int .i64 x2) := by simp [go_sem]
        have kf5 : (w1.alloc (.cells #[.int .i64 key2, .string d2, .int .i64 a2, .int .i64 s2, .bool dead2, .int .i64 x2, .int .i64 y2, .string text2, .bool held2] 28)).frozen? ⟨w1.heap.size, 5, none⟩ = false := by simp [go_sem]
        have k6 : (w1.alloc (.cells #[.int .i64 key2, .string d2, .int .i64 a2, .int .i64 s2, .bool dead2, .int .i64 x2, .int .i64 y2, .string text2, .bool held2] 28)).cell? ⟨w1.heap.size, 6, none⟩ = some (.int .i64 y2) := by simp [go_sem]
        have kf6 : (w1.alloc (.cells #[.int .i64 key2, .string d2, .int .i64 a2, .int .i64 s2, .bool dead2, .int .i64 x2, .int .i64 y2, .string text2, .bool held2] 28)).frozen? ⟨w1.heap.size, 6, none⟩ = false := by simp [go_sem]
        have k7 : (w1.alloc (.cells #[.int .i64 key2, .string d2, .int .i64 a2, .int .i64 s2, .bool dead2, .int .i64 x2, .int .i64 y2, .string text2, .bool held2] 28)).cell? ⟨w1.heap.size, 7, none⟩ = some (.string text2) := by simp [go_sem]
        have kf7 : (w1.alloc (.cells #[.int .i64 key2, .string d2, .int .i64 a2, .int .i64 s2, .bool dead2, .int .i64 x2, .int .i64 y2, .string text2, .bool held2] 28)).frozen? ⟨w1.heap.size, 7, none⟩ = false := by simp [go_sem]
        have k8 : (w1.alloc (.cells #[.int .i64 key2, .string d2, .int .i64 a2, .int .i64 s2, .bool dead2, .int .i64 x2, .int .i64 y2, .string text2, .bool held2] 28)).cell? ⟨w1.heap.size, 8, none⟩ = some (.bool held2) := by simp [go_sem]
        have kf8 : (w1.alloc (.cells #[.int .i64 key2, .string d2, .int .i64 a2, .int .i64 s2, .bool dead2, .int .i64 x2, .int .i64 y2, .string text2, .bool held2] 28)).frozen? ⟨w1.heap.size, 8, none⟩ = false := by simp [go_sem]
        have kz : w1.heap.size < (w1.alloc (.cells #[.int .i64 key2, .string d2, .int .i64 a2, .int .i64 s2, .bool dead2, .int .i64 x2, .int .i64 y2, .string text2, .bool held2] 28)).heap.size := by simp <;> omega
        have hb : Below w1.heap.size w1 (w1.alloc (.cells #[.int .i64 key2, .string d2, .int .i64 a2, .int .i64 s2, .bool dead2, .int .i64 x2, .int .i64 y2, .string text2, .bool held2] 28)) := (Below.refl _ _).alloc (Nat.le_refl _) _
        replace HO := Lib.hid (rown_below HO.out hb)
        replace HB := Lib.hid (HB.out.trans (hb.mono HB.out.size))
        clear hb
        generalize (w1.alloc (.cells #[.int .i64 key2, .string d2, .int .i64 a2, .int .i64 s2, .bool dead2, .int .i64 x2, .int .i64 y2, .string text2, .bool held2] 28)) = W1 at *
        generalize w1.heap.size = X at *
        have HRW := Lib.hid (own_row rowI HO.out)
        go_wp2_with fail
        go_loopw [6, 7] (fun t i wr => ∃ (q : Nat) (tb : Bool) (m : Nat), i = .int .i64 q ∧ q ≤ ys.length ∧ t = .bool tb ∧ Hid ((ys.take q).any (sameE xx) = tb) ∧ wr = W1.drewN m) (fun _ i _ => ys.length - (intOf i).toNat)
        case atStart => exact ⟨0, false, 0, rfl, by omega, rfl, by simp [Hid], rfl⟩
        case round =>
          obtain ⟨q, tb, m, rfl, hq, rfl, HT, rfl⟩ := hrel
          by_cases hql : q < ys.length
          · obtain ⟨b2, o2, rfl, hb2, zq, hzq, hc2⟩ := HRW.out.get hql
            obtain ⟨_, g1, _, g3, _⟩ := cellsI_at hc2
            have HAS := Lib.hid (any_snoc (sameE xx) hzq)
            rw [HT.out, HSE.out zq] at HAS
            generalize zq.ver.id = d3 at *
            generalize zq.ver.stamp = s3 at *
            have hqi : (q : Int) < ys.length := by omega
            clear hc2 hzq HT
            cases tb
            · by_cases hs : s3 = s2
              · have hs' : (s3 == s2) = true := by simpa using hs
                obtain ⟨ib, hib⟩ : ∃ ib, (d3.toList == d2.toList) = ib := ⟨_, rfl⟩
                have HN : Hid ((ys.take (q + 1)).any (sameE xx) = ib) := by show _ = _; rw [HAS.out, hs', hib]; rfl
                clear HAS hs
                go_wp2
                go_quiet (fail)
                go_wp2
                go_roundw
                case rel => exact ⟨q + 1, ib, _, by go_num, by omega, by first | rfl | rw [hib] | simp [hib], HN, rfl⟩
                case measure => simp [intOf]; omega
              · have hs' : (s3 == s2) = false := by simpa using hs
                have HN : Hid ((ys.take (q + 1)).any (sameE xx) = false) := by show _ = _; rw [HAS.out, hs']; rfl
                clear HAS hs
                go_wp2
                go_quiet (fail)
                go_wp2
                go_roundw
                case rel => exact ⟨q + 1, false, _, by go_num, by omega, rfl, HN, rfl⟩
                case measure => simp [intOf]; omega
            · have HN : Hid ((ys.take (q + 1)).any (sameE xx) = true) := by show _ = _; rw [HAS.out]; rfl
              clear HAS
              go_wp2
              go_quiet (fail)
              go_wp2
              go_roundw
              case rel => exact ⟨q + 1, true, _, by go_num, by omega, rfl, HN, rfl⟩
              case measure => simp [intOf]; omega
          · obtain rfl : q = ys.length := by omega
            rw [List.take_length] at HT
            have HBm : Hid (Below w.heap.size w (W1.drewN m)) := HB.out.trans ⟨rfl, rfl, rfl, Nat.le_refl _, fun _ _ => rfl⟩
            have HOm : Hid ((W1.drewN m).ownsRow w.heap.size 28 9 (.slice Av ys.length cv) ys.length (rowCells cellsI ys)) := HO
            cases tb
            · rw [HT.out, if_neg (by decide)] at HSD
              go_wp2_with fail
              refine (HPT.out _ Av cv (W1.drewN m).heap.size (Nat.le_refl _) (own_row rowI HOm.out)).mono ?_
              rintro e w4 ⟨A4, c4, rfl, ho, hb⟩
              have HO4 : Hid (w4.ownsRow w.heap.size 28 9 (.slice A4 (putF ys xx).1.length c4) (putF ys xx).1.length (rowCells cellsI (putF ys xx).1)) := rown_base ho HBm.out.size
              have HB4 := Lib.hid (HBm.out.trans (hb.mono HBm.out.size))
              rw [← HSD.out] at HO4 ⊢
              generalize (putF ys xx).2 = pb
              clear ho hb
              have hnl := HGN.out.len
              go_wp2
              go_roundw
              case rel => exact ⟨j + 1, A4, c4, ns, by omega, by omega, by go_num, rfl, hnl, HST.out.symm, HGN, HO4, HB4⟩
              case measure => simp [intOf]; omega
            · rw [HT.out, if_pos rfl] at HSD
              have HSD' := Lib.hid HSD.out.symm
              go_wp2
              go_roundw
              case rel => exact ⟨j + 1, Av, cv, ys, by omega, by omega, by go_num, rfl, by omega, by show _ = _; rw [HSD'.out]; exact HST.out.symm, by rw [HSD'.out]; exact HGN, HOm, HBm⟩
              case measure => simp [intOf]; omega
      · have h1' : (j : Int) < n := by omega
        have h2' : decide ((j : Int) < 12) = false := by simp; omega
        obtain rfl : j = 12 := by omega
        go_wp2
        go_ret
        have e : fixS zs = ys := HY.out.symm
        rw [e]
        exact ⟨Av, cv, rfl, HO.out, HB.out⟩
    · have h1' : decide ((j : Int) < n) = false := by simp; omega
      have e : fixS zs = ys := by
        rw [HY.out]
        unfold fixS
        rw [List.take_of_length_le (by rw [HL.out]; omega), List.take_of_length_le (by rw [HL.out]; omega)]
      have HE := Lib.hid e
      clear e
      go_wp2
      go_ret
      rw [HE.out]
      exact ⟨Av, cv, rfl, HO.out, HB.out⟩
end Go.Proofs.Ytpaiigminmakgaa

/- Items by their age: each one sinks below those that are newer. The document's ByAge. -/
namespace Go.Proofs.Ytpaiigminmakgaa
open Go.RowKit

/-- Where x comes to stand, from k on downwards. -/
def posF (ds : List Itm) (x : Itm) : Nat → Nat
  | 0 => 0
  | k + 1 => match ds[k]? with
    | none => k + 1
    | some y => if newerF y.ver x.ver = true then posF ds x k else k + 1
def insA (ds : List Itm) (x : Itm) : List Itm := midF ds x (posF ds x ds.length)
def ageF (zs : List Itm) : List Itm := zs.foldl insA []
theorem ageF_snoc (a : List Itm) (x : Itm) : ageF (a ++ [x]) = insA (ageF a) x := by unfold ageF; rw [List.foldl_append]; rfl
theorem posF_le (ds : List Itm) (x : Itm) : ∀ k, posF ds x k ≤ k
  | 0 => Nat.le_refl _
  | k + 1 => by
    unfold posF
    split
    · exact Nat.le_refl _
    · split
      · have := posF_le ds x k; omega
      · exact Nat.le_refl _
theorem insA_len (ds : List Itm) (x : Itm) : (insA ds x).length = ds.length + 1 := midF_len (posF_le ds x _)
theorem ageF_len (zs : List Itm) : (ageF zs).length = zs.length := by
  have h : ∀ (l ds : List Itm), (l.foldl insA ds).length = ds.length + l.length := by
    intro l
    induction l with
    | nil => intro ds; rfl
    | cons x l ih => intro ds; rw [List.foldl_cons, ih, insA_len, List.length_cons]; omega
  rw [ageF, h]; simp
theorem midF_mem {ds : List Itm} {x : Itm} {k : Nat} {z : Itm} (h : z ∈ midF ds x k) : z = x ∨ z ∈ ds := by
  unfold midF at h
  rcases List.mem_append.mp h with h | h
  · exact .inr (List.mem_of_mem_take h)
  · rcases List.mem_cons.mp h with h | h
    · exact .inl h
    · exact .inr (List.mem_of_mem_drop h)
theorem ageF_mem {zs : List Itm} {z : Itm} (h : z ∈ ageF zs) : z ∈ zs := by
  have hh : ∀ (l ds : List Itm), z ∈ l.foldl insA ds → z ∈ ds ∨ z ∈ l := by
    intro l
    induction l with
    | nil => intro ds h; exact .inl h
    | cons x l ih =>
      intro ds h
      rcases ih _ h with h | h
      · rcases midF_mem h with h | h
        · exact .inr (by simp [h])
        · exact .inl h
      · exact .inr (by simp [h])
  rcases hh zs [] h with h | h
  · simp at h
  · exact h
theorem posF_go {ds : List Itm} {x y : Itm} {k : Nat} (h0 : 0 < k) (hy : ds[k - 1]? = some y) (h : newerF y.ver x.ver = true) : posF ds x k = posF ds x (k - 1) := by
  obtain ⟨k, rfl⟩ : ∃ j, k = j + 1 := ⟨k - 1, by omega⟩
  simp only [Nat.add_sub_cancel] at hy ⊢
  show (match ds[k]? with | none => k + 1 | some y => if newerF y.ver x.ver = true then posF ds x k else k + 1) = _
  rw [hy]
  simp [h]
theorem posF_stop {ds : List Itm} {x y : Itm} {k : Nat} (h0 : 0 < k) (hy : ds[k - 1]? = some y) (h : newerF y.ver x.ver = false) : posF ds x k = k := by
  obtain ⟨k, rfl⟩ : ∃ j, k = j + 1 := ⟨k - 1, by omega⟩
  simp only [Nat.add_sub_cancel] at hy
  show (match ds[k]? with | none => k + 1 | some y => if newerF y.ver x.ver = true then posF ds x k else k + 1) = _
  rw [hy]
  simp [h]
set_option maxRecDepth 100000 in
set_option maxHeartbeats 8000000 in
theorem rage_any (A : Option Addr) (n c : Nat) (zs : List Itm) (B : Nat) (w : World) (hB : B ≤ w.heap.size) (hz : RowAt cellsI 9 w B A n zs) (hn : n ≤ 1000000) (hid : ∀ z ∈ zs, z.ver.id.size ≤ 9223372036854775807) :
    Calls Try.prog 27 #[.slice A n c] w (OwnRow cellsI 9 28 (ageF zs) w) := by
  have HZ := Lib.hid (hz.more hB)
  have HLN := Lib.hid hz.1
  have HID := Lib.hid hid
  clear hz hid
  go_enter Try.func27, Try.ntmps27
  go_wp2_with fail
  go_loopw [3, 4] (fun v i wr => ∃ (k : Nat) (Av : Option Addr) (cv : Nat), i = .int .i64 k ∧ v = .slice Av k cv ∧ k ≤ n ∧ Hid (wr.ownsRow w.heap.size 28 9 (.slice Av k cv) k (rowCells cellsI (ageF (zs.take k)))) ∧ Hid (Below w.heap.size w wr)) (fun _ i _ => n - (intOf i).toNat)
  case atStart => exact ⟨0, none, 0, rfl, rfl, by omega, by rw [List.take_zero]; exact rown_nil _ _, Below.refl _ _⟩
  case round =>
    obtain ⟨k, Av, cv, rfl, rfl, hk, HO, HB⟩ := hrel
    by_cases hlt : k < n
    · obtain ⟨b1, o1, rfl, hb1, x, hx, hc1⟩ := HZ.out.get hlt
      obtain ⟨e0, e1, e2, e3, e4, e5, e6, e7, e8⟩ := cellsI_at hc1
      replace e0 := (HB.out.cell (p := ⟨b1, o1 + k * 9, none⟩) hb1).trans e0
      replace e1 := (HB.out.cell (p := ⟨b1, o1 + k * 9 + 1, none⟩) hb1).trans e1
      replace e2 := (HB.out.cell (p := ⟨b1, o1 + k * 9 + 2, none⟩) hb1).trans e2
      replace e3 := (HB.out.cell (p := ⟨b1, o1 + k * 9 + 3, none⟩) hb1).trans e3
      replace e4 := (HB.out.cell (p := ⟨b1, o1 + k * 9 + 4, none⟩) hb1).trans e4
      replace e5 := (HB.out.cell (p := ⟨b1, o1 + k * 9 + 5, none⟩) hb1).trans e5
      replace e6 := (HB.out.cell (p := ⟨b1, o1 + k * 9 + 6, none⟩) hb1).trans e6
      replace e7 := (HB.out.cell (p := ⟨b1, o1 + k * 9 + 7, none⟩) hb1).trans e7
      replace e8 := (HB.out.cell (p := ⟨b1, o1 + k * 9 + 8, none⟩) hb1).trans e8
      have q1 : (k : Int) < n := by omega
      have q0 : (0 : Int) ≤ (k : Int) := by omega
      have HXI : Hid (x.ver.id.size ≤ 9223372036854775807) := HID.out x (List.mem_of_getElem? hx)
      have HTK : Hid (ageF (zs.take (k + 1)) = insA (ageF (zs.take k)) x) := by show _ = _; rw [snoc_of hx, ageF_snoc]
      have HDI : Hid (∀ z ∈ ageF (zs.take k), z.ver.id.size ≤ 9223372036854775807) := fun z hz => HID.out z (List.mem_of_mem_take (ageF_mem hz))
      have HDL : Hid ((ageF (zs.take k)).length = k) := by show _ = _; rw [ageF_len, List.length_take]; have := HLN.out; omega
      have HNX : Hid (ageF (zs.take (k + 1)) = midF (ageF (zs.take k)) x (posF (ageF (zs.take k)) x k)) := by
        show _ = _
        rw [HTK.out]; unfold insA; rw [HDL.out]
      clear HTK
      generalize ageF (zs.take k) = ds at *
      have hba : Below wr.heap.size wr (wr.alloc (.cells #[.int .i64 x.key, .string x.ver.id, .int .i64 x.ver.seq, .int .i64 x.ver.stamp, .bool x.dead, .int .i64 x.x, .int .i64 x.y, .string x.text, .bool x.held] 28)) := (Below.refl _ _).alloc (Nat.le_refl _) _
      have HOA := Lib.hid (rown_below HO.out hba)
      have HBA := Lib.hid (HB.out.trans (hba.mono HB.out.size))
      have HX1 : Hid (RowAt cellsI 9 (wr.alloc (.cells #[.int .i64 x.key, .string x.ver.id, .int .i64 x.ver.seq, .int .i64 x.ver.stamp, .bool x.dead, .int .i64 x.x, .int .i64 x.y, .string x.text, .bool x.held] 28)) (wr.heap.size + 1) (some ⟨wr.heap.size, 0, none⟩) 1 [x]) := one_row rowI (heap_alloc_new wr _)
      clear hba hc1 hx HO HB
      go_upto_region 6 with (at_builtin; refine wpList_append_row rowI (B := w.heap.size) (v := .slice Av k cv) (n := k) (zs := ds) (m := 1) (ys := [x]) rfl _ _ rfl rfl HOA.out rfl HX1.out (by omega) HBA.out.size ?_; intro A3 c3 w3 hown3 hg3 _; have HO3 : Hid (w3.ownsRow w.heap.size 28 9 (.slice A3 (k + 1) c3) (k + 1) (rowCells cellsI (midF ds x k))) := (by have h := midF_last ds x; rw [HDL.out] at h; show World.ownsRow _ _ _ _ _ _ _; rw [h]; exact hown3); have HB3 : Hid (Below w.heap.size w w3) := HBA.out.grown hg3 HBA.out.size (fun g e => (HOA.out.lt g e).1); clear hown3 hg3)
      clear HOA HX1 HBA e0 e1 e2 e3 e4 e5 e6 e7 e8
      obtain ⟨g, hgA, hgB⟩ : ∃ g, A3 = some ⟨g, 0, none⟩ ∧ w.heap.size ≤ g := by
        obtain ⟨g, cap, hv, h1, h2⟩ := HO3.out.form (by omega)
        injection hv with hA
        exact ⟨g, hA, h1⟩
      subst hgA
      have hks1 : IntKind.i64.wrap ((k : Int) + 1 - 1) = (k : Int) := by rw [IntWalk.i64_in _ (by omega)]; omega
      have hks2 : (k : Int) + 1 - 1 = (k : Int) := by omega
      have hks3 : IntKind.i64.wrap (k : Int) = (k : Int) := IntWalk.i64_in _ (by omega)
      go_wp2_with fail
      go_loopw [5] (fun i wr => ∃ j : Nat, i = .int .i64 j ∧ j ≤ k ∧ Hid (posF ds x k = posF ds x j) ∧ Hid (wr.ownsRow w.heap.size 28 9 (.slice (some ⟨g, 0, none⟩) (k + 1) c3) (k + 1) (rowCells cellsI (midF ds x j))) ∧ Hid (Below w.heap.size w wr)) (fun i _ => (intOf i).toNat)
      case atStart => exact ⟨k, by first | rfl | go_num | (congr 1; omega), Nat.le_refl _, rfl, HO3, HB3⟩
      case round =>
        clear HO3 HB3 hks1 hks2 hks3
        obtain ⟨j, rfl, hj, HP, HO, HB⟩ := hrel
        by_cases h0 : j = 0
        · have HE : Hid (ageF (zs.take (k + 1)) = midF ds x j) := by show _ = _; rw [HNX.out, HP.out, h0]; rfl
          have hj0 : decide (0 < j) = false := by simp; omega
          have hj1 : ¬ ((0 : Int) < j) := by omega
          clear h0 HP
          go_wp2
          go_quiet (fail)
          go_wp2
          go_roundw
          case rel => exact ⟨k + 1, some ⟨g, 0, none⟩, c3, by go_num, by first | rfl | go_num, by omega, (by show World.ownsRow _ _ _ _ _ _ _; rw [HE.out]; exact HO.out), below_drewN HB.out _⟩
          case measure => simp [intOf]; omega
        · have hjd : j - 1 < ds.length := by have := HDL.out; omega
          have hjl : j ≤ ds.length := by have := HDL.out; omega
          obtain ⟨y, hy⟩ : ∃ y, ds[j - 1]? = some y := ⟨_, List.getElem?_eq_getElem hjd⟩
          have hml := midF_len (x := x) hjl
          have HRW := own_row rowI HO.out
          obtain ⟨b3, o3, hA1, hb3, z1, hz1, hc3⟩ := HRW.get (k := j - 1) (by omega)
          obtain ⟨b4, o4, hA2, hb4, z2, hz2, hc4⟩ := HRW.get (k := j) (by omega)
          injection hA1 with hA1
          injection hA1 with r1 r2
          injection hA2 with hA2
          injection hA2 with r3 r4
          subst r1 r2 r3 r4
          obtain rfl : y = z1 := by rw [midF_before hjl (by omega) hy] at hz1; injection hz1
          obtain rfl : x = z2 := by rw [midF_at hjl] at hz2; injection hz2
          have HSW := Lib.hid (midF_swap (x := x) hjl (by omega) hy)
          have HYI : Hid (y.ver.id.size ≤ 9223372036854775807) := HDI.out y (List.mem_of_getElem? hy)
          have HPG := Lib.hid (posF_go (x := x) (by omega) hy)
          have HPS := Lib.hid (posF_stop (x := x) (by omega) hy)
          clear HRW hz1 hz2 hy
          obtain ⟨e0, e1, e2, e3, e4, e5, e6, e7, e8⟩ := cellsI_at hc3
          obtain ⟨f0, f1, f2, f3, f4, f5, f6, f7, f8⟩ := cellsI_at hc4
          replace e0 : wr.cell? ⟨g, (j - 1) * 9, none⟩ = some (.int .i64 y.key) := (by have h := e0; simpa using h)
          replace f0 : wr.cell? ⟨g, j * 9, none⟩ = some (.int .i64 x.key) := (by have h := f0; simpa using h)
          replace e1 : wr.cell? ⟨g, (j - 1) * 9 + 1, none⟩ = some (.string y.ver.id) := (by have h := e1; simpa using h)
          replace f1 : wr.cell? ⟨g, j * 9 + 1, none⟩ = some (.string x.ver.id) := (by have h := f1; simpa using h)
          replace e2 : wr.cell? ⟨g, (j - 1) * 9 + 2, none⟩ = some (.int .i64 y.ver.seq) := (by have h := e2; simpa using h)
          replace f2 : wr.cell? ⟨g, j * 9 + 2, none⟩ = some (.int .i64 x.ver.seq) := (by have h := f2; simpa using h)
          replace e3 : wr.cell? ⟨g, (j - 1) * 9 + 3, none⟩ = some (.int .i64 y.ver.stamp) := (by have h := e3; simpa using h)
          replace f3 : wr.cell? ⟨g, j * 9 + 3, none⟩ = some (.int .i64 x.ver.stamp) := (by have h := f3; simpa using h)
          replace e4 : wr.cell? ⟨g, (j - 1) * 9 + 4, none⟩ = some (.bool y.dead) := (by have h := e4; simpa using h)
          replace f4 : wr.cell? ⟨g, j * 9 + 4, none⟩ = some (.bool x.dead) := (by have h := f4; simpa using h)
          replace e5 : wr.cell? ⟨g, (j - 1) * 9 + 5, none⟩ = some (.int .i64 y.x) := (by have h := e5; simpa using h)
          replace f5 : wr.cell? ⟨g, j * 9 + 5, none⟩ = some (.int .i64 x.x) := (by have h := f5; simpa using h)
          replace e6 : wr.cell? ⟨g, (j - 1) * 9 + 6, none⟩ = some (.int .i64 y.y) := (by have h := e6; simpa using h)
          replace f6 : wr.cell? ⟨g, j * 9 + 6, none⟩ = some (.int .i64 x.y) := (by have h := f6; simpa using h)
          replace e7 : wr.cell? ⟨g, (j - 1) * 9 + 7, none⟩ = some (.string y.text) := (by have h := e7; simpa using h)
          replace f7 : wr.cell? ⟨g, j * 9 + 7, none⟩ = some (.string x.text) := (by have h := f7; simpa using h)
          replace e8 : wr.cell? ⟨g, (j - 1) * 9 + 8, none⟩ = some (.bool y.held) := (by have h := e8; simpa using h)
          replace f8 : wr.cell? ⟨g, j * 9 + 8, none⟩ = some (.bool x.held) := (by have h := f8; simpa using h)
          have HXC := Lib.hid (show cellsI x = [.int .i64 x.key, .string x.ver.id, .int .i64 x.ver.seq, .int .i64 x.ver.stamp, .bool x.dead, .int .i64 x.x, .int .i64 x.y, .string x.text, .bool x.held] from rfl)
          have HYC := Lib.hid (show cellsI y = [.int .i64 y.key, .string y.ver.id, .int .i64 y.ver.seq, .int .i64 y.ver.stamp, .bool y.dead, .int .i64 y.x, .int .i64 y.y, .string y.text, .bool y.held] from rfl)
          have HNW := Lib.hid (rnewer_raw y.ver.id y.ver.seq y.ver.stamp x.ver.id x.ver.seq x.ver.stamp HYI.out)
          have HNE : Hid (newerF ⟨y.ver.id, y.ver.seq, y.ver.stamp⟩ ⟨x.ver.id, x.ver.seq, x.ver.stamp⟩ = newerF y.ver x.ver) := rfl
          have hj0 : decide (0 < j) = true := by simp; omega
          have hj1 : (0 : Int) < j := by omega
          have hjs : IntKind.i64.wrap ((j : Int) - 1) = ((j - 1 : Nat) : Int) := by rw [IntWalk.i64_in _ (by omega)]; omega
          have hji : (((j - 1 : Nat) : Int)) < (k : Int) + 1 := by omega
          have hji0 : (0 : Int) ≤ ((j - 1 : Nat) : Int) := by omega
          have hjk : (j : Int) < (k : Int) + 1 := by omega
          have hj00 : (0 : Int) ≤ (j : Int) := by omega
          have hjiN : j - 1 < k + 1 := by omega
          have hjkN : j < k + 1 := by omega
          have hgw : g < wr.heap.size := hb3
          clear hc3 hc4 hb4 hjd
          rw [HNE.out] at HNW
          rcases hnw : newerF y.ver x.ver with _ | _
          · have HE : Hid (ageF (zs.take (k + 1)) = midF ds x j) := by show _ = _; rw [HNX.out, HP.out, HPS.out hnw]
            rw [hnw] at HNW
            clear hnw HPG HPS HP HSW
            go_upto_region 7 with fail
            refine wp_region_held_drew (S := fun w' => w'.cell? ⟨g, (j - 1) * 9 + 1, none⟩ = some (.string y.ver.id) ∧ w'.cell? ⟨g, (j - 1) * 9 + 2, none⟩ = some (.int .i64 y.ver.seq) ∧ w'.cell? ⟨g, (j - 1) * 9 + 3, none⟩ = some (.int .i64 y.ver.stamp) ∧ w'.cell? ⟨g, j * 9 + 1, none⟩ = some (.string x.ver.id) ∧ w'.cell? ⟨g, j * 9 + 2, none⟩ = some (.int .i64 x.ver.seq) ∧ w'.cell? ⟨g, j * 9 + 3, none⟩ = some (.int .i64 x.ver.stamp)) (by kernel_rfl) ⟨e1, e2, e3, f1, f2, f3⟩ (fun hHeld => ?_)
            refine wpAnyH_take (i := 0) (oi := { dst := some 22, op := Go.Op.move (Go.Operand.tmp 5), type := 3, pos := "ref.go:58", after := #[], guard := none }) (v := ?_) rfl (by kernel_rfl) (by kernel_rfl) (by kernel_rfl) (fun _ _ _ h => h) (Or.inl ⟨rfl, ?_⟩) (by assumption) ?_
            rotate_left
            · intro wz hSw; (try dsimp only at hSw); go_simp; try (with_reducible rfl)
            try simp only [Act.put, List.setIfInBounds_toArray, List.set_cons_zero, List.set_cons_succ]
            refine wpAnyH_take (i := 1) (oi := { dst := some 23, op := Go.Op.binOp Go.BinOp.gtr 3 (Go.Operand.tmp 22) (Go.Operand.const (Go.Value.int Go.IntKind.i64 0)) 3, type := 4, pos := "ref.go:58", after := #[{ on := 0, ground := Go.Ground.data }], guard := none }) (v := ?_) rfl (by kernel_rfl) (by kernel_rfl) (by kernel_rfl) (fun _ _ _ h => h) (Or.inl ⟨rfl, ?_⟩) (by assumption) ?_
            rotate_left
            · intro wz hSw; (try dsimp only at hSw); go_simp; try (with_reducible rfl)
            try simp only [Act.put, List.setIfInBounds_toArray, List.set_cons_zero, List.set_cons_succ]
            refine wpAnyH_take (i := 2) (oi := { dst := some 24, op := Go.Op.move (Go.Operand.tmp 23), type := 4, pos := "ref.go:58", after := #[{ on := 1, ground := Go.Ground.data }], guard := none }) (v := ?_) rfl (by kernel_rfl) (by kernel_rfl) (by kernel_rfl) (fun _ _ _ h => h) (Or.inl ⟨rfl, ?_⟩) (by assumption) ?_
            rotate_left
            · intro wz hSw; (try dsimp only at hSw); go_simp; try (with_reducible rfl)
            try simp only [Act.put, List.setIfInBounds_toArray, List.set_cons_zero, List.set_cons_succ]
            refine wpAnyH_take (i := 3) (oi := { dst := some 25, op := Go.Op.move (Go.Operand.tmp 3), type := 22, pos := "ref.go:58", after := #[{ on := 2, ground := Go.Ground.guard }], guard := some (2, true) }) (v := ?_) rfl (by kernel_rfl) (by kernel_rfl) (by kernel_rfl) (fun _ _ _ h => h) (Or.inl ⟨rfl, ?_⟩) (by assumption) ?_
            rotate_left
            · intro wz hSw; (try dsimp only at hSw); go_simp; try (with_reducible rfl)
            try simp only [Act.put, List.setIfInBounds_toArray, List.set_cons_zero, List.set_cons_succ]
            refine wpAnyH_take (i := 4) (oi := { dst := some 26, op := Go.Op.move (Go.Operand.tmp 5), type := 3, pos := "ref.go:58", after := #[{ on := 2, ground := Go.Ground.guard }], guard := some (2, true) }) (v := ?_) rfl (by kernel_rfl) (by kernel_rfl) (by kernel_rfl) (fun _ _ _ h => h) (Or.inl ⟨rfl, ?_⟩) (by assumption) ?_
            rotate_left
            · intro wz hSw; (try dsimp only at hSw); go_simp; try (with_reducible rfl)
            try simp only [Act.put, List.setIfInBounds_toArray, List.set_cons_zero, List.set_cons_succ]
            refine wpAnyH_take (i := 5) (oi := { dst := some 27, op := Go.Op.binOp Go.BinOp.sub 3 (Go.Operand.tmp 26) (Go.Operand.const (Go.Value.int Go.IntKind.i64 1)) 3, type := 3, pos := "ref.go:58", after := #[{ on := 4, ground := Go.Ground.data }, { on := 2, ground := Go.Ground.guard }], guard := some (2, true) }) (v := ?_) rfl (by kernel_rfl) (by kernel_rfl) (by kernel_rfl) (fun _ _ _ h => h) (Or.inl ⟨rfl, ?_⟩) (by assumption) ?_
            rotate_left
            · intro wz hSw; (try dsimp only at hSw); go_simp; try (with_reducible rfl)
            try simp only [Act.put, List.setIfInBounds_toArray, List.set_cons_zero, List.set_cons_succ]
            refine wpAnyH_take (i := 6) (oi := { dst := some 28, op := Go.Op.indexAddr 22 (Go.Operand.tmp 25) (Go.Operand.tmp 27), type := 0, pos := "ref.go:58", after := #[{ on := 3, ground := Go.Ground.data }, { on := 5, ground := Go.Ground.data }, { on := 2, ground := Go.Ground.guard }], guard := some (2, true) }) (v := ?_) rfl (by kernel_rfl) (by kernel_rfl) (by kernel_rfl) (fun _ _ _ h => h) (Or.inl ⟨rfl, ?_⟩) (by assumption) ?_
            rotate_left
            · intro wz hSw; (try dsimp only at hSw); go_simp; try (with_reducible rfl)
            try simp only [Act.put, List.setIfInBounds_toArray, List.set_cons_zero, List.set_cons_succ]
            refine wpAnyH_take (i := 7) (oi := { dst := some 29, op := Go.Op.fieldAddr 28 (Go.Operand.tmp 28) 1, type := 0, pos := "ref.go:58", after := #[{ on := 6, ground := Go.Ground.data }, { on := 2, ground := Go.Ground.guard }], guard := some (2, true) }) (v := ?_) rfl (by kernel_rfl) (by kernel_rfl) (by kernel_rfl) (fun _ _ _ h => h) (Or.inl ⟨rfl, ?_⟩) (by assumption) ?_
            rotate_left
            · intro wz hSw; (try dsimp only at hSw); go_simp; try (with_reducible rfl)
            try simp only [Act.put, List.setIfInBounds_toArray, List.set_cons_zero, List.set_cons_succ]
            refine wpAnyH_take (i := 8) (oi := { dst := some 30, op := Go.Op.load 26 (Go.Operand.tmp 29), type := 26, pos := "ref.go:58", after := #[{ on := 7, ground := Go.Ground.data }, { on := 2, ground := Go.Ground.guard }], guard := some (2, true) }) (v := ?_) rfl (by kernel_rfl) (by kernel_rfl) (by kernel_rfl) (fun _ _ _ h => h) (Or.inl ⟨rfl, ?_⟩) (by assumption) ?_
            rotate_left
            · intro wz hSw; (try dsimp only at hSw); go_simp; try (with_reducible rfl)
            try simp only [Act.put, List.setIfInBounds_toArray, List.set_cons_zero, List.set_cons_succ]
            refine wpAnyH_take (i := 9) (oi := { dst := some 31, op := Go.Op.move (Go.Operand.tmp 3), type := 22, pos := "ref.go:58", after := #[{ on := 2, ground := Go.Ground.guard }], guard := some (2, true) }) (v := ?_) rfl (by kernel_rfl) (by kernel_rfl) (by kernel_rfl) (fun _ _ _ h => h) (Or.inl ⟨rfl, ?_⟩) (by assumption) ?_
            rotate_left
            · intro wz hSw; (try dsimp only at hSw); go_simp; try (with_reducible rfl)
            try simp only [Act.put, List.setIfInBounds_toArray, List.set_cons_zero, List.set_cons_succ]
            refine wpAnyH_take (i := 10) (oi := { dst := some 32, op := Go.Op.move (Go.Operand.tmp 5), type := 3, pos := "ref.go:58", after := #[{ on := 2, ground := Go.Ground.guard }], guard := some (2, true) }) (v := ?_) rfl (by kernel_rfl) (by kernel_rfl) (by kernel_rfl) (fun _ _ _ h => h) (Or.inl ⟨rfl, ?_⟩) (by assumption) ?_
            rotate_left
            · intro wz hSw; (try dsimp only at hSw); go_simp; try (with_reducible rfl)
            try simp only [Act.put, List.setIfInBounds_toArray, List.set_cons_zero, List.set_cons_succ]
            refine wpAnyH_take (i := 11) (oi := { dst := some 33, op := Go.Op.indexAddr 22 (Go.Operand.tmp 31) (Go.Operand.tmp 32), type := 0, pos := "ref.go:58", after := #[{ on := 9, ground := Go.Ground.data }, { on := 10, ground := Go.Ground.data }, { on := 2, ground := Go.Ground.guard }], guard := some (2, true) }) (v := ?_) rfl (by kernel_rfl) (by kernel_rfl) (by kernel_rfl) (fun _ _ _ h => h) (Or.inl ⟨rfl, ?_⟩) (by assumption) ?_
            rotate_left
            · intro wz hSw; (try dsimp only at hSw); go_simp; try (with_reducible rfl)
            try simp only [Act.put, List.setIfInBounds_toArray, List.set_cons_zero, List.set_cons_succ]
            refine wpAnyH_take (i := 12) (oi := { dst := some 34, op := Go.Op.fieldAddr 28 (Go.Operand.tmp 33) 1, type := 0, pos := "ref.go:58", after := #[{ on := 11, ground := Go.Ground.data }, { on := 2, ground := Go.Ground.guard }], guard := some (2, true) }) (v := ?_) rfl (by kernel_rfl) (by kernel_rfl) (by kernel_rfl) (fun _ _ _ h => h) (Or.inl ⟨rfl, ?_⟩) (by assumption) ?_
            rotate_left
            · intro wz hSw; (try dsimp only at hSw); go_simp; try (with_reducible rfl)
            try simp only [Act.put, List.setIfInBounds_toArray, List.set_cons_zero, List.set_cons_succ]
            refine wpAnyH_take (i := 13) (oi := { dst := some 35, op := Go.Op.load 26 (Go.Operand.tmp 34), type := 26, pos := "ref.go:58", after := #[{ on := 12, ground := Go.Ground.data }, { on := 2, ground := Go.Ground.guard }], guard := some (2, true) }) (v := ?_) rfl (by kernel_rfl) (by kernel_rfl) (by kernel_rfl) (fun _ _ _ h => h) (Or.inl ⟨rfl, ?_⟩) (by assumption) ?_
            rotate_left
            · intro wz hSw; (try dsimp only at hSw); go_simp; try (with_reducible rfl)
            try simp only [Act.put, List.setIfInBounds_toArray, List.set_cons_zero, List.set_cons_succ]
            refine wpAnyH_ready (rs := [14]) (by kernel_rfl) (by simp) ?_
            refine AllReadyH.cons (o := { dst := some 36, op := Go.Op.call { callee := Go.Callee.value (Go.Operand.func 32), args := #[Go.Operand.tmp 30, Go.Operand.tmp 35], argTypes := #[26, 26] }, type := 4, pos := "ref.go:58", after := #[{ on := 8, ground := Go.Ground.data }, { on := 13, ground := Go.Ground.data }, { on := 2, ground := Go.Ground.chain }, { on := 2, ground := Go.Ground.guard }], guard := some (2, true) }) rfl (fun K hK => ?_) AllReadyH.nil
            go_simp
            go_at_call 32
            refine (HNW.out _).mono ?_
            rintro e v1 ⟨rfl, hb⟩
            replace e0 := (hb.cell (p := ⟨g, (j - 1) * 9, none⟩) hgw).trans e0
            replace e1 := (hb.cell (p := ⟨g, (j - 1) * 9 + 1, none⟩) hgw).trans e1
            replace e2 := (hb.cell (p := ⟨g, (j - 1) * 9 + 2, none⟩) hgw).trans e2
            replace e3 := (hb.cell (p := ⟨g, (j - 1) * 9 + 3, none⟩) hgw).trans e3
            replace e4 := (hb.cell (p := ⟨g, (j - 1) * 9 + 4, none⟩) hgw).trans e4
            replace e5 := (hb.cell (p := ⟨g, (j - 1) * 9 + 5, none⟩) hgw).trans e5
            replace e6 := (hb.cell (p := ⟨g, (j - 1) * 9 + 6, none⟩) hgw).trans e6
            replace e7 := (hb.cell (p := ⟨g, (j - 1) * 9 + 7, none⟩) hgw).trans e7
            replace e8 := (hb.cell (p := ⟨g, (j - 1) * 9 + 8, none⟩) hgw).trans e8
            replace f0 := (hb.cell (p := ⟨g, j * 9, none⟩) hgw).trans f0
            replace f1 := (hb.cell (p := ⟨g, j * 9 + 1, none⟩) hgw).trans f1
            replace f2 := (hb.cell (p := ⟨g, j * 9 + 2, none⟩) hgw).trans f2
            replace f3 := (hb.cell (p := ⟨g, j * 9 + 3, none⟩) hgw).trans f3
            replace f4 := (hb.cell (p := ⟨g, j * 9 + 4, none⟩) hgw).trans f4
            replace f5 := (hb.cell (p := ⟨g, j * 9 + 5, none⟩) hgw).trans f5
            replace f6 := (hb.cell (p := ⟨g, j * 9 + 6, none⟩) hgw).trans f6
            replace f7 := (hb.cell (p := ⟨g, j * 9 + 7, none⟩) hgw).trans f7
            replace f8 := (hb.cell (p := ⟨g, j * 9 + 8, none⟩) hgw).trans f8
            replace HO := Lib.hid (rown_below HO.out (below_via (Below.refl _ _) hb (Nat.le_refl _) ⟨rfl, rfl, rfl, rfl⟩))
            replace HB := Lib.hid (below_via HB.out hb HB.out.size ⟨rfl, rfl, rfl, rfl⟩)
            replace hgw := Nat.lt_of_lt_of_le hgw hb.size
            clear hb
            refine hK.out _ _ ⟨e1, e2, e3, f1, f2, f3⟩ (fun hHeld => ?_)
            clear hK K
            try simp only [Act.put, List.setIfInBounds_toArray, List.set_cons_zero, List.set_cons_succ]
            refine wpAnyH_take (i := 15) (oi := { dst := some 37, op := Go.Op.pick (Go.Operand.tmp 24) (Go.Operand.tmp 36) (Go.Operand.const (Go.Value.bool false)), type := 4, pos := "ref.go:58", after := #[{ on := 2, ground := Go.Ground.data }, { on := 14, ground := Go.Ground.data }], guard := none }) (v := ?_) rfl (by kernel_rfl) (by kernel_rfl) (by kernel_rfl) (fun _ _ _ h => h) (Or.inl ⟨rfl, ?_⟩) (by assumption) ?_
            rotate_left
            · intro wz hSw; (try dsimp only at hSw); go_simp; try (with_reducible rfl)
            try simp only [Act.put, List.setIfInBounds_toArray, List.set_cons_zero, List.set_cons_succ]
            refine wpAnyH_done (by kernel_rfl) ?_ _
            clear hHeld
            clear e0 e1 e2 e3 e4 e5 e6 e7 e8 f0 f1 f2 f3 f4 f5 f6 f7 f8
            go_wp2
            go_roundw
            case rel => exact ⟨k + 1, some ⟨g, 0, none⟩, c3, by go_num, by first | rfl | go_num, by omega, (by show World.ownsRow _ _ _ _ _ _ _; rw [HE.out]; exact HO.out), HB⟩
            case measure => simp [intOf]; omega
          · have HP2 : Hid (posF ds x k = posF ds x (j - 1)) := HP.out.trans (HPG.out hnw)
            rw [hnw] at HNW
            clear hnw HPG HPS HP
            go_upto_region 7 with fail
            refine wp_region_held_drew (S := fun w' => w'.cell? ⟨g, (j - 1) * 9 + 1, none⟩ = some (.string y.ver.id) ∧ w'.cell? ⟨g, (j - 1) * 9 + 2, none⟩ = some (.int .i64 y.ver.seq) ∧ w'.cell? ⟨g, (j - 1) * 9 + 3, none⟩ = some (.int .i64 y.ver.stamp) ∧ w'.cell? ⟨g, j * 9 + 1, none⟩ = some (.string x.ver.id) ∧ w'.cell? ⟨g, j * 9 + 2, none⟩ = some (.int .i64 x.ver.seq) ∧ w'.cell? ⟨g, j * 9 + 3, none⟩ = some (.int .i64 x.ver.stamp)) (by kernel_rfl) ⟨e1, e2, e3, f1, f2, f3⟩ (fun hHeld => ?_)
            refine wpAnyH_take (i := 0) (oi := { dst := some 22, op := Go.Op.move (Go.Operand.tmp 5), type := 3, pos := "ref.go:58", after := #[], guard := none }) (v := ?_) rfl (by kernel_rfl) (by kernel_rfl) (by kernel_rfl) (fun _ _ _ h => h) (Or.inl ⟨rfl, ?_⟩) (by assumption) ?_
            rotate_left
            · intro wz hSw; (try dsimp only at hSw); go_simp; try (with_reducible rfl)
            try simp only [Act.put, List.setIfInBounds_toArray, List.set_cons_zero, List.set_cons_succ]
            refine wpAnyH_take (i := 1) (oi := { dst := some 23, op := Go.Op.binOp Go.BinOp.gtr 3 (Go.Operand.tmp 22) (Go.Operand.const (Go.Value.int Go.IntKind.i64 0)) 3, type := 4, pos := "ref.go:58", after := #[{ on := 0, ground := Go.Ground.data }], guard := none }) (v := ?_) rfl (by kernel_rfl) (by kernel_rfl) (by kernel_rfl) (fun _ _ _ h => h) (Or.inl ⟨rfl, ?_⟩) (by assumption) ?_
            rotate_left
            · intro wz hSw; (try dsimp only at hSw); go_simp; try (with_reducible rfl)
            try simp only [Act.put, List.setIfInBounds_toArray, List.set_cons_zero, List.set_cons_succ]
            refine wpAnyH_take (i := 2) (oi := { dst := some 24, op := Go.Op.move (Go.Operand.tmp 23), type := 4, pos := "ref.go:58", after := #[{ on := 1, ground := Go.Ground.data }], guard := none }) (v := ?_) rfl (by kernel_rfl) (by kernel_rfl) (by kernel_rfl) (fun _ _ _ h => h) (Or.inl ⟨rfl, ?_⟩) (by assumption) ?_
            rotate_left
            · intro wz hSw; (try dsimp only at hSw); go_simp; try (with_reducible rfl)
            try simp only [Act.put, List.setIfInBounds_toArray, List.set_cons_zero, List.set_cons_succ]
            refine wpAnyH_take (i := 3) (oi := { dst := some 25, op := Go.Op.move (Go.Operand.tmp 3), type := 22, pos := "ref.go:58", after := #[{ on := 2, ground := Go.Ground.guard }], guard := some (2, true) }) (v := ?_) rfl (by kernel_rfl) (by kernel_rfl) (by kernel_rfl) (fun _ _ _ h => h) (Or.inl ⟨rfl, ?_⟩) (by assumption) ?_
            rotate_left
            · intro wz hSw; (try dsimp only at hSw); go_simp; try (with_reducible rfl)
            try simp only [Act.put, List.setIfInBounds_toArray, List.set_cons_zero, List.set_cons_succ]
            refine wpAnyH_take (i := 4) (oi := { dst := some 26, op := Go.Op.move (Go.Operand.tmp 5), type := 3, pos := "ref.go:58", after := #[{ on := 2, ground := Go.Ground.guard }], guard := some (2, true) }) (v := ?_) rfl (by kernel_rfl) (by kernel_rfl) (by kernel_rfl) (fun _ _ _ h => h) (Or.inl ⟨rfl, ?_⟩) (by assumption) ?_
            rotate_left
            · intro wz hSw; (try dsimp only at hSw); go_simp; try (with_reducible rfl)
            try simp only [Act.put, List.setIfInBounds_toArray, List.set_cons_zero, List.set_cons_succ]
            refine wpAnyH_take (i := 5) (oi := { dst := some 27, op := Go.Op.binOp Go.BinOp.sub 3 (Go.Operand.tmp 26) (Go.Operand.const (Go.Value.int Go.IntKind.i64 1)) 3, type := 3, pos := "ref.go:58", after := #[{ on := 4, ground := Go.Ground.data }, { on := 2, ground := Go.Ground.guard }], guard := some (2, true) }) (v := ?_) rfl (by kernel_rfl) (by kernel_rfl) (by kernel_rfl) (fun _ _ _ h => h) (Or.inl ⟨rfl, ?_⟩) (by assumption) ?_
            rotate_left
            · intro wz hSw; (try dsimp only at hSw); go_simp; try (with_reducible rfl)
            try simp only [Act.put, List.setIfInBounds_toArray, List.set_cons_zero, List.set_cons_succ]
            refine wpAnyH_take (i := 6) (oi := { dst := some 28, op := Go.Op.indexAddr 22 (Go.Operand.tmp 25) (Go.Operand.tmp 27), type := 0, pos := "ref.go:58", after := #[{ on := 3, ground := Go.Ground.data }, { on := 5, ground := Go.Ground.data }, { on := 2, ground := Go.Ground.guard }], guard := some (2, true) }) (v := ?_) rfl (by kernel_rfl) (by kernel_rfl) (by kernel_rfl) (fun _ _ _ h => h) (Or.inl ⟨rfl, ?_⟩) (by assumption) ?_
            rotate_left
            · intro wz hSw; (try dsimp only at hSw); go_simp; try (with_reducible rfl)
            try simp only [Act.put, List.setIfInBounds_toArray, List.set_cons_zero, List.set_cons_succ]
            refine wpAnyH_take (i := 7) (oi := { dst := some 29, op := Go.Op.fieldAddr 28 (Go.Operand.tmp 28) 1, type := 0, pos := "ref.go:58", after := #[{ on := 6, ground := Go.Ground.data }, { on := 2, ground := Go.Ground.guard }], guard := some (2, true) }) (v := ?_) rfl (by kernel_rfl) (by kernel_rfl) (by kernel_rfl) (fun _ _ _ h => h) (Or.inl ⟨rfl, ?_⟩) (by assumption) ?_
            rotate_left
            · intro wz hSw; (try dsimp only at hSw); go_simp; try (with_reducible rfl)
            try simp only [Act.put, List.setIfInBounds_toArray, List.set_cons_zero, List.set_cons_succ]
            refine wpAnyH_take (i := 8) (oi := { dst := some 30, op := Go.Op.load 26 (Go.Operand.tmp 29), type := 26, pos := "ref.go:58", after := #[{ on := 7, ground := Go.Ground.data }, { on := 2, ground := Go.Ground.guard }], guard := some (2, true) }) (v := ?_) rfl (by kernel_rfl) (by kernel_rfl) (by kernel_rfl) (fun _ _ _ h => h) (Or.inl ⟨rfl, ?_⟩) (by assumption) ?_
            rotate_left
            · intro wz hSw; (try dsimp only at hSw); go_simp; try (with_reducible rfl)
            try simp only [Act.put, List.setIfInBounds_toArray, List.set_cons_zero, List.set_cons_succ]
            refine wpAnyH_take (i := 9) (oi := { dst := some 31, op := Go.Op.move (Go.Operand.tmp 3), type := 22, pos := "ref.go:58", after := #[{ on := 2, ground := Go.Ground.guard }], guard := some (2, true) }) (v := ?_) rfl (by kernel_rfl) (by kernel_rfl) (by kernel_rfl) (fun _ _ _ h => h) (Or.inl ⟨rfl, ?_⟩) (by assumption) ?_
            rotate_left
            · intro wz hSw; (try dsimp only at hSw); go_simp; try (with_reducible rfl)
            try simp only [Act.put, List.setIfInBounds_toArray, List.set_cons_zero, List.set_cons_succ]
            refine wpAnyH_take (i := 10) (oi := { dst := some 32, op := Go.Op.move (Go.Operand.tmp 5), type := 3, pos := "ref.go:58", after := #[{ on := 2, ground := Go.Ground.guard }], guard := some (2, true) }) (v := ?_) rfl (by kernel_rfl) (by kernel_rfl) (by kernel_rfl) (fun _ _ _ h => h) (Or.inl ⟨rfl, ?_⟩) (by assumption) ?_
            rotate_left
            · intro wz hSw; (try dsimp only at hSw); go_simp; try (with_reducible rfl)
            try simp only [Act.put, List.setIfInBounds_toArray, List.set_cons_zero, List.set_cons_succ]
            refine wpAnyH_take (i := 11) (oi := { dst := some 33, op := Go.Op.indexAddr 22 (Go.Operand.tmp 31) (Go.Operand.tmp 32), type := 0, pos := "ref.go:58", after := #[{ on := 9, ground := Go.Ground.data }, { on := 10, ground := Go.Ground.data }, { on := 2, ground := Go.Ground.guard }], guard := some (2, true) }) (v := ?_) rfl (by kernel_rfl) (by kernel_rfl) (by kernel_rfl) (fun _ _ _ h => h) (Or.inl ⟨rfl, ?_⟩) (by assumption) ?_
            rotate_left
            · intro wz hSw; (try dsimp only at hSw); go_simp; try (with_reducible rfl)
            try simp only [Act.put, List.setIfInBounds_toArray, List.set_cons_zero, List.set_cons_succ]
            refine wpAnyH_take (i := 12) (oi := { dst := some 34, op := Go.Op.fieldAddr 28 (Go.Operand.tmp 33) 1, type := 0, pos := "ref.go:58", after := #[{ on := 11, ground := Go.Ground.data }, { on := 2, ground := Go.Ground.guard }], guard := some (2, true) }) (v := ?_) rfl (by kernel_rfl) (by kernel_rfl) (by kernel_rfl) (fun _ _ _ h => h) (Or.inl ⟨rfl, ?_⟩) (by assumption) ?_
            rotate_left
            · intro wz hSw; (try dsimp only at hSw); go_simp; try (with_reducible rfl)
            try simp only [Act.put, List.setIfInBounds_toArray, List.set_cons_zero, List.set_cons_succ]
            refine wpAnyH_take (i := 13) (oi := { dst := some 35, op := Go.Op.load 26 (Go.Operand.tmp 34), type := 26, pos := "ref.go:58", after := #[{ on := 12, ground := Go.Ground.data }, { on := 2, ground := Go.Ground.guard }], guard := some (2, true) }) (v := ?_) rfl (by kernel_rfl) (by kernel_rfl) (by kernel_rfl) (fun _ _ _ h => h) (Or.inl ⟨rfl, ?_⟩) (by assumption) ?_
            rotate_left
            · intro wz hSw; (try dsimp only at hSw); go_simp; try (with_reducible rfl)
            try simp only [Act.put, List.setIfInBounds_toArray, List.set_cons_zero, List.set_cons_succ]
            refine wpAnyH_ready (rs := [14]) (by kernel_rfl) (by simp) ?_
            refine AllReadyH.cons (o := { dst := some 36, op := Go.Op.call { callee := Go.Callee.value (Go.Operand.func 32), args := #[Go.Operand.tmp 30, Go.Operand.tmp 35], argTypes := #[26, 26] }, type := 4, pos := "ref.go:58", after := #[{ on := 8, ground := Go.Ground.data }, { on := 13, ground := Go.Ground.data }, { on := 2, ground := Go.Ground.chain }, { on := 2, ground := Go.Ground.guard }], guard := some (2, true) }) rfl (fun K hK => ?_) AllReadyH.nil
            go_simp
            go_at_call 32
            refine (HNW.out _).mono ?_
            rintro e v1 ⟨rfl, hb⟩
            replace e0 := (hb.cell (p := ⟨g, (j - 1) * 9, none⟩) hgw).trans e0
            replace e1 := (hb.cell (p := ⟨g, (j - 1) * 9 + 1, none⟩) hgw).trans e1
            replace e2 := (hb.cell (p := ⟨g, (j - 1) * 9 + 2, none⟩) hgw).trans e2
            replace e3 := (hb.cell (p := ⟨g, (j - 1) * 9 + 3, none⟩) hgw).trans e3
            replace e4 := (hb.cell (p := ⟨g, (j - 1) * 9 + 4, none⟩) hgw).trans e4
            replace e5 := (hb.cell (p := ⟨g, (j - 1) * 9 + 5, none⟩) hgw).trans e5
            replace e6 := (hb.cell (p := ⟨g, (j - 1) * 9 + 6, none⟩) hgw).trans e6
            replace e7 := (hb.cell (p := ⟨g, (j - 1) * 9 + 7, none⟩) hgw).trans e7
            replace e8 := (hb.cell (p := ⟨g, (j - 1) * 9 + 8, none⟩) hgw).trans e8
            replace f0 := (hb.cell (p := ⟨g, j * 9, none⟩) hgw).trans f0
            replace f1 := (hb.cell (p := ⟨g, j * 9 + 1, none⟩) hgw).trans f1
            replace f2 := (hb.cell (p := ⟨g, j * 9 + 2, none⟩) hgw).trans f2
            replace f3 := (hb.cell (p := ⟨g, j * 9 + 3, none⟩) hgw).trans f3
            replace f4 := (hb.cell (p := ⟨g, j * 9 + 4, none⟩) hgw).trans f4
            replace f5 := (hb.cell (p := ⟨g, j * 9 + 5, none⟩) hgw).trans f5
            replace f6 := (hb.cell (p := ⟨g, j * 9 + 6, none⟩) hgw).trans f6
            replace f7 := (hb.cell (p := ⟨g, j * 9 + 7, none⟩) hgw).trans f7
            replace f8 := (hb.cell (p := ⟨g, j * 9 + 8, none⟩) hgw).trans f8
            replace HO := Lib.hid (rown_below HO.out (below_via (Below.refl _ _) hb (Nat.le_refl _) ⟨rfl, rfl, rfl, rfl⟩))
            replace HB := Lib.hid (below_via HB.out hb HB.out.size ⟨rfl, rfl, rfl, rfl⟩)
            replace hgw := Nat.lt_of_lt_of_le hgw hb.size
            clear hb
            refine hK.out _ _ ⟨e1, e2, e3, f1, f2, f3⟩ (fun hHeld => ?_)
            clear hK K
            try simp only [Act.put, List.setIfInBounds_toArray, List.set_cons_zero, List.set_cons_succ]
            refine wpAnyH_take (i := 15) (oi := { dst := some 37, op := Go.Op.pick (Go.Operand.tmp 24) (Go.Operand.tmp 36) (Go.Operand.const (Go.Value.bool false)), type := 4, pos := "ref.go:58", after := #[{ on := 2, ground := Go.Ground.data }, { on := 14, ground := Go.Ground.data }], guard := none }) (v := ?_) rfl (by kernel_rfl) (by kernel_rfl) (by kernel_rfl) (fun _ _ _ h => h) (Or.inl ⟨rfl, ?_⟩) (by assumption) ?_
            rotate_left
            · intro wz hSw; (try dsimp only at hSw); go_simp; try (with_reducible rfl)
            try simp only [Act.put, List.setIfInBounds_toArray, List.set_cons_zero, List.set_cons_succ]
            refine wpAnyH_done (by kernel_rfl) ?_ _
            clear hHeld
            go_upto_region 9 with fail
            have ef0 : v1.frozen? ⟨g, (j - 1) * 9, none⟩ = false := HO.out.frozenAt _
            have ff0 : v1.frozen? ⟨g, j * 9, none⟩ = false := HO.out.frozenAt _
            have ef1 : v1.frozen? ⟨g, (j - 1) * 9 + 1, none⟩ = false := HO.out.frozenAt _
            have ff1 : v1.frozen? ⟨g, j * 9 + 1, none⟩ = false := HO.out.frozenAt _
            have ef2 : v1.frozen? ⟨g, (j - 1) * 9 + 2, none⟩ = false := HO.out.frozenAt _
            have ff2 : v1.frozen? ⟨g, j * 9 + 2, none⟩ = false := HO.out.frozenAt _
            have ef3 : v1.frozen? ⟨g, (j - 1) * 9 + 3, none⟩ = false := HO.out.frozenAt _
            have ff3 : v1.frozen? ⟨g, j * 9 + 3, none⟩ = false := HO.out.frozenAt _
            have ef4 : v1.frozen? ⟨g, (j - 1) * 9 + 4, none⟩ = false := HO.out.frozenAt _
            have ff4 : v1.frozen? ⟨g, j * 9 + 4, none⟩ = false := HO.out.frozenAt _
            have ef5 : v1.frozen? ⟨g, (j - 1) * 9 + 5, none⟩ = false := HO.out.frozenAt _
            have ff5 : v1.frozen? ⟨g, j * 9 + 5, none⟩ = false := HO.out.frozenAt _
            have ef6 : v1.frozen? ⟨g, (j - 1) * 9 + 6, none⟩ = false := HO.out.frozenAt _
            have ff6 : v1.frozen? ⟨g, j * 9 + 6, none⟩ = false := HO.out.frozenAt _
            have ef7 : v1.frozen? ⟨g, (j - 1) * 9 + 7, none⟩ = false := HO.out.frozenAt _
            have ff7 : v1.frozen? ⟨g, j * 9 + 7, none⟩ = false := HO.out.frozenAt _
            have ef8 : v1.frozen? ⟨g, (j - 1) * 9 + 8, none⟩ = false := HO.out.frozenAt _
            have ff8 : v1.frozen? ⟨g, j * 9 + 8, none⟩ = false := HO.out.frozenAt _
            go_region
            clear e0 f0 ef0 ff0 e1 f1 ef1 ff1 e2 f2 ef2 ff2 e3 f3 ef3 ff3 e4 f4 ef4 ff4 e5 f5 ef5 ff5 e6 f6 ef6 ff6 e7 f7 ef7 ff7 e8 f8 ef8 ff8
            have HO2 : Hid (((((((((((((((((((v1.setCell ⟨g, (j - 1) * 9, none⟩ (.int .i64 x.key)).setCell ⟨g, (j - 1) * 9 + 1, none⟩ (.string x.ver.id)).setCell ⟨g, (j - 1) * 9 + 2, none⟩ (.int .i64 x.ver.seq)).setCell ⟨g, (j - 1) * 9 + 3, none⟩ (.int .i64 x.ver.stamp)).setCell ⟨g, (j - 1) * 9 + 4, none⟩ (.bool x.dead)).setCell ⟨g, (j - 1) * 9 + 5, none⟩ (.int .i64 x.x)).setCell ⟨g, (j - 1) * 9 + 6, none⟩ (.int .i64 x.y)).setCell ⟨g, (j - 1) * 9 + 7, none⟩ (.string x.text)).setCell ⟨g, (j - 1) * 9 + 8, none⟩ (.bool x.held)).setCell ⟨g, j * 9, none⟩ (.int .i64 y.key)).setCell ⟨g, j * 9 + 1, none⟩ (.string y.ver.id)).setCell ⟨g, j * 9 + 2, none⟩ (.int .i64 y.ver.seq)).setCell ⟨g, j * 9 + 3, none⟩ (.int .i64 y.ver.stamp)).setCell ⟨g, j * 9 + 4, none⟩ (.bool y.dead)).setCell ⟨g, j * 9 + 5, none⟩ (.int .i64 y.x)).setCell ⟨g, j * 9 + 6, none⟩ (.int .i64 y.y)).setCell ⟨g, j * 9 + 7, none⟩ (.string y.text)).setCell ⟨g, j * 9 + 8, none⟩ (.bool y.held)).drew.ownsRow w.heap.size 28 9 (.slice (some ⟨g, 0, none⟩) (k + 1) c3) (k + 1) (rowCells cellsI (midF ds x (j - 1)))) := by
              have h := own_put rowI HO.out (k := j - 1) (by omega) x
              rw [HXC.out, wsets9] at h
              have h' := own_put rowI h (k := j) (by rw [List.length_set]; omega) y
              rw [HYC.out, HSW.out, wsets9] at h'
              exact h'.drew
            replace HB : Hid (Below w.heap.size w ((((((((((((((((((v1.setCell ⟨g, (j - 1) * 9, none⟩ (.int .i64 x.key)).setCell ⟨g, (j - 1) * 9 + 1, none⟩ (.string x.ver.id)).setCell ⟨g, (j - 1) * 9 + 2, none⟩ (.int .i64 x.ver.seq)).setCell ⟨g, (j - 1) * 9 + 3, none⟩ (.int .i64 x.ver.stamp)).setCell ⟨g, (j - 1) * 9 + 4, none⟩ (.bool x.dead)).setCell ⟨g, (j - 1) * 9 + 5, none⟩ (.int .i64 x.x)).setCell ⟨g, (j - 1) * 9 + 6, none⟩ (.int .i64 x.y)).setCell ⟨g, (j - 1) * 9 + 7, none⟩ (.string x.text)).setCell ⟨g, (j - 1) * 9 + 8, none⟩ (.bool x.held)).setCell ⟨g, j * 9, none⟩ (.int .i64 y.key)).setCell ⟨g, j * 9 + 1, none⟩ (.string y.ver.id)).setCell ⟨g, j * 9 + 2, none⟩ (.int .i64 y.ver.seq)).setCell ⟨g, j * 9 + 3, none⟩ (.int .i64 y.ver.stamp)).setCell ⟨g, j * 9 + 4, none⟩ (.bool y.dead)).setCell ⟨g, j * 9 + 5, none⟩ (.int .i64 y.x)).setCell ⟨g, j * 9 + 6, none⟩ (.int .i64 y.y)).setCell ⟨g, j * 9 + 7, none⟩ (.string y.text)).setCell ⟨g, j * 9 + 8, none⟩ (.bool y.held)).drew) := by
              have h := below_wsets hgB [.int .i64 x.key, .string x.ver.id, .int .i64 x.ver.seq, .int .i64 x.ver.stamp, .bool x.dead, .int .i64 x.x, .int .i64 x.y, .string x.text, .bool x.held] ((j - 1) * 9) v1 HB.out
              rw [wsets9] at h
              have h' := below_wsets hgB [.int .i64 y.key, .string y.ver.id, .int .i64 y.ver.seq, .int .i64 y.ver.stamp, .bool y.dead, .int .i64 y.x, .int .i64 y.y, .string y.text, .bool y.held] (j * 9) _ h
              rw [wsets9] at h'
              exact h'.drew
            clear HO
            generalize ((((((((((((((((((v1.setCell ⟨g, (j - 1) * 9, none⟩ (.int .i64 x.key)).setCell ⟨g, (j - 1) * 9 + 1, none⟩ (.string x.ver.id)).setCell ⟨g, (j - 1) * 9 + 2, none⟩ (.int .i64 x.ver.seq)).setCell ⟨g, (j - 1) * 9 + 3, none⟩ (.int .i64 x.ver.stamp)).setCell ⟨g, (j - 1) * 9 + 4, none⟩ (.bool x.dead)).setCell ⟨g, (j - 1) * 9 + 5, none⟩ (.int .i64 x.x)).setCell ⟨g, (j - 1) * 9 + 6, none⟩ (.int .i64 x.y)).setCell ⟨g, (j - 1) * 9 + 7, none⟩ (.string x.text)).setCell ⟨g, (j - 1) * 9 + 8, none⟩ (.bool x.held)).setCell ⟨g, j * 9, none⟩ (.int .i64 y.key)).setCell ⟨g, j * 9 + 1, none⟩ (.string y.ver.id)).setCell ⟨g, j * 9 + 2, none⟩ (.int .i64 y.ver.seq)).setCell ⟨g, j * 9 + 3, none⟩ (.int .i64 y.ver.stamp)).setCell ⟨g, j * 9 + 4, none⟩ (.bool y.dead)).setCell ⟨g, j * 9 + 5, none⟩ (.int .i64 y.x)).setCell ⟨g, j * 9 + 6, none⟩ (.int .i64 y.y)).setCell ⟨g, j * 9 + 7, none⟩ (.string y.text)).setCell ⟨g, j * 9 + 8, none⟩ (.bool y.held)).drew = ws at *
            go_wp2
            go_roundw
            case rel => exact ⟨j - 1, by first | rfl | go_num | (congr 1; omega), by omega, HP2, HO2, HB⟩
            case measure => simp [intOf]; omega
    · obtain rfl : k = n := by omega
      have q1 : ¬ ((k : Int) < k) := by omega
      have HE : Hid (zs.take k = zs) := List.take_of_length_le (by have := HLN.out; omega)
      have HLA : Hid ((ageF zs).length = k) := by show _ = _; rw [ageF_len, HLN.out]
      rw [HE.out] at HO
      go_wp2
      go_ret
      exact ⟨Av, cv, by rw [HLA.out]; rfl, by rw [HLA.out]; exact HO.out, HB.out⟩
end Go.Proofs.Ytpaiigminmakgaa

/- store.ByAge: slices' stable sort of at most 19 items. -/
namespace Go.Proofs.Ytpaiigminmakgaa
open Go.RowKit

/-- What age answers. -/
def ageI (x y : Itm) : Int := if newerF x.ver y.ver = true then 1 else if newerF y.ver x.ver = true then -1 else 0
theorem age_neg (x y : Itm) : decide (ageI x y < 0) = newerF y.ver x.ver := by
  unfold ageI
  cases h1 : newerF x.ver y.ver with
  | true => rw [if_pos rfl, newer_not h1]; rfl
  | false =>
    rw [if_neg (by decide)]
    cases newerF y.ver x.ver <;> rfl
set_option maxRecDepth 100000 in
set_option maxHeartbeats 2000000 in
theorem age_any (x y : Itm) (w : World) : Calls Try.prog 49 #[itmV x, itmV y] w fun e w' => e = .returned (.int .i64 (ageI x y)) ∧ Below w.heap.size w w' := by
  have H1 := Lib.hid (newer_any x.ver y.ver)
  have H2 := Lib.hid (newer_any y.ver x.ver)
  have HA : Hid (ageI x y = if newerF x.ver y.ver = true then 1 else if newerF y.ver x.ver = true then -1 else 0) := rfl
  obtain ⟨key1, ⟨d1, a1, s1⟩, dead1, x1, y1, text1, held1⟩ := x
  obtain ⟨key2, ⟨d2, a2, s2⟩, dead2, x2, y2, text2, held2⟩ := y
  unfold itmV
  unfold vrsV at H1 H2
  simp only at H1 H2 HA ⊢
  generalize ageI _ _ = R at *
  generalize newerF ⟨d1, a1, s1⟩ ⟨d2, a2, s2⟩ = b1 at *
  generalize newerF ⟨d2, a2, s2⟩ ⟨d1, a1, s1⟩ = b2 at *
  generalize fl x1 = fx1
  generalize fl y1 = fy1
  generalize fl x2 = fx2
  generalize fl y2 = fy2
  go_enter Try.func49, Try.ntmps49
  go_upto_region 1 with fail
  have k1 : ((w.alloc (.cells #[.int .i64 key1, .string d1, .int .i64 a1, .int .i64 s1, .bool dead1, .complex .f64 fx1 fy1, .string text1, .bool held1] 46)).alloc (.cells #[.int .i64 key2, .string d2, .int .i64 a2, .int .i64 s2, .bool dead2, .complex .f64 fx2 fy2, .string text2, .bool held2] 46)).cell? ⟨w.heap.size, 1, none⟩ = some (.string d1) := by simp [go_sem]
  have m1 : ((w.alloc (.cells #[.int .i64 key1, .string d1, .int .i64 a1, .int .i64 s1, .bool dead1, .complex .f64 fx1 fy1, .string text1, .bool held1] 46)).alloc (.cells #[.int .i64 key2, .string d2, .int .i64 a2, .int .i64 s2, .bool dead2, .complex .f64 fx2 fy2, .string text2, .bool held2] 46)).cell? ⟨w.heap.size + 1, 1, none⟩ = some (.string d2) := by simp [go_sem]
  have k2 : ((w.alloc (.cells #[.int .i64 key1, .string d1, .int .i64 a1, .int .i64 s1, .bool dead1, .complex .f64 fx1 fy1, .string text1, .bool held1] 46)).alloc (.cells #[.int .i64 key2, .string d2, .int .i64 a2, .int .i64 s2, .bool dead2, .complex .f64 fx2 fy2, .string text2, .bool held2] 46)).cell? ⟨w.heap.size, 2, none⟩ = some (.int .i64 a1) := by simp [go_sem]
  have m2 : ((w.alloc (.cells #[.int .i64 key1, .string d1, .int .i64 a1, .int .i64 s1, .bool dead1, .complex .f64 fx1 fy1, .string text1, .bool held1] 46)).alloc (.cells #[.int .i64 key2, .string d2, .int .i64 a2, .int .i64 s2, .bool dead2, .complex .f64 fx2 fy2, .string text2, .bool held2] 46)).cell? ⟨w.heap.size + 1, 2, none⟩ = some (.int .i64 a2) := by simp [go_sem]
  have k3 : ((w.alloc (.cells #[.int .i64 key1, .string d1, .int .i64 a1, .int .i64 s1, .bool dead1, .complex .f64 fx1 fy1, .string text1, .bool held1] 46)).alloc (.cells #[.int .i64 key2, .string d2, .int .i64 a2, .int .i64 s2, .bool dead2, .complex .f64 fx2 fy2, .string text2, .bool held2] 46)).cell? ⟨w.heap.size, 3, none⟩ = some (.int .i64 s1) := by simp [go_sem]
  have m3 : ((w.alloc (.cells #[.int .i64 key1, .string d1, .int .i64 a1, .int .i64 s1, .bool dead1, .complex .f64 fx1 fy1, .string text1, .bool held1] 46)).alloc (.cells #[.int .i64 key2, .string d2, .int .i64 a2, .int .i64 s2, .bool dead2, .complex .f64 fx2 fy2, .string text2, .bool held2] 46)).cell? ⟨w.heap.size + 1, 3, none⟩ = some (.int .i64 s2) := by simp [go_sem]
  have kz : w.heap.size + 1 < ((w.alloc (.cells #[.int .i64 key1, .string d1, .int .i64 a1, .int .i64 s1, .bool dead1, .complex .f64 fx1 fy1, .string text1, .bool held1] 46)).alloc (.cells #[.int .i64 key2, .string d2, .int .i64 a2, .int .i64 s2, .bool dead2, .complex .f64 fx2 fy2, .string text2, .bool held2] 46)).heap.size := by simp
  have HB : Hid (Below w.heap.size w ((w.alloc (.cells #[.int .i64 key1, .string d1, .int .i64 a1, .int .i64 s1, .bool dead1, .complex .f64 fx1 fy1, .string text1, .bool held1] 46)).alloc (.cells #[.int .i64 key2, .string d2, .int .i64 a2, .int .i64 s2, .bool dead2, .complex .f64 fx2 fy2, .string text2, .bool held2] 46))) := ((Below.refl _ _).alloc (Nat.le_refl _) _).alloc (by simp) _
  generalize ((w.alloc (.cells #[.int .i64 key1, .string d1, .int .i64 a1, .int .i64 s1, .bool dead1, .complex .f64 fx1 fy1, .string text1, .bool held1] 46)).alloc (.cells #[.int .i64 key2, .string d2, .int .i64 a2, .int .i64 s2, .bool dead2, .complex .f64 fx2 fy2, .string text2, .bool held2] 46)) = W at *
  generalize hP : w.heap.size = P at *
  go_wp2_with fail
  refine (H1.out _).mono ?_
  rintro e w1 ⟨rfl, hb⟩
  replace k1 := (hb.cell (p := ⟨P, 1, none⟩) (Nat.lt_of_succ_lt kz)).trans k1
  replace m1 := (hb.cell (p := ⟨P + 1, 1, none⟩) kz).trans m1
  replace k2 := (hb.cell (p := ⟨P, 2, none⟩) (Nat.lt_of_succ_lt kz)).trans k2
  replace m2 := (hb.cell (p := ⟨P + 1, 2, none⟩) kz).trans m2
  replace k3 := (hb.cell (p := ⟨P, 3, none⟩) (Nat.lt_of_succ_lt kz)).trans k3
  replace m3 := (hb.cell (p := ⟨P + 1, 3, none⟩) kz).trans m3
  replace kz := Nat.lt_of_lt_of_le kz hb.size
  replace HB := Lib.hid (HB.out.trans (hb.mono (by have := HB.out.size; omega)))
  clear hb
  cases b1
  · rw [if_neg (by decide)] at HA
    go_wp2_with fail
    refine (H2.out _).mono ?_
    rintro e w2 ⟨rfl, hb⟩
    replace k1 := (hb.cell (p := ⟨P, 1, none⟩) (Nat.lt_of_succ_lt kz)).trans k1
    replace m1 := (hb.cell (p := ⟨P + 1, 1, none⟩) kz).trans m1
    replace k2 := (hb.cell (p := ⟨P, 2, none⟩) (Nat.lt_of_succ_lt kz)).trans k2
    replace m2 := (hb.cell (p := ⟨P + 1, 2, none⟩) kz).trans m2
    replace k3 := (hb.cell (p := ⟨P, 3, none⟩) (Nat.lt_of_succ_lt kz)).trans k3
    replace m3 := (hb.cell (p := ⟨P + 1, 3, none⟩) kz).trans m3
    replace kz := Nat.lt_of_lt_of_le kz hb.size
    replace HB := Lib.hid (HB.out.trans (hb.mono (by have := HB.out.size; omega)))
    clear hb
    cases b2
    · rw [if_neg (by decide)] at HA
      go_wp2
      go_ret
      exact ⟨by rw [HA.out]; rfl, by rw [hP]; exact HB.out⟩
    · rw [if_pos rfl] at HA
      go_wp2
      go_ret
      exact ⟨by rw [HA.out]; rfl, by rw [hP]; exact HB.out⟩
  · rw [if_pos rfl] at HA
    go_wp2
    go_ret
    exact ⟨by rw [HA.out]; rfl, by rw [hP]; exact HB.out⟩
theorem wsets8 (w : World) (g o : Nat) (v0 v1 v2 v3 v4 v5 v6 v7 : Value) : wsets w g o [v0, v1, v2, v3, v4, v5, v6, v7] = (((((((w.setCell ⟨g, o, none⟩ v0).setCell ⟨g, o + 1, none⟩ v1).setCell ⟨g, o + 2, none⟩ v2).setCell ⟨g, o + 3, none⟩ v3).setCell ⟨g, o + 4, none⟩ v4).setCell ⟨g, o + 5, none⟩ v5).setCell ⟨g, o + 6, none⟩ v6).setCell ⟨g, o + 7, none⟩ v7 := rfl
theorem mid_swap_tail {ds tl : List Itm} {x y : Itm} {k : Nat} (h : k ≤ ds.length) (h0 : 0 < k) (hy : ds[k - 1]? = some y) : ((midF ds x k ++ tl).set k y).set (k - 1) x = midF ds x (k - 1) ++ tl := by
  have hl := midF_len (x := x) h
  rw [List.set_append_left _ _ (by omega), List.set_append_left _ _ (by rw [List.length_set]; omega), List.set_comm _ _ (by omega), midF_swap h h0 hy]
theorem age_one {zs : List Itm} {x : Itm} (h : zs[0]? = some x) : ageF (zs.take 1) ++ zs.drop 1 = zs := by
  have h1 : zs.take 1 = [x] := by have := snoc_of h; simpa using this
  rw [h1]
  have h2 : ageF [x] = [x] := rfl
  rw [h2, ← h1, List.take_append_drop]
set_option maxRecDepth 100000 in
set_option maxHeartbeats 8000000 in
theorem isort_any (g n c : Nat) (zs : List Itm) (B : Nat) (w : World) (hgB : B ≤ g) (hn0 : 0 < n) (hn : n ≤ 1000000) (hl : zs.length = n) (ho : w.ownsRow B 46 8 (.slice (some ⟨g, 0, none⟩) n c) n (rowCells cellsP zs)) (hBw : B ≤ w.heap.size) :
    Calls Try.prog 79 #[.slice (some ⟨g, 0, none⟩) n c, .int .i64 0, .int .i64 n, .func (.func 49) #[] #[]] w fun e w' => e = .returned (.tuple #[]) ∧ w'.ownsRow B 46 8 (.slice (some ⟨g, 0, none⟩) n c) n (rowCells cellsP (ageF zs)) ∧ Below B w w' := by
  obtain ⟨x0, hx0⟩ : ∃ x, zs[0]? = some x := ⟨_, List.getElem?_eq_getElem (by omega)⟩
  have HO : Hid (w.ownsRow B 46 8 (.slice (some ⟨g, 0, none⟩) n c) n (rowCells cellsP (ageF (zs.take 1) ++ zs.drop 1))) := by show World.ownsRow _ _ _ _ _ _ _; rw [age_one hx0]; exact ho
  have HLN := Lib.hid hl
  clear ho hl hx0
  go_enter Try.func79, Try.ntmps79
  go_wp2_with fail
  go_loopw [8] (fun i wr => ∃ k : Nat, i = .int .i64 k ∧ 1 ≤ k ∧ k ≤ n ∧ Hid (wr.ownsRow B 46 8 (.slice (some ⟨g, 0, none⟩) n c) n (rowCells cellsP (ageF (zs.take k) ++ zs.drop k))) ∧ Hid (Below B w wr)) (fun i _ => n - (intOf i).toNat)
  case atStart => exact ⟨1, rfl, Nat.le_refl _, hn0, HO, Below.refl _ _⟩
  case round =>
    clear HO
    obtain ⟨k, rfl, hk1, hk, HO, HB⟩ := hrel
    by_cases hlt : k < n
    · obtain ⟨x, hx⟩ : ∃ x, zs[k]? = some x := ⟨_, List.getElem?_eq_getElem (by have := HLN.out; omega)⟩
      have q1 : (k : Int) < n := by omega
      have HTK : Hid (ageF (zs.take (k + 1)) = insA (ageF (zs.take k)) x) := by show _ = _; rw [snoc_of hx, ageF_snoc]
      have HDL : Hid ((ageF (zs.take k)).length = k) := by show _ = _; rw [ageF_len, List.length_take]; have := HLN.out; omega
      have HNX : Hid (ageF (zs.take (k + 1)) = midF (ageF (zs.take k)) x (posF (ageF (zs.take k)) x k)) := by
        show _ = _
        rw [HTK.out]; unfold insA; rw [HDL.out]
      have HST : Hid (ageF (zs.take k) ++ zs.drop k = midF (ageF (zs.take k)) x k ++ zs.drop (k + 1)) := by
        have h := midF_last (ageF (zs.take k)) x
        rw [HDL.out] at h
        show _ = _
        rw [h, List.append_assoc, List.drop_eq_getElem_cons (by have := HLN.out; omega)]
        congr 2
        exact (List.getElem?_eq_some_iff.mp hx).2
      rw [HST.out] at HO
      clear HTK HST hx
      generalize ageF (zs.take k) = ds at *
      obtain ⟨tl, htl⟩ : ∃ tl, zs.drop (k + 1) = tl := ⟨_, rfl⟩
      have HTL := Lib.hid htl
      rw [htl] at HO
      clear htl
      go_wp2_with fail
      go_loopw [9] (fun i wr => ∃ j : Nat, i = .int .i64 j ∧ j ≤ k ∧ Hid (posF ds x k = posF ds x j) ∧ Hid (wr.ownsRow B 46 8 (.slice (some ⟨g, 0, none⟩) n c) n (rowCells cellsP (midF ds x j ++ tl))) ∧ Hid (Below B w wr)) (fun i _ => (intOf i).toNat)
      case atStart => exact ⟨k, rfl, Nat.le_refl _, rfl, HO, HB⟩
      case round =>
        clear HO HB
        obtain ⟨j, rfl, hj, HP, HO, HB⟩ := hrel
        by_cases h0 : j = 0
        · have HE : Hid (ageF (zs.take (k + 1)) = midF ds x j) := by show _ = _; rw [HNX.out, HP.out, h0]; rfl
          have hj0 : decide (0 < j) = false := by simp; omega
          have hj1 : ¬ ((0 : Int) < j) := by omega
          clear h0 HP
          go_wp2
          go_quiet (fail)
          go_wp2
          go_roundw
          case rel => exact ⟨k + 1, by go_num, by omega, by omega, (by show World.ownsRow _ _ _ _ _ _ _; rw [HE.out, HTL.out]; exact HO.out), below_drewN HB.out _⟩
          case measure => simp [intOf]; omega
        · have hjd : j - 1 < ds.length := by have := HDL.out; omega
          have hjl : j ≤ ds.length := by have := HDL.out; omega
          obtain ⟨y, hy⟩ : ∃ y, ds[j - 1]? = some y := ⟨_, List.getElem?_eq_getElem hjd⟩
          have hml := midF_len (x := x) hjl
          have HRW := own_row rowP HO.out
          obtain ⟨b3, o3, hA1, hb3, z1, hz1, hc3⟩ := HRW.get (k := j - 1) (by omega)
          obtain ⟨b4, o4, hA2, hb4, z2, hz2, hc4⟩ := HRW.get (k := j) (by omega)
          injection hA1 with hA1
          injection hA1 with r1 r2
          injection hA2 with hA2
          injection hA2 with r3 r4
          subst r1 r2 r3 r4
          obtain rfl : y = z1 := by rw [List.getElem?_append_left (by omega), midF_before hjl (by omega) hy] at hz1; injection hz1
          obtain rfl : x = z2 := by rw [List.getElem?_append_left (by omega), midF_at hjl] at hz2; injection hz2
          have HSW := Lib.hid (mid_swap_tail (tl := tl) (x := x) hjl (by omega) hy)
          have HPG := Lib.hid (posF_go (x := x) (by omega) hy)
          have HPS := Lib.hid (posF_stop (x := x) (by omega) hy)
          have HLL : Hid ((midF ds x j ++ tl).length = n) := by
            have h := HO.out.1
            rw [rowCells_length rowP.len] at h
            show _ = _
            omega
          clear HRW hz1 hz2 hy
          obtain ⟨e0, e1, e2, e3, e4, e5, e6, e7⟩ := cellsP_at hc3
          obtain ⟨f0, f1, f2, f3, f4, f5, f6, f7⟩ := cellsP_at hc4
          replace e0 : wr.cell? ⟨g, (j - 1) * 8, none⟩ = some (.int .i64 y.key) := (by have h := e0; simpa using h)
          replace f0 : wr.cell? ⟨g, j * 8, none⟩ = some (.int .i64 x.key) := (by have h := f0; simpa using h)
          replace e1 : wr.cell? ⟨g, (j - 1) * 8 + 1, none⟩ = some (.string y.ver.id) := (by have h := e1; simpa using h)
          replace f1 : wr.cell? ⟨g, j * 8 + 1, none⟩ = some (.string x.ver.id) := (by have h := f1; simpa using h)
          replace e2 : wr.cell? ⟨g, (j - 1) * 8 + 2, none⟩ = some (.int .i64 y.ver.seq) := (by have h := e2; simpa using h)
          replace f2 : wr.cell? ⟨g, j * 8 + 2, none⟩ = some (.int .i64 x.ver.seq) := (by have h := f2; simpa using h)
          replace e3 : wr.cell? ⟨g, (j - 1) * 8 + 3, none⟩ = some (.int .i64 y.ver.stamp) := (by have h := e3; simpa using h)
          replace f3 : wr.cell? ⟨g, j * 8 + 3, none⟩ = some (.int .i64 x.ver.stamp) := (by have h := f3; simpa using h)
          replace e4 : wr.cell? ⟨g, (j - 1) * 8 + 4, none⟩ = some (.bool y.dead) := (by have h := e4; simpa using h)
          replace f4 : wr.cell? ⟨g, j * 8 + 4, none⟩ = some (.bool x.dead) := (by have h := f4; simpa using h)
          replace e5 : wr.cell? ⟨g, (j - 1) * 8 + 5, none⟩ = some (.complex .f64 (fl y.x) (fl y.y)) := (by have h := e5; simpa using h)
          replace f5 : wr.cell? ⟨g, j * 8 + 5, none⟩ = some (.complex .f64 (fl x.x) (fl x.y)) := (by have h := f5; simpa using h)
          replace e6 : wr.cell? ⟨g, (j - 1) * 8 + 6, none⟩ = some (.string y.text) := (by have h := e6; simpa using h)
          replace f6 : wr.cell? ⟨g, j * 8 + 6, none⟩ = some (.string x.text) := (by have h := f6; simpa using h)
          replace e7 : wr.cell? ⟨g, (j - 1) * 8 + 7, none⟩ = some (.bool y.held) := (by have h := e7; simpa using h)
          replace f7 : wr.cell? ⟨g, j * 8 + 7, none⟩ = some (.bool x.held) := (by have h := f7; simpa using h)
          have HXC := Lib.hid (show cellsP x = [.int .i64 x.key, .string x.ver.id, .int .i64 x.ver.seq, .int .i64 x.ver.stamp, .bool x.dead, .complex .f64 (fl x.x) (fl x.y), .string x.text, .bool x.held] from rfl)
          have HYC := Lib.hid (show cellsP y = [.int .i64 y.key, .string y.ver.id, .int .i64 y.ver.seq, .int .i64 y.ver.stamp, .bool y.dead, .complex .f64 (fl y.x) (fl y.y), .string y.text, .bool y.held] from rfl)
          have HAG := Lib.hid (age_any x y)
          have HAN := Lib.hid (age_neg x y)
          unfold itmV at HAG
          generalize ageI x y = ag at *
          have hst := store_complex
          have hj0 : decide (0 < j) = true := by simp; omega
          have hj1 : (0 : Int) < j := by omega
          have hjs : IntKind.i64.wrap ((j : Int) - 1) = ((j - 1 : Nat) : Int) := by rw [IntWalk.i64_in _ (by omega)]; omega
          have hji : (((j - 1 : Nat) : Int)) < (n : Int) := by omega
          have hji0 : (0 : Int) ≤ ((j - 1 : Nat) : Int) := by omega
          have hjk : (j : Int) < (n : Int) := by omega
          have hj00 : (0 : Int) ≤ (j : Int) := by omega
          have hjiN : j - 1 < n := by omega
          have hjkN : j < n := by omega
          have hgw : g < wr.heap.size := hb3
          have HBw : Hid (B ≤ wr.heap.size) := Nat.le_trans hBw HB.out.size
          clear hc3 hc4 hb4 hjd
          rcases hnw : newerF y.ver x.ver with _ | _
          · have HE : Hid (ageF (zs.take (k + 1)) = midF ds x j) := by show _ = _; rw [HNX.out, HP.out, HPS.out hnw]
            have ha1 : decide (ag < 0) = false := by rw [HAN.out, hnw]
            have ha2 : ¬ ag < 0 := by simpa using ha1
            clear hnw HPG HPS HP HSW HAN
            go_upto_region 4 with fail
            refine wp_region_held_drew (S := fun w' => w'.cell? ⟨g, (j - 1) * 8, none⟩ = some (.int .i64 y.key) ∧ w'.cell? ⟨g, (j - 1) * 8 + 1, none⟩ = some (.string y.ver.id) ∧ w'.cell? ⟨g, (j - 1) * 8 + 2, none⟩ = some (.int .i64 y.ver.seq) ∧ w'.cell? ⟨g, (j - 1) * 8 + 3, none⟩ = some (.int .i64 y.ver.stamp) ∧ w'.cell? ⟨g, (j - 1) * 8 + 4, none⟩ = some (.bool y.dead) ∧ w'.cell? ⟨g, (j - 1) * 8 + 5, none⟩ = some (.complex .f64 (fl y.x) (fl y.y)) ∧ w'.cell? ⟨g, (j - 1) * 8 + 6, none⟩ = some (.string y.text) ∧ w'.cell? ⟨g, (j - 1) * 8 + 7, none⟩ = some (.bool y.held) ∧ w'.cell? ⟨g, j * 8, none⟩ = some (.int .i64 x.key) ∧ w'.cell? ⟨g, j * 8 + 1, none⟩ = some (.string x.ver.id) ∧ w'.cell? ⟨g, j * 8 + 2, none⟩ = some (.int .i64 x.ver.seq) ∧ w'.cell? ⟨g, j * 8 + 3, none⟩ = some (.int .i64 x.ver.stamp) ∧ w'.cell? ⟨g, j * 8 + 4, none⟩ = some (.bool x.dead) ∧ w'.cell? ⟨g, j * 8 + 5, none⟩ = some (.complex .f64 (fl x.x) (fl x.y)) ∧ w'.cell? ⟨g, j * 8 + 6, none⟩ = some (.string x.text) ∧ w'.cell? ⟨g, j * 8 + 7, none⟩ = some (.bool x.held)) (by kernel_rfl) ⟨e0, e1, e2, e3, e4, e5, e6, e7, f0, f1, f2, f3, f4, f5, f6, f7⟩ (fun hHeld => ?_)
            refine wpAnyH_take (i := 0) (oi := { dst := some 18, op := Go.Op.move (Go.Operand.tmp 9), type := 3, pos := "zsortanyfunc.go:12", after := #[], guard := none }) (v := ?_) rfl (by kernel_rfl) (by kernel_rfl) (by kernel_rfl) (fun _ _ _ h => h) (Or.inl ⟨rfl, ?_⟩) (by assumption) ?_
            rotate_left
            · intro wz hSw; (try dsimp only at hSw); go_simp; try (with_reducible rfl)
            try simp only [Act.put, List.setIfInBounds_toArray, List.set_cons_zero, List.set_cons_succ]
            refine wpAnyH_take (i := 1) (oi := { dst := some 19, op := Go.Op.move (Go.Operand.tmp 1), type := 3, pos := "zsortanyfunc.go:12", after := #[], guard := none }) (v := ?_) rfl (by kernel_rfl) (by kernel_rfl) (by kernel_rfl) (fun _ _ _ h => h) (Or.inl ⟨rfl, ?_⟩) (by assumption) ?_
            rotate_left
            · intro wz hSw; (try dsimp only at hSw); go_simp; try (with_reducible rfl)
            try simp only [Act.put, List.setIfInBounds_toArray, List.set_cons_zero, List.set_cons_succ]
            refine wpAnyH_take (i := 2) (oi := { dst := some 20, op := Go.Op.binOp Go.BinOp.gtr 3 (Go.Operand.tmp 18) (Go.Operand.tmp 19) 3, type := 4, pos := "zsortanyfunc.go:12", after := #[{ on := 0, ground := Go.Ground.data }, { on := 1, ground := Go.Ground.data }], guard := none }) (v := ?_) rfl (by kernel_rfl) (by kernel_rfl) (by kernel_rfl) (fun _ _ _ h => h) (Or.inl ⟨rfl, ?_⟩) (by assumption) ?_
            rotate_left
            · intro wz hSw; (try dsimp only at hSw); go_simp; try (with_reducible rfl)
            try simp only [Act.put, List.setIfInBounds_toArray, List.set_cons_zero, List.set_cons_succ]
            refine wpAnyH_take (i := 3) (oi := { dst := some 21, op := Go.Op.move (Go.Operand.tmp 20), type := 4, pos := "zsortanyfunc.go:12", after := #[{ on := 2, ground := Go.Ground.data }], guard := none }) (v := ?_) rfl (by kernel_rfl) (by kernel_rfl) (by kernel_rfl) (fun _ _ _ h => h) (Or.inl ⟨rfl, ?_⟩) (by assumption) ?_
            rotate_left
            · intro wz hSw; (try dsimp only at hSw); go_simp; try (with_reducible rfl)
            try simp only [Act.put, List.setIfInBounds_toArray, List.set_cons_zero, List.set_cons_succ]
            refine wpAnyH_take (i := 4) (oi := { dst := some 22, op := Go.Op.move (Go.Operand.tmp 3), type := 92, pos := "zsortanyfunc.go:12", after := #[{ on := 3, ground := Go.Ground.guard }], guard := some (3, true) }) (v := ?_) rfl (by kernel_rfl) (by kernel_rfl) (by kernel_rfl) (fun _ _ _ h => h) (Or.inl ⟨rfl, ?_⟩) (by assumption) ?_
            rotate_left
            · intro wz hSw; (try dsimp only at hSw); go_simp; try (with_reducible rfl)
            try simp only [Act.put, List.setIfInBounds_toArray, List.set_cons_zero, List.set_cons_succ]
            refine wpAnyH_take (i := 5) (oi := { dst := some 23, op := Go.Op.move (Go.Operand.tmp 0), type := 32, pos := "zsortanyfunc.go:12", after := #[{ on := 3, ground := Go.Ground.guard }], guard := some (3, true) }) (v := ?_) rfl (by kernel_rfl) (by kernel_rfl) (by kernel_rfl) (fun _ _ _ h => h) (Or.inl ⟨rfl, ?_⟩) (by assumption) ?_
            rotate_left
            · intro wz hSw; (try dsimp only at hSw); go_simp; try (with_reducible rfl)
            try simp only [Act.put, List.setIfInBounds_toArray, List.set_cons_zero, List.set_cons_succ]
            refine wpAnyH_take (i := 6) (oi := { dst := some 24, op := Go.Op.move (Go.Operand.tmp 9), type := 3, pos := "zsortanyfunc.go:12", after := #[{ on := 3, ground := Go.Ground.guard }], guard := some (3, true) }) (v := ?_) rfl (by kernel_rfl) (by kernel_rfl) (by kernel_rfl) (fun _ _ _ h => h) (Or.inl ⟨rfl, ?_⟩) (by assumption) ?_
            rotate_left
            · intro wz hSw; (try dsimp only at hSw); go_simp; try (with_reducible rfl)
            try simp only [Act.put, List.setIfInBounds_toArray, List.set_cons_zero, List.set_cons_succ]
            refine wpAnyH_take (i := 7) (oi := { dst := some 25, op := Go.Op.indexAddr 32 (Go.Operand.tmp 23) (Go.Operand.tmp 24), type := 0, pos := "zsortanyfunc.go:12", after := #[{ on := 5, ground := Go.Ground.data }, { on := 6, ground := Go.Ground.data }, { on := 3, ground := Go.Ground.guard }], guard := some (3, true) }) (v := ?_) rfl (by kernel_rfl) (by kernel_rfl) (by kernel_rfl) (fun _ _ _ h => h) (Or.inl ⟨rfl, ?_⟩) (by assumption) ?_
            rotate_left
            · intro wz hSw; (try dsimp only at hSw); go_simp; try (with_reducible rfl)
            try simp only [Act.put, List.setIfInBounds_toArray, List.set_cons_zero, List.set_cons_succ]
            refine wpAnyH_take (i := 8) (oi := { dst := some 26, op := Go.Op.load 46 (Go.Operand.tmp 25), type := 46, pos := "zsortanyfunc.go:12", after := #[{ on := 7, ground := Go.Ground.data }, { on := 3, ground := Go.Ground.guard }], guard := some (3, true) }) (v := ?_) rfl (by kernel_rfl) (by kernel_rfl) (by kernel_rfl) (fun _ _ _ h => h) (Or.inl ⟨rfl, ?_⟩) (by assumption) ?_
            rotate_left
            · intro wz hSw; (try dsimp only at hSw); go_simp; try (with_reducible rfl)
            try simp only [Act.put, List.setIfInBounds_toArray, List.set_cons_zero, List.set_cons_succ]
            refine wpAnyH_take (i := 9) (oi := { dst := some 27, op := Go.Op.move (Go.Operand.tmp 0), type := 32, pos := "zsortanyfunc.go:12", after := #[{ on := 3, ground := Go.Ground.guard }], guard := some (3, true) }) (v := ?_) rfl (by kernel_rfl) (by kernel_rfl) (by kernel_rfl) (fun _ _ _ h => h) (Or.inl ⟨rfl, ?_⟩) (by assumption) ?_
            rotate_left
            · intro wz hSw; (try dsimp only at hSw); go_simp; try (with_reducible rfl)
            try simp only [Act.put, List.setIfInBounds_toArray, List.set_cons_zero, List.set_cons_succ]
            refine wpAnyH_take (i := 10) (oi := { dst := some 28, op := Go.Op.move (Go.Operand.tmp 9), type := 3, pos := "zsortanyfunc.go:12", after := #[{ on := 3, ground := Go.Ground.guard }], guard := some (3, true) }) (v := ?_) rfl (by kernel_rfl) (by kernel_rfl) (by kernel_rfl) (fun _ _ _ h => h) (Or.inl ⟨rfl, ?_⟩) (by assumption) ?_
            rotate_left
            · intro wz hSw; (try dsimp only at hSw); go_simp; try (with_reducible rfl)
            try simp only [Act.put, List.setIfInBounds_toArray, List.set_cons_zero, List.set_cons_succ]
            refine wpAnyH_take (i := 11) (oi := { dst := some 29, op := Go.Op.binOp Go.BinOp.sub 3 (Go.Operand.tmp 28) (Go.Operand.const (Go.Value.int Go.IntKind.i64 1)) 3, type := 3, pos := "zsortanyfunc.go:12", after := #[{ on := 10, ground := Go.Ground.data }, { on := 3, ground := Go.Ground.guard }], guard := some (3, true) }) (v := ?_) rfl (by kernel_rfl) (by kernel_rfl) (by kernel_rfl) (fun _ _ _ h => h) (Or.inl ⟨rfl, ?_⟩) (by assumption) ?_
            rotate_left
            · intro wz hSw; (try dsimp only at hSw); go_simp; try (with_reducible rfl)
            try simp only [Act.put, List.setIfInBounds_toArray, List.set_cons_zero, List.set_cons_succ]
            refine wpAnyH_take (i := 12) (oi := { dst := some 30, op := Go.Op.indexAddr 32 (Go.Operand.tmp 27) (Go.Operand.tmp 29), type := 0, pos := "zsortanyfunc.go:12", after := #[{ on := 9, ground := Go.Ground.data }, { on := 11, ground := Go.Ground.data }, { on := 3, ground := Go.Ground.guard }], guard := some (3, true) }) (v := ?_) rfl (by kernel_rfl) (by kernel_rfl) (by kernel_rfl) (fun _ _ _ h => h) (Or.inl ⟨rfl, ?_⟩) (by assumption) ?_
            rotate_left
            · intro wz hSw; (try dsimp only at hSw); go_simp; try (with_reducible rfl)
            try simp only [Act.put, List.setIfInBounds_toArray, List.set_cons_zero, List.set_cons_succ]
            refine wpAnyH_take (i := 13) (oi := { dst := some 31, op := Go.Op.load 46 (Go.Operand.tmp 30), type := 46, pos := "zsortanyfunc.go:12", after := #[{ on := 12, ground := Go.Ground.data }, { on := 3, ground := Go.Ground.guard }], guard := some (3, true) }) (v := ?_) rfl (by kernel_rfl) (by kernel_rfl) (by kernel_rfl) (fun _ _ _ h => h) (Or.inl ⟨rfl, ?_⟩) (by assumption) ?_
            rotate_left
            · intro wz hSw; (try dsimp only at hSw); go_simp; try (with_reducible rfl)
            try simp only [Act.put, List.setIfInBounds_toArray, List.set_cons_zero, List.set_cons_succ]
            refine wpAnyH_ready (rs := [14]) (by kernel_rfl) (by simp) ?_
            refine AllReadyH.cons (o := { dst := some 32, op := Go.Op.call { callee := Go.Callee.value (Go.Operand.tmp 22), args := #[Go.Operand.tmp 26, Go.Operand.tmp 31], argTypes := #[46, 46] }, type := 3, pos := "zsortanyfunc.go:12", after := #[{ on := 4, ground := Go.Ground.data }, { on := 8, ground := Go.Ground.data }, { on := 13, ground := Go.Ground.data }, { on := 3, ground := Go.Ground.chain }, { on := 3, ground := Go.Ground.guard }], guard := some (3, true) }) rfl (fun K hK => ?_) AllReadyH.nil
            go_simp
            go_at_call 49
            refine (HAG.out _).mono ?_
            rintro e v1 ⟨rfl, hb⟩
            replace e0 := (hb.cell (p := ⟨g, (j - 1) * 8, none⟩) hgw).trans e0
            replace e1 := (hb.cell (p := ⟨g, (j - 1) * 8 + 1, none⟩) hgw).trans e1
            replace e2 := (hb.cell (p := ⟨g, (j - 1) * 8 + 2, none⟩) hgw).trans e2
            replace e3 := (hb.cell (p := ⟨g, (j - 1) * 8 + 3, none⟩) hgw).trans e3
            replace e4 := (hb.cell (p := ⟨g, (j - 1) * 8 + 4, none⟩) hgw).trans e4
            replace e5 := (hb.cell (p := ⟨g, (j - 1) * 8 + 5, none⟩) hgw).trans e5
            replace e6 := (hb.cell (p := ⟨g, (j - 1) * 8 + 6, none⟩) hgw).trans e6
            replace e7 := (hb.cell (p := ⟨g, (j - 1) * 8 + 7, none⟩) hgw).trans e7
            replace f0 := (hb.cell (p := ⟨g, j * 8, none⟩) hgw).trans f0
            replace f1 := (hb.cell (p := ⟨g, j * 8 + 1, none⟩) hgw).trans f1
            replace f2 := (hb.cell (p := ⟨g, j * 8 + 2, none⟩) hgw).trans f2
            replace f3 := (hb.cell (p := ⟨g, j * 8 + 3, none⟩) hgw).trans f3
            replace f4 := (hb.cell (p := ⟨g, j * 8 + 4, none⟩) hgw).trans f4
            replace f5 := (hb.cell (p := ⟨g, j * 8 + 5, none⟩) hgw).trans f5
            replace f6 := (hb.cell (p := ⟨g, j * 8 + 6, none⟩) hgw).trans f6
            replace f7 := (hb.cell (p := ⟨g, j * 8 + 7, none⟩) hgw).trans f7
            replace HO := Lib.hid (rown_below HO.out (below_via (Below.refl _ _) hb (Nat.le_refl _) ⟨rfl, rfl, rfl, rfl⟩))
            replace HB := Lib.hid (below_via HB.out hb HBw.out ⟨rfl, rfl, rfl, rfl⟩)
            replace hgw := Nat.lt_of_lt_of_le hgw hb.size
            clear hb
            refine hK.out _ _ ⟨e0, e1, e2, e3, e4, e5, e6, e7, f0, f1, f2, f3, f4, f5, f6, f7⟩ (fun hHeld => ?_)
            clear hK K
            try simp only [Act.put, List.setIfInBounds_toArray, List.set_cons_zero, List.set_cons_succ]
            refine wpAnyH_take (i := 15) (oi := { dst := some 33, op := Go.Op.binOp Go.BinOp.lss 3 (Go.Operand.tmp 32) (Go.Operand.const (Go.Value.int Go.IntKind.i64 0)) 3, type := 4, pos := "zsortanyfunc.go:12", after := #[{ on := 14, ground := Go.Ground.data }, { on := 3, ground := Go.Ground.guard }], guard := some (3, true) }) (v := ?_) rfl (by kernel_rfl) (by kernel_rfl) (by kernel_rfl) (fun _ _ _ h => h) (Or.inl ⟨rfl, ?_⟩) (by assumption) ?_
            rotate_left
            · intro wz hSw; (try dsimp only at hSw); go_simp; try (with_reducible rfl)
            try simp only [Act.put, List.setIfInBounds_toArray, List.set_cons_zero, List.set_cons_succ]
            refine wpAnyH_take (i := 16) (oi := { dst := some 34, op := Go.Op.pick (Go.Operand.tmp 21) (Go.Operand.tmp 33) (Go.Operand.const (Go.Value.bool false)), type := 4, pos := "zsortanyfunc.go:12", after := #[{ on := 3, ground := Go.Ground.data }, { on := 15, ground := Go.Ground.data }], guard := none }) (v := ?_) rfl (by kernel_rfl) (by kernel_rfl) (by kernel_rfl) (fun _ _ _ h => h) (Or.inl ⟨rfl, ?_⟩) (by assumption) ?_
            rotate_left
            · intro wz hSw; (try dsimp only at hSw); go_simp; try (with_reducible rfl)
            try simp only [Act.put, List.setIfInBounds_toArray, List.set_cons_zero, List.set_cons_succ]
            refine wpAnyH_done (by kernel_rfl) ?_ _
            clear hHeld
            clear e0 e1 e2 e3 e4 e5 e6 e7 f0 f1 f2 f3 f4 f5 f6 f7
            go_wp2
            go_roundw
            case rel => exact ⟨k + 1, by go_num, by omega, by omega, (by show World.ownsRow _ _ _ _ _ _ _; rw [HE.out, HTL.out]; exact HO.out), HB⟩
            case measure => simp [intOf]; omega
          · have HP2 : Hid (posF ds x k = posF ds x (j - 1)) := HP.out.trans (HPG.out hnw)
            have ha1 : decide (ag < 0) = true := by rw [HAN.out, hnw]
            have ha2 : ag < 0 := by simpa using ha1
            clear hnw HPG HPS HP HAN
            go_upto_region 4 with fail
            refine wp_region_held_drew (S := fun w' => w'.cell? ⟨g, (j - 1) * 8, none⟩ = some (.int .i64 y.key) ∧ w'.cell? ⟨g, (j - 1) * 8 + 1, none⟩ = some (.string y.ver.id) ∧ w'.cell? ⟨g, (j - 1) * 8 + 2, none⟩ = some (.int .i64 y.ver.seq) ∧ w'.cell? ⟨g, (j - 1) * 8 + 3, none⟩ = some (.int .i64 y.ver.stamp) ∧ w'.cell? ⟨g, (j - 1) * 8 + 4, none⟩ = some (.bool y.dead) ∧ w'.cell? ⟨g, (j - 1) * 8 + 5, none⟩ = some (.complex .f64 (fl y.x) (fl y.y)) ∧ w'.cell? ⟨g, (j - 1) * 8 + 6, none⟩ = some (.string y.text) ∧ w'.cell? ⟨g, (j - 1) * 8 + 7, none⟩ = some (.bool y.held) ∧ w'.cell? ⟨g, j * 8, none⟩ = some (.int .i64 x.key) ∧ w'.cell? ⟨g, j * 8 + 1, none⟩ = some (.string x.ver.id) ∧ w'.cell? ⟨g, j * 8 + 2, none⟩ = some (.int .i64 x.ver.seq) ∧ w'.cell? ⟨g, j * 8 + 3, none⟩ = some (.int .i64 x.ver.stamp) ∧ w'.cell? ⟨g, j * 8 + 4, none⟩ = some (.bool x.dead) ∧ w'.cell? ⟨g, j * 8 + 5, none⟩ = some (.complex .f64 (fl x.x) (fl x.y)) ∧ w'.cell? ⟨g, j * 8 + 6, none⟩ = some (.string x.text) ∧ w'.cell? ⟨g, j * 8 + 7, none⟩ = some (.bool x.held)) (by kernel_rfl) ⟨e0, e1, e2, e3, e4, e5, e6, e7, f0, f1, f2, f3, f4, f5, f6, f7⟩ (fun hHeld => ?_)
            refine wpAnyH_take (i := 0) (oi := { dst := some 18, op := Go.Op.move (Go.Operand.tmp 9), type := 3, pos := "zsortanyfunc.go:12", after := #[], guard := none }) (v := ?_) rfl (by kernel_rfl) (by kernel_rfl) (by kernel_rfl) (fun _ _ _ h => h) (Or.inl ⟨rfl, ?_⟩) (by assumption) ?_
            rotate_left
            · intro wz hSw; (try dsimp only at hSw); go_simp; try (with_reducible rfl)
            try simp only [Act.put, List.setIfInBounds_toArray, List.set_cons_zero, List.set_cons_succ]
            refine wpAnyH_take (i := 1) (oi := { dst := some 19, op := Go.Op.move (Go.Operand.tmp 1), type := 3, pos := "zsortanyfunc.go:12", after := #[], guard := none }) (v := ?_) rfl (by kernel_rfl) (by kernel_rfl) (by kernel_rfl) (fun _ _ _ h => h) (Or.inl ⟨rfl, ?_⟩) (by assumption) ?_
            rotate_left
            · intro wz hSw; (try dsimp only at hSw); go_simp; try (with_reducible rfl)
            try simp only [Act.put, List.setIfInBounds_toArray, List.set_cons_zero, List.set_cons_succ]
            refine wpAnyH_take (i := 2) (oi := { dst := some 20, op := Go.Op.binOp Go.BinOp.gtr 3 (Go.Operand.tmp 18) (Go.Operand.tmp 19) 3, type := 4, pos := "zsortanyfunc.go:12", after := #[{ on := 0, ground := Go.Ground.data }, { on := 1, ground := Go.Ground.data }], guard := none }) (v := ?_) rfl (by kernel_rfl) (by kernel_rfl) (by kernel_rfl) (fun _ _ _ h => h) (Or.inl ⟨rfl, ?_⟩) (by assumption) ?_
            rotate_left
            · intro wz hSw; (try dsimp only at hSw); go_simp; try (with_reducible rfl)
            try simp only [Act.put, List.setIfInBounds_toArray, List.set_cons_zero, List.set_cons_succ]
            refine wpAnyH_take (i := 3) (oi := { dst := some 21, op := Go.Op.move (Go.Operand.tmp 20), type := 4, pos := "zsortanyfunc.go:12", after := #[{ on := 2, ground := Go.Ground.data }], guard := none }) (v := ?_) rfl (by kernel_rfl) (by kernel_rfl) (by kernel_rfl) (fun _ _ _ h => h) (Or.inl ⟨rfl, ?_⟩) (by assumption) ?_
            rotate_left
            · intro wz hSw; (try dsimp only at hSw); go_simp; try (with_reducible rfl)
            try simp only [Act.put, List.setIfInBounds_toArray, List.set_cons_zero, List.set_cons_succ]
            refine wpAnyH_take (i := 4) (oi := { dst := some 22, op := Go.Op.move (Go.Operand.tmp 3), type := 92, pos := "zsortanyfunc.go:12", after := #[{ on := 3, ground := Go.Ground.guard }], guard := some (3, true) }) (v := ?_) rfl (by kernel_rfl) (by kernel_rfl) (by kernel_rfl) (fun _ _ _ h => h) (Or.inl ⟨rfl, ?_⟩) (by assumption) ?_
            rotate_left
            · intro wz hSw; (try dsimp only at hSw); go_simp; try (with_reducible rfl)
            try simp only [Act.put, List.setIfInBounds_toArray, List.set_cons_zero, List.set_cons_succ]
            refine wpAnyH_take (i := 5) (oi := { dst := some 23, op := Go.Op.move (Go.Operand.tmp 0), type := 32, pos := "zsortanyfunc.go:12", after := #[{ on := 3, ground := Go.Ground.guard }], guard := some (3, true) }) (v := ?_) rfl (by kernel_rfl) (by kernel_rfl) (by kernel_rfl) (fun _ _ _ h => h) (Or.inl ⟨rfl, ?_⟩) (by assumption) ?_
            rotate_left
            · intro wz hSw; (try dsimp only at hSw); go_simp; try (with_reducible rfl)
            try simp only [Act.put, List.setIfInBounds_toArray, List.set_cons_zero, List.set_cons_succ]
            refine wpAnyH_take (i := 6) (oi := { dst := some 24, op := Go.Op.move (Go.Operand.tmp 9), type := 3, pos := "zsortanyfunc.go:12", after := #[{ on := 3, ground := Go.Ground.guard }], guard := some (3, true) }) (v := ?_) rfl (by kernel_rfl) (by kernel_rfl) (by kernel_rfl) (fun _ _ _ h => h) (Or.inl ⟨rfl, ?_⟩) (by assumption) ?_
            rotate_left
            · intro wz hSw; (try dsimp only at hSw); go_simp; try (with_reducible rfl)
            try simp only [Act.put, List.setIfInBounds_toArray, List.set_cons_zero, List.set_cons_succ]
            refine wpAnyH_take (i := 7) (oi := { dst := some 25, op := Go.Op.indexAddr 32 (Go.Operand.tmp 23) (Go.Operand.tmp 24), type := 0, pos := "zsortanyfunc.go:12", after := #[{ on := 5, ground := Go.Ground.data }, { on := 6, ground := Go.Ground.data }, { on := 3, ground := Go.Ground.guard }], guard := some (3, true) }) (v := ?_) rfl (by kernel_rfl) (by kernel_rfl) (by kernel_rfl) (fun _ _ _ h => h) (Or.inl ⟨rfl, ?_⟩) (by assumption) ?_
            rotate_left
            · intro wz hSw; (try dsimp only at hSw); go_simp; try (with_reducible rfl)
            try simp only [Act.put, List.setIfInBounds_toArray, List.set_cons_zero, List.set_cons_succ]
            refine wpAnyH_take (i := 8) (oi := { dst := some 26, op := Go.Op.load 46 (Go.Operand.tmp 25), type := 46, pos := "zsortanyfunc.go:12", after := #[{ on := 7, ground := Go.Ground.data }, { on := 3, ground := Go.Ground.guard }], guard := some (3, true) }) (v := ?_) rfl (by kernel_rfl) (by kernel_rfl) (by kernel_rfl) (fun _ _ _ h => h) (Or.inl ⟨rfl, ?_⟩) (by assumption) ?_
            rotate_left
            · intro wz hSw; (try dsimp only at hSw); go_simp; try (with_reducible rfl)
            try simp only [Act.put, List.setIfInBounds_toArray, List.set_cons_zero, List.set_cons_succ]
            refine wpAnyH_take (i := 9) (oi := { dst := some 27, op := Go.Op.move (Go.Operand.tmp 0), type := 32, pos := "zsortanyfunc.go:12", after := #[{ on := 3, ground := Go.Ground.guard }], guard := some (3, true) }) (v := ?_) rfl (by kernel_rfl) (by kernel_rfl) (by kernel_rfl) (fun _ _ _ h => h) (Or.inl ⟨rfl, ?_⟩) (by assumption) ?_
            rotate_left
            · intro wz hSw; (try dsimp only at hSw); go_simp; try (with_reducible rfl)
            try simp only [Act.put, List.setIfInBounds_toArray, List.set_cons_zero, List.set_cons_succ]
            refine wpAnyH_take (i := 10) (oi := { dst := some 28, op := Go.Op.move (Go.Operand.tmp 9), type := 3, pos := "zsortanyfunc.go:12", after := #[{ on := 3, ground := Go.Ground.guard }], guard := some (3, true) }) (v := ?_) rfl (by kernel_rfl) (by kernel_rfl) (by kernel_rfl) (fun _ _ _ h => h) (Or.inl ⟨rfl, ?_⟩) (by assumption) ?_
            rotate_left
            · intro wz hSw; (try dsimp only at hSw); go_simp; try (with_reducible rfl)
            try simp only [Act.put, List.setIfInBounds_toArray, List.set_cons_zero, List.set_cons_succ]
            refine wpAnyH_take (i := 11) (oi := { dst := some 29, op := Go.Op.binOp Go.BinOp.sub 3 (Go.Operand.tmp 28) (Go.Operand.const (Go.Value.int Go.IntKind.i64 1)) 3, type := 3, pos := "zsortanyfunc.go:12", after := #[{ on := 10, ground := Go.Ground.data }, { on := 3, ground := Go.Ground.guard }], guard := some (3, true) }) (v := ?_) rfl (by kernel_rfl) (by kernel_rfl) (by kernel_rfl) (fun _ _ _ h => h) (Or.inl ⟨rfl, ?_⟩) (by assumption) ?_
            rotate_left
            · intro wz hSw; (try dsimp only at hSw); go_simp; try (with_reducible rfl)
            try simp only [Act.put, List.setIfInBounds_toArray, List.set_cons_zero, List.set_cons_succ]
            refine wpAnyH_take (i := 12) (oi := { dst := some 30, op := Go.Op.indexAddr 32 (Go.Operand.tmp 27) (Go.Operand.tmp 29), type := 0, pos := "zsortanyfunc.go:12", after := #[{ on := 9, ground := Go.Ground.data }, { on := 11, ground := Go.Ground.data }, { on := 3, ground := Go.Ground.guard }], guard := some (3, true) }) (v := ?_) rfl (by kernel_rfl) (by kernel_rfl) (by kernel_rfl) (fun _ _ _ h => h) (Or.inl ⟨rfl, ?_⟩) (by assumption) ?_
            rotate_left
            · intro wz hSw; (try dsimp only at hSw); go_simp; try (with_reducible rfl)
            try simp only [Act.put, List.setIfInBounds_toArray, List.set_cons_zero, List.set_cons_succ]
            refine wpAnyH_take (i := 13) (oi := { dst := some 31, op := Go.Op.load 46 (Go.Operand.tmp 30), type := 46, pos := "zsortanyfunc.go:12", after := #[{ on := 12, ground := Go.Ground.data }, { on := 3, ground := Go.Ground.guard }], guard := some (3, true) }) (v := ?_) rfl (by kernel_rfl) (by kernel_rfl) (by kernel_rfl) (fun _ _ _ h => h) (Or.inl ⟨rfl, ?_⟩) (by assumption) ?_
            rotate_left
            · intro wz hSw; (try dsimp only at hSw); go_simp; try (with_reducible rfl)
            try simp only [Act.put, List.setIfInBounds_toArray, List.set_cons_zero, List.set_cons_succ]
            refine wpAnyH_ready (rs := [14]) (by kernel_rfl) (by simp) ?_
            refine AllReadyH.cons (o := { dst := some 32, op := Go.Op.call { callee := Go.Callee.value (Go.Operand.tmp 22), args := #[Go.Operand.tmp 26, Go.Operand.tmp 31], argTypes := #[46, 46] }, type := 3, pos := "zsortanyfunc.go:12", after := #[{ on := 4, ground := Go.Ground.data }, { on := 8, ground := Go.Ground.data }, { on := 13, ground := Go.Ground.data }, { on := 3, ground := Go.Ground.chain }, { on := 3, ground := Go.Ground.guard }], guard := some (3, true) }) rfl (fun K hK => ?_) AllReadyH.nil
            go_simp
            go_at_call 49
            refine (HAG.out _).mono ?_
            rintro e v1 ⟨rfl, hb⟩
            replace e0 := (hb.cell (p := ⟨g, (j - 1) * 8, none⟩) hgw).trans e0
            replace e1 := (hb.cell (p := ⟨g, (j - 1) * 8 + 1, none⟩) hgw).trans e1
            replace e2 := (hb.cell (p := ⟨g, (j - 1) * 8 + 2, none⟩) hgw).trans e2
            replace e3 := (hb.cell (p := ⟨g, (j - 1) * 8 + 3, none⟩) hgw).trans e3
            replace e4 := (hb.cell (p := ⟨g, (j - 1) * 8 + 4, none⟩) hgw).trans e4
            replace e5 := (hb.cell (p := ⟨g, (j - 1) * 8 + 5, none⟩) hgw).trans e5
            replace e6 := (hb.cell (p := ⟨g, (j - 1) * 8 + 6, none⟩) hgw).trans e6
            replace e7 := (hb.cell (p := ⟨g, (j - 1) * 8 + 7, none⟩) hgw).trans e7
            replace f0 := (hb.cell (p := ⟨g, j * 8, none⟩) hgw).trans f0
            replace f1 := (hb.cell (p := ⟨g, j * 8 + 1, none⟩) hgw).trans f1
            replace f2 := (hb.cell (p := ⟨g, j * 8 + 2, none⟩) hgw).trans f2
            replace f3 := (hb.cell (p := ⟨g, j * 8 + 3, none⟩) hgw).trans f3
            replace f4 := (hb.cell (p := ⟨g, j * 8 + 4, none⟩) hgw).trans f4
            replace f5 := (hb.cell (p := ⟨g, j * 8 + 5, none⟩) hgw).trans f5
            replace f6 := (hb.cell (p := ⟨g, j * 8 + 6, none⟩) hgw).trans f6
            replace f7 := (hb.cell (p := ⟨g, j * 8 + 7, none⟩) hgw).trans f7
            replace HO := Lib.hid (rown_below HO.out (below_via (Below.refl _ _) hb (Nat.le_refl _) ⟨rfl, rfl, rfl, rfl⟩))
            replace HB := Lib.hid (below_via HB.out hb HBw.out ⟨rfl, rfl, rfl, rfl⟩)
            replace hgw := Nat.lt_of_lt_of_le hgw hb.size
            clear hb
            refine hK.out _ _ ⟨e0, e1, e2, e3, e4, e5, e6, e7, f0, f1, f2, f3, f4, f5, f6, f7⟩ (fun hHeld => ?_)
            clear hK K
            try simp only [Act.put, List.setIfInBounds_toArray, List.set_cons_zero, List.set_cons_succ]
            refine wpAnyH_take (i := 15) (oi := { dst := some 33, op := Go.Op.binOp Go.BinOp.lss 3 (Go.Operand.tmp 32) (Go.Operand.const (Go.Value.int Go.IntKind.i64 0)) 3, type := 4, pos := "zsortanyfunc.go:12", after := #[{ on := 14, ground := Go.Ground.data }, { on := 3, ground := Go.Ground.guard }], guard := some (3, true) }) (v := ?_) rfl (by kernel_rfl) (by kernel_rfl) (by kernel_rfl) (fun _ _ _ h => h) (Or.inl ⟨rfl, ?_⟩) (by assumption) ?_
            rotate_left
            · intro wz hSw; (try dsimp only at hSw); go_simp; try (with_reducible rfl)
            try simp only [Act.put, List.setIfInBounds_toArray, List.set_cons_zero, List.set_cons_succ]
            refine wpAnyH_take (i := 16) (oi := { dst := some 34, op := Go.Op.pick (Go.Operand.tmp 21) (Go.Operand.tmp 33) (Go.Operand.const (Go.Value.bool false)), type := 4, pos := "zsortanyfunc.go:12", after := #[{ on := 3, ground := Go.Ground.data }, { on := 15, ground := Go.Ground.data }], guard := none }) (v := ?_) rfl (by kernel_rfl) (by kernel_rfl) (by kernel_rfl) (fun _ _ _ h => h) (Or.inl ⟨rfl, ?_⟩) (by assumption) ?_
            rotate_left
            · intro wz hSw; (try dsimp only at hSw); go_simp; try (with_reducible rfl)
            try simp only [Act.put, List.setIfInBounds_toArray, List.set_cons_zero, List.set_cons_succ]
            refine wpAnyH_done (by kernel_rfl) ?_ _
            clear hHeld
            go_upto_region 6 with fail
            have ef0 : v1.frozen? ⟨g, (j - 1) * 8, none⟩ = false := HO.out.frozenAt _
            have ff0 : v1.frozen? ⟨g, j * 8, none⟩ = false := HO.out.frozenAt _
            have ef1 : v1.frozen? ⟨g, (j - 1) * 8 + 1, none⟩ = false := HO.out.frozenAt _
            have ff1 : v1.frozen? ⟨g, j * 8 + 1, none⟩ = false := HO.out.frozenAt _
            have ef2 : v1.frozen? ⟨g, (j - 1) * 8 + 2, none⟩ = false := HO.out.frozenAt _
            have ff2 : v1.frozen? ⟨g, j * 8 + 2, none⟩ = false := HO.out.frozenAt _
            have ef3 : v1.frozen? ⟨g, (j - 1) * 8 + 3, none⟩ = false := HO.out.frozenAt _
            have ff3 : v1.frozen? ⟨g, j * 8 + 3, none⟩ = false := HO.out.frozenAt _
            have ef4 : v1.frozen? ⟨g, (j - 1) * 8 + 4, none⟩ = false := HO.out.frozenAt _
            have ff4 : v1.frozen? ⟨g, j * 8 + 4, none⟩ = false := HO.out.frozenAt _
            have ef5 : v1.frozen? ⟨g, (j - 1) * 8 + 5, none⟩ = false := HO.out.frozenAt _
            have ff5 : v1.frozen? ⟨g, j * 8 + 5, none⟩ = false := HO.out.frozenAt _
            have ef6 : v1.frozen? ⟨g, (j - 1) * 8 + 6, none⟩ = false := HO.out.frozenAt _
            have ff6 : v1.frozen? ⟨g, j * 8 + 6, none⟩ = false := HO.out.frozenAt _
            have ef7 : v1.frozen? ⟨g, (j - 1) * 8 + 7, none⟩ = false := HO.out.frozenAt _
            have ff7 : v1.frozen? ⟨g, j * 8 + 7, none⟩ = false := HO.out.frozenAt _
            go_region
            clear e0 f0 ef0 ff0 e1 f1 ef1 ff1 e2 f2 ef2 ff2 e3 f3 ef3 ff3 e4 f4 ef4 ff4 e5 f5 ef5 ff5 e6 f6 ef6 ff6 e7 f7 ef7 ff7
            have HO2 : Hid (((((((((((((((((v1.setCell ⟨g, j * 8, none⟩ (.int .i64 y.key)).setCell ⟨g, j * 8 + 1, none⟩ (.string y.ver.id)).setCell ⟨g, j * 8 + 2, none⟩ (.int .i64 y.ver.seq)).setCell ⟨g, j * 8 + 3, none⟩ (.int .i64 y.ver.stamp)).setCell ⟨g, j * 8 + 4, none⟩ (.bool y.dead)).setCell ⟨g, j * 8 + 5, none⟩ (.complex .f64 (fl y.x) (fl y.y))).setCell ⟨g, j * 8 + 6, none⟩ (.string y.text)).setCell ⟨g, j * 8 + 7, none⟩ (.bool y.held)).setCell ⟨g, (j - 1) * 8, none⟩ (.int .i64 x.key)).setCell ⟨g, (j - 1) * 8 + 1, none⟩ (.string x.ver.id)).setCell ⟨g, (j - 1) * 8 + 2, none⟩ (.int .i64 x.ver.seq)).setCell ⟨g, (j - 1) * 8 + 3, none⟩ (.int .i64 x.ver.stamp)).setCell ⟨g, (j - 1) * 8 + 4, none⟩ (.bool x.dead)).setCell ⟨g, (j - 1) * 8 + 5, none⟩ (.complex .f64 (fl x.x) (fl x.y))).setCell ⟨g, (j - 1) * 8 + 6, none⟩ (.string x.text)).setCell ⟨g, (j - 1) * 8 + 7, none⟩ (.bool x.held)).drew.ownsRow B 46 8 (.slice (some ⟨g, 0, none⟩) n c) n (rowCells cellsP (midF ds x (j - 1) ++ tl))) := by
              have h := own_put rowP HO.out (k := j) (by rw [HLL.out]; omega) y
              rw [HYC.out, wsets8] at h
              have h' := own_put rowP h (k := j - 1) (by rw [List.length_set, HLL.out]; omega) x
              rw [HXC.out, HSW.out, wsets8] at h'
              exact h'.drew
            replace HB : Hid (Below B w ((((((((((((((((v1.setCell ⟨g, j * 8, none⟩ (.int .i64 y.key)).setCell ⟨g, j * 8 + 1, none⟩ (.string y.ver.id)).setCell ⟨g, j * 8 + 2, none⟩ (.int .i64 y.ver.seq)).setCell ⟨g, j * 8 + 3, none⟩ (.int .i64 y.ver.stamp)).setCell ⟨g, j * 8 + 4, none⟩ (.bool y.dead)).setCell ⟨g, j * 8 + 5, none⟩ (.complex .f64 (fl y.x) (fl y.y))).setCell ⟨g, j * 8 + 6, none⟩ (.string y.text)).setCell ⟨g, j * 8 + 7, none⟩ (.bool y.held)).setCell ⟨g, (j - 1) * 8, none⟩ (.int .i64 x.key)).setCell ⟨g, (j - 1) * 8 + 1, none⟩ (.string x.ver.id)).setCell ⟨g, (j - 1) * 8 + 2, none⟩ (.int .i64 x.ver.seq)).setCell ⟨g, (j - 1) * 8 + 3, none⟩ (.int .i64 x.ver.stamp)).setCell ⟨g, (j - 1) * 8 + 4, none⟩ (.bool x.dead)).setCell ⟨g, (j - 1) * 8 + 5, none⟩ (.complex .f64 (fl x.x) (fl x.y))).setCell ⟨g, (j - 1) * 8 + 6, none⟩ (.string x.text)).setCell ⟨g, (j - 1) * 8 + 7, none⟩ (.bool x.held)).drew) := by
              have h := below_wsets hgB [.int .i64 y.key, .string y.ver.id, .int .i64 y.ver.seq, .int .i64 y.ver.stamp, .bool y.dead, .complex .f64 (fl y.x) (fl y.y), .string y.text, .bool y.held] (j * 8) v1 HB.out
              rw [wsets8] at h
              have h' := below_wsets hgB [.int .i64 x.key, .string x.ver.id, .int .i64 x.ver.seq, .int .i64 x.ver.stamp, .bool x.dead, .complex .f64 (fl x.x) (fl x.y), .string x.text, .bool x.held] ((j - 1) * 8) _ h
              rw [wsets8] at h'
              exact h'.drew
            clear HO
            generalize ((((((((((((((((v1.setCell ⟨g, j * 8, none⟩ (.int .i64 y.key)).setCell ⟨g, j * 8 + 1, none⟩ (.string y.ver.id)).setCell ⟨g, j * 8 + 2, none⟩ (.int .i64 y.ver.seq)).setCell ⟨g, j * 8 + 3, none⟩ (.int .i64 y.ver.stamp)).setCell ⟨g, j * 8 + 4, none⟩ (.bool y.dead)).setCell ⟨g, j * 8 + 5, none⟩ (.complex .f64 (fl y.x) (fl y.y))).setCell ⟨g, j * 8 + 6, none⟩ (.string y.text)).setCell ⟨g, j * 8 + 7, none⟩ (.bool y.held)).setCell ⟨g, (j - 1) * 8, none⟩ (.int .i64 x.key)).setCell ⟨g, (j - 1) * 8 + 1, none⟩ (.string x.ver.id)).setCell ⟨g, (j - 1) * 8 + 2, none⟩ (.int .i64 x.ver.seq)).setCell ⟨g, (j - 1) * 8 + 3, none⟩ (.int .i64 x.ver.stamp)).setCell ⟨g, (j - 1) * 8 + 4, none⟩ (.bool x.dead)).setCell ⟨g, (j - 1) * 8 + 5, none⟩ (.complex .f64 (fl x.x) (fl x.y))).setCell ⟨g, (j - 1) * 8 + 6, none⟩ (.string x.text)).setCell ⟨g, (j - 1) * 8 + 7, none⟩ (.bool x.held)).drew = ws at *
            go_wp2
            go_roundw
            case rel => exact ⟨j - 1, by first | rfl | go_num | (congr 1; omega), by omega, HP2, HO2, HB⟩
            case measure => simp [intOf]; omega
    · obtain rfl : k = n := by omega
      have q1 : ¬ ((k : Int) < k) := by omega
      have HE : Hid (ageF (zs.take k) ++ zs.drop k = ageF zs) := by
        show _ = _
        rw [List.take_of_length_le (by have := HLN.out; omega), List.drop_of_length_le (by have := HLN.out; omega), List.append_nil]
      rw [HE.out] at HO
      go_wp2
      refine bodyPost_end (v := .tuple #[]) ?_ rfl ?_
      · simp [results, Try.results79, go_sem]
      · exact ⟨rfl, HO.out, HB.out⟩
set_option maxRecDepth 100000 in
set_option maxHeartbeats 1000000 in
theorem cloneI_any (A : Option Addr) (n c : Nat) (zs : List Itm) (B : Nat) (w : World) (hB : B ≤ w.heap.size) (hz : RowAt cellsP 8 w B A n zs) (hn : n ≤ 1073741824) :
    Calls Try.prog 47 #[.slice A n c] w (OwnRow cellsP 8 46 zs w) := by
  have hl := hz.1
  have hq : ∀ w, (binOp .eql 32 (.slice A n c) (.slice none 0 0)).run Try.prog w = .ok (.bool A.isNone) w := fun w => Lib.run_eql_slice_nil w 32 46 A n c 0 0 Try.underlying32
  rcases A with _ | ad
  · have h0 : n = 0 := by
      rcases Nat.eq_zero_or_pos n with h | h
      · exact h
      · obtain ⟨_, _, h, _⟩ := hz.2 h
        cases h
    subst h0
    have hnil : zs = [] := List.eq_nil_of_length_eq_zero hl
    subst hnil
    clear hz
    go_enter Try.func47, Try.ntmps47
    go_wp2
    go_ret
    exact ⟨none, 0, rfl, rown_nil _ _, Below.refl _ _⟩
  · have HB1 : Hid (Below w.heap.size w (w.alloc (.cells #[] 46))) := (Below.refl _ _).alloc (Nat.le_refl _) _
    have HO1 : Hid ((w.alloc (.cells #[] 46)).ownsRow w.heap.size 46 8 (.slice (some ⟨w.heap.size, 0, none⟩) 0 0) 0 (rowCells cellsP [])) := rown_empty 46 w
    have HZ1 : Hid (RowAt cellsP 8 (w.alloc (.cells #[] 46)) B (some ad) n zs) := hz.keep (HB1.out.mono hB)
    have HL := Lib.hid hl
    clear hz hl
    go_enter Try.func47, Try.ntmps47
    go_wp2_with (at_builtin; refine wpList_append_row rowP (B := w.heap.size) (v := .slice (some ⟨w.heap.size, 0, none⟩) 0 0) (n := 0) (zs := []) (m := n) (ys := zs) rfl _ _ rfl rfl HO1.out rfl HZ1.out (by omega) HB1.out.size ?_; intro A3 c3 w3 hown3 hg3 _; have HO3 := Lib.hid hown3; have HB3 : Hid (Below w.heap.size w w3) := HB1.out.grown hg3 HB1.out.size (fun i hi => (HO1.out.lt i hi).1); clear hown3 hg3)
    go_ret
    have h3 := HO3.out
    rw [Nat.zero_add, List.nil_append, ← HL.out] at h3
    exact ⟨A3, c3, by rw [HL.out]; rfl, h3, HB3.out⟩
set_option maxRecDepth 100000 in
set_option maxHeartbeats 2000000 in
theorem isort_none (A : Option Addr) (c : Nat) (w : World) : Calls Try.prog 79 #[.slice A 0 c, .int .i64 0, .int .i64 0, .func (.func 49) #[] #[]] w fun e w' => e = .returned (.tuple #[]) ∧ w = w' := by
  go_enter Try.func79, Try.ntmps79
  go_wp2_with fail
  go_loopw [8] (fun i wr => i = .int .i64 1 ∧ w = wr) (fun i _ => 0)
  case atStart => exact ⟨rfl, rfl⟩
  case round =>
    obtain ⟨rfl, rfl⟩ := hrel
    go_wp2
    refine bodyPost_end (v := .tuple #[]) ?_ rfl ?_
    · simp [results, Try.results79, go_sem]
    · exact ⟨rfl, rfl⟩
/-- What the sorts of a row of the call's own leave. -/
def SortRet (B n c : Nat) (A : Option Addr) (zs : List Itm) (w : World) (e : Ending) (w' : World) : Prop := e = .returned (.tuple #[]) ∧ w'.ownsRow B 46 8 (.slice A n c) n (rowCells cellsP (ageF zs)) ∧ Below B w w'
theorem isort_all (A : Option Addr) (n c : Nat) (zs : List Itm) (B : Nat) (w : World) (hn : n ≤ 1000000) (hl : zs.length = n) (ho : w.ownsRow B 46 8 (.slice A n c) n (rowCells cellsP zs)) (hBw : B ≤ w.heap.size) :
    Calls Try.prog 79 #[.slice A n c, .int .i64 0, .int .i64 n, .func (.func 49) #[] #[]] w (SortRet B n c A zs w) := by
  rcases Nat.eq_zero_or_pos n with h0 | h0
  · subst h0
    have hnil : zs = [] := List.eq_nil_of_length_eq_zero hl
    subst hnil
    refine (isort_none A c w).mono ?_
    rintro e w' ⟨rfl, rfl⟩
    exact ⟨rfl, ho, Below.refl _ _⟩
  · obtain ⟨g, cap, hv, h1, h2⟩ := ho.form h0
    injection hv with hA
    subst hA
    exact isort_any g n c zs B w h1 h0 hn hl ho hBw
set_option maxRecDepth 100000 in
set_option maxHeartbeats 2000000 in
theorem stable_any (A : Option Addr) (n c : Nat) (zs : List Itm) (B : Nat) (w : World) (hn : n ≤ 19) (hl : zs.length = n) (ho : w.ownsRow B 46 8 (.slice A n c) n (rowCells cellsP zs)) (hBw : B ≤ w.heap.size) :
    Calls Try.prog 67 #[.slice A n c, .int .i64 n, .func (.func 49) #[] #[]] w (SortRet B n c A zs w) := by
  have HS := Lib.hid (isort_all A n c zs B w (by omega) hl ho hBw)
  have q1 : ¬ ((20 : Int) ≤ n) := by omega
  have q2 : ¬ ((20 : Int) < n) := by omega
  clear ho hl
  go_enter Try.func67, Try.ntmps67
  go_wp2_with fail
  go_loopw [7, 8] (fun a b wr => a = .int .i64 0 ∧ b = .int .i64 20 ∧ w = wr) (fun _ _ _ => 0)
  case atStart => exact ⟨rfl, rfl, rfl⟩
  case round =>
    obtain ⟨rfl, rfl, rfl⟩ := hrel
    go_wp2_with fail
    refine HS.out.mono ?_
    rintro e w1 ⟨rfl, ho, hb⟩
    have HO := Lib.hid ho
    have HB := Lib.hid hb
    clear ho hb HS
    go_wp2_with fail
    go_loopw [6] (fun a wr => a = .int .i64 20 ∧ w1 = wr) (fun _ _ => 0)
    case atStart => exact ⟨rfl, rfl⟩
    case round =>
      obtain ⟨rfl, rfl⟩ := hrel
      go_wp2
      refine bodyPost_end (v := .tuple #[]) ?_ rfl ?_
      · simp [results, Try.results67, go_sem]
      · exact ⟨rfl, HO.out, HB.out⟩
set_option maxRecDepth 100000 in
set_option maxHeartbeats 2000000 in
theorem sortStable_any (A : Option Addr) (n c : Nat) (zs : List Itm) (B : Nat) (w : World) (hn : n ≤ 19) (hl : zs.length = n) (ho : w.ownsRow B 46 8 (.slice A n c) n (rowCells cellsP zs)) (hBw : B ≤ w.heap.size) :
    Calls Try.prog 48 #[.slice A n c, .func (.func 49) #[] #[]] w (SortRet B n c A zs w) := by
  have HS := Lib.hid (stable_any A n c zs B w hn hl ho hBw)
  clear ho hl
  go_enter Try.func48, Try.ntmps48
  go_wp2_with fail
  refine HS.out.mono ?_
  rintro e w1 ⟨rfl, ho, hb⟩
  go_wp2
  refine bodyPost_end (v := .tuple #[]) ?_ rfl ?_
  · simp [results, Try.results48, go_sem]
  · exact ⟨rfl, ho, hb⟩
set_option maxRecDepth 100000 in
set_option maxHeartbeats 2000000 in
theorem byAge_any (A : Option Addr) (n c : Nat) (zs : List Itm) (B : Nat) (w : World) (hB : B ≤ w.heap.size) (hz : RowAt cellsP 8 w B A n zs) (hn : n ≤ 19) :
    Calls Try.prog 26 #[.slice A n c] w (OwnRow cellsP 8 46 (ageF zs) w) := by
  have HC := Lib.hid (cloneI_any A n c zs B w hB hz (by omega))
  have hl := hz.1
  have HLA : Hid ((ageF zs).length = n) := by show _ = _; rw [ageF_len, hl]
  have HLN := Lib.hid hl
  clear hz hl
  go_enter Try.func26, Try.ntmps26
  go_wp2_with fail
  refine HC.out.mono ?_
  rintro e w1 ⟨A1, c1, rfl, ho, hb⟩
  have HS := Lib.hid (sortStable_any A1 zs.length c1 zs w.heap.size w1 (by have := HLN.out; omega) rfl ho hb.size)
  have HB := Lib.hid hb
  clear ho hb HC
  go_wp2_with fail
  refine HS.out.mono ?_
  rintro e w2 ⟨rfl, ho, hb⟩
  have HO := Lib.hid ho
  replace HB := Lib.hid (HB.out.trans hb)
  clear ho hb HS
  go_wp2
  go_ret
  exact ⟨A1, c1, by rw [ageF_len]; rfl, by rw [ageF_len]; exact HO.out, HB.out⟩
end Go.Proofs.Ytpaiigminmakgaa
