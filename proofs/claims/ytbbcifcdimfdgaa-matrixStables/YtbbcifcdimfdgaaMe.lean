/- matrix.Drop, Stable and Same. -/
import Derived.Test.YtbbcifcdimfdgaaMd
import Derived.Test.YtbbcifcdimfdgaaUa
namespace Go.Proofs.Ytbbcifcdimfdgaa
open Go.RowKit

/-- Without one's. -/
def dropM (m : Mat) (a : ByteArray) : Mat := m.filter fun x => decide (x.1 ≠ a)
theorem dropM_len (m : Mat) (a : ByteArray) : (dropM m a).length ≤ m.length := List.length_filter_le _ _
theorem dropM_take {m : Mat} {k : Nat} {x : ByteArray × List At} (a : ByteArray) (h : m[k]? = some x) : dropM (m.take (k + 1)) a = dropM (m.take k) a ++ (if x.1 = a then [] else [x]) := by
  rw [takeM h]
  unfold dropM
  rw [List.filter_append]
  by_cases e : x.1 = a <;> simp [e]
set_option maxRecDepth 100000 in
set_option maxHeartbeats 4000000 in
theorem dropM_any (A : Option Addr) (n c : Nat) (m : Mat) (a : ByteArray) (B : Nat) (w : World) (hB : B ≤ w.heap.size) (hz : MatAt w B A n m) (hn : n ≤ 100000) (hv : ∀ x ∈ m, x.2.length ≤ 100000) :
    Calls Try.prog 19 #[.slice A n c, .string a] w (OwnMat 63 (dropM m a) w) := by
  have HL := Lib.hid hz.len
  have HZ := Lib.hid hz
  have HV := Lib.hid hv
  clear hz hv
  go_enter Try.func19, Try.ntmps19
  go_wp2
  go_loopw [5, 10] (fun v i wr => ∃ (k : Nat) (Av : Option Addr) (cv : Nat), k ≤ n ∧ i = .int .i64 k ∧ v = .slice Av (dropM (m.take k) a).length cv ∧ Hid (OwnsM wr w.heap.size 63 Av (dropM (m.take k) a).length cv (dropM (m.take k) a)) ∧ Hid (Below w.heap.size w wr)) (fun _ i _ => n - (intOf i).toNat)
  case atStart => exact ⟨0, none, 0, by omega, rfl, rfl, OwnsM.nil _ _ _, Below.refl _ _⟩
  case round =>
    obtain ⟨k, Av, cv, hk, rfl, rfl, HO, HB⟩ := hrel
    by_cases hlt : k < n
    · obtain ⟨blk, off, r, rfl, hbB, hmk, e0, e1, hf⟩ := HZ.out.get (HB.out.mono hB) hlt
      have HTS := Lib.hid (dropM_take a hmk)
      have hi1 : (k : Int) < (n : Int) := by omega
      have hvl : r.v.length ≤ 100000 := HV.out _ (List.mem_of_getElem? hmk)
      have hdl : (dropM (m.take k) a).length ≤ 100000 := Nat.le_trans (dropM_len _ _) (by rw [List.length_take]; omega)
      have hsz := HB.out.size
      have hbw : Below wr.heap.size wr (wr.alloc (.cells #[.string r.id, .slice r.A r.v.length r.c] 63)) := (Below.refl _ _).alloc (Nat.le_refl _) _
      have HB1 := Lib.hid (HB.out.trans (hbw.mono hsz))
      have HO1 := Lib.hid (HO.out.below hbw)
      by_cases he : r.id = a
      · have HN : Hid (dropM (m.take (k + 1)) a = dropM (m.take k) a) := by show _ = _; rw [HTS.out, if_pos he, List.append_nil]
        have hq := beq_yes he
        obtain ⟨id, Ar, cr, v⟩ := r
        simp only at e0 e1 hq HB1 HO1
        clear hmk hf hbw HTS he
        generalize dropM (m.take k) a = d at *
        go_wp2_with fail
        go_roundw
        case rel => exact ⟨k + 1, Av, cv, by omega, by go_num, by rw [HN.out], by rw [HN.out]; exact HO1, HB1⟩
        case measure => simp [intOf]; omega
      · have HP := Lib.hid (push_m Av (dropM (m.take k) a).length cv (dropM (m.take k) a) r.id r.A r.c r.v w.heap.size (wr.alloc (.cells #[.string r.id, .slice r.A r.v.length r.c] 63)) (Nat.le_trans hsz hbw.size) (HO.out.below hbw) ((hf.vec.more (Nat.le_trans hB hsz)).keep hbw |>.more hbw.size) (by omega) (by omega))
        have HN : Hid (dropM (m.take (k + 1)) a = dropM (m.take k) a ++ [(r.id, r.v)]) := by show _ = _; rw [HTS.out, if_neg he]
        have hq := beq_no he
        obtain ⟨id, Ar, cr, v⟩ := r
        simp only at e0 e1 hq HB1 HO1 HP HN
        clear hmk hf hbw HTS he
        generalize dropM (m.take k) a = d at *
        go_wp2_with fail
        refine HP.out.mono ?_
        rintro e w1 ⟨A3, c3, rfl, ho, hb⟩
        have HO3 := Lib.hid ho
        replace HB := Lib.hid (HB1.out.trans hb)
        clear ho hb HP HB1 e0 e1
        have HLn : Hid ((dropM (m.take (k + 1)) a).length = d.length + 1) := by show _ = _; rw [HN.out]; simp
        go_wp2_with fail
        go_roundw
        case rel => exact ⟨k + 1, A3, c3, by omega, by go_num, by rw [HLn.out], by rw [HLn.out, HN.out]; exact HO3, HB⟩
        case measure => simp [intOf]; omega
    · obtain rfl : k = n := by omega
      have HT : Hid (m.take k = m) := List.take_of_length_le (by have := HL.out; omega)
      go_wp2
      go_ret
      rw [HT.out] at HO ⊢
      exact ⟨Av, cv, rfl, HO.out, HB.out⟩

/-- How far all of some are. -/
def stableF (m : Mat) : List ByteArray → List At
  | [] => []
  | a :: r => r.foldl (fun v b => meetF v (mOf m b)) (mOf m a)
theorem stable_len (m : Mat) : ∀ (r : List ByteArray) (v : List At), (r.foldl (fun v b => meetF v (mOf m b)) v).length ≤ v.length
  | [], _ => Nat.le_refl _
  | _ :: r, _ => Nat.le_trans (stable_len m r _) (meet_len _ _)
theorem cutT (ad : Addr) (n c : Nat) (hn : 0 < n) (hnc : n ≤ c) : ∃ A', (∀ W, (Instr.slice 52 (.slice (some ad) n c) (some (.int .i64 1)) none none).run Try.prog W = .ok (.slice A' (n - 1) (c - 1)) W) ∧
    ∀ (w : World) (B : Nat) (z : ByteArray) (zs : List ByteArray), RowAt cellsT 1 w B (some ad) n (z :: zs) → RowAt cellsT 1 w B A' (n - 1) zs := by
  have hel : Try.prog.elem 52 = 35 := by kernel_rfl
  have hsz : ∀ W, (sizeOf 35).run Try.prog W = .ok 1 W := fun W => by
    obtain ⟨i, hi, _, hz1, _⟩ := info_parts rowT.i
    simp [sizeOf, typeInfo, hi, hz1]
  refine ⟨if c = 1 then some ad else some (ad.add 1), fun W => ?_, fun w B z zs h => ?_⟩
  · rw [run_slice_l (P := Try.prog) W 52 (some ad) n c (by rw [hel]; exact Try.underlying52) .i64 1 (by omega) (by omega), hel, hsz]
    simp [sliced]
  · refine ⟨by have := h.1; simp at this; omega, fun hp => ?_⟩
    obtain ⟨b, off, e, hb, hc⟩ := h.2 hn
    injection e with e
    subst e
    rw [if_neg (by omega)]
    refine ⟨b, off + 1, by rw [radd], hb, fun k hk j u hu => ?_⟩
    have := hc (k + 1) (by simp; omega) j u (by simpa using hu)
    rwa [show off + (k + 1) * 1 + j = off + 1 + k * 1 + j by omega] at this
set_option maxRecDepth 100000 in
set_option maxHeartbeats 4000000 in
theorem stableM_any (A : Option Addr) (n c : Nat) (m : Mat) (A' : Option Addr) (n' c' : Nat) (l : List ByteArray) (B : Nat) (w : World) (hB : B ≤ w.heap.size) (hz : MatAt w B A n m) (hy : RowAt cellsT 1 w B A' n' l) (hnc : n' ≤ c') (hn : n ≤ 100000) (hn' : n' ≤ 100000) (hs : RisingM m) (hv : ∀ x ∈ m, x.2.length ≤ 100000 ∧ Rising x.2) :
    Calls Try.prog 26 #[.slice A n c, .slice A' n' c'] w (OwnVec w.heap.size 67 (stableF m l) w) := by
  have hmo : ∀ a, (mOf m a).length ≤ 100000 ∧ Rising (mOf m a) := fun a => by
    by_cases h : ∃ x ∈ m, x.1 = a
    · obtain ⟨x, hx, rfl⟩ := h
      rw [mOf_mem hs hx]; exact hv x hx
    · rw [mOf_none (fun x hx e => h ⟨x, hx, e⟩)]; exact ⟨by simp, List.Pairwise.nil⟩
  have HMO := Lib.hid hmo
  have HZ := Lib.hid hz
  have HS := Lib.hid hs
  have hl := hy.1
  clear hz hs hv hmo
  match l, hl, hy with
  | [], hl, hy =>
    obtain rfl : n' = 0 := by simpa using hl.symm
    clear hy
    go_enter Try.func26, Try.ntmps26
    go_wp2
    go_ret
    exact ⟨none, 0, rfl, Nat.le_refl _, own_nil _ _ _, Below.refl _ _⟩
  | a :: r, hl, hy =>
    obtain ⟨k, rfl⟩ : ∃ k, n' = k + 1 := ⟨n' - 1, by simp at hl; omega⟩
    have hlr : r.length = k := by simpa using hl
    obtain ⟨blk, off, s, rfl, hbB, hsk, hc⟩ := hy.text (Below.refl _ _) (k := 0) (by omega)
    simp at hsk
    subst hsk
    obtain ⟨A2, hcut, hrow⟩ := cutT ⟨blk, off, none⟩ (k + 1) c' (by omega) hnc
    have HR := Lib.hid (hrow w B a r hy)
    rw [Nat.add_sub_cancel] at hcut HR
    rw [Nat.add_zero] at hc
    have HSt : Hid (stableF m (a :: r) = r.foldl (fun v b => meetF v (mOf m b)) (mOf m a)) := rfl
    have hbl : blk < w.heap.size := by omega
    clear hrow hy hl
    go_enter Try.func26, Try.ntmps26
    have hk1 : ((k : Int) + 1 == 0) = false := by simp; omega
    go_wp2_with fail
    refine (ofM_any A n c m a B _ hB HZ.out (by omega) HS.out (by have := (HMO.out a).1; omega)).mono ?_
    rintro e w1 ⟨A1, c1, rfl, hc1, ho, hb⟩
    have HO1 := Lib.hid ho
    have HB1 := Lib.hid hb
    clear ho hb
    go_wp2
    go_loopw [5, 19] (fun v i wr => ∃ (j : Nat) (Av : Option Addr) (cv : Nat), j ≤ k ∧ i = .int .i64 j ∧ v = .slice Av ((r.take j).foldl (fun v b => meetF v (mOf m b)) (mOf m a)).length cv ∧ ((r.take j).foldl (fun v b => meetF v (mOf m b)) (mOf m a)).length ≤ cv ∧ Hid (wr.ownsRow w.heap.size 67 2 (.slice Av ((r.take j).foldl (fun v b => meetF v (mOf m b)) (mOf m a)).length cv) ((r.take j).foldl (fun v b => meetF v (mOf m b)) (mOf m a)).length (atCells ((r.take j).foldl (fun v b => meetF v (mOf m b)) (mOf m a)))) ∧ Hid (Below w.heap.size w wr)) (fun _ i _ => k - (intOf i).toNat)
    case atStart => exact ⟨0, A1, c1, by omega, rfl, rfl, hc1, HO1, HB1⟩
    case round =>
      clear HO1 HB1
      obtain ⟨j, Av, cv, hj, rfl, rfl, hcv, HO, HB⟩ := hrel
      by_cases hlt : j < k
      · obtain ⟨blk2, off2, s, rfl, hbB2, hsk, hcell⟩ := HR.out.text (HB.out.mono hB) hlt
        have HTS := Lib.hid (snocT hsk)
        have hi1 : (j : Int) < (k : Int) := by omega
        have hlen : ((r.take j).foldl (fun v b => meetF v (mOf m b)) (mOf m a)).length ≤ 100000 := Nat.le_trans (stable_len m _ _) (HMO.out a).1
        have HN : Hid ((r.take (j + 1)).foldl (fun v b => meetF v (mOf m b)) (mOf m a) = meetF ((r.take j).foldl (fun v b => meetF v (mOf m b)) (mOf m a)) (mOf m s)) := by show _ = _; rw [HTS.out, List.foldl_append]; rfl
        generalize (r.take j).foldl (fun v b => meetF v (mOf m b)) (mOf m a) = vj at *
        have hsz := HB.out.size
        clear hsk HTS
        go_wp2_with fail
        refine (findM_any A n c m s B _ (Nat.le_trans hB hsz) (HZ.out.keep (HB.out.mono hB)) (by omega) HS.out).mono ?_
        rintro e w2 ⟨A5, c5, rfl, hc5, hv5, hb⟩
        have HV5 := Lib.hid hv5
        have HO2 := Lib.hid (own_below HO.out hb)
        have HB2 := Lib.hid (HB.out.trans (hb.mono hsz))
        have hm5 := (HMO.out s).1
        have HR5 := Lib.hid (HMO.out s).2
        generalize mOf m s = v5 at *
        clear hv5 hb HO
        go_wp2_with fail
        refine (meet_any Av vj.length cv vj A5 v5.length c5 v5 w2.heap.size _ (Nat.le_refl _) (own_vec HO2.out) (HV5.out.more (by have := HB2.out.size; omega)) (by omega) (by omega) HR5.out).mono ?_
        rintro e w3 ⟨A6, c6, rfl, hc6, ho, hb⟩
        have HO3 := Lib.hid (own_base ho HB2.out.size)
        have HB3 := Lib.hid (HB2.out.trans (hb.mono HB2.out.size))
        clear ho hb
        go_wp2_with fail
        go_roundw
        case rel => exact ⟨j + 1, A6, c6, by omega, by go_num, by rw [HN.out], by rw [HN.out]; exact hc6, by rw [HN.out]; exact HO3, HB3⟩
        case measure => simp [intOf]; omega
      · obtain rfl : j = k := by omega
        have HT : Hid (r.take j = r) := List.take_of_length_le (by omega)
        rw [HT.out] at HO hcv ⊢
        go_wp2
        go_ret
        rw [HSt.out]
        exact ⟨Av, cv, rfl, hcv, HO.out, HB.out⟩

/-- Do two Rows say the same? -/
def sameR (x y : ByteArray × List At) : Bool := decide (x = y)
set_option maxRecDepth 100000 in
set_option maxHeartbeats 2000000 in
theorem sameRow_any (i1 : ByteArray) (A1 : Option Addr) (c1 : Nat) (v1 : List At) (i2 : ByteArray) (A2 : Option Addr) (c2 : Nat) (v2 : List At) (w : World) (h1 : VecAt w w.heap.size A1 v1.length v1) (h2 : VecAt w w.heap.size A2 v2.length v2) (hl1 : v1.length ≤ 100000) (hl2 : v2.length ≤ 100000) :
    Calls Try.prog 51 #[.agg #[.string i1, .slice A1 v1.length c1], .agg #[.string i2, .slice A2 v2.length c2]] w fun e w' => e = .returned (.bool (sameR (i1, v1) (i2, v2))) ∧ Below w.heap.size w w' := by
  have hb : Below w.heap.size w ((w.alloc (.cells #[.string i1, .slice A1 v1.length c1] 63)).alloc (.cells #[.string i2, .slice A2 v2.length c2] 63)) := ((Below.refl _ _).alloc (Nat.le_refl _) _).alloc (by simp) _
  have HS := Lib.hid (same_any A1 v1.length c1 v1 A2 v2.length c2 v2 w.heap.size _ (h1.keep hb) (h2.keep hb) (by omega) (by omega))
  have HB := Lib.hid hb
  clear h1 h2 hb
  by_cases he : i1 = i2
  · have HE : Hid (sameR (i1, v1) (i2, v2) = decide (v1 = v2)) := by show _ = _; unfold sameR; simp [he]
    have hq := beq_yes he
    rw [HE.out]
    generalize decide (v1 = v2) = d at *
    clear he HE
    go_enter Try.func51, Try.ntmps51
    go_wp2_with fail
    refine HS.out.mono ?_
    rintro e w1 ⟨rfl, hd⟩
    have HB1 := Lib.hid (HB.out.trans (drawn_below hd.out _))
    clear hd
    go_wp2
    go_ret
    exact ⟨rfl, HB1.out⟩
  · have HE : Hid (sameR (i1, v1) (i2, v2) = false) := by show _ = _; unfold sameR; simp [he]
    have hq := beq_no he
    rw [HE.out]
    clear he HE HS
    go_enter Try.func51, Try.ntmps51
    go_wp2
    go_ret
    exact ⟨rfl, HB.out⟩
def sameM (x y : Mat) : Bool := decide (x = y)
theorem sameM_self (x : Mat) : sameM x x = true := decide_eq_true rfl
set_option maxRecDepth 100000 in
set_option maxHeartbeats 4000000 in
theorem equalM_any (A : Option Addr) (n c : Nat) (x : Mat) (A' : Option Addr) (n' c' : Nat) (y : Mat) (B : Nat) (w : World) (hB : B ≤ w.heap.size) (hx : MatAt w B A n x) (hy : MatAt w B A' n' y) (hn : n ≤ 1000000) (hvx : ∀ z ∈ x, z.2.length ≤ 100000) (hvy : ∀ z ∈ y, z.2.length ≤ 100000) :
    Calls Try.prog 50 #[.slice A n c, .slice A' n' c', .func (.func 51) #[] #[]] w fun e w' => e = .returned (.bool (sameM x y)) ∧ Below w.heap.size w w' := by
  have HL := Lib.hid hx.len
  have HL' := Lib.hid hy.len
  have HX := Lib.hid hx
  have HY := Lib.hid hy
  have HVX := Lib.hid hvx
  have HVY := Lib.hid hvy
  clear hx hy hvx hvy
  by_cases hnn : n = n'
  · subst hnn
    go_enter Try.func50, Try.ntmps50
    go_wp2
    go_loopw [17] (fun i wr => ∃ k : Nat, k ≤ n ∧ i = .int .i64 k ∧ Hid (x.take k = y.take k) ∧ Hid (Below w.heap.size w wr)) (fun i _ => n - (intOf i).toNat)
    case atStart => exact ⟨0, by omega, rfl, by show _ = _; simp, Below.refl _ _⟩
    case round =>
      obtain ⟨k, hk, rfl, HE, HB⟩ := hrel
      by_cases hlt : k < n
      · obtain ⟨b1, o1, r1, rfl, hb1, hm1, e0, e1, f1⟩ := HX.out.get (HB.out.mono hB) hlt
        obtain ⟨b2, o2, r2, rfl, hb2, hm2, g0, g1, f2⟩ := HY.out.get (HB.out.mono hB) hlt
        have hi1 : (k : Int) < (n : Int) := by omega
        have hl1 := HVX.out _ (List.mem_of_getElem? hm1)
        have hl2 := HVY.out _ (List.mem_of_getElem? hm2)
        have hsz := HB.out.size
        have hbl2 : b2 < wr.heap.size := by omega
        have hbw : Below wr.heap.size wr ((wr.alloc (.cells #[.string r1.id, .slice r1.A r1.v.length r1.c] 63)).alloc (.cells #[.string r2.id, .slice r2.A r2.v.length r2.c] 63)) := ((Below.refl _ _).alloc (Nat.le_refl _) _).alloc (by simp) _
        have hBr := Nat.le_trans hB hsz
        have HS := Lib.hid (sameRow_any r1.id r1.A r1.c r1.v r2.id r2.A r2.c r2.v _ (((f1.vec.more hBr).keep hbw).more hbw.size) (((f2.vec.more hBr).keep hbw).more hbw.size) hl1 hl2)
        have HB1 := Lib.hid (HB.out.trans (hbw.mono hsz))
        obtain ⟨b, hb⟩ : ∃ b, sameR (r1.id, r1.v) (r2.id, r2.v) = b := ⟨_, rfl⟩
        have HTE : Hid (b = true → x.take (k + 1) = y.take (k + 1)) := fun h => by
          rw [h] at hb
          rw [takeM hm1, takeM hm2, HE.out, of_decide_eq_true hb]
        have HTF : Hid (b = false → sameM x y = false) := fun h => by
          rw [h] at hb
          unfold sameM
          rw [decide_eq_false_iff_not]
          intro e
          subst e
          rw [hm1] at hm2
          injection hm2 with hm2
          exact absurd hm2 (of_decide_eq_false hb)
        rw [hb] at HS
        obtain ⟨id1, Ar1, cr1, v1⟩ := r1
        obtain ⟨id2, Ar2, cr2, v2⟩ := r2
        simp only at e0 e1 g0 g1 hl1 hl2 HS HB1
        clear hb hm1 hm2 f1 f2 hbw
        cases b with
        | true =>
          have HN := Lib.hid (HTE.out rfl)
          clear HTE HTF
          go_wp2_with fail
          refine HS.out.mono ?_
          rintro e w1 ⟨rfl, hb⟩
          replace HB := Lib.hid (HB1.out.trans (hb.mono HB1.out.size))
          clear hb HS HB1 e0 e1 g0 g1
          go_wp2_with fail
          go_roundw
          case rel => exact ⟨k + 1, by omega, by go_num, HN, HB⟩
          case measure => simp [intOf]; omega
        | false =>
          have HN := Lib.hid (HTF.out rfl)
          clear HTE HTF
          go_wp2_with fail
          refine HS.out.mono ?_
          rintro e w1 ⟨rfl, hb⟩
          replace HB := Lib.hid (HB1.out.trans (hb.mono HB1.out.size))
          clear hb HS HB1 e0 e1 g0 g1
          go_wp2
          go_ret
          exact ⟨ret_bool HN.out.symm, HB.out⟩
      · have HT : Hid (sameM x y = true) := by
          have := HE.out
          rw [List.take_of_length_le (by have := HL.out; omega), List.take_of_length_le (by have := HL'.out; omega)] at this
          exact decide_eq_true this
        go_wp2
        go_ret
        exact ⟨ret_bool HT.out.symm, HB.out⟩
  · have HF : Hid (sameM x y = false) := by
      show _ = _
      unfold sameM
      rw [decide_eq_false_iff_not]
      intro e
      subst e
      exact hnn (HL.out.symm.trans HL'.out)
    have hnn' : ((n : Int) != n') = true := by simp; omega
    go_enter Try.func50, Try.ntmps50
    go_wp2
    go_ret
    exact ⟨ret_bool HF.out.symm, Below.refl _ _⟩
set_option maxRecDepth 100000 in
set_option maxHeartbeats 1000000 in
theorem sameM_any (A : Option Addr) (n c : Nat) (x : Mat) (A' : Option Addr) (n' c' : Nat) (y : Mat) (B : Nat) (w : World) (hB : B ≤ w.heap.size) (hx : MatAt w B A n x) (hy : MatAt w B A' n' y) (hn : n ≤ 1000000) (hvx : ∀ z ∈ x, z.2.length ≤ 100000) (hvy : ∀ z ∈ y, z.2.length ≤ 100000) :
    Calls Try.prog 29 #[.slice A n c, .slice A' n' c'] w fun e w' => e = .returned (.bool (sameM x y)) ∧ Below w.heap.size w w' := by
  have HS := Lib.hid (equalM_any A n c x A' n' c' y B w hB hx hy hn hvx hvy)
  generalize sameM x y = d at *
  clear hx hy hvx hvy
  go_enter Try.func29, Try.ntmps29
  go_wp2_with fail
  refine HS.out.mono ?_
  rintro e w1 ⟨rfl, hb⟩
  have HB := Lib.hid hb
  clear hb HS
  go_wp2
  go_ret
  exact ⟨rfl, HB.out⟩
end Go.Proofs.Ytbbcifcdimfdgaa
