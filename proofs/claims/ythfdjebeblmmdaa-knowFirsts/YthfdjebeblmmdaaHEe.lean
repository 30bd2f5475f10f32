/- know.Drop, Same, Count and Extras. -/
import Derived.Test.YthfdjebeblmmdaaHEd
import Derived.Test.YthfdjebeblmmdaaHUa
namespace Go.Proofs.Ythfdjebeblmmdaa
open Go.RowKit

/-- Without one's. -/
def dropM (m : Mat) (a : ByteArray) : Mat := m.filter fun x => decide (x.1 ≠ a)
theorem dropM_len (m : Mat) (a : ByteArray) : (dropM m a).length ≤ m.length := List.length_filter_le _ _
theorem dropM_take {m : Mat} {k : Nat} {x : ByteArray × (Int × List Int)} (a : ByteArray) (h : m[k]? = some x) : dropM (m.take (k + 1)) a = dropM (m.take k) a ++ (if x.1 = a then [] else [x]) := by
  rw [takeM h]
  unfold dropM
  rw [List.filter_append]
  by_cases e : x.1 = a <;> simp [e]
set_option maxRecDepth 100000 in
set_option maxHeartbeats 4000000 in
theorem dropM_any (A : Option Addr) (n c : Nat) (m : Mat) (a : ByteArray) (B : Nat) (w : World) (hB : B ≤ w.heap.size) (hz : MatAt w B A n m) (hn : n ≤ 100000) (hv : ∀ x ∈ m, OkS x.2) :
    Calls Try.prog 15 #[.slice A n c, .string a] w (OwnMat 77 (dropM m a) w) := by
  have HL := Lib.hid hz.len
  have HZ := Lib.hid hz
  have HV := Lib.hid hv
  clear hz hv
  go_enter Try.func15, Try.ntmps15
  go_wp2
  go_loopw [5, 10] (fun v i wr => ∃ (k : Nat) (Av : Option Addr) (cv : Nat), k ≤ n ∧ i = .int .i64 k ∧ v = .slice Av (dropM (m.take k) a).length cv ∧ Hid (OwnsM wr w.heap.size 77 Av (dropM (m.take k) a).length cv (dropM (m.take k) a)) ∧ Hid (Below w.heap.size w wr)) (fun _ i _ => n - (intOf i).toNat)
  case atStart => exact ⟨0, none, 0, by omega, rfl, rfl, OwnsM.nil _ _ _, Below.refl _ _⟩
  case round =>
    obtain ⟨k, Av, cv, hk, rfl, rfl, HO, HB⟩ := hrel
    by_cases hlt : k < n
    · obtain ⟨blk, off, r, rfl, hbB, hmk, e0, e1, e2, hf⟩ := HZ.out.get (HB.out.mono hB) hlt
      have HTS := Lib.hid (dropM_take a hmk)
      have hi1 : (k : Int) < (n : Int) := by omega
      have HVL : Hid (OkS (r.u, r.v)) := HV.out _ (List.mem_of_getElem? hmk)
      have hdl : (dropM (m.take k) a).length ≤ 100000 := Nat.le_trans (dropM_len _ _) (by rw [List.length_take]; omega)
      have hsz := HB.out.size
      have hbw : Below wr.heap.size wr (wr.alloc (.cells #[.string r.id, .int .i64 r.u, .slice r.A r.v.length r.c] 77)) := (Below.refl _ _).alloc (Nat.le_refl _) _
      have HB1 := Lib.hid (HB.out.trans (hbw.mono hsz))
      have HO1 := Lib.hid (HO.out.below hbw)
      by_cases he : r.id = a
      · have HN : Hid (dropM (m.take (k + 1)) a = dropM (m.take k) a) := by show _ = _; rw [HTS.out, if_pos he, List.append_nil]
        have hq := beq_yes he
        obtain ⟨id, u, Ar, cr, v⟩ := r
        simp only at e0 e1 e2 hq HB1 HO1
        clear hmk hf hbw HTS he
        generalize dropM (m.take k) a = d at *
        go_wp2_with fail
        go_roundw
        case rel => exact ⟨k + 1, Av, cv, by omega, by go_num, by rw [HN.out], by rw [HN.out]; exact HO1, HB1⟩
        case measure => simp [intOf]; omega
      · have HP := Lib.hid (push_m Av (dropM (m.take k) a).length cv (dropM (m.take k) a) r.id r.u r.A r.c r.v w.heap.size (wr.alloc (.cells #[.string r.id, .int .i64 r.u, .slice r.A r.v.length r.c] 77)) (Nat.le_trans hsz hbw.size) (HO.out.below hbw) ((hf.vec.more (Nat.le_trans hB hsz)).keep hbw |>.more hbw.size) hf.cap (by omega) HVL.out)
        have HN : Hid (dropM (m.take (k + 1)) a = dropM (m.take k) a ++ [(r.id, (r.u, r.v))]) := by show _ = _; rw [HTS.out, if_neg he]
        have hq := beq_no he
        obtain ⟨id, u, Ar, cr, v⟩ := r
        simp only at e0 e1 e2 hq HB1 HO1 HP HN
        clear hmk hf hbw HTS he
        generalize dropM (m.take k) a = d at *
        go_wp2_with fail
        refine HP.out.mono ?_
        rintro e w1 ⟨A3, c3, rfl, ho, hb⟩
        have HO3 := Lib.hid ho
        replace HB := Lib.hid (HB1.out.trans hb)
        clear ho hb HP HB1 e0 e1 e2
        have HLn : Hid ((dropM (m.take (k + 1)) a).length = d.length + 1) := by show _ = _; rw [HN.out]; simp
        go_wp2_with fail
        go_roundw
        case rel => exact ⟨k + 1, A3, c3, by omega, by go_num, by rw [HLn.out], by rw [HLn.out, HN.out]; exact HO3, HB⟩
        case measure => simp [intOf]; omega
    · obtain rfl : k = n := by omega
      have HT : Hid (m.take k = m) := List.take_of_length_le (by have := HL.out; omega)
      go_wp2
      go_ret
      rw [HT.out] at HO ⊢
      exact ⟨Av, cv, rfl, HO.out, HB.out⟩

/-- Do two Rows say the same? -/
def sameR (x y : ByteArray × (Int × List Int)) : Bool := decide (x = y)
set_option maxRecDepth 100000 in
set_option maxHeartbeats 2000000 in
theorem sameRow_any (i1 : ByteArray) (u1 : Int) (A1 : Option Addr) (c1 : Nat) (v1 : List Int) (i2 : ByteArray) (u2 : Int) (A2 : Option Addr) (c2 : Nat) (v2 : List Int) (w : World) (h1 : Sp.IntsAt w w.heap.size A1 v1.length v1) (h2 : Sp.IntsAt w w.heap.size A2 v2.length v2) (hl1 : v1.length ≤ 100000) :
    Calls Try.prog 73 #[.agg #[.string i1, .int .i64 u1, .slice A1 v1.length c1], .agg #[.string i2, .int .i64 u2, .slice A2 v2.length c2]] w fun e w' => e = .returned (.bool (sameR (i1, (u1, v1)) (i2, (u2, v2)))) ∧ Below w.heap.size w w' := by
  have hb : Below w.heap.size w ((w.alloc (.cells #[.string i1, .int .i64 u1, .slice A1 v1.length c1] 77)).alloc (.cells #[.string i2, .int .i64 u2, .slice A2 v2.length c2] 77)) := ((Below.refl _ _).alloc (Nat.le_refl _) _).alloc (by simp) _
  have HS := Lib.hid (Sp.same_any u1 A1 v1.length c1 v1 u2 A2 v2.length c2 v2 w.heap.size _ hb.size (h1.keep hb) (h2.keep hb) (by omega))
  have HB := Lib.hid hb
  clear h1 h2 hb
  by_cases he : i1 = i2
  · have HE : Hid (sameR (i1, (u1, v1)) (i2, (u2, v2)) = Sp.sameF (u1, v1) (u2, v2)) := by show _ = _; unfold sameR Sp.sameF; simp [he]
    have hq := beq_yes he
    rw [HE.out]
    generalize Sp.sameF (u1, v1) (u2, v2) = d at *
    clear he HE
    go_enter Try.func73, Try.ntmps73
    go_wp2_with fail
    refine HS.out.mono ?_
    rintro e w1 ⟨rfl, hd⟩
    have HB1 := Lib.hid (HB.out.trans (hd.mono HB.out.size))
    clear hd
    go_wp2
    go_ret
    exact ⟨rfl, HB1.out⟩
  · have HE : Hid (sameR (i1, (u1, v1)) (i2, (u2, v2)) = false) := by show _ = _; unfold sameR; simp [he]
    have hq := beq_no he
    rw [HE.out]
    clear he HE HS
    go_enter Try.func73, Try.ntmps73
    go_wp2
    go_ret
    exact ⟨rfl, HB.out⟩
def sameM (x y : Mat) : Bool := decide (x = y)
theorem sameM_self (x : Mat) : sameM x x = true := decide_eq_true rfl
set_option maxRecDepth 100000 in
set_option maxHeartbeats 4000000 in
theorem equalM_any (A : Option Addr) (n c : Nat) (x : Mat) (A' : Option Addr) (n' c' : Nat) (y : Mat) (B : Nat) (w : World) (hB : B ≤ w.heap.size) (hx : MatAt w B A n x) (hy : MatAt w B A' n' y) (hn : n ≤ 1000000) (hvx : ∀ z ∈ x, z.2.2.length ≤ 100000) :
    Calls Try.prog 72 #[.slice A n c, .slice A' n' c', .func (.func 73) #[] #[]] w fun e w' => e = .returned (.bool (sameM x y)) ∧ Below w.heap.size w w' := by
  have HL := Lib.hid hx.len
  have HL' := Lib.hid hy.len
  have HX := Lib.hid hx
  have HY := Lib.hid hy
  have HVX := Lib.hid hvx
  clear hx hy hvx
  by_cases hnn : n = n'
  · subst hnn
    go_enter Try.func72, Try.ntmps72
    go_wp2
    go_loopw [17] (fun i wr => ∃ k : Nat, k ≤ n ∧ i = .int .i64 k ∧ Hid (x.take k = y.take k) ∧ Hid (Below w.heap.size w wr)) (fun i _ => n - (intOf i).toNat)
    case atStart => exact ⟨0, by omega, rfl, by show _ = _; simp, Below.refl _ _⟩
    case round =>
      obtain ⟨k, hk, rfl, HE, HB⟩ := hrel
      by_cases hlt : k < n
      · obtain ⟨b1, o1, r1, rfl, hb1, hm1, e0, e1, e2, f1⟩ := HX.out.get (HB.out.mono hB) hlt
        obtain ⟨b2, o2, r2, rfl, hb2, hm2, g0, g1, g2, f2⟩ := HY.out.get (HB.out.mono hB) hlt
        have hi1 : (k : Int) < (n : Int) := by omega
        have hl1 := HVX.out _ (List.mem_of_getElem? hm1)
        have hsz := HB.out.size
        have hbl2 : b2 < wr.heap.size := by omega
        have hbw : Below wr.heap.size wr ((wr.alloc (.cells #[.string r1.id, .int .i64 r1.u, .slice r1.A r1.v.length r1.c] 77)).alloc (.cells #[.string r2.id, .int .i64 r2.u, .slice r2.A r2.v.length r2.c] 77)) := ((Below.refl _ _).alloc (Nat.le_refl _) _).alloc (by simp) _
        have hBr := Nat.le_trans hB hsz
        have HS := Lib.hid (sameRow_any r1.id r1.u r1.A r1.c r1.v r2.id r2.u r2.A r2.c r2.v _ (((f1.vec.more hBr).keep hbw).more hbw.size) (((f2.vec.more hBr).keep hbw).more hbw.size) hl1)
        have HB1 := Lib.hid (HB.out.trans (hbw.mono hsz))
        obtain ⟨b, hb⟩ : ∃ b, sameR (r1.id, (r1.u, r1.v)) (r2.id, (r2.u, r2.v)) = b := ⟨_, rfl⟩
        have HTE : Hid (b = true → x.take (k + 1) = y.take (k + 1)) := fun h => by
          rw [h] at hb
          rw [takeM hm1, takeM hm2, HE.out, of_decide_eq_true hb]
        have HTF : Hid (b = false → sameM x y = false) := fun h => by
          rw [h] at hb
          unfold sameM
          rw [decide_eq_false_iff_not]
          intro e
          subst e
          rw [hm1] at hm2
          injection hm2 with hm2
          exact absurd hm2 (of_decide_eq_false hb)
        rw [hb] at HS
        obtain ⟨id1, u1, Ar1, cr1, v1⟩ := r1
        obtain ⟨id2, u2, Ar2, cr2, v2⟩ := r2
        simp only at e0 e1 e2 g0 g1 g2 hl1 HS HB1
        clear hb hm1 hm2 f1 f2 hbw
        cases b with
        | true =>
          have HN := Lib.hid (HTE.out rfl)
          clear HTE HTF
          go_wp2_with fail
          refine HS.out.mono ?_
          rintro e w1 ⟨rfl, hb⟩
          replace HB := Lib.hid (HB1.out.trans (hb.mono HB1.out.size))
          clear hb HS HB1 e0 e1 e2 g0 g1 g2
          go_wp2_with fail
          go_roundw
          case rel => exact ⟨k + 1, by omega, by go_num, HN, HB⟩
          case measure => simp [intOf]; omega
        | false =>
          have HN := Lib.hid (HTF.out rfl)
          clear HTE HTF
          go_wp2_with fail
          refine HS.out.mono ?_
          rintro e w1 ⟨rfl, hb⟩
          replace HB := Lib.hid (HB1.out.trans (hb.mono HB1.out.size))
          clear hb HS HB1 e0 e1 e2 g0 g1 g2
          go_wp2
          go_ret
          exact ⟨ret_bool HN.out.symm, HB.out⟩
      · have HT : Hid (sameM x y = true) := by
          have := HE.out
          rw [List.take_of_length_le (by have := HL.out; omega), List.take_of_length_le (by have := HL'.out; omega)] at this
          exact decide_eq_true this
        go_wp2
        go_ret
        exact ⟨ret_bool HT.out.symm, HB.out⟩
  · have HF : Hid (sameM x y = false) := by
      show _ = _
      unfold sameM
      rw [decide_eq_false_iff_not]
      intro e
      subst e
      exact hnn (HL.out.symm.trans HL'.out)
    have hnn' : ((n : Int) != n') = true := by simp; omega
    go_enter Try.func72, Try.ntmps72
    go_wp2
    go_ret
    exact ⟨ret_bool HF.out.symm, Below.refl _ _⟩
set_option maxRecDepth 100000 in
set_option maxHeartbeats 1000000 in
theorem sameM_any (A : Option Addr) (n c : Nat) (x : Mat) (A' : Option Addr) (n' c' : Nat) (y : Mat) (B : Nat) (w : World) (hB : B ≤ w.heap.size) (hx : MatAt w B A n x) (hy : MatAt w B A' n' y) (hn : n ≤ 1000000) (hvx : ∀ z ∈ x, z.2.2.length ≤ 100000) :
    Calls Try.prog 34 #[.slice A n c, .slice A' n' c'] w fun e w' => e = .returned (.bool (sameM x y)) ∧ Below w.heap.size w w' := by
  have HS := Lib.hid (equalM_any A n c x A' n' c' y B w hB hx hy hn hvx)
  generalize sameM x y = d at *
  clear hx hy hvx
  go_enter Try.func34, Try.ntmps34
  go_wp2_with fail
  refine HS.out.mono ?_
  rintro e w1 ⟨rfl, hb⟩
  have HB := Lib.hid hb
  clear hb HS
  go_wp2
  go_ret
  exact ⟨rfl, HB.out⟩

def countM (m : Mat) : Int := (m.map fun x => x.2.1 + (x.2.2.length : Int)).sum
def extrasM (m : Mat) : Int := (m.map fun x => (x.2.2.length : Int)).sum
theorem sum_take {f : ByteArray × (Int × List Int) → Int} {m : Mat} {k : Nat} {x : ByteArray × (Int × List Int)} (h : m[k]? = some x) : ((m.take (k + 1)).map f).sum = ((m.take k).map f).sum + f x := by
  rw [takeM h]; simp
theorem sum_bd (f : ByteArray × (Int × List Int) → Int) (C : Int) (hC : 0 ≤ C) : ∀ m : Mat, (∀ x ∈ m, 0 ≤ f x ∧ f x ≤ C) → 0 ≤ (m.map f).sum ∧ (m.map f).sum ≤ m.length * C
  | [], _ => by simp
  | x :: r, h => by
    have h1 := h x (by simp)
    have h2 := sum_bd f C hC r (fun y hy => h y (by simp [hy]))
    simp only [List.map_cons, List.sum_cons, List.length_cons]
    constructor
    · omega
    · rw [show ((r.length + 1 : Nat) : Int) * C = r.length * C + C by rw [Int.natCast_add, Int.add_mul]; simp]; omega
theorem okS_bd {s : Int × List Int} (h : OkS s) : 0 ≤ s.1 + (s.2.length : Int) ∧ s.1 + (s.2.length : Int) ≤ 2000000 := by
  have := h.ok.1; have := h.hi; have := h.len; omega
theorem mul_bd {k : Nat} (hk : k ≤ 100000) : (k : Int) * 2000000 ≤ 200000000000 := by
  have : (k : Int) ≤ 100000 := by omega
  omega
set_option maxRecDepth 100000 in
set_option maxHeartbeats 1000000 in
theorem countM_any (A : Option Addr) (n c : Nat) (m : Mat) (B : Nat) (w : World) (hB : B ≤ w.heap.size) (hz : MatAt w B A n m) (hn : n ≤ 100000) (hv : ∀ x ∈ m, OkS x.2) :
    Calls Try.prog 26 #[.slice A n c] w fun e w' => e = .returned (.int .i64 (countM m)) ∧ Below w.heap.size w w' := by
  have HL := Lib.hid hz.len
  have HZ := Lib.hid hz
  have HV := Lib.hid hv
  clear hz hv
  go_enter Try.func26, Try.ntmps26
  go_wp2
  go_loopw [3, 8] (fun v i wr => ∃ k : Nat, k ≤ n ∧ i = .int .i64 k ∧ v = .int .i64 (countM (m.take k)) ∧ Hid (Below w.heap.size w wr)) (fun _ i _ => n - (intOf i).toNat)
  case atStart => exact ⟨0, by omega, rfl, rfl, Below.refl _ _⟩
  case round =>
    obtain ⟨k, hk, rfl, rfl, HB⟩ := hrel
    by_cases hlt : k < n
    · obtain ⟨blk, off, r, rfl, hbB, hmk, e0, e1, e2, hf⟩ := HZ.out.get (HB.out.mono hB) hlt
      have hi1 : (k : Int) < (n : Int) := by omega
      have hvl : OkS (r.u, r.v) := HV.out _ (List.mem_of_getElem? hmk)
      have hbd := sum_bd (fun x => x.2.1 + (x.2.2.length : Int)) 2000000 (by omega) (m.take k) (fun x hx => okS_bd (HV.out x (List.mem_of_mem_take hx)))
      have hb2 : ((m.take k).length : Int) * 2000000 ≤ 200000000000 := mul_bd (by rw [List.length_take]; omega)
      have HN : Hid (countM (m.take (k + 1)) = countM (m.take k) + (r.u + (r.v.length : Int))) := sum_take (f := fun x => x.2.1 + (x.2.2.length : Int)) hmk
      have hc0 : 0 ≤ countM (m.take k) := hbd.1
      have hc1 : countM (m.take k) ≤ 200000000000 := Int.le_trans hbd.2 hb2
      have hsz := HB.out.size
      have hbw : Below wr.heap.size wr (wr.alloc (.cells #[.string r.id, .int .i64 r.u, .slice r.A r.v.length r.c] 77)) := (Below.refl _ _).alloc (Nat.le_refl _) _
      have HB1 := Lib.hid (HB.out.trans (hbw.mono hsz))
      have hr0 : 0 ≤ r.u := hvl.ok.1
      have hr1 : r.u ≤ 1048576 := hvl.hi
      have hr2 : r.v.length ≤ 100000 := hvl.len
      obtain ⟨id, u, Ar, cr, v⟩ := r
      simp only at e0 e1 e2 HB1 HN hr0 hr1 hr2
      clear hmk hf hbw hvl hbd hb2
      generalize countM (m.take k) = d at *
      generalize v.length = nv at *
      go_wp2_with fail
      refine (Sp.count_any u Ar nv cr _ hr0 hr1 (by omega)).mono ?_
      rintro e w1 ⟨rfl, hb⟩
      replace HB := Lib.hid (HB1.out.trans (hb.mono HB1.out.size))
      clear hb HB1 e0 e1 e2
      go_wp2_with fail
      go_roundw
      case rel => exact ⟨k + 1, by omega, by go_num, by rw [HN.out], HB⟩
      case measure => simp [intOf]; omega
    · obtain rfl : k = n := by omega
      have HT : Hid (m.take k = m) := List.take_of_length_le (by have := HL.out; omega)
      rw [HT.out]
      go_wp2
      go_ret
      exact ⟨rfl, HB.out⟩
set_option maxRecDepth 100000 in
set_option maxHeartbeats 1000000 in
theorem extrasM_any (A : Option Addr) (n c : Nat) (m : Mat) (B : Nat) (w : World) (hB : B ≤ w.heap.size) (hz : MatAt w B A n m) (hn : n ≤ 100000) (hv : ∀ x ∈ m, OkS x.2) :
    Calls Try.prog 28 #[.slice A n c] w fun e w' => e = .returned (.int .i64 (extrasM m)) ∧ Below w.heap.size w w' := by
  have HL := Lib.hid hz.len
  have HZ := Lib.hid hz
  have HV := Lib.hid hv
  clear hz hv
  go_enter Try.func28, Try.ntmps28
  go_wp2
  go_loopw [3, 8] (fun v i wr => ∃ k : Nat, k ≤ n ∧ i = .int .i64 k ∧ v = .int .i64 (extrasM (m.take k)) ∧ Hid (Below w.heap.size w wr)) (fun _ i _ => n - (intOf i).toNat)
  case atStart => exact ⟨0, by omega, rfl, rfl, Below.refl _ _⟩
  case round =>
    obtain ⟨k, hk, rfl, rfl, HB⟩ := hrel
    by_cases hlt : k < n
    · obtain ⟨blk, off, r, rfl, hbB, hmk, e0, e1, e2, hf⟩ := HZ.out.get (HB.out.mono hB) hlt
      have hi1 : (k : Int) < (n : Int) := by omega
      have hvl : OkS (r.u, r.v) := HV.out _ (List.mem_of_getElem? hmk)
      have hbd := sum_bd (fun x => (x.2.2.length : Int)) 2000000 (by omega) (m.take k) (fun x hx => by have := (HV.out x (List.mem_of_mem_take hx)).len; omega)
      have hb2 : ((m.take k).length : Int) * 2000000 ≤ 200000000000 := mul_bd (by rw [List.length_take]; omega)
      have HN : Hid (extrasM (m.take (k + 1)) = extrasM (m.take k) + (r.v.length : Int)) := sum_take (f := fun x => (x.2.2.length : Int)) hmk
      have hc0 : 0 ≤ extrasM (m.take k) := hbd.1
      have hc1 : extrasM (m.take k) ≤ 200000000000 := Int.le_trans hbd.2 hb2
      have hsz := HB.out.size
      have hbw : Below wr.heap.size wr (wr.alloc (.cells #[.string r.id, .int .i64 r.u, .slice r.A r.v.length r.c] 77)) := (Below.refl _ _).alloc (Nat.le_refl _) _
      have HB1 := Lib.hid (HB.out.trans (hbw.mono hsz))
      have hr2 : r.v.length ≤ 100000 := hvl.len
      obtain ⟨id, u, Ar, cr, v⟩ := r
      simp only at e0 e1 e2 HB1 HN hr2
      clear hmk hf hbw hvl hbd hb2
      generalize extrasM (m.take k) = d at *
      generalize v.length = nv at *
      go_wp2_with fail
      go_roundw
      case rel => exact ⟨k + 1, by omega, by go_num, by rw [HN.out], HB1⟩
      case measure => simp [intOf]; omega
    · obtain rfl : k = n := by omega
      have HT : Hid (m.take k = m) := List.take_of_length_le (by have := HL.out; omega)
      rw [HT.out]
      go_wp2
      go_ret
      exact ⟨rfl, HB.out⟩
end Go.Proofs.Ythfdjebeblmmdaa
