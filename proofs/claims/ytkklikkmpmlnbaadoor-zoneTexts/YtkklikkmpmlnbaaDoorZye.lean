/- The document's Parse. -/
import Derived.Test.YtkklikkmpmlnbaaDoorZyd
import Derived.Test.YtkklikkmpmlnbaaDoorZm
import Derived.Deep.CutBlock
import Derived.Deep.DeepCutAuto
namespace Go.Proofs.YtkklikkmpmlnbaaDoor
open Go.RowKit

theorem opFrom_cases : ∀ (f k : Nat) (s : ByteArray), opFrom f (k : Int) s = 0 ∨ ∃ j : Nat, k ≤ j ∧ j < k + f ∧ opFrom f (k : Int) s = (j : Int) ∧ nameF (j : Int) = s
  | 0, _, _ => .inl rfl
  | f + 1, k, s => by
    have e : opFrom (f + 1) (k : Int) s = if eqW (nameF k) s = true then (k : Int) else opFrom f ((k : Int) + 1) s := rfl
    rw [e]
    by_cases h : eqW (nameF k) s = true
    · rw [if_pos h]; exact .inr ⟨k, Nat.le_refl _, by omega, rfl, (eqW_iff _ _).mp h⟩
    · rw [if_neg h]
      rcases opFrom_cases f (k + 1) s with h1 | ⟨j, h1, h2, h3, h4⟩
      · left; exact h1
      · exact .inr ⟨j, by omega, by omega, h3, h4⟩
theorem opF_nat (s : ByteArray) : ∃ o : Nat, opF s = (o : Int) ∧ o ≤ 6 ∧ (1 ≤ o → nameF (o : Int) = s) := by
  rcases opFrom_cases 6 1 s with h | ⟨j, h1, h2, h3, h4⟩
  · exact ⟨0, h, by omega, fun h => absurd h (by omega)⟩
  · exact ⟨j, h3, by omega, fun _ => h4⟩
/-- Just the name of that Op is the word. -/
theorem name_iff {s : ByteArray} {o j : Nat} (ho : opF s = (o : Int)) (hn : 1 ≤ o → nameF (o : Int) = s) (h1 : 1 ≤ j) (h6 : j ≤ 6) : ((nameF (j : Int)).toList == s.toList) = decide (j = o) := by
  by_cases e : j = o
  · subst e; rw [hn h1]; simp
  · rw [decide_eq_false e, beq_eq_false_iff_ne]
    intro h
    have h2 : nameF (j : Int) = s := toList_inj h
    have h3 := opF_name (op := (j : Int)) (by omega) (by omega)
    rw [h2, ho] at h3
    omega
theorem fits_near {r : RSt} (h : fitsR r = true) : r.op ≠ 0 ∧ r.x.natAbs < 10000000 ∧ r.y.natAbs < 10000000 ∧ r.sz.natAbs < 10000000 := by
  unfold fitsR at h
  split at h
  · rw [Bool.and_eq_true, whole_iff, within_iff] at h
    omega
  · split at h
    · rw [Bool.and_eq_true, whole_iff, within_iff] at h
      omega
    · split at h
      · simp only [Bool.and_eq_true, decide_eq_true_eq] at h
        omega
      · cases h
theorem not_fits {rs : List RSt} {r : RSt} {k : Nat} (hk : rs[k]? = some r) (h : fitsR r = false) : rightZ rs = false := by
  cases hr : rightZ rs with
  | false => rfl
  | true => have := (run_step 0 0 hr hk).1; rw [h] at this; cases this
theorem zero_unfit : fitsR zeroQ = false := by decide
theorem num_bad {o : Int} {a b c : ByteArray} (h : intB a = false ∨ intB b = false ∨ intB c = false) : fitsR (numbersQ o a b c) = false := by
  cases hf : fitsR (numbersQ o a b c) with
  | false => rfl
  | true =>
    exfalso
    obtain ⟨h0, hx, hy, hz⟩ := fits_near hf
    unfold numbersQ at h0 hx hy hz
    cases ha : numF a with
    | none => rw [ha] at h0; exact h0 rfl
    | some x =>
      cases hb : numF b with
      | none => rw [ha, hb] at h0; exact h0 rfl
      | some y =>
        cases hc : numF c with
        | none => rw [ha, hb, hc] at h0; exact h0 rfl
        | some z =>
          rw [ha, hb, hc] at hx hy hz
          rcases h with h | h | h
          · rw [(num_intB ha hx).1] at h; cases h
          · rw [(num_intB hb hy).1] at h; cases h
          · rw [(num_intB hc hz).1] at h; cases h
theorem num_good {o : Int} {a b c : ByteArray} (h1 : intB a = true) (h2 : intB b = true) (h3 : intB c = true) : numbersQ o a b c = ⟨o, intV a, intV b, intV c⟩ := by
  unfold numbersQ
  rw [(intB_num h1).1, (intB_num h2).1, (intB_num h3).1]
theorem parse_get {s p : ByteArray} {k : Nat} (h : (pieces ⟨#[44]⟩ s)[k]? = some p) : (parseQ s)[k]? = some (stepQ (pieces ⟨#[32]⟩ p)) := by unfold parseQ; rw [List.getElem?_map, h]; rfl
theorem parse_len (s : ByteArray) : (parseQ s).length = (pieces ⟨#[44]⟩ s).length := by unfold parseQ; rw [List.length_map]
/-- A block that holds a step. -/
def BlkR (wr : World) (X : Nat) (r : RSt) : Prop := X < wr.heap.size ∧ ∀ j u, (cellsR r)[j]? = some u → wr.cell? ⟨X, j, none⟩ = some u ∧ wr.frozen? ⟨X, j, none⟩ = false
theorem BlkR.keep {wr w1 : World} {X : Nat} {x : RSt} (h : BlkR wr X x) (hb : Below wr.heap.size wr w1) : BlkR w1 X x := ⟨Nat.lt_of_lt_of_le h.1 hb.size, fun j u hu => ⟨(hb.cell (p := ⟨X, j, none⟩) h.1).trans (h.2 j u hu).1, (hb.frozen (p := ⟨X, j, none⟩) h.1).trans (h.2 j u hu).2⟩⟩
theorem four {x : RSt} {j : Nat} {u : Value} (h : (cellsR x)[j]? = some u) : j = 0 ∨ j = 1 ∨ j = 2 ∨ j = 3 := by
  have h1 := (List.getElem?_eq_some_iff.mp h).1
  have h2 : (cellsR x).length = 4 := rfl
  omega
theorem blkR_new (w : World) : BlkR (w.alloc (.cells #[.int .i64 0, .int .i64 0, .int .i64 0, .int .i64 0] 59)) w.heap.size ⟨0, 0, 0, 0⟩ := ⟨by simp, fun j u hu => by
  rcases four hu with rfl | rfl | rfl | rfl <;> (simp [cellsR] at hu; subst hu; simp [go_sem])⟩
theorem BlkR.op {w : World} {X : Nat} {x : RSt} (h : BlkR w X x) (v : Int) : BlkR (w.setCell ⟨X, 0, none⟩ (.int .i64 v)) X ⟨v, x.x, x.y, x.sz⟩ := by
  obtain ⟨c0, f0⟩ := h.2 0 _ rfl
  obtain ⟨c1, f1⟩ := h.2 1 _ rfl
  obtain ⟨c2, f2⟩ := h.2 2 _ rfl
  obtain ⟨c3, f3⟩ := h.2 3 _ rfl
  refine ⟨by simpa using h.1, fun j u hu => ?_⟩
  rcases four hu with rfl | rfl | rfl | rfl <;> (simp [cellsR] at hu; subst hu; simp [go_sem, c0, c1, c2, c3, f0, f1, f2, f3])
theorem BlkR.nums {w : World} {X : Nat} {x : RSt} (h : BlkR w X x) (a b c : Int) : BlkR (((w.setCell ⟨X, 1, none⟩ (.int .i64 a)).setCell ⟨X, 2, none⟩ (.int .i64 b)).setCell ⟨X, 3, none⟩ (.int .i64 c)) X ⟨x.op, a, b, c⟩ := by
  obtain ⟨c0, f0⟩ := h.2 0 _ rfl
  obtain ⟨c1, f1⟩ := h.2 1 _ rfl
  obtain ⟨c2, f2⟩ := h.2 2 _ rfl
  obtain ⟨c3, f3⟩ := h.2 3 _ rfl
  refine ⟨by simpa using h.1, fun j u hu => ?_⟩
  rcases four hu with rfl | rfl | rfl | rfl <;> (simp [cellsR] at hu; subst hu; simp [go_sem, c0, c1, c2, c3, f0, f1, f2, f3])
theorem grown_set4 {w : World} {p : Addr} (u : Value) : w.grownBy (w.setCell p u) (some p.block) :=
  ⟨rfl, rfl, rfl, by simp, fun k _ hne => by
    have : p.block ≠ k := fun e => hne (by rw [e])
    simp only [World.setCell, Array.getElem?_modify, if_neg this]⟩
/-- What Parse answers. -/
def RParseRet (s : ByteArray) (w : World) (e : Ending) (w' : World) : Prop :=
  ∃ A n c qs, e = .returned (.tuple #[.slice A n c, .bool (rightZ (parseQ s))]) ∧ RowAt cellsR 4 w' w'.heap.size A n qs ∧ qs = (if rightZ (parseQ s) = true then parseQ s else []) ∧ Below w.heap.size w w'
theorem rparse_no {s : ByteArray} {w w' : World} (h : rightZ (parseQ s) = false) (hb : Below w.heap.size w w') : RParseRet s w (.returned (.tuple #[.slice none 0 0, .bool false])) w' :=
  ⟨none, 0, 0, [], by rw [h], RowAt.nil, by rw [h]; rfl, hb⟩
theorem rparse_yes {s : ByteArray} {w w' : World} {A : Option Addr} {n c : Nat} (h : rightZ (parseQ s) = true) (hr : RowAt cellsR 4 w' w'.heap.size A n (parseQ s)) (hb : Below w.heap.size w w') : RParseRet s w (.returned (.tuple #[.slice A n c, .bool true])) w' :=
  ⟨A, n, c, _, by rw [h], hr, by rw [if_pos h], hb⟩
set_option maxRecDepth 100000 in
set_option maxHeartbeats 8000000 in
theorem rparse_any (s : ByteArray) (w : World) (hs : s.size ≤ 1000000) : Calls Tryd.prog 29 #[.string s] w (RParseRet s w) := by
  have HSP := Lib.hid (fun u => rsplit_any s 44 44 rfl u hs)
  have HPG : Hid (∀ k p, (pieces ⟨#[44]⟩ s)[k]? = some p → (parseQ s)[k]? = some (stepQ (pieces ⟨#[32]⟩ p)) ∧ p.size ≤ 1000000) := fun k p hp => ⟨parse_get hp, Nat.le_trans (pieces_size (List.mem_of_getElem? hp)) hs⟩
  have HPL := Lib.hid (parse_len s)
  have hn : (pieces ⟨#[44]⟩ s).length ≤ 1000001 := by
    rw [pieces_len _ _ (by decide)]
    have := Lib.countB_le ⟨#[44]⟩ (by decide) s.size s (Nat.le_refl _)
    omega
  generalize pieces ⟨#[44]⟩ s = ps at *
  clear hs
  go_enter Tryd.func29, Tryd.ntmps29
  go_upto_region 2 with fail
  have hb0 : Below w.heap.size w (w.alloc (.cells #[.string ⟨#[]⟩, .string ⟨#[97, 108, 108]⟩, .string ⟨#[100, 105, 115, 99]⟩, .string ⟨#[104, 97, 108, 102]⟩, .string ⟨#[110, 111, 116]⟩, .string ⟨#[97, 110, 100]⟩, .string ⟨#[111, 114]⟩] 9)) := (Below.refl _ _).alloc (Nat.le_refl _) _
  have HNM : Hid (∀ m : Nat, 1 ≤ m → m ≤ 6 → (w.alloc (.cells #[.string ⟨#[]⟩, .string ⟨#[97, 108, 108]⟩, .string ⟨#[100, 105, 115, 99]⟩, .string ⟨#[104, 97, 108, 102]⟩, .string ⟨#[110, 111, 116]⟩, .string ⟨#[97, 110, 100]⟩, .string ⟨#[111, 114]⟩] 9)).cell? ⟨w.heap.size, m, none⟩ = some (.string (nameF m))) := fun m h1 h6 => by
    have : m = 1 ∨ m = 2 ∨ m = 3 ∨ m = 4 ∨ m = 5 ∨ m = 6 := by omega
    rcases this with rfl | rfl | rfl | rfl | rfl | rfl <;> (simp [go_sem]; rfl)
  have hPz : w.heap.size < (w.alloc (.cells #[.string ⟨#[]⟩, .string ⟨#[97, 108, 108]⟩, .string ⟨#[100, 105, 115, 99]⟩, .string ⟨#[104, 97, 108, 102]⟩, .string ⟨#[110, 111, 116]⟩, .string ⟨#[97, 110, 100]⟩, .string ⟨#[111, 114]⟩] 9)).heap.size := by simp
  have HBW := Lib.hid hb0
  clear hb0
  generalize (w.alloc (.cells #[.string ⟨#[]⟩, .string ⟨#[97, 108, 108]⟩, .string ⟨#[100, 105, 115, 99]⟩, .string ⟨#[104, 97, 108, 102]⟩, .string ⟨#[110, 111, 116]⟩, .string ⟨#[97, 110, 100]⟩, .string ⟨#[111, 114]⟩] 9)) = W1 at *
  generalize hP : w.heap.size = P at *
  go_wp2_with fail
  refine (HSP.out _).mono ?_
  rintro e u1 ⟨A1, c1, rfl, ho, hb⟩
  have HPR := Lib.hid (own_row rowStr ho)
  replace HNM : Hid (∀ m : Nat, 1 ≤ m → m ≤ 6 → u1.cell? ⟨P, m, none⟩ = some (.string (nameF m))) := fun m h1 h6 => (hb.cell (p := ⟨P, m, none⟩) hPz).trans (HNM.out m h1 h6)
  replace HBW : Hid (Below P w u1) := HBW.out.trans (hb.mono (by omega))
  replace hPz := Nat.lt_of_lt_of_le hPz hb.size
  clear ho hb HSP
  generalize hnl : ps.length = n at *
  have HNL := Lib.hid hnl
  clear hnl
  have HBW' : Hid (∀ u, Below u1.heap.size u1 u → Below w.heap.size w u) := fun u h => by rw [hP]; exact HBW.out.trans (h.mono (by omega))
  clear HBW hP
  go_wp2_with fail
  go_loopw [5, 7] (fun v i wr => ∃ (k : Nat) (Av : Option Addr) (cv : Nat), i = .int .i64 k ∧ v = .slice Av k cv ∧ k ≤ n ∧ Hid (wr.ownsRow u1.heap.size 59 4 (.slice Av k cv) k (rowCells cellsR ((parseQ s).take k))) ∧ Hid (Below u1.heap.size u1 wr)) (fun _ i _ => n - (intOf i).toNat)
  case atStart => exact ⟨0, none, 0, rfl, rfl, by omega, by rw [List.take_zero]; exact rown_nil _ _, Below.refl _ _⟩
  case round =>
    obtain ⟨k, Av, cv, rfl, rfl, hk, HO, HB⟩ := hrel
    by_cases hlt : k < n
    · obtain ⟨p, hp⟩ : ∃ p, ps[k]? = some p := ⟨_, List.getElem?_eq_getElem (by have := HNL.out; omega)⟩
      obtain ⟨b, o, rfl, hbl, e0⟩ := text_at HPR.out hp
      replace e0 := (HB.out.cell (p := ⟨b, o + k, none⟩) hbl).trans e0
      obtain ⟨hq, hpz⟩ := HPG.out k p hp
      have HSP := Lib.hid (fun u => rsplit_any p 32 32 rfl u hpz)
      have hwl := pieces_len ⟨#[32]⟩ p (by decide)
      have HWZ : Hid (∀ x ∈ pieces ⟨#[32]⟩ p, x.size ≤ 1000000) := fun x hx => Nat.le_trans (pieces_size hx) hpz
      generalize pieces ⟨#[32]⟩ p = ws at *
      have HTK := Lib.hid (snocR hq)
      have HBAD := Lib.hid (fun (h : fitsR (stepQ ws) = false) => not_fits hq h)
      clear hp hq
      have q1 : (k : Int) < n := by omega
      have q0 : (0 : Int) ≤ (k : Int) := by omega
      go_wp2_with fail
      refine (HSP.out _).mono ?_
      rintro e u2 ⟨A2, c2, rfl, ho, hb⟩
      have HWR := Lib.hid (own_row rowStr ho)
      replace HO := Lib.hid (rown_below HO.out hb)
      replace HB := Lib.hid (HB.out.trans (hb.mono HB.out.size))
      clear ho hb HSP e0
      generalize hm : ws.length = m at *
      have hm1 : 1 ≤ m := by omega
      have HML := Lib.hid hm
      clear hm hwl
      obtain ⟨a, ha⟩ : ∃ a, ws[0]? = some a := ⟨_, List.getElem?_eq_getElem (by have := HML.out; omega)⟩
      obtain ⟨b2, o2, rfl, hb2, f0⟩ := text_at HWR.out ha
      rw [Nat.add_zero] at f0
      have ha0 : ws.getD 0 ⟨#[]⟩ = a := by rw [List.getD_eq_getElem?_getD, ha]; rfl
      obtain ⟨ox, hox, ho6, honm⟩ := opF_nat a
      have HST : Hid (stepQ ws = if (ox : Int) = 2 ∨ (ox : Int) = 3 then (if m = 4 then numbersQ (ox : Int) (ws.getD 1 ⟨#[]⟩) (ws.getD 2 ⟨#[]⟩) (ws.getD 3 ⟨#[]⟩) else zeroQ) else if m = 1 then ⟨(ox : Int), 0, 0, 0⟩ else zeroQ) := by
        show _ = _
        unfold stepQ
        rw [ha0, hox, HML.out]
      have HNI : Hid (∀ j : Nat, 1 ≤ j → j ≤ 6 → ((nameF (j : Int)).toList == a.toList) = decide (j = ox)) := fun j h1 h6 => name_iff hox honm h1 h6
      clear ha ha0 hox honm
      have HN2 : Hid (∀ j : Nat, 1 ≤ j → j ≤ 6 → u2.cell? ⟨P, j, none⟩ = some (.string (nameF j))) := fun j h1 h6 => (HB.out.cell (p := ⟨P, j, none⟩) hPz).trans (HNM.out j h1 h6)
      have hP2 : P < u2.heap.size := by have := HB.out.size; omega
      have HNX : Hid (∀ g, Value.ownBlock (.slice Av k cv) = some g → g < u2.heap.size) := fun g e => (HO.out.lt g e).2
      have hu1X : u1.heap.size ≤ u2.heap.size := HB.out.size
      go_upto_region 9 with fail
      have HBK := Lib.hid (blkR_new u2)
      have HB1 : Hid (Below u2.heap.size u2 (u2.alloc (.cells #[.int .i64 0, .int .i64 0, .int .i64 0, .int .i64 0] 59))) := (Below.refl _ _).alloc (Nat.le_refl _) _
      generalize (u2.alloc (.cells #[.int .i64 0, .int .i64 0, .int .i64 0, .int .i64 0] 59)) = W3 at *
      generalize hXe : u2.heap.size = X at *
      have HXE := Lib.hid hXe
      clear hXe
      have HI0 : Hid ((if ox < 1 then (ox : Int) else 0) = 0) := by
        show _ = _
        by_cases h : ox < 1
        · rw [if_pos h]; omega
        · rw [if_neg h]
      go_wp2_with fail
      go_loopw [10] (fun i wr => ∃ (j : Nat), i = .int .i64 j ∧ 1 ≤ j ∧ j ≤ 7 ∧ Hid (BlkR wr X ⟨if ox < j then (ox : Int) else 0, 0, 0, 0⟩) ∧ Hid (Below X u2 wr)) (fun i _ => 7 - (intOf i).toNat)
      case atStart => exact ⟨1, rfl, by omega, by omega, (by show BlkR _ _ _; rw [HI0.out]; exact HBK.out), HB1⟩
      case round =>
        clear HBK HB1
        obtain ⟨j, rfl, hj1, hj7, HBK, HB1⟩ := hrel
        have hX : X < wr.heap.size := HBK.out.1
        have g0 := (HB1.out.cell (p := ⟨b2, o2, none⟩) hb2).trans f0
        by_cases hj : j ≤ 6
        · have gn := (HB1.out.cell (p := ⟨P, j, none⟩) hP2).trans (HN2.out j hj1 hj)
          have q2 : (j : Int) < 7 := by omega
          have q3 : (0 : Int) ≤ (j : Int) := by omega
          have q4 : j < 7 := by omega
          have q5 : (0 : Int) < (m : Int) := by omega
          have hcmp := HNI.out j hj1 hj
          generalize nameF (j : Int) = nm at *
          by_cases he : j = ox
          · rw [decide_eq_true he] at hcmp
            have HJE := Lib.hid he
            clear he
            go_wp2_with fail
            go_quiet (fail)
            obtain ⟨x0, _⟩ := HBK.out.2 0 _ rfl
            obtain ⟨_, y0⟩ := HBK.out.2 0 _ rfl
            have HBK' : Hid (BlkR (wr.drewN nq) X ⟨if ox < j then (ox : Int) else 0, 0, 0, 0⟩) := HBK.out.keep (below_dN (Below.refl _ _) nq)
            have HB1' : Hid (Below X u2 (wr.drewN nq)) := below_dN HB1.out nq
            replace x0 : (wr.drewN nq).cell? ⟨X, 0, none⟩ = some (.int .i64 (if ox < j then (ox : Int) else 0)) := x0
            replace y0 : (wr.drewN nq).frozen? ⟨X, 0, none⟩ = false := y0
            clear HBK HB1 g0 gn hX hcmp
            generalize wr.drewN nq = wz at *
            have HBn : Hid (BlkR (wz.setCell ⟨X, 0, none⟩ (.int .i64 (j : Int))) X ⟨if ox < j + 1 then (ox : Int) else 0, 0, 0, 0⟩) := by
              have h := HBK'.out.op (j : Int)
              show BlkR _ _ _
              rw [if_pos (show ox < j + 1 by have := HJE.out; omega), ← HJE.out]
              exact h
            have HB1n : Hid (Below X u2 (wz.setCell ⟨X, 0, none⟩ (.int .i64 (j : Int)))) := HB1'.out.setCell (by simp) _
            clear HBK' HB1' HJE
            generalize (if ox < j then (ox : Int) else 0) = old at *
            go_wp2
            go_roundw
            case rel => exact ⟨j + 1, by go_num, by omega, by omega, HBn, HB1n⟩
            case measure => simp [intOf]; omega
          · rw [decide_eq_false he] at hcmp
            have HBn : Hid (∀ u, Below wr.heap.size wr u → BlkR u X ⟨if ox < j + 1 then (ox : Int) else 0, 0, 0, 0⟩) := fun u h => by
              have h1 := HBK.out.keep h
              have e : (if ox < j + 1 then (ox : Int) else 0) = if ox < j then (ox : Int) else 0 := by split <;> split <;> omega
              rw [e]
              exact h1
            clear he
            go_wp2_with fail
            go_quiet (fail)
            go_wp2
            go_roundw
            case rel => exact ⟨j + 1, by go_num, by omega, by omega, HBn.out _ (below_dN (Below.refl _ _) _), below_dN HB1.out _⟩
            case measure => simp [intOf]; omega
        · obtain rfl : j = 7 := by omega
          have q2 : ¬ ((7 : Int) < 7) := by omega
          rw [if_pos (show ox < 7 by omega)] at HBK
          have HOW : Hid (wr.ownsRow u1.heap.size 59 4 (.slice Av k cv) k (rowCells cellsR ((parseQ s).take k))) := rown_below HO.out (by rw [HXE.out]; exact HB1.out)
          have HBr : Hid (Below u1.heap.size u1 wr) := HB.out.trans (HB1.out.mono (by have := HB.out.size; have := HXE.out; omega))
          have HWr : Hid (RowAt cellsS 1 wr X (some ⟨b2, o2, none⟩) m ws) := HWR.out.keep HB1.out
          clear HO HB HB1 HN2 HNI f0 HWR g0
          obtain ⟨x0, y0⟩ := HBK.out.2 0 _ rfl
          obtain ⟨x1, y1⟩ := HBK.out.2 1 _ rfl
          obtain ⟨x2, y2⟩ := HBK.out.2 2 _ rfl
          obtain ⟨x3, y3⟩ := HBK.out.2 3 _ rfl
          simp only at x0 x1 x2 x3
          clear HI0
          generalize (ox : Int) = oz at *
          by_cases h23 : oz = 2 ∨ oz = 3
          · rw [if_pos h23] at HST
            by_cases h4 : m = 4
            · rw [if_pos h4] at HST
              have q6 : ((m : Int) != 4) = false := by simp; omega
              have q7 : (m : Int) = 4 := by omega
              obtain ⟨w1, hw1⟩ : ∃ x, ws[1]? = some x := ⟨_, List.getElem?_eq_getElem (by have := HML.out; omega)⟩
              obtain ⟨w2, hw2⟩ : ∃ x, ws[2]? = some x := ⟨_, List.getElem?_eq_getElem (by have := HML.out; omega)⟩
              obtain ⟨w3, hw3⟩ : ∃ x, ws[3]? = some x := ⟨_, List.getElem?_eq_getElem (by have := HML.out; omega)⟩
              obtain ⟨_, _, z1, hl1, k1⟩ := text_at HWr.out hw1
              obtain ⟨_, _, z2, hl2, k2⟩ := text_at HWr.out hw2
              obtain ⟨_, _, z3, hl3, k3⟩ := text_at HWr.out hw3
              injection z1 with z1
              injection z1 with i1 i2
              injection z2 with z2
              injection z2 with i3 i4
              injection z3 with z3
              injection z3 with i5 i6
              subst i1 i2 i3 i4 i5 i6
              have HI1 := Lib.hid (fun u => rint_any w1 u (HWZ.out _ (List.mem_of_getElem? hw1)))
              have HI2 := Lib.hid (fun u => rint_any w2 u (HWZ.out _ (List.mem_of_getElem? hw2)))
              have HI3 := Lib.hid (fun u => rint_any w3 u (HWZ.out _ (List.mem_of_getElem? hw3)))
              rw [List.getD_eq_getElem?_getD, hw1, List.getD_eq_getElem?_getD, hw2, List.getD_eq_getElem?_getD, hw3] at HST
              simp only [Option.getD_some] at HST
              have HNB : Hid (intB w1 = false ∨ intB w2 = false ∨ intB w3 = false → rightZ (parseQ s) = false) := fun h => HBAD.out (by rw [HST.out]; exact num_bad h)
              have HNG : Hid (intB w1 = true → intB w2 = true → intB w3 = true → numbersQ oz w1 w2 w3 = ⟨oz, intV w1, intV w2, intV w3⟩) := num_good
              unfold IntRet at HI1 HI2 HI3
              clear HWr hw1 hw2 hw3 h4
              generalize intV w1 = v1 at *
              generalize intV w2 = v2 at *
              generalize intV w3 = v3 at *
              generalize intB w1 = t1 at *
              generalize intB w2 = t2 at *
              generalize intB w3 = t3 at *
              have hbX : b2 < wr.heap.size := by omega
              rcases h23 with rfl | rfl
              · have hT : True := trivial
                go_wp2_with fail
                refine (HI1.out _).mono ?_
                rintro e v4 ⟨rfl, hb⟩
                replace k2 := (hb.cell (p := ⟨b2, o2 + 2, none⟩) hbX).trans k2
                replace k3 := (hb.cell (p := ⟨b2, o2 + 3, none⟩) hbX).trans k3
                replace hbX := Nat.lt_of_lt_of_le hbX hb.size
                replace HBK := Lib.hid (HBK.out.keep hb)
                replace HOW := Lib.hid (rown_below HOW.out hb)
                replace HBr := Lib.hid (HBr.out.trans (hb.mono HBr.out.size))
                clear hb k1
                go_wp2_with fail
                refine (HI2.out _).mono ?_
                rintro e v5 ⟨rfl, hb⟩
                replace k3 := (hb.cell (p := ⟨b2, o2 + 3, none⟩) hbX).trans k3
                replace hbX := Nat.lt_of_lt_of_le hbX hb.size
                replace HBK := Lib.hid (HBK.out.keep hb)
                replace HOW := Lib.hid (rown_below HOW.out hb)
                replace HBr := Lib.hid (HBr.out.trans (hb.mono HBr.out.size))
                clear hb k2
                go_wp2_with fail
                refine (HI3.out _).mono ?_
                rintro e v6 ⟨rfl, hb⟩
                replace hbX := Nat.lt_of_lt_of_le hbX hb.size
                replace HBK := Lib.hid (HBK.out.keep hb)
                replace HOW := Lib.hid (rown_below HOW.out hb)
                replace HBr := Lib.hid (HBr.out.trans (hb.mono HBr.out.size))
                clear hb k3
                obtain ⟨x0, y0⟩ := HBK.out.2 0 _ rfl
                obtain ⟨x1, y1⟩ := HBK.out.2 1 _ rfl
                obtain ⟨x2, y2⟩ := HBK.out.2 2 _ rfl
                obtain ⟨x3, y3⟩ := HBK.out.2 3 _ rfl
                simp only at x0 x1 x2 x3
                rcases t1 with _ | _
                · have HF := Lib.hid (HNB.out (.inl rfl))
                  clear HNB HNG HST HBAD
                  go_wp2
                  go_ret2
                  exact rparse_no HF.out (HBW'.out _ HBr.out)
                rcases t2 with _ | _
                · have HF := Lib.hid (HNB.out (.inr (.inl rfl)))
                  clear HNB HNG HST HBAD
                  go_wp2
                  go_ret2
                  exact rparse_no HF.out (HBW'.out _ HBr.out)
                rcases t3 with _ | _
                · have HF := Lib.hid (HNB.out (.inr (.inr rfl)))
                  clear HNB HNG HST HBAD
                  go_wp2
                  go_ret2
                  exact rparse_no HF.out (HBW'.out _ HBr.out)
                rw [HNG.out rfl rfl rfl] at HST
                have HBK3 := Lib.hid (HBK.out.nums v1 v2 v3)
                have HOW3 : Hid ((((v6.setCell ⟨X, 1, none⟩ (.int .i64 v1)).setCell ⟨X, 2, none⟩ (.int .i64 v2)).setCell ⟨X, 3, none⟩ (.int .i64 v3)).ownsRow u1.heap.size 59 4 (.slice Av k cv) k (rowCells cellsR ((parseQ s).take k))) := rown_grown (rown_grown (rown_grown HOW.out (grown_set4 (p := ⟨X, 1, none⟩) (.int .i64 v1)) (Or.inr fun e => by have := HNX.out X e; omega)) (grown_set4 (p := ⟨X, 2, none⟩) (.int .i64 v2)) (Or.inr fun e => by have := HNX.out X e; omega)) (grown_set4 (p := ⟨X, 3, none⟩) (.int .i64 v3)) (Or.inr fun e => by have := HNX.out X e; omega)
                have HBr3 : Hid (Below u1.heap.size u1 (((v6.setCell ⟨X, 1, none⟩ (.int .i64 v1)).setCell ⟨X, 2, none⟩ (.int .i64 v2)).setCell ⟨X, 3, none⟩ (.int .i64 v3))) := ((HBr.out.setCell (p := ⟨X, 1, none⟩) hu1X _).setCell (p := ⟨X, 2, none⟩) hu1X _).setCell (p := ⟨X, 3, none⟩) hu1X _
                clear HNB HNG HBAD
                go_upto_region 25 with fail
                clear x0 x1 x2 x3 y0 y1 y2 y3 HBK HOW HBr
                generalize (((v6.setCell ⟨X, 1, none⟩ (.int .i64 v1)).setCell ⟨X, 2, none⟩ (.int .i64 v2)).setCell ⟨X, 3, none⟩ (.int .i64 v3)) = W8 at *
                have HOW := HOW3
                have HBr := HBr3
                obtain ⟨x0, y0⟩ := HBK3.out.2 0 _ rfl
                obtain ⟨x1, y1⟩ := HBK3.out.2 1 _ rfl
                obtain ⟨x2, y2⟩ := HBK3.out.2 2 _ rfl
                obtain ⟨x3, y3⟩ := HBK3.out.2 3 _ rfl
                simp only at x0 x1 x2 x3
                have HEQ : Hid (stepQ ws = (⟨2, v1, v2, v3⟩ : RSt)) := by show _ = _; rw [HST.out]
                have hba : Below W8.heap.size W8 (W8.alloc (.cells #[.int .i64 2, .int .i64 v1, .int .i64 v2, .int .i64 v3] 59)) := (Below.refl _ _).alloc (Nat.le_refl _) _
                have HOA := Lib.hid (rown_below HOW.out hba)
                have HBA := Lib.hid (HBr.out.trans (hba.mono HBr.out.size))
                have HX1 : Hid (RowAt cellsR 4 (W8.alloc (.cells #[.int .i64 2, .int .i64 v1, .int .i64 v2, .int .i64 v3] 59)) (W8.heap.size + 1) (some ⟨W8.heap.size, 0, none⟩) 1 [(⟨2, v1, v2, v3⟩ : RSt)]) := one_row rowR (heap_alloc_new W8 _)
                have hlk : ((parseQ s).take k).length = k := by rw [List.length_take]; have := HPL.out; have := HNL.out; omega
                clear hba
                go_upto_region 6 with (at_builtin; refine wpList_append_row rowR (B := u1.heap.size) (v := .slice Av k cv) (n := k) (zs := (parseQ s).take k) (m := 1) (ys := [(⟨2, v1, v2, v3⟩ : RSt)]) rfl _ _ rfl rfl HOA.out rfl HX1.out (by omega) HBA.out.size ?_; intro A3 c3 w3 hown3 hg3 _; have HO3 : Hid (w3.ownsRow u1.heap.size 59 4 (.slice A3 (k + 1) c3) (k + 1) (rowCells cellsR ((parseQ s).take (k + 1))) ∧ Below u1.heap.size u1 w3) := ⟨by rw [HTK.out, HEQ.out]; exact hown3, HBA.out.grown hg3 HBA.out.size (fun g e => (HOA.out.lt g e).1)⟩; clear hown3 hg3)
                clear HOA HX1 HBA
                go_wp2
                go_roundw
                case rel => exact ⟨k + 1, A3, c3, by go_num, by first | rfl | go_num, by omega, HO3.out.1, HO3.out.2⟩
                case measure => simp [intOf]; omega
              · have hT : True := trivial
                go_wp2_with fail
                refine (HI1.out _).mono ?_
                rintro e v4 ⟨rfl, hb⟩
                replace k2 := (hb.cell (p := ⟨b2, o2 + 2, none⟩) hbX).trans k2
                replace k3 := (hb.cell (p := ⟨b2, o2 + 3, none⟩) hbX).trans k3
                replace hbX := Nat.lt_of_lt_of_le hbX hb.size
                replace HBK := Lib.hid (HBK.out.keep hb)
                replace HOW := Lib.hid (rown_below HOW.out hb)
                replace HBr := Lib.hid (HBr.out.trans (hb.mono HBr.out.size))
                clear hb k1
                go_wp2_with fail
                refine (HI2.out _).mono ?_
                rintro e v5 ⟨rfl, hb⟩
                replace k3 := (hb.cell (p := ⟨b2, o2 + 3, none⟩) hbX).trans k3
                replace hbX := Nat.lt_of_lt_of_le hbX hb.size
                replace HBK := Lib.hid (HBK.out.keep hb)
                replace HOW := Lib.hid (rown_below HOW.out hb)
                replace HBr := Lib.hid (HBr.out.trans (hb.mono HBr.out.size))
                clear hb k2
                go_wp2_with fail
                refine (HI3.out _).mono ?_
                rintro e v6 ⟨rfl, hb⟩
                replace hbX := Nat.lt_of_lt_of_le hbX hb.size
                replace HBK := Lib.hid (HBK.out.keep hb)
                replace HOW := Lib.hid (rown_below HOW.out hb)
                replace HBr := Lib.hid (HBr.out.trans (hb.mono HBr.out.size))
                clear hb k3
                obtain ⟨x0, y0⟩ := HBK.out.2 0 _ rfl
                obtain ⟨x1, y1⟩ := HBK.out.2 1 _ rfl
                obtain ⟨x2, y2⟩ := HBK.out.2 2 _ rfl
                obtain ⟨x3, y3⟩ := HBK.out.2 3 _ rfl
                simp only at x0 x1 x2 x3
                rcases t1 with _ | _
                · have HF := Lib.hid (HNB.out (.inl rfl))
                  clear HNB HNG HST HBAD
                  go_wp2
                  go_ret2
                  exact rparse_no HF.out (HBW'.out _ HBr.out)
                rcases t2 with _ | _
                · have HF := Lib.hid (HNB.out (.inr (.inl rfl)))
                  clear HNB HNG HST HBAD
                  go_wp2
                  go_ret2
                  exact rparse_no HF.out (HBW'.out _ HBr.out)
                rcases t3 with _ | _
                · have HF := Lib.hid (HNB.out (.inr (.inr rfl)))
                  clear HNB HNG HST HBAD
                  go_wp2
                  go_ret2
                  exact rparse_no HF.out (HBW'.out _ HBr.out)
                rw [HNG.out rfl rfl rfl] at HST
                have HBK3 := Lib.hid (HBK.out.nums v1 v2 v3)
                have HOW3 : Hid ((((v6.setCell ⟨X, 1, none⟩ (.int .i64 v1)).setCell ⟨X, 2, none⟩ (.int .i64 v2)).setCell ⟨X, 3, none⟩ (.int .i64 v3)).ownsRow u1.heap.size 59 4 (.slice Av k cv) k (rowCells cellsR ((parseQ s).take k))) := rown_grown (rown_grown (rown_grown HOW.out (grown_set4 (p := ⟨X, 1, none⟩) (.int .i64 v1)) (Or.inr fun e => by have := HNX.out X e; omega)) (grown_set4 (p := ⟨X, 2, none⟩) (.int .i64 v2)) (Or.inr fun e => by have := HNX.out X e; omega)) (grown_set4 (p := ⟨X, 3, none⟩) (.int .i64 v3)) (Or.inr fun e => by have := HNX.out X e; omega)
                have HBr3 : Hid (Below u1.heap.size u1 (((v6.setCell ⟨X, 1, none⟩ (.int .i64 v1)).setCell ⟨X, 2, none⟩ (.int .i64 v2)).setCell ⟨X, 3, none⟩ (.int .i64 v3))) := ((HBr.out.setCell (p := ⟨X, 1, none⟩) hu1X _).setCell (p := ⟨X, 2, none⟩) hu1X _).setCell (p := ⟨X, 3, none⟩) hu1X _
                clear HNB HNG HBAD
                go_upto_region 25 with fail
                clear x0 x1 x2 x3 y0 y1 y2 y3 HBK HOW HBr
                generalize (((v6.setCell ⟨X, 1, none⟩ (.int .i64 v1)).setCell ⟨X, 2, none⟩ (.int .i64 v2)).setCell ⟨X, 3, none⟩ (.int .i64 v3)) = W8 at *
                have HOW := HOW3
                have HBr := HBr3
                obtain ⟨x0, y0⟩ := HBK3.out.2 0 _ rfl
                obtain ⟨x1, y1⟩ := HBK3.out.2 1 _ rfl
                obtain ⟨x2, y2⟩ := HBK3.out.2 2 _ rfl
                obtain ⟨x3, y3⟩ := HBK3.out.2 3 _ rfl
                simp only at x0 x1 x2 x3
                have HEQ : Hid (stepQ ws = (⟨3, v1, v2, v3⟩ : RSt)) := by show _ = _; rw [HST.out]
                have hba : Below W8.heap.size W8 (W8.alloc (.cells #[.int .i64 3, .int .i64 v1, .int .i64 v2, .int .i64 v3] 59)) := (Below.refl _ _).alloc (Nat.le_refl _) _
                have HOA := Lib.hid (rown_below HOW.out hba)
                have HBA := Lib.hid (HBr.out.trans (hba.mono HBr.out.size))
                have HX1 : Hid (RowAt cellsR 4 (W8.alloc (.cells #[.int .i64 3, .int .i64 v1, .int .i64 v2, .int .i64 v3] 59)) (W8.heap.size + 1) (some ⟨W8.heap.size, 0, none⟩) 1 [(⟨3, v1, v2, v3⟩ : RSt)]) := one_row rowR (heap_alloc_new W8 _)
                have hlk : ((parseQ s).take k).length = k := by rw [List.length_take]; have := HPL.out; have := HNL.out; omega
                clear hba
                go_upto_region 6 with (at_builtin; refine wpList_append_row rowR (B := u1.heap.size) (v := .slice Av k cv) (n := k) (zs := (parseQ s).take k) (m := 1) (ys := [(⟨3, v1, v2, v3⟩ : RSt)]) rfl _ _ rfl rfl HOA.out rfl HX1.out (by omega) HBA.out.size ?_; intro A3 c3 w3 hown3 hg3 _; have HO3 : Hid (w3.ownsRow u1.heap.size 59 4 (.slice A3 (k + 1) c3) (k + 1) (rowCells cellsR ((parseQ s).take (k + 1))) ∧ Below u1.heap.size u1 w3) := ⟨by rw [HTK.out, HEQ.out]; exact hown3, HBA.out.grown hg3 HBA.out.size (fun g e => (HOA.out.lt g e).1)⟩; clear hown3 hg3)
                clear HOA HX1 HBA
                go_wp2
                go_roundw
                case rel => exact ⟨k + 1, A3, c3, by go_num, by first | rfl | go_num, by omega, HO3.out.1, HO3.out.2⟩
                case measure => simp [intOf]; omega
            · rw [if_neg h4] at HST
              have HF := Lib.hid (HBAD.out (by rw [HST.out]; exact zero_unfit))
              have q6 : ((m : Int) != 4) = true := by simp; omega
              have q7 : ¬ (m : Int) = 4 := by omega
              clear HST HBAD h4
              rcases h23 with rfl | rfl
              all_goals
                go_wp2
                go_ret2
                exact rparse_no HF.out (HBW'.out _ HBr.out)
          · rw [if_neg h23] at HST
            have g2 : (oz == 2) = false := by rw [beq_eq_false_iff_ne]; omega
            have g3 : (oz == 3) = false := by rw [beq_eq_false_iff_ne]; omega
            by_cases h1 : m = 1
            · rw [if_pos h1] at HST
              have q6 : ((m : Int) != 1) = false := by simp; omega
              have q7 : (m : Int) = 1 := by omega
              clear h23 h1
              have HEQ : Hid (stepQ ws = (⟨oz, 0, 0, 0⟩ : RSt)) := by show _ = _; rw [HST.out]
              have hba : Below wr.heap.size wr (wr.alloc (.cells #[.int .i64 oz, .int .i64 0, .int .i64 0, .int .i64 0] 59)) := (Below.refl _ _).alloc (Nat.le_refl _) _
              have HOA := Lib.hid (rown_below HOW.out hba)
              have HBA := Lib.hid (HBr.out.trans (hba.mono HBr.out.size))
              have HX1 : Hid (RowAt cellsR 4 (wr.alloc (.cells #[.int .i64 oz, .int .i64 0, .int .i64 0, .int .i64 0] 59)) (wr.heap.size + 1) (some ⟨wr.heap.size, 0, none⟩) 1 [(⟨oz, 0, 0, 0⟩ : RSt)]) := one_row rowR (heap_alloc_new wr _)
              have hlk : ((parseQ s).take k).length = k := by rw [List.length_take]; have := HPL.out; have := HNL.out; omega
              clear hba
              go_upto_region 6 with (at_builtin; refine wpList_append_row rowR (B := u1.heap.size) (v := .slice Av k cv) (n := k) (zs := (parseQ s).take k) (m := 1) (ys := [(⟨oz, 0, 0, 0⟩ : RSt)]) rfl _ _ rfl rfl HOA.out rfl HX1.out (by omega) HBA.out.size ?_; intro A3 c3 w3 hown3 hg3 _; have HO3 : Hid (w3.ownsRow u1.heap.size 59 4 (.slice A3 (k + 1) c3) (k + 1) (rowCells cellsR ((parseQ s).take (k + 1))) ∧ Below u1.heap.size u1 w3) := ⟨by rw [HTK.out, HEQ.out]; exact hown3, HBA.out.grown hg3 HBA.out.size (fun g e => (HOA.out.lt g e).1)⟩; clear hown3 hg3)
              clear HOA HX1 HBA
              go_wp2
              go_roundw
              case rel => exact ⟨k + 1, A3, c3, by go_num, by first | rfl | go_num, by omega, HO3.out.1, HO3.out.2⟩
              case measure => simp [intOf]; omega
            · rw [if_neg h1] at HST
              have HF := Lib.hid (HBAD.out (by rw [HST.out]; exact zero_unfit))
              have q6 : ((m : Int) != 1) = true := by simp; omega
              have q7 : ¬ (m : Int) = 1 := by omega
              clear HST HBAD h1 h23
              go_wp2
              go_ret2
              exact rparse_no HF.out (HBW'.out _ HBr.out)
    · obtain rfl : k = n := by omega
      have q1 : ¬ ((k : Int) < k) := by omega
      have HAL : Hid ((parseQ s).take k = parseQ s) := List.take_of_length_le (by have := HPL.out; have := HNL.out; omega)
      rw [HAL.out] at HO
      have HRW := Lib.hid (own_row rowR HO.out)
      have HRR := Lib.hid (rright_any Av k cv (parseQ s) wr.heap.size wr (Nat.le_refl _) HRW.out (by omega))
      rcases hr : rightZ (parseQ s) with _ | _
      all_goals
        rw [hr] at HRR
        have HRI := Lib.hid hr
        clear hr
        go_wp2_with fail
        refine HRR.out.mono ?_
        rintro e u9 ⟨rfl, hb⟩
        replace HRW := Lib.hid ((HRW.out.keep hb).more hb.size)
        replace HB := Lib.hid (HB.out.trans (hb.mono HB.out.size))
        clear hb HRR
        go_wp2
        go_ret2
        first | exact rparse_no HRI.out (HBW'.out _ HB.out) | exact rparse_yes HRI.out HRW.out (HBW'.out _ HB.out)
end Go.Proofs.YtkklikkmpmlnbaaDoor
