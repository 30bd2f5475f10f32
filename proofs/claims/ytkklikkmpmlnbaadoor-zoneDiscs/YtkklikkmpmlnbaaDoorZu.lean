/- The law ZoneDiscs. -/
import Derived.Test.YtkklikkmpmlnbaaDoorZm
import Derived.Test.YtkklikkmpmlnbaaDoorZl
import Derived.Test.YtkklikkmpmlnbaaDoorZj
import Derived.Test.YtkklikkmpmlnbaaDoorRt
namespace Go.Proofs.YtkklikkmpmlnbaaDoor
open Go.RowKit

theorem has_one (r : RSt) (px py : Int) (hf : fitsR r = true) (ht : takesF r.op = 0) : hasZ [r] px py = (wholeF px py && truthF r [] px py) := by
  have h1 : rightZ [r] = true := by
    unfold rightZ
    have : foldR 0 [r] = some 1 := by
      show (stepR 0 r).bind _ = _
      unfold stepR
      rw [if_pos ⟨hf, by rw [ht]; decide⟩, ht]
      rfl
    rw [this]
    rfl
  unfold hasZ
  rw [h1, Bool.true_and]
  congr 1
  show (stepH px py [] r).getD 0 false = _
  unfold stepH
  simp [ht]
theorem like_one (op : Int) (a b c : Nat) (x y z : Int) (h1 : NumB a x) (h2 : NumB b y) (h3 : NumB c z) : LikeL [⟨op, a, b, c⟩] [⟨op, x, y, z⟩] := ⟨rfl, fun k s r hs hr => by
  cases k with
  | zero =>
    simp only [List.getElem?_cons_zero, Option.some.injEq] at hs hr
    subst hs hr
    exact ⟨rfl, h1, h2, h3⟩
  | succ k => simp at hs⟩
theorem numB_of {x : Nat} {n : Int} (h : Num x n) (hs : Small n) : NumB x n := .inl ⟨hs, h⟩
set_option maxRecDepth 100000 in
set_option maxHeartbeats 8000000 in
theorem zoneDiscs_walk (ax ay px py sz : Int) (w : World) (hg : Glob w) :
    Calls Tryd.prog 9 #[.agg #[.int .i64 ax, .int .i64 ay], .agg #[.int .i64 px, .int .i64 py], .int .i64 sz] w fun e w' => e = .returned (.bool true) ∧ Below w.heap.size w w' := by
  have HG := Lib.hid hg
  have HA := Lib.hid (refSpot_any ax ay)
  have HP := Lib.hid (refSpot_any px py)
  have ha1 := spotF_in ax
  have ha2 := spotF_in ay
  have hp1 := spotF_in px
  have hp2 := spotF_in py
  have hn2 : wrap64 ((IntKind.u64.wrap sz).tmod 2001) = sz % 18446744073709551616 % 2001 := by
    have h0 : IntKind.u64.wrap sz = sz % 18446744073709551616 := rfl
    rw [h0, Int.tmod_eq_emod_of_nonneg (by omega), IntWalk.wrap64_in _ (by omega)]
  have hnn : 0 ≤ sz % 18446744073709551616 % 2001 ∧ sz % 18446744073709551616 % 2001 ≤ 2000 := by omega
  have hc : ∀ (n : Int) w, (convert 3 47 (.int .i64 n)).run Tryd.prog w = .ok (.float .f64 (fl n)) w := fun n w => run_convert_int_float w 3 47 .i64 .f64 n (by kernel_rfl) Tryd.underlying47
  generalize spotF ax = bx at *
  generalize spotF ay = by1 at *
  generalize spotF px = qx at *
  generalize spotF py = qy at *
  generalize sz % 18446744073709551616 % 2001 = nn at *
  have hw : wholeF qx qy = true := whole_iff.mpr ⟨hp1, hp2⟩
  have hwb : wholeF bx by1 = true := whole_iff.mpr ⟨ha1, ha2⟩
  have hwn : wholeF (-bx) (-by1) = true := whole_iff.mpr ⟨by omega, by omega⟩
  have NBX := num_fl bx (by omega)
  have NBY := num_fl by1 (by omega)
  have NQX := num_fl qx (by omega)
  have NQY := num_fl qy (by omega)
  have NNN := num_fl nn (by omega)
  have NNM := num_fl (-nn) (by omega)
  have HD : Hid (hasZ [⟨2, bx, by1, nn⟩] qx qy = decide ((qx - bx) * (qx - bx) + (qy - by1) * (qy - by1) ≤ nn * nn)) := by
    show _ = _
    rw [has_one _ _ _ (by show (wholeF bx by1 && withinF nn 0 2000) = true; rw [hwb, within_iff.mpr (by omega)]; rfl) rfl, hw]
    rfl
  have HH : Hid (hasZ [⟨3, bx, by1, nn⟩] qx qy = decide (nn ≤ bx * qx + by1 * qy)) := by
    show _ = _
    rw [has_one _ _ _ (by show (wholeF bx by1 && withinF nn (-2000000) 2000000) = true; rw [hwb, within_iff.mpr (by omega)]; rfl) rfl, hw, Int.mul_comm bx, Int.mul_comm by1]
    rfl
  have HO : Hid (hasZ [⟨3, -bx, -by1, -nn⟩] qx qy = decide (bx * qx + by1 * qy ≤ nn)) := by
    show _ = _
    rw [has_one _ _ _ (by show (wholeF (-bx) (-by1) && withinF (-nn) (-2000000) 2000000) = true; rw [hwn, within_iff.mpr (by omega)]; rfl) rfl, hw]
    show decide (-nn ≤ qx * -bx + qy * -by1) = _
    rw [Int.mul_neg, Int.mul_neg, Int.mul_comm bx, Int.mul_comm by1]
    congr 1
    exact propext (by omega)
  have LD := Lib.hid (like_one 2 (fl bx) (fl by1) (fl nn) bx by1 nn (numB_of NBX (by unfold Small; omega)) (numB_of NBY (by unfold Small; omega)) (numB_of NNN (by unfold Small; omega)))
  have LH := Lib.hid (like_one 3 (fl bx) (fl by1) (fl nn) bx by1 nn (numB_of NBX (by unfold Small; omega)) (numB_of NBY (by unfold Small; omega)) (numB_of NNN (by unfold Small; omega)))
  have LO := Lib.hid (like_one 3 (Op.negFloat .f64 (fl bx)) (Op.negFloat .f64 (fl by1)) (fl (-nn)) (-bx) (-by1) (-nn) (numB_of (num_neg NBX) (by unfold Small; omega)) (numB_of (num_neg NBY) (by unfold Small; omega)) (numB_of NNM (by unfold Small; omega)))
  have HQX := Lib.hid NQX
  have HQY := Lib.hid NQY
  have HSA := Lib.hid (lawSpot_any bx by1)
  have HSQ := Lib.hid (lawSpot_any qx qy)
  have hq53 : qx.natAbs < 2 ^ 53 ∧ qy.natAbs < 2 ^ 53 := by omega
  obtain ⟨m1, m2⟩ := mul_le (a := bx) (b := qx) (m := 1000) (n := 1000) (by omega) (by omega)
  obtain ⟨m3, m4⟩ := mul_le (a := by1) (b := qy) (m := 1000) (n := 1000) (by omega) (by omega)
  obtain ⟨s1, s2⟩ := sq_le (a := qx - bx) (m := 2000) (by omega)
  obtain ⟨s3, s4⟩ := sq_le (a := qy - by1) (m := 2000) (by omega)
  obtain ⟨s5, s6⟩ := sq_le (a := nn) (m := 2000) (by omega)
  have hcn := hc nn
  have hcm := hc (-nn)
  have hnc := neg_complex
  clear hg NBX NBY NQX NQY NNN NNM hw hwb hwn hc
  generalize fl bx = fbx at *
  generalize fl by1 = fby at *
  generalize fl qx = fqx at *
  generalize fl qy = fqy at *
  generalize fl nn = fnn at *
  generalize fl (-nn) = fnm at *
  go_enter Tryd.func9, Tryd.ntmps9
  go_upto_region 1 with fail
  have a0 : ((w.alloc (.cells #[.int .i64 ax, .int .i64 ay] 37)).alloc (.cells #[.int .i64 px, .int .i64 py] 37)).cell? ⟨w.heap.size, 0, none⟩ = some (.int .i64 ax) := by simp [go_sem]
  have af0 : ((w.alloc (.cells #[.int .i64 ax, .int .i64 ay] 37)).alloc (.cells #[.int .i64 px, .int .i64 py] 37)).frozen? ⟨w.heap.size, 0, none⟩ = false := by simp [go_sem]
  have a1 : ((w.alloc (.cells #[.int .i64 ax, .int .i64 ay] 37)).alloc (.cells #[.int .i64 px, .int .i64 py] 37)).cell? ⟨w.heap.size, 1, none⟩ = some (.int .i64 ay) := by simp [go_sem]
  have af1 : ((w.alloc (.cells #[.int .i64 ax, .int .i64 ay] 37)).alloc (.cells #[.int .i64 px, .int .i64 py] 37)).frozen? ⟨w.heap.size, 1, none⟩ = false := by simp [go_sem]
  have az : w.heap.size < ((w.alloc (.cells #[.int .i64 ax, .int .i64 ay] 37)).alloc (.cells #[.int .i64 px, .int .i64 py] 37)).heap.size := by simp <;> omega
  have p0 : ((w.alloc (.cells #[.int .i64 ax, .int .i64 ay] 37)).alloc (.cells #[.int .i64 px, .int .i64 py] 37)).cell? ⟨w.heap.size + 1, 0, none⟩ = some (.int .i64 px) := by simp [go_sem]
  have pf0 : ((w.alloc (.cells #[.int .i64 ax, .int .i64 ay] 37)).alloc (.cells #[.int .i64 px, .int .i64 py] 37)).frozen? ⟨w.heap.size + 1, 0, none⟩ = false := by simp [go_sem]
  have p1 : ((w.alloc (.cells #[.int .i64 ax, .int .i64 ay] 37)).alloc (.cells #[.int .i64 px, .int .i64 py] 37)).cell? ⟨w.heap.size + 1, 1, none⟩ = some (.int .i64 py) := by simp [go_sem]
  have pf1 : ((w.alloc (.cells #[.int .i64 ax, .int .i64 ay] 37)).alloc (.cells #[.int .i64 px, .int .i64 py] 37)).frozen? ⟨w.heap.size + 1, 1, none⟩ = false := by simp [go_sem]
  have pz : w.heap.size + 1 < ((w.alloc (.cells #[.int .i64 ax, .int .i64 ay] 37)).alloc (.cells #[.int .i64 px, .int .i64 py] 37)).heap.size := by simp
  have HB : Hid (Below w.heap.size w ((w.alloc (.cells #[.int .i64 ax, .int .i64 ay] 37)).alloc (.cells #[.int .i64 px, .int .i64 py] 37))) := ((Below.refl _ _).alloc (Nat.le_refl _) _).alloc (by simp) _
  generalize ((w.alloc (.cells #[.int .i64 ax, .int .i64 ay] 37)).alloc (.cells #[.int .i64 px, .int .i64 py] 37)) = W0 at *
  generalize hPP : w.heap.size = P at *
  refine tail_begin (S := fun w' => w'.cell? ⟨P, 0, none⟩ = some (.int .i64 ax) ∧ w'.cell? ⟨P, 1, none⟩ = some (.int .i64 ay) ∧ w'.cell? ⟨P + 1, 0, none⟩ = some (.int .i64 px) ∧ w'.cell? ⟨P + 1, 1, none⟩ = some (.int .i64 py)) 4 (by kernel_rfl) ⟨a0, a1, p0, p1⟩ (fun hHeld => ?_)
  refine tail_take (i := 0) (oi := { dst := some 14, op := Go.Op.load 37 (Go.Operand.tmp 3), type := 37, pos := "law.go:130", after := #[], guard := none }) (v := ?_) rfl (by kernel_rfl) (by kernel_rfl) (by kernel_rfl) (by kernel_rfl) (fun _ _ _ h => h) (Or.inl ⟨rfl, ?_⟩) (by assumption) ?_
  rotate_left
  · intro wz hSw; (try dsimp only at hSw); go_simp; try (with_reducible rfl)
  try simp only [Act.put, List.setIfInBounds_toArray, List.set_cons_zero, List.set_cons_succ]
  refine tail_take (i := 2) (oi := { dst := some 16, op := Go.Op.load 37 (Go.Operand.tmp 4), type := 37, pos := "law.go:130", after := #[], guard := none }) (v := ?_) rfl (by kernel_rfl) (by kernel_rfl) (by kernel_rfl) (by kernel_rfl) (fun _ _ _ h => h) (Or.inl ⟨rfl, ?_⟩) (by assumption) ?_
  rotate_left
  · intro wz hSw; (try dsimp only at hSw); go_simp; try (with_reducible rfl)
  try simp only [Act.put, List.setIfInBounds_toArray, List.set_cons_zero, List.set_cons_succ]
  refine tail_call (i := 1) (o := { dst := some 15, op := Go.Op.call { callee := Go.Callee.value (Go.Operand.func 22), args := #[Go.Operand.tmp 14], argTypes := #[37] }, type := 37, pos := "law.go:130", after := #[{ on := 0, ground := Go.Ground.data }], guard := none }) (by kernel_rfl) (by kernel_rfl) rfl (fun K hK => ?_)
  go_simp
  refine (HA.out _).mono ?_
  rintro e u1 ⟨rfl, hb⟩
  have hbv := below_via (Below.refl W0.heap.size W0) hb (Nat.le_refl _) ⟨rfl, rfl, rfl, rfl⟩
  replace a0 := (hbv.cell (p := ⟨P, 0, none⟩) az).trans a0
  replace af0 := (hbv.frozen (p := ⟨P, 0, none⟩) az).trans af0
  replace a1 := (hbv.cell (p := ⟨P, 1, none⟩) az).trans a1
  replace af1 := (hbv.frozen (p := ⟨P, 1, none⟩) az).trans af1
  replace az := Nat.lt_of_lt_of_le az hbv.size
  replace p0 := (hbv.cell (p := ⟨P + 1, 0, none⟩) pz).trans p0
  replace pf0 := (hbv.frozen (p := ⟨P + 1, 0, none⟩) pz).trans pf0
  replace p1 := (hbv.cell (p := ⟨P + 1, 1, none⟩) pz).trans p1
  replace pf1 := (hbv.frozen (p := ⟨P + 1, 1, none⟩) pz).trans pf1
  replace pz := Nat.lt_of_lt_of_le pz hbv.size
  replace HB := Lib.hid (HB.out.trans (hbv.mono (by have := HB.out.size; omega)))
  clear hb hbv
  refine hK.out _ _ ⟨a0, a1, p0, p1⟩ (fun hHeld => ?_)
  clear hK K
  try simp only [Act.put, List.setIfInBounds_toArray, List.set_cons_zero, List.set_cons_succ]
  refine tail_call (i := 3) (o := { dst := some 17, op := Go.Op.call { callee := Go.Callee.value (Go.Operand.func 22), args := #[Go.Operand.tmp 16], argTypes := #[37] }, type := 37, pos := "law.go:130", after := #[{ on := 2, ground := Go.Ground.data }, { on := 1, ground := Go.Ground.chain }], guard := none }) (by kernel_rfl) (by kernel_rfl) rfl (fun K hK => ?_)
  go_simp
  refine (HP.out _).mono ?_
  rintro e u2 ⟨rfl, hb⟩
  have hbv := hb
  replace a0 := (hbv.cell (p := ⟨P, 0, none⟩) az).trans a0
  replace af0 := (hbv.frozen (p := ⟨P, 0, none⟩) az).trans af0
  replace a1 := (hbv.cell (p := ⟨P, 1, none⟩) az).trans a1
  replace af1 := (hbv.frozen (p := ⟨P, 1, none⟩) az).trans af1
  replace az := Nat.lt_of_lt_of_le az hbv.size
  replace p0 := (hbv.cell (p := ⟨P + 1, 0, none⟩) pz).trans p0
  replace pf0 := (hbv.frozen (p := ⟨P + 1, 0, none⟩) pz).trans pf0
  replace p1 := (hbv.cell (p := ⟨P + 1, 1, none⟩) pz).trans p1
  replace pf1 := (hbv.frozen (p := ⟨P + 1, 1, none⟩) pz).trans pf1
  replace pz := Nat.lt_of_lt_of_le pz hbv.size
  replace HB := Lib.hid (HB.out.trans (hbv.mono (by have := HB.out.size; omega)))
  clear hb hbv
  refine hK.out _ _ ⟨a0, a1, p0, p1⟩ (fun hHeld => ?_)
  clear hK K
  try simp only [Act.put, List.setIfInBounds_toArray, List.set_cons_zero, List.set_cons_succ]
  refine tail_enter ?_
  refine rest_step (k := 4) (o := { dst := none, op := Go.Op.store 37 (Go.Operand.tmp 3) (Go.Operand.tmp 15), type := 0, pos := "law.go:130", after := #[{ on := 1, ground := Go.Ground.data }, { on := 3, ground := Go.Ground.chain }, { on := 0, ground := Go.Ground.phase }, { on := 1, ground := Go.Ground.phase }, { on := 2, ground := Go.Ground.textOnly Go.Departure.lateStores }, { on := 3, ground := Go.Ground.textOnly Go.Departure.lateStoresUnsure }], guard := none }) (by kernel_rfl) (by kernel_rfl) rfl (fun K hK => ?_)
  go_simp
  clear hHeld
  replace a0 : ((u2.setCell ⟨P, 0, none⟩ (.int .i64 bx)).setCell ⟨P, 1, none⟩ (.int .i64 by1)).cell? ⟨P, 0, none⟩ = some (.int .i64 bx) := by simp [go_sem, a0]
  replace af0 : ((u2.setCell ⟨P, 0, none⟩ (.int .i64 bx)).setCell ⟨P, 1, none⟩ (.int .i64 by1)).frozen? ⟨P, 0, none⟩ = false := by simp [go_sem, af0]
  replace a1 : ((u2.setCell ⟨P, 0, none⟩ (.int .i64 bx)).setCell ⟨P, 1, none⟩ (.int .i64 by1)).cell? ⟨P, 1, none⟩ = some (.int .i64 by1) := by simp [go_sem, a1]
  replace af1 : ((u2.setCell ⟨P, 0, none⟩ (.int .i64 bx)).setCell ⟨P, 1, none⟩ (.int .i64 by1)).frozen? ⟨P, 1, none⟩ = false := by simp [go_sem, af1]
  replace az : P < ((u2.setCell ⟨P, 0, none⟩ (.int .i64 bx)).setCell ⟨P, 1, none⟩ (.int .i64 by1)).heap.size := by simpa using az
  replace p0 : ((u2.setCell ⟨P, 0, none⟩ (.int .i64 bx)).setCell ⟨P, 1, none⟩ (.int .i64 by1)).cell? ⟨P + 1, 0, none⟩ = some (.int .i64 px) := by simp [go_sem, p0]
  replace pf0 : ((u2.setCell ⟨P, 0, none⟩ (.int .i64 bx)).setCell ⟨P, 1, none⟩ (.int .i64 by1)).frozen? ⟨P + 1, 0, none⟩ = false := by simp [go_sem, pf0]
  replace p1 : ((u2.setCell ⟨P, 0, none⟩ (.int .i64 bx)).setCell ⟨P, 1, none⟩ (.int .i64 by1)).cell? ⟨P + 1, 1, none⟩ = some (.int .i64 py) := by simp [go_sem, p1]
  replace pf1 : ((u2.setCell ⟨P, 0, none⟩ (.int .i64 bx)).setCell ⟨P, 1, none⟩ (.int .i64 by1)).frozen? ⟨P + 1, 1, none⟩ = false := by simp [go_sem, pf1]
  replace pz : P + 1 < ((u2.setCell ⟨P, 0, none⟩ (.int .i64 bx)).setCell ⟨P, 1, none⟩ (.int .i64 by1)).heap.size := by simpa using pz
  replace HB : Hid (Below P w ((u2.setCell ⟨P, 0, none⟩ (.int .i64 bx)).setCell ⟨P, 1, none⟩ (.int .i64 by1))) := (HB.out.setCell (by simp) _).setCell (by simp) _
  generalize ((u2.setCell ⟨P, 0, none⟩ (.int .i64 bx)).setCell ⟨P, 1, none⟩ (.int .i64 by1)) = W4 at *
  refine hK.out _ _ ?_
  clear hK K
  try simp only [Act.put, List.setIfInBounds_toArray, List.set_cons_zero, List.set_cons_succ]
  refine rest_step (k := 5) (o := { dst := none, op := Go.Op.store 37 (Go.Operand.tmp 4) (Go.Operand.tmp 17), type := 0, pos := "law.go:130", after := #[{ on := 3, ground := Go.Ground.data }, { on := 4, ground := Go.Ground.chain }, { on := 0, ground := Go.Ground.phase }, { on := 1, ground := Go.Ground.phase }, { on := 2, ground := Go.Ground.phase }, { on := 3, ground := Go.Ground.phase }, { on := 4, ground := Go.Ground.phase }], guard := none }) (by kernel_rfl) (by kernel_rfl) rfl (fun K hK => ?_)
  go_simp
  replace a0 : ((W4.setCell ⟨P + 1, 0, none⟩ (.int .i64 qx)).setCell ⟨P + 1, 1, none⟩ (.int .i64 qy)).cell? ⟨P, 0, none⟩ = some (.int .i64 bx) := by simp [go_sem, a0]
  replace af0 : ((W4.setCell ⟨P + 1, 0, none⟩ (.int .i64 qx)).setCell ⟨P + 1, 1, none⟩ (.int .i64 qy)).frozen? ⟨P, 0, none⟩ = false := by simp [go_sem, af0]
  replace a1 : ((W4.setCell ⟨P + 1, 0, none⟩ (.int .i64 qx)).setCell ⟨P + 1, 1, none⟩ (.int .i64 qy)).cell? ⟨P, 1, none⟩ = some (.int .i64 by1) := by simp [go_sem, a1]
  replace af1 : ((W4.setCell ⟨P + 1, 0, none⟩ (.int .i64 qx)).setCell ⟨P + 1, 1, none⟩ (.int .i64 qy)).frozen? ⟨P, 1, none⟩ = false := by simp [go_sem, af1]
  replace az : P < ((W4.setCell ⟨P + 1, 0, none⟩ (.int .i64 qx)).setCell ⟨P + 1, 1, none⟩ (.int .i64 qy)).heap.size := by simpa using az
  replace p0 : ((W4.setCell ⟨P + 1, 0, none⟩ (.int .i64 qx)).setCell ⟨P + 1, 1, none⟩ (.int .i64 qy)).cell? ⟨P + 1, 0, none⟩ = some (.int .i64 qx) := by simp [go_sem, p0]
  replace pf0 : ((W4.setCell ⟨P + 1, 0, none⟩ (.int .i64 qx)).setCell ⟨P + 1, 1, none⟩ (.int .i64 qy)).frozen? ⟨P + 1, 0, none⟩ = false := by simp [go_sem, pf0]
  replace p1 : ((W4.setCell ⟨P + 1, 0, none⟩ (.int .i64 qx)).setCell ⟨P + 1, 1, none⟩ (.int .i64 qy)).cell? ⟨P + 1, 1, none⟩ = some (.int .i64 qy) := by simp [go_sem, p1]
  replace pf1 : ((W4.setCell ⟨P + 1, 0, none⟩ (.int .i64 qx)).setCell ⟨P + 1, 1, none⟩ (.int .i64 qy)).frozen? ⟨P + 1, 1, none⟩ = false := by simp [go_sem, pf1]
  replace pz : P + 1 < ((W4.setCell ⟨P + 1, 0, none⟩ (.int .i64 qx)).setCell ⟨P + 1, 1, none⟩ (.int .i64 qy)).heap.size := by simpa using pz
  replace HB : Hid (Below P w ((W4.setCell ⟨P + 1, 0, none⟩ (.int .i64 qx)).setCell ⟨P + 1, 1, none⟩ (.int .i64 qy))) := (HB.out.setCell (by simp) _).setCell (by simp) _
  generalize ((W4.setCell ⟨P + 1, 0, none⟩ (.int .i64 qx)).setCell ⟨P + 1, 1, none⟩ (.int .i64 qy)) = W6 at *
  refine hK.out _ _ ?_
  clear hK K
  try simp only [Act.put, List.setIfInBounds_toArray, List.set_cons_zero, List.set_cons_succ]
  refine rest_done (by kernel_rfl) ?_
  clear HA HP
  go_upto_region 3 with fail
  rw [hn2]
  clear hn2
  go_wp2_with fail
  refine (HSA.out _).mono ?_
  rintro e u3 ⟨rfl, hb⟩
  replace a0 := (hb.cell (p := ⟨P, 0, none⟩) az).trans a0
  replace af0 := (hb.frozen (p := ⟨P, 0, none⟩) az).trans af0
  replace a1 := (hb.cell (p := ⟨P, 1, none⟩) az).trans a1
  replace af1 := (hb.frozen (p := ⟨P, 1, none⟩) az).trans af1
  replace az := Nat.lt_of_lt_of_le az hb.size
  replace p0 := (hb.cell (p := ⟨P + 1, 0, none⟩) pz).trans p0
  replace pf0 := (hb.frozen (p := ⟨P + 1, 0, none⟩) pz).trans pf0
  replace p1 := (hb.cell (p := ⟨P + 1, 1, none⟩) pz).trans p1
  replace pf1 := (hb.frozen (p := ⟨P + 1, 1, none⟩) pz).trans pf1
  replace pz := Nat.lt_of_lt_of_le pz hb.size
  replace HB := Lib.hid (HB.out.trans (hb.mono (by have := HB.out.size; omega)))
  clear hb
  go_upto_region 4 with fail
  have hb1 : Below u3.heap.size u3 (u3.alloc (.cells #[.int .i64 2, .complex .f64 fbx fby, .float .f64 fnn] 54)) := (Below.refl _ _).alloc (Nat.le_refl _) _
  have RD0 : Hid (RowAt cellsZ 3 (u3.alloc (.cells #[.int .i64 2, .complex .f64 fbx fby, .float .f64 fnn] 54)) (u3.heap.size + 1) (some ⟨u3.heap.size, 0, none⟩) 1 [⟨2, fbx, fby, fnn⟩]) := one_row rowZ (heap_alloc_new u3 _)
  replace a0 := (hb1.cell (p := ⟨P, 0, none⟩) az).trans a0
  replace af0 := (hb1.frozen (p := ⟨P, 0, none⟩) az).trans af0
  replace a1 := (hb1.cell (p := ⟨P, 1, none⟩) az).trans a1
  replace af1 := (hb1.frozen (p := ⟨P, 1, none⟩) az).trans af1
  replace az := Nat.lt_of_lt_of_le az hb1.size
  replace p0 := (hb1.cell (p := ⟨P + 1, 0, none⟩) pz).trans p0
  replace pf0 := (hb1.frozen (p := ⟨P + 1, 0, none⟩) pz).trans pf0
  replace p1 := (hb1.cell (p := ⟨P + 1, 1, none⟩) pz).trans p1
  replace pf1 := (hb1.frozen (p := ⟨P + 1, 1, none⟩) pz).trans pf1
  replace pz := Nat.lt_of_lt_of_le pz hb1.size
  replace HB := Lib.hid (HB.out.trans (hb1.mono (by have := HB.out.size; omega)))
  have RD : Hid (RowAt cellsZ 3 (u3.alloc (.cells #[.int .i64 2, .complex .f64 fbx fby, .float .f64 fnn] 54)) (u3.alloc (.cells #[.int .i64 2, .complex .f64 fbx fby, .float .f64 fnn] 54)).heap.size (some ⟨u3.heap.size, 0, none⟩) 1 [⟨2, fbx, fby, fnn⟩]) := RD0.out.more (by simp)
  clear hb1 RD0
  generalize (u3.alloc (.cells #[.int .i64 2, .complex .f64 fbx fby, .float .f64 fnn] 54)) = u3w at *
  generalize u3.heap.size = GRD at *
  go_wp2_with fail
  refine (HSA.out _).mono ?_
  rintro e u4 ⟨rfl, hb⟩
  replace RD := Lib.hid ((RD.out.keep hb).more hb.size)
  replace a0 := (hb.cell (p := ⟨P, 0, none⟩) az).trans a0
  replace af0 := (hb.frozen (p := ⟨P, 0, none⟩) az).trans af0
  replace a1 := (hb.cell (p := ⟨P, 1, none⟩) az).trans a1
  replace af1 := (hb.frozen (p := ⟨P, 1, none⟩) az).trans af1
  replace az := Nat.lt_of_lt_of_le az hb.size
  replace p0 := (hb.cell (p := ⟨P + 1, 0, none⟩) pz).trans p0
  replace pf0 := (hb.frozen (p := ⟨P + 1, 0, none⟩) pz).trans pf0
  replace p1 := (hb.cell (p := ⟨P + 1, 1, none⟩) pz).trans p1
  replace pf1 := (hb.frozen (p := ⟨P + 1, 1, none⟩) pz).trans pf1
  replace pz := Nat.lt_of_lt_of_le pz hb.size
  replace HB := Lib.hid (HB.out.trans (hb.mono (by have := HB.out.size; omega)))
  clear hb
  go_upto_region 5 with fail
  have hb1 : Below u4.heap.size u4 (u4.alloc (.cells #[.int .i64 3, .complex .f64 fbx fby, .float .f64 fnn] 54)) := (Below.refl _ _).alloc (Nat.le_refl _) _
  have RH0 : Hid (RowAt cellsZ 3 (u4.alloc (.cells #[.int .i64 3, .complex .f64 fbx fby, .float .f64 fnn] 54)) (u4.heap.size + 1) (some ⟨u4.heap.size, 0, none⟩) 1 [⟨3, fbx, fby, fnn⟩]) := one_row rowZ (heap_alloc_new u4 _)
  replace RD := Lib.hid ((RD.out.keep hb1).more hb1.size)
  replace a0 := (hb1.cell (p := ⟨P, 0, none⟩) az).trans a0
  replace af0 := (hb1.frozen (p := ⟨P, 0, none⟩) az).trans af0
  replace a1 := (hb1.cell (p := ⟨P, 1, none⟩) az).trans a1
  replace af1 := (hb1.frozen (p := ⟨P, 1, none⟩) az).trans af1
  replace az := Nat.lt_of_lt_of_le az hb1.size
  replace p0 := (hb1.cell (p := ⟨P + 1, 0, none⟩) pz).trans p0
  replace pf0 := (hb1.frozen (p := ⟨P + 1, 0, none⟩) pz).trans pf0
  replace p1 := (hb1.cell (p := ⟨P + 1, 1, none⟩) pz).trans p1
  replace pf1 := (hb1.frozen (p := ⟨P + 1, 1, none⟩) pz).trans pf1
  replace pz := Nat.lt_of_lt_of_le pz hb1.size
  replace HB := Lib.hid (HB.out.trans (hb1.mono (by have := HB.out.size; omega)))
  have RH : Hid (RowAt cellsZ 3 (u4.alloc (.cells #[.int .i64 3, .complex .f64 fbx fby, .float .f64 fnn] 54)) (u4.alloc (.cells #[.int .i64 3, .complex .f64 fbx fby, .float .f64 fnn] 54)).heap.size (some ⟨u4.heap.size, 0, none⟩) 1 [⟨3, fbx, fby, fnn⟩]) := RH0.out.more (by simp)
  clear hb1 RH0
  generalize (u4.alloc (.cells #[.int .i64 3, .complex .f64 fbx fby, .float .f64 fnn] 54)) = u4w at *
  generalize u4.heap.size = GRH at *
  go_wp2_with fail
  refine (HSA.out _).mono ?_
  rintro e u5 ⟨rfl, hb⟩
  replace RD := Lib.hid ((RD.out.keep hb).more hb.size)
  replace RH := Lib.hid ((RH.out.keep hb).more hb.size)
  replace a0 := (hb.cell (p := ⟨P, 0, none⟩) az).trans a0
  replace af0 := (hb.frozen (p := ⟨P, 0, none⟩) az).trans af0
  replace a1 := (hb.cell (p := ⟨P, 1, none⟩) az).trans a1
  replace af1 := (hb.frozen (p := ⟨P, 1, none⟩) az).trans af1
  replace az := Nat.lt_of_lt_of_le az hb.size
  replace p0 := (hb.cell (p := ⟨P + 1, 0, none⟩) pz).trans p0
  replace pf0 := (hb.frozen (p := ⟨P + 1, 0, none⟩) pz).trans pf0
  replace p1 := (hb.cell (p := ⟨P + 1, 1, none⟩) pz).trans p1
  replace pf1 := (hb.frozen (p := ⟨P + 1, 1, none⟩) pz).trans pf1
  replace pz := Nat.lt_of_lt_of_le pz hb.size
  replace HB := Lib.hid (HB.out.trans (hb.mono (by have := HB.out.size; omega)))
  clear hb
  go_upto_region 6 with fail
  have hb1 : Below u5.heap.size u5 (u5.alloc (.cells #[.int .i64 3, .complex .f64 (Op.negFloat .f64 fbx) (Op.negFloat .f64 fby), .float .f64 fnm] 54)) := (Below.refl _ _).alloc (Nat.le_refl _) _
  have RO0 : Hid (RowAt cellsZ 3 (u5.alloc (.cells #[.int .i64 3, .complex .f64 (Op.negFloat .f64 fbx) (Op.negFloat .f64 fby), .float .f64 fnm] 54)) (u5.heap.size + 1) (some ⟨u5.heap.size, 0, none⟩) 1 [⟨3, Op.negFloat .f64 fbx, Op.negFloat .f64 fby, fnm⟩]) := one_row rowZ (heap_alloc_new u5 _)
  replace RD := Lib.hid ((RD.out.keep hb1).more hb1.size)
  replace RH := Lib.hid ((RH.out.keep hb1).more hb1.size)
  replace a0 := (hb1.cell (p := ⟨P, 0, none⟩) az).trans a0
  replace af0 := (hb1.frozen (p := ⟨P, 0, none⟩) az).trans af0
  replace a1 := (hb1.cell (p := ⟨P, 1, none⟩) az).trans a1
  replace af1 := (hb1.frozen (p := ⟨P, 1, none⟩) az).trans af1
  replace az := Nat.lt_of_lt_of_le az hb1.size
  replace p0 := (hb1.cell (p := ⟨P + 1, 0, none⟩) pz).trans p0
  replace pf0 := (hb1.frozen (p := ⟨P + 1, 0, none⟩) pz).trans pf0
  replace p1 := (hb1.cell (p := ⟨P + 1, 1, none⟩) pz).trans p1
  replace pf1 := (hb1.frozen (p := ⟨P + 1, 1, none⟩) pz).trans pf1
  replace pz := Nat.lt_of_lt_of_le pz hb1.size
  replace HB := Lib.hid (HB.out.trans (hb1.mono (by have := HB.out.size; omega)))
  have RO : Hid (RowAt cellsZ 3 (u5.alloc (.cells #[.int .i64 3, .complex .f64 (Op.negFloat .f64 fbx) (Op.negFloat .f64 fby), .float .f64 fnm] 54)) (u5.alloc (.cells #[.int .i64 3, .complex .f64 (Op.negFloat .f64 fbx) (Op.negFloat .f64 fby), .float .f64 fnm] 54)).heap.size (some ⟨u5.heap.size, 0, none⟩) 1 [⟨3, Op.negFloat .f64 fbx, Op.negFloat .f64 fby, fnm⟩]) := RO0.out.more (by simp)
  clear hb1 RO0
  generalize (u5.alloc (.cells #[.int .i64 3, .complex .f64 (Op.negFloat .f64 fbx) (Op.negFloat .f64 fby), .float .f64 fnm] 54)) = u5w at *
  generalize u5.heap.size = GRO at *
  go_upto_region 7 with fail
  go_wp2_with fail
  refine (HSQ.out _).mono ?_
  rintro e u7 ⟨rfl, hb⟩
  replace RD := Lib.hid ((RD.out.keep hb).more hb.size)
  replace RH := Lib.hid ((RH.out.keep hb).more hb.size)
  replace RO := Lib.hid ((RO.out.keep hb).more hb.size)
  replace a0 := (hb.cell (p := ⟨P, 0, none⟩) az).trans a0
  replace af0 := (hb.frozen (p := ⟨P, 0, none⟩) az).trans af0
  replace a1 := (hb.cell (p := ⟨P, 1, none⟩) az).trans a1
  replace af1 := (hb.frozen (p := ⟨P, 1, none⟩) az).trans af1
  replace az := Nat.lt_of_lt_of_le az hb.size
  replace p0 := (hb.cell (p := ⟨P + 1, 0, none⟩) pz).trans p0
  replace pf0 := (hb.frozen (p := ⟨P + 1, 0, none⟩) pz).trans pf0
  replace p1 := (hb.cell (p := ⟨P + 1, 1, none⟩) pz).trans p1
  replace pf1 := (hb.frozen (p := ⟨P + 1, 1, none⟩) pz).trans pf1
  replace pz := Nat.lt_of_lt_of_le pz hb.size
  replace HB := Lib.hid (HB.out.trans (hb.mono (by have := HB.out.size; omega)))
  clear hb
  go_upto_region 9 with fail
  generalize bx * qx + by1 * qy = dot at *
  generalize (qx - bx) * (qx - bx) + (qy - by1) * (qy - by1) = far at *
  clear a0 a1 af0 af1 az p0 p1 pf0 pf1 pz
  go_wp2_with fail
  refine (told_any _ (HG.out.keep HB.out (by rw [← hPP]; exact HG.out.big))).mono ?_
  rintro e v0 ⟨rfl, hb⟩
  replace RD := Lib.hid ((RD.out.keep hb).more hb.size)
  replace RH := Lib.hid ((RH.out.keep hb).more hb.size)
  replace RO := Lib.hid ((RO.out.keep hb).more hb.size)
  replace HB := Lib.hid (HB.out.trans (hb.mono (by have := HB.out.size; omega)))
  clear hb
  have C1 := Lib.hid (has_any (some ⟨GRD, 0, none⟩) 1 1 [⟨2, fbx, fby, fnn⟩] [⟨2, bx, by1, nn⟩] fqx fqy qx qy HQX.out HQY.out hq53.1 hq53.2 _ _ (Nat.le_refl _) RD.out LD.out)
  rw [HD.out] at C1
  go_wp2_with fail
  refine (C1.out).mono ?_
  rintro e v1 ⟨rfl, hb⟩
  replace RD := Lib.hid ((RD.out.keep hb).more hb.size)
  replace RH := Lib.hid ((RH.out.keep hb).more hb.size)
  replace RO := Lib.hid ((RO.out.keep hb).more hb.size)
  replace HB := Lib.hid (HB.out.trans (hb.mono (by have := HB.out.size; omega)))
  clear hb
  clear C1
  have C2 := Lib.hid (has_any (some ⟨GRH, 0, none⟩) 1 1 [⟨3, fbx, fby, fnn⟩] [⟨3, bx, by1, nn⟩] fqx fqy qx qy HQX.out HQY.out hq53.1 hq53.2 _ _ (Nat.le_refl _) RH.out LH.out)
  rw [HH.out] at C2
  go_wp2_with fail
  refine (C2.out).mono ?_
  rintro e v2 ⟨rfl, hb⟩
  replace RD := Lib.hid ((RD.out.keep hb).more hb.size)
  replace RH := Lib.hid ((RH.out.keep hb).more hb.size)
  replace RO := Lib.hid ((RO.out.keep hb).more hb.size)
  replace HB := Lib.hid (HB.out.trans (hb.mono (by have := HB.out.size; omega)))
  clear hb
  clear C2
  go_upto_region 11 with fail
  have HB9 : Hid (∀ u, Below P w u → Below w.heap.size w u) := fun u h => by rw [hPP]; exact h
  rcases Int.lt_trichotomy dot nn with hlt | heq | hgt
  · have d1 : decide (nn ≤ dot) = false := by simp; omega
    have d2 : decide (dot ≤ nn) = true := by simp; omega
    have d3 : (dot == nn) = false := by simp; omega
    rw [d1] at HH
    rw [d2] at HO
    have C3 := Lib.hid (has_any (some ⟨GRH, 0, none⟩) 1 1 [⟨3, fbx, fby, fnn⟩] [⟨3, bx, by1, nn⟩] fqx fqy qx qy HQX.out HQY.out hq53.1 hq53.2 _ _ (Nat.le_refl _) RH.out LH.out)
    rw [HH.out] at C3
    go_wp2_with fail
    refine (C3.out).mono ?_
    rintro e v3 ⟨rfl, hb⟩
    replace RD := Lib.hid ((RD.out.keep hb).more hb.size)
    replace RH := Lib.hid ((RH.out.keep hb).more hb.size)
    replace RO := Lib.hid ((RO.out.keep hb).more hb.size)
    replace HB := Lib.hid (HB.out.trans (hb.mono (by have := HB.out.size; omega)))
    clear hb
    clear C3
    have C4 := Lib.hid (has_any (some ⟨GRO, 0, none⟩) 1 1 [⟨3, Op.negFloat .f64 fbx, Op.negFloat .f64 fby, fnm⟩] [⟨3, -bx, -by1, -nn⟩] fqx fqy qx qy HQX.out HQY.out hq53.1 hq53.2 _ _ (Nat.le_refl _) RO.out LO.out)
    rw [HO.out] at C4
    go_wp2_with fail
    refine (C4.out).mono ?_
    rintro e v4 ⟨rfl, hb⟩
    replace RD := Lib.hid ((RD.out.keep hb).more hb.size)
    replace RH := Lib.hid ((RH.out.keep hb).more hb.size)
    replace RO := Lib.hid ((RO.out.keep hb).more hb.size)
    replace HB := Lib.hid (HB.out.trans (hb.mono (by have := HB.out.size; omega)))
    clear hb
    clear C4
    have C5 := Lib.hid (has_any (some ⟨GRH, 0, none⟩) 1 1 [⟨3, fbx, fby, fnn⟩] [⟨3, bx, by1, nn⟩] fqx fqy qx qy HQX.out HQY.out hq53.1 hq53.2 _ _ (Nat.le_refl _) RH.out LH.out)
    rw [HH.out] at C5
    go_wp2_with fail
    refine (C5.out).mono ?_
    rintro e v5 ⟨rfl, hb⟩
    replace RD := Lib.hid ((RD.out.keep hb).more hb.size)
    replace RH := Lib.hid ((RH.out.keep hb).more hb.size)
    replace RO := Lib.hid ((RO.out.keep hb).more hb.size)
    replace HB := Lib.hid (HB.out.trans (hb.mono (by have := HB.out.size; omega)))
    clear hb
    clear C5
    go_wp2
    go_ret
    exact ⟨rfl, HB9.out _ HB.out⟩
  · have d1 : decide (nn ≤ dot) = true := by simp; omega
    have d2 : decide (dot ≤ nn) = true := by simp; omega
    have d3 : (dot == nn) = true := by simp; omega
    rw [d1] at HH
    rw [d2] at HO
    have C3 := Lib.hid (has_any (some ⟨GRH, 0, none⟩) 1 1 [⟨3, fbx, fby, fnn⟩] [⟨3, bx, by1, nn⟩] fqx fqy qx qy HQX.out HQY.out hq53.1 hq53.2 _ _ (Nat.le_refl _) RH.out LH.out)
    rw [HH.out] at C3
    go_wp2_with fail
    refine (C3.out).mono ?_
    rintro e v3 ⟨rfl, hb⟩
    replace RD := Lib.hid ((RD.out.keep hb).more hb.size)
    replace RH := Lib.hid ((RH.out.keep hb).more hb.size)
    replace RO := Lib.hid ((RO.out.keep hb).more hb.size)
    replace HB := Lib.hid (HB.out.trans (hb.mono (by have := HB.out.size; omega)))
    clear hb
    clear C3
    have C4 := Lib.hid (has_any (some ⟨GRH, 0, none⟩) 1 1 [⟨3, fbx, fby, fnn⟩] [⟨3, bx, by1, nn⟩] fqx fqy qx qy HQX.out HQY.out hq53.1 hq53.2 _ _ (Nat.le_refl _) RH.out LH.out)
    rw [HH.out] at C4
    go_wp2_with fail
    refine (C4.out).mono ?_
    rintro e v4 ⟨rfl, hb⟩
    replace RD := Lib.hid ((RD.out.keep hb).more hb.size)
    replace RH := Lib.hid ((RH.out.keep hb).more hb.size)
    replace RO := Lib.hid ((RO.out.keep hb).more hb.size)
    replace HB := Lib.hid (HB.out.trans (hb.mono (by have := HB.out.size; omega)))
    clear hb
    clear C4
    have C5 := Lib.hid (has_any (some ⟨GRO, 0, none⟩) 1 1 [⟨3, Op.negFloat .f64 fbx, Op.negFloat .f64 fby, fnm⟩] [⟨3, -bx, -by1, -nn⟩] fqx fqy qx qy HQX.out HQY.out hq53.1 hq53.2 _ _ (Nat.le_refl _) RO.out LO.out)
    rw [HO.out] at C5
    go_wp2_with fail
    refine (C5.out).mono ?_
    rintro e v5 ⟨rfl, hb⟩
    replace RD := Lib.hid ((RD.out.keep hb).more hb.size)
    replace RH := Lib.hid ((RH.out.keep hb).more hb.size)
    replace RO := Lib.hid ((RO.out.keep hb).more hb.size)
    replace HB := Lib.hid (HB.out.trans (hb.mono (by have := HB.out.size; omega)))
    clear hb
    clear C5
    go_wp2
    go_ret
    exact ⟨rfl, HB9.out _ HB.out⟩
  · have d1 : decide (nn ≤ dot) = true := by simp; omega
    have d2 : decide (dot ≤ nn) = false := by simp; omega
    have d3 : (dot == nn) = false := by simp; omega
    rw [d1] at HH
    rw [d2] at HO
    have C3 := Lib.hid (has_any (some ⟨GRH, 0, none⟩) 1 1 [⟨3, fbx, fby, fnn⟩] [⟨3, bx, by1, nn⟩] fqx fqy qx qy HQX.out HQY.out hq53.1 hq53.2 _ _ (Nat.le_refl _) RH.out LH.out)
    rw [HH.out] at C3
    go_wp2_with fail
    refine (C3.out).mono ?_
    rintro e v3 ⟨rfl, hb⟩
    replace RD := Lib.hid ((RD.out.keep hb).more hb.size)
    replace RH := Lib.hid ((RH.out.keep hb).more hb.size)
    replace RO := Lib.hid ((RO.out.keep hb).more hb.size)
    replace HB := Lib.hid (HB.out.trans (hb.mono (by have := HB.out.size; omega)))
    clear hb
    clear C3
    have C4 := Lib.hid (has_any (some ⟨GRH, 0, none⟩) 1 1 [⟨3, fbx, fby, fnn⟩] [⟨3, bx, by1, nn⟩] fqx fqy qx qy HQX.out HQY.out hq53.1 hq53.2 _ _ (Nat.le_refl _) RH.out LH.out)
    rw [HH.out] at C4
    go_wp2_with fail
    refine (C4.out).mono ?_
    rintro e v4 ⟨rfl, hb⟩
    replace RD := Lib.hid ((RD.out.keep hb).more hb.size)
    replace RH := Lib.hid ((RH.out.keep hb).more hb.size)
    replace RO := Lib.hid ((RO.out.keep hb).more hb.size)
    replace HB := Lib.hid (HB.out.trans (hb.mono (by have := HB.out.size; omega)))
    clear hb
    clear C4
    have C5 := Lib.hid (has_any (some ⟨GRO, 0, none⟩) 1 1 [⟨3, Op.negFloat .f64 fbx, Op.negFloat .f64 fby, fnm⟩] [⟨3, -bx, -by1, -nn⟩] fqx fqy qx qy HQX.out HQY.out hq53.1 hq53.2 _ _ (Nat.le_refl _) RO.out LO.out)
    rw [HO.out] at C5
    go_wp2_with fail
    refine (C5.out).mono ?_
    rintro e v5 ⟨rfl, hb⟩
    replace RD := Lib.hid ((RD.out.keep hb).more hb.size)
    replace RH := Lib.hid ((RH.out.keep hb).more hb.size)
    replace RO := Lib.hid ((RO.out.keep hb).more hb.size)
    replace HB := Lib.hid (HB.out.trans (hb.mono (by have := HB.out.size; omega)))
    clear hb
    clear C5
    go_wp2
    go_ret
    exact ⟨rfl, HB9.out _ HB.out⟩
end Go.Proofs.YtkklikkmpmlnbaaDoor
