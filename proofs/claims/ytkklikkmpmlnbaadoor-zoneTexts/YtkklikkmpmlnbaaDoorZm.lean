/- What the law lays, and takes back; the document's Spot. -/
import Derived.Test.YtkklikkmpmlnbaaDoorZi
import Derived.Test.YtkklikkmpmlnbaaDoorZk
namespace Go.Proofs.YtkklikkmpmlnbaaDoor
open Go.RowKit

theorem below_drewz {B : Nat} {a w : World} (h : Below B a w) : Below B a w.drew := ⟨h.os, h.tape, h.output, h.size, h.block⟩
def toS (r : RSt) : Stp := ⟨r.op, fl r.x, fl r.y, fl r.sz⟩
def Fits64 (r : RSt) : Prop := r.x.natAbs < 2 ^ 64 ∧ r.y.natAbs < 2 ^ 64 ∧ r.sz.natAbs < 2 ^ 64
theorem to_like {rs : List RSt} (h : ∀ r ∈ rs, Fits64 r) : LikeL (rs.map toS) rs := by
  refine ⟨List.length_map _, fun k z r hz hr => ?_⟩
  rw [List.getElem?_map, hr] at hz
  simp only [Option.map_some, Option.some.injEq] at hz
  subst hz
  obtain ⟨h1, h2, h3⟩ := h r (List.mem_of_getElem? hr)
  exact ⟨rfl, numB_fl _ h1, numB_fl _ h2, numB_fl _ h3⟩
set_option maxRecDepth 100000 in
set_option maxHeartbeats 1000000 in
theorem lawSpot_any (x y : Int) (w : World) : Calls Tryd.prog 24 #[.agg #[.int .i64 x, .int .i64 y]] w fun e w' => e = .returned (.complex .f64 (fl x) (fl y)) ∧ Below w.heap.size w w' := by
  have hc : ∀ (n : Int) w, (convert 3 47 (.int .i64 n)).run Tryd.prog w = .ok (.float .f64 (fl n)) w := fun n w => run_convert_int_float w 3 47 .i64 .f64 n (by kernel_rfl) Tryd.underlying47
  generalize fl = g at *
  go_enter Tryd.func24, Tryd.ntmps24
  go_wp2
  go_ret
  exact ⟨rfl, (Below.refl _ _).alloc (Nat.le_refl _) _⟩
set_option maxRecDepth 100000 in
set_option maxHeartbeats 1000000 in
theorem lawPlace_any (a b : Nat) (x y : Int) (h1 : Num a x) (h2 : Num b y) (hx : x.natAbs < 2 ^ 53) (hy : y.natAbs < 2 ^ 53) (w : World) : Calls Tryd.prog 40 #[.complex .f64 a b] w fun e w' => e = .returned (.agg #[.int .i64 x, .int .i64 y]) ∧ Below w.heap.size w w' := by
  have hc1 := fun w => run_convert_float_int (P := Tryd.prog) w 47 3 .f64 .i64 a x (by kernel_rfl) Tryd.underlying3 (num_int h1 hx)
  have hc2 := fun w => run_convert_float_int (P := Tryd.prog) w 47 3 .f64 .i64 b y (by kernel_rfl) Tryd.underlying3 (num_int h2 hy)
  clear h1 h2
  go_enter Tryd.func40, Tryd.ntmps40
  go_wp2
  refine bodyPost_ret (v := .agg #[.int .i64 x, .int .i64 y]) ?_ rfl ?_
  · simp [results, Tryd.results40, go_sem]
  · exact ⟨rfl, (Below.refl _ _).alloc (Nat.le_refl _) _⟩
/-- A part of a place that may be, out of any number. -/
def spotF (n : Int) : Int := n % 18446744073709551616 % 2001 - 1000
theorem spot_wrap (n : Int) : wrap64 (wrap64 ((IntKind.u64.wrap n).tmod 2001) - 1000) = spotF n := by
  have h0 : IntKind.u64.wrap n = n % 18446744073709551616 := rfl
  unfold spotF
  rw [h0, Int.tmod_eq_emod_of_nonneg (by omega)]
  rw [IntWalk.wrap64_in (_ % 2001) (by omega), IntWalk.wrap64_in _ (by omega)]
theorem spotF_in (n : Int) : -1000 ≤ spotF n ∧ spotF n ≤ 1000 := by unfold spotF; omega
set_option maxRecDepth 100000 in
set_option maxHeartbeats 1000000 in
theorem refSpot_any (x y : Int) (w : World) : Calls Tryd.prog 22 #[.agg #[.int .i64 x, .int .i64 y]] w fun e w' => e = .returned (.agg #[.int .i64 (spotF x), .int .i64 (spotF y)]) ∧ Below w.heap.size w w' := by
  have h2 : ∀ n : Int, wrap64 (wrap64 ((IntKind.u64.wrap n).tmod 2001) - 1000) = spotF n := spot_wrap
  go_enter Tryd.func22, Tryd.ntmps22
  go_wp2
  simp only [h2]
  refine bodyPost_ret (v := .agg #[.int .i64 (spotF x), .int .i64 (spotF y)]) ?_ rfl ?_
  · simp [results, Tryd.results22, go_sem]
  · exact ⟨rfl, ((Below.refl _ _).alloc (Nat.le_refl _) _).alloc (by simp) _⟩
/-- A copy, half way. -/
def CopyZ {α : Type} (cf : α → List Value) (d : Nat) (e : TypeId) (w : World) (zs : List α) (k : Nat) (Av : Option Addr) (cv : Nat) (wr : World) : Prop :=
  wr.ownsRow w.heap.size e d (.slice Av k cv) k (rowCells cf (zs.take k)) ∧ Below w.heap.size w wr
set_option maxRecDepth 100000 in
set_option maxHeartbeats 4000000 in
theorem to_any (A : Option Addr) (n c : Nat) (rs : List RSt) (B : Nat) (w : World) (hB : B ≤ w.heap.size) (hz : RowAt cellsR 4 w B A n rs) (hn : n ≤ 1073741824) :
    Calls Tryd.prog 12 #[.slice A n c] w (OwnRow cellsZ 3 54 (rs.map toS) w) := by
  have HL : Hid ((rs.map toS).length = n) := by show _ = _; rw [List.length_map]; exact hz.1
  have HZ := Lib.hid hz
  have hc : ∀ (n : Int) w, (convert 3 47 (.int .i64 n)).run Tryd.prog w = .ok (.float .f64 (fl n)) w := fun n w => run_convert_int_float w 3 47 .i64 .f64 n (by kernel_rfl) Tryd.underlying47
  clear hz
  go_enter Tryd.func12, Tryd.ntmps12
  go_wp2
  go_loopw [3, 4] (fun v i wr => ∃ (k : Nat) (Av : Option Addr) (cv : Nat), k ≤ n ∧ i = .int .i64 k ∧ v = .slice Av k cv ∧ Hid (CopyZ cellsZ 3 54 w (rs.map toS) k Av cv wr)) (fun _ i _ => n - (intOf i).toNat)
  case atStart => exact ⟨0, none, 0, by omega, rfl, rfl, rown_nil _ _, Below.refl _ _⟩
  case round =>
    obtain ⟨k, Av, cv, hk, rfl, rfl, HC⟩ := hrel
    obtain ⟨hown, hbel⟩ := HC.out
    have HO := Lib.hid hown
    have HB := Lib.hid hbel
    clear hown hbel HC
    by_cases hlt : k < n
    · obtain ⟨blk, off, rfl, hbB, r, hrk, hcell⟩ := HZ.out.get hlt
      obtain ⟨e0, e1, e2, e3⟩ := cellsR_at hcell
      replace e0 := ((HB.out.mono hB).cell (p := ⟨blk, off + k * 4, none⟩) hbB).trans e0
      replace e1 := ((HB.out.mono hB).cell (p := ⟨blk, off + k * 4 + 1, none⟩) hbB).trans e1
      replace e2 := ((HB.out.mono hB).cell (p := ⟨blk, off + k * 4 + 2, none⟩) hbB).trans e2
      replace e3 := ((HB.out.mono hB).cell (p := ⟨blk, off + k * 4 + 3, none⟩) hbB).trans e3
      have hi1 : (k : Int) < n := by omega
      have hbl : blk < wr.heap.size := by have := HB.out.size; omega
      have HTS : Hid ((rs.map toS).take (k + 1) = (rs.map toS).take k ++ [toS r]) := snocR (by rw [List.getElem?_map, hrk]; rfl)
      obtain ⟨op, x, y, z⟩ := r
      have HSP := Lib.hid (lawSpot_any x y)
      have HZZ : Hid (toS ⟨op, x, y, z⟩ = ⟨op, fl x, fl y, fl z⟩) := rfl
      simp only at e0 e1 e2 e3
      have hcz := hc z
      generalize toS ⟨op, x, y, z⟩ = zz at *
      generalize fl x = fx at *
      generalize fl y = fy at *
      generalize fl z = fz at *
      clear hcell hrk hc
      go_upto_region 5 with fail
      refine wp_region_held_drew (S := fun w' => w'.cell? ⟨blk, off + k * 4, none⟩ = some (.int .i64 op) ∧ w'.cell? ⟨blk, off + k * 4 + 1, none⟩ = some (.int .i64 x) ∧ w'.cell? ⟨blk, off + k * 4 + 2, none⟩ = some (.int .i64 y) ∧ w'.cell? ⟨blk, off + k * 4 + 3, none⟩ = some (.int .i64 z)) (by kernel_rfl) ⟨e0, e1, e2, e3⟩ (fun hHeld => ?_)
      refine wpAnyH_take (i := 0) (oi := { dst := some 11, op := Go.Op.move (Go.Operand.tmp 3), type := 26, pos := "law.go:19", after := #[], guard := none }) (v := ?_) rfl (by kernel_rfl) (by kernel_rfl) (by kernel_rfl) (fun _ _ _ h => h) (Or.inl ⟨rfl, ?_⟩) (by assumption) ?_
      rotate_left
      · intro wz hSw; (try dsimp only at hSw); go_simp; try (with_reducible rfl)
      try simp only [Act.put, List.setIfInBounds_toArray, List.set_cons_zero, List.set_cons_succ]
      refine wpAnyH_take (i := 1) (oi := { dst := some 12, op := Go.Op.move (Go.Operand.tmp 0), type := 22, pos := "law.go:19", after := #[], guard := none }) (v := ?_) rfl (by kernel_rfl) (by kernel_rfl) (by kernel_rfl) (fun _ _ _ h => h) (Or.inl ⟨rfl, ?_⟩) (by assumption) ?_
      rotate_left
      · intro wz hSw; (try dsimp only at hSw); go_simp; try (with_reducible rfl)
      try simp only [Act.put, List.setIfInBounds_toArray, List.set_cons_zero, List.set_cons_succ]
      refine wpAnyH_take (i := 2) (oi := { dst := some 13, op := Go.Op.move (Go.Operand.tmp 4), type := 3, pos := "law.go:19", after := #[], guard := none }) (v := ?_) rfl (by kernel_rfl) (by kernel_rfl) (by kernel_rfl) (fun _ _ _ h => h) (Or.inl ⟨rfl, ?_⟩) (by assumption) ?_
      rotate_left
      · intro wz hSw; (try dsimp only at hSw); go_simp; try (with_reducible rfl)
      try simp only [Act.put, List.setIfInBounds_toArray, List.set_cons_zero, List.set_cons_succ]
      refine wpAnyH_take (i := 3) (oi := { dst := some 14, op := Go.Op.indexAddr 22 (Go.Operand.tmp 12) (Go.Operand.tmp 13), type := 0, pos := "law.go:19", after := #[{ on := 1, ground := Go.Ground.data }, { on := 2, ground := Go.Ground.data }], guard := none }) (v := ?_) rfl (by kernel_rfl) (by kernel_rfl) (by kernel_rfl) (fun _ _ _ h => h) (Or.inl ⟨rfl, ?_⟩) (by assumption) ?_
      rotate_left
      · intro wz hSw; (try dsimp only at hSw); go_simp; try (with_reducible rfl)
      try simp only [Act.put, List.setIfInBounds_toArray, List.set_cons_zero, List.set_cons_succ]
      refine wpAnyH_take (i := 4) (oi := { dst := some 15, op := Go.Op.fieldAddr 59 (Go.Operand.tmp 14) 0, type := 0, pos := "law.go:19", after := #[{ on := 3, ground := Go.Ground.data }], guard := none }) (v := ?_) rfl (by kernel_rfl) (by kernel_rfl) (by kernel_rfl) (fun _ _ _ h => h) (Or.inl ⟨rfl, ?_⟩) (by assumption) ?_
      rotate_left
      · intro wz hSw; (try dsimp only at hSw); go_simp; try (with_reducible rfl)
      try simp only [Act.put, List.setIfInBounds_toArray, List.set_cons_zero, List.set_cons_succ]
      refine wpAnyH_take (i := 5) (oi := { dst := some 16, op := Go.Op.load 3 (Go.Operand.tmp 15), type := 3, pos := "law.go:19", after := #[{ on := 4, ground := Go.Ground.data }], guard := none }) (v := ?_) rfl (by kernel_rfl) (by kernel_rfl) (by kernel_rfl) (fun _ _ _ h => h) (Or.inl ⟨rfl, ?_⟩) (by assumption) ?_
      rotate_left
      · intro wz hSw; (try dsimp only at hSw); go_simp; try (with_reducible rfl)
      try simp only [Act.put, List.setIfInBounds_toArray, List.set_cons_zero, List.set_cons_succ]
      refine wpAnyH_take (i := 6) (oi := { dst := some 17, op := Go.Op.move (Go.Operand.tmp 0), type := 22, pos := "law.go:19", after := #[], guard := none }) (v := ?_) rfl (by kernel_rfl) (by kernel_rfl) (by kernel_rfl) (fun _ _ _ h => h) (Or.inl ⟨rfl, ?_⟩) (by assumption) ?_
      rotate_left
      · intro wz hSw; (try dsimp only at hSw); go_simp; try (with_reducible rfl)
      try simp only [Act.put, List.setIfInBounds_toArray, List.set_cons_zero, List.set_cons_succ]
      refine wpAnyH_take (i := 7) (oi := { dst := some 18, op := Go.Op.move (Go.Operand.tmp 4), type := 3, pos := "law.go:19", after := #[], guard := none }) (v := ?_) rfl (by kernel_rfl) (by kernel_rfl) (by kernel_rfl) (fun _ _ _ h => h) (Or.inl ⟨rfl, ?_⟩) (by assumption) ?_
      rotate_left
      · intro wz hSw; (try dsimp only at hSw); go_simp; try (with_reducible rfl)
      try simp only [Act.put, List.setIfInBounds_toArray, List.set_cons_zero, List.set_cons_succ]
      refine wpAnyH_take (i := 8) (oi := { dst := some 19, op := Go.Op.indexAddr 22 (Go.Operand.tmp 17) (Go.Operand.tmp 18), type := 0, pos := "law.go:19", after := #[{ on := 6, ground := Go.Ground.data }, { on := 7, ground := Go.Ground.data }], guard := none }) (v := ?_) rfl (by kernel_rfl) (by kernel_rfl) (by kernel_rfl) (fun _ _ _ h => h) (Or.inl ⟨rfl, ?_⟩) (by assumption) ?_
      rotate_left
      · intro wz hSw; (try dsimp only at hSw); go_simp; try (with_reducible rfl)
      try simp only [Act.put, List.setIfInBounds_toArray, List.set_cons_zero, List.set_cons_succ]
      refine wpAnyH_take (i := 9) (oi := { dst := some 20, op := Go.Op.fieldAddr 59 (Go.Operand.tmp 19) 1, type := 0, pos := "law.go:19", after := #[{ on := 8, ground := Go.Ground.data }], guard := none }) (v := ?_) rfl (by kernel_rfl) (by kernel_rfl) (by kernel_rfl) (fun _ _ _ h => h) (Or.inl ⟨rfl, ?_⟩) (by assumption) ?_
      rotate_left
      · intro wz hSw; (try dsimp only at hSw); go_simp; try (with_reducible rfl)
      try simp only [Act.put, List.setIfInBounds_toArray, List.set_cons_zero, List.set_cons_succ]
      refine wpAnyH_take (i := 10) (oi := { dst := some 21, op := Go.Op.load 3 (Go.Operand.tmp 20), type := 3, pos := "law.go:19", after := #[{ on := 9, ground := Go.Ground.data }], guard := none }) (v := ?_) rfl (by kernel_rfl) (by kernel_rfl) (by kernel_rfl) (fun _ _ _ h => h) (Or.inl ⟨rfl, ?_⟩) (by assumption) ?_
      rotate_left
      · intro wz hSw; (try dsimp only at hSw); go_simp; try (with_reducible rfl)
      try simp only [Act.put, List.setIfInBounds_toArray, List.set_cons_zero, List.set_cons_succ]
      refine wpAnyH_take (i := 11) (oi := { dst := some 22, op := Go.Op.move (Go.Operand.tmp 0), type := 22, pos := "law.go:19", after := #[], guard := none }) (v := ?_) rfl (by kernel_rfl) (by kernel_rfl) (by kernel_rfl) (fun _ _ _ h => h) (Or.inl ⟨rfl, ?_⟩) (by assumption) ?_
      rotate_left
      · intro wz hSw; (try dsimp only at hSw); go_simp; try (with_reducible rfl)
      try simp only [Act.put, List.setIfInBounds_toArray, List.set_cons_zero, List.set_cons_succ]
      refine wpAnyH_take (i := 12) (oi := { dst := some 23, op := Go.Op.move (Go.Operand.tmp 4), type := 3, pos := "law.go:19", after := #[], guard := none }) (v := ?_) rfl (by kernel_rfl) (by kernel_rfl) (by kernel_rfl) (fun _ _ _ h => h) (Or.inl ⟨rfl, ?_⟩) (by assumption) ?_
      rotate_left
      · intro wz hSw; (try dsimp only at hSw); go_simp; try (with_reducible rfl)
      try simp only [Act.put, List.setIfInBounds_toArray, List.set_cons_zero, List.set_cons_succ]
      refine wpAnyH_take (i := 13) (oi := { dst := some 24, op := Go.Op.indexAddr 22 (Go.Operand.tmp 22) (Go.Operand.tmp 23), type := 0, pos := "law.go:19", after := #[{ on := 11, ground := Go.Ground.data }, { on := 12, ground := Go.Ground.data }], guard := none }) (v := ?_) rfl (by kernel_rfl) (by kernel_rfl) (by kernel_rfl) (fun _ _ _ h => h) (Or.inl ⟨rfl, ?_⟩) (by assumption) ?_
      rotate_left
      · intro wz hSw; (try dsimp only at hSw); go_simp; try (with_reducible rfl)
      try simp only [Act.put, List.setIfInBounds_toArray, List.set_cons_zero, List.set_cons_succ]
      refine wpAnyH_take (i := 14) (oi := { dst := some 25, op := Go.Op.fieldAddr 59 (Go.Operand.tmp 24) 2, type := 0, pos := "law.go:19", after := #[{ on := 13, ground := Go.Ground.data }], guard := none }) (v := ?_) rfl (by kernel_rfl) (by kernel_rfl) (by kernel_rfl) (fun _ _ _ h => h) (Or.inl ⟨rfl, ?_⟩) (by assumption) ?_
      rotate_left
      · intro wz hSw; (try dsimp only at hSw); go_simp; try (with_reducible rfl)
      try simp only [Act.put, List.setIfInBounds_toArray, List.set_cons_zero, List.set_cons_succ]
      refine wpAnyH_take (i := 15) (oi := { dst := some 26, op := Go.Op.load 3 (Go.Operand.tmp 25), type := 3, pos := "law.go:19", after := #[{ on := 14, ground := Go.Ground.data }], guard := none }) (v := ?_) rfl (by kernel_rfl) (by kernel_rfl) (by kernel_rfl) (fun _ _ _ h => h) (Or.inl ⟨rfl, ?_⟩) (by assumption) ?_
      rotate_left
      · intro wz hSw; (try dsimp only at hSw); go_simp; try (with_reducible rfl)
      try simp only [Act.put, List.setIfInBounds_toArray, List.set_cons_zero, List.set_cons_succ]
      refine wpAnyH_take (i := 16) (oi := { dst := some 27, op := Go.Op.build 37 #[(0, Go.Operand.tmp 21), (1, Go.Operand.tmp 26)], type := 37, pos := "law.go:19", after := #[{ on := 10, ground := Go.Ground.data }, { on := 15, ground := Go.Ground.data }], guard := none }) (v := ?_) rfl (by kernel_rfl) (by kernel_rfl) (by kernel_rfl) (fun _ _ _ h => h) (Or.inl ⟨rfl, ?_⟩) (by assumption) ?_
      rotate_left
      · intro wz hSw; (try dsimp only at hSw); go_simp; try (with_reducible rfl)
      try simp only [Act.put, List.setIfInBounds_toArray, List.set_cons_zero, List.set_cons_succ]
      refine wpAnyH_take (i := 18) (oi := { dst := some 29, op := Go.Op.move (Go.Operand.tmp 0), type := 22, pos := "law.go:19", after := #[], guard := none }) (v := ?_) rfl (by kernel_rfl) (by kernel_rfl) (by kernel_rfl) (fun _ _ _ h => h) (Or.inl ⟨rfl, ?_⟩) (by assumption) ?_
      rotate_left
      · intro wz hSw; (try dsimp only at hSw); go_simp; try (with_reducible rfl)
      try simp only [Act.put, List.setIfInBounds_toArray, List.set_cons_zero, List.set_cons_succ]
      refine wpAnyH_take (i := 19) (oi := { dst := some 30, op := Go.Op.move (Go.Operand.tmp 4), type := 3, pos := "law.go:19", after := #[], guard := none }) (v := ?_) rfl (by kernel_rfl) (by kernel_rfl) (by kernel_rfl) (fun _ _ _ h => h) (Or.inl ⟨rfl, ?_⟩) (by assumption) ?_
      rotate_left
      · intro wz hSw; (try dsimp only at hSw); go_simp; try (with_reducible rfl)
      try simp only [Act.put, List.setIfInBounds_toArray, List.set_cons_zero, List.set_cons_succ]
      refine wpAnyH_take (i := 20) (oi := { dst := some 31, op := Go.Op.indexAddr 22 (Go.Operand.tmp 29) (Go.Operand.tmp 30), type := 0, pos := "law.go:19", after := #[{ on := 18, ground := Go.Ground.data }, { on := 19, ground := Go.Ground.data }], guard := none }) (v := ?_) rfl (by kernel_rfl) (by kernel_rfl) (by kernel_rfl) (fun _ _ _ h => h) (Or.inl ⟨rfl, ?_⟩) (by assumption) ?_
      rotate_left
      · intro wz hSw; (try dsimp only at hSw); go_simp; try (with_reducible rfl)
      try simp only [Act.put, List.setIfInBounds_toArray, List.set_cons_zero, List.set_cons_succ]
      refine wpAnyH_take (i := 21) (oi := { dst := some 32, op := Go.Op.fieldAddr 59 (Go.Operand.tmp 31) 3, type := 0, pos := "law.go:19", after := #[{ on := 20, ground := Go.Ground.data }], guard := none }) (v := ?_) rfl (by kernel_rfl) (by kernel_rfl) (by kernel_rfl) (fun _ _ _ h => h) (Or.inl ⟨rfl, ?_⟩) (by assumption) ?_
      rotate_left
      · intro wz hSw; (try dsimp only at hSw); go_simp; try (with_reducible rfl)
      try simp only [Act.put, List.setIfInBounds_toArray, List.set_cons_zero, List.set_cons_succ]
      refine wpAnyH_take (i := 22) (oi := { dst := some 33, op := Go.Op.load 3 (Go.Operand.tmp 32), type := 3, pos := "law.go:19", after := #[{ on := 21, ground := Go.Ground.data }], guard := none }) (v := ?_) rfl (by kernel_rfl) (by kernel_rfl) (by kernel_rfl) (fun _ _ _ h => h) (Or.inl ⟨rfl, ?_⟩) (by assumption) ?_
      rotate_left
      · intro wz hSw; (try dsimp only at hSw); go_simp; try (with_reducible rfl)
      try simp only [Act.put, List.setIfInBounds_toArray, List.set_cons_zero, List.set_cons_succ]
      refine wpAnyH_take (i := 23) (oi := { dst := some 34, op := Go.Op.convert 3 47 (Go.Operand.tmp 33), type := 47, pos := "law.go:19", after := #[{ on := 22, ground := Go.Ground.data }], guard := none }) (v := ?_) rfl (by kernel_rfl) (by kernel_rfl) (by kernel_rfl) (fun _ _ _ h => h) (Or.inl ⟨rfl, ?_⟩) (by assumption) ?_
      rotate_left
      · intro wz hSw; (try dsimp only at hSw); go_simp; try (with_reducible rfl)
      try simp only [Act.put, List.setIfInBounds_toArray, List.set_cons_zero, List.set_cons_succ]
      refine wpAnyH_ready (rs := [17]) (by kernel_rfl) (by simp) ?_
      refine (AllReadyH.cons (o := { dst := some 28, op := Go.Op.call { callee := Go.Callee.value (Go.Operand.func 24), args := #[Go.Operand.tmp 27], argTypes := #[37] }, type := 41, pos := "law.go:19", after := #[{ on := 16, ground := Go.Ground.data }], guard := none }) rfl (fun K hK => ?_) AllReadyH.nil)
      go_simp
      refine (HSP.out _).mono ?_
      rintro e u1 ⟨rfl, hb⟩
      replace e0 := (hb.cell (p := ⟨blk, off + k * 4, none⟩) hbl).trans e0
      replace e1 := (hb.cell (p := ⟨blk, off + k * 4 + 1, none⟩) hbl).trans e1
      replace e2 := (hb.cell (p := ⟨blk, off + k * 4 + 2, none⟩) hbl).trans e2
      replace e3 := (hb.cell (p := ⟨blk, off + k * 4 + 3, none⟩) hbl).trans e3
      replace hbl := Nat.lt_of_lt_of_le hbl hb.size
      replace HO := Lib.hid (rown_below HO.out (below_via (Below.refl _ _) hb (Nat.le_refl _) ⟨rfl, rfl, rfl, rfl⟩))
      replace HB := Lib.hid (below_via HB.out hb HB.out.size ⟨rfl, rfl, rfl, rfl⟩)
      clear hb
      refine hK.out _ _ ⟨e0, e1, e2, e3⟩ (fun hHeld => ?_)
      clear hK K
      try simp only [Act.put, List.setIfInBounds_toArray, List.set_cons_zero, List.set_cons_succ]
      refine wpAnyH_take (i := 24) (oi := { dst := some 35, op := Go.Op.build 54 #[(0, Go.Operand.tmp 16), (1, Go.Operand.tmp 28), (2, Go.Operand.tmp 34)], type := 54, pos := "law.go:19", after := #[{ on := 5, ground := Go.Ground.data }, { on := 17, ground := Go.Ground.data }, { on := 23, ground := Go.Ground.data }], guard := none }) (v := ?_) rfl (by kernel_rfl) (by kernel_rfl) (by kernel_rfl) (fun _ _ _ h => h) (Or.inl ⟨rfl, ?_⟩) (by assumption) ?_
      rotate_left
      · intro wz hSw; (try dsimp only at hSw); go_simp; try (with_reducible rfl)
      try simp only [Act.put, List.setIfInBounds_toArray, List.set_cons_zero, List.set_cons_succ]
      refine wpAnyH_ready (rs := [25]) (by kernel_rfl) (by simp) ?_
      refine (AllReadyH.cons (o := { dst := some 36, op := Go.Op.buildSlice 26 1 #[(0, Go.Operand.tmp 35)], type := 26, pos := "law.go:19", after := #[{ on := 24, ground := Go.Ground.data }], guard := none }) rfl (fun K hK => ?_) AllReadyH.nil)
      go_simp
      have hb1 : Below u1.heap.size u1 (u1.alloc (.cells #[.int .i64 op, .complex .f64 fx fy, .float .f64 fz] 54)) := (Below.refl _ _).alloc (Nat.le_refl _) _
      replace e0 := (hb1.cell (p := ⟨blk, off + k * 4, none⟩) hbl).trans e0
      replace e1 := (hb1.cell (p := ⟨blk, off + k * 4 + 1, none⟩) hbl).trans e1
      replace e2 := (hb1.cell (p := ⟨blk, off + k * 4 + 2, none⟩) hbl).trans e2
      replace e3 := (hb1.cell (p := ⟨blk, off + k * 4 + 3, none⟩) hbl).trans e3
      replace hbl := Nat.lt_of_lt_of_le hbl hb1.size
      have HX1 : Hid (RowAt cellsZ 3 (u1.alloc (.cells #[.int .i64 op, .complex .f64 fx fy, .float .f64 fz] 54)) (u1.heap.size + 1) (some ⟨u1.heap.size, 0, none⟩) 1 [⟨op, fx, fy, fz⟩]) := one_row rowZ (heap_alloc_new u1 _)
      replace HO := Lib.hid (rown_below HO.out hb1)
      replace HB := Lib.hid (HB.out.trans (hb1.mono HB.out.size))
      clear hb1
      generalize (u1.alloc (.cells #[.int .i64 op, .complex .f64 fx fy, .float .f64 fz] 54)) = u2 at *
      generalize u1.heap.size = G1 at *
      refine hK.out _ _ ⟨e0, e1, e2, e3⟩ (fun hHeld => ?_)
      clear hK K
      try simp only [Act.put, List.setIfInBounds_toArray, List.set_cons_zero, List.set_cons_succ]
      refine wpAnyH_ready (rs := [26]) (by kernel_rfl) (by simp) ?_
      refine (AllReadyH.cons (o := { dst := some 37, op := Go.Op.call { callee := Go.Callee.builtin Go.Builtin.append, args := #[Go.Operand.tmp 11, Go.Operand.tmp 36], argTypes := #[26, 26] }, type := 26, pos := "law.go:19", after := #[{ on := 0, ground := Go.Ground.data }, { on := 25, ground := Go.Ground.data }, { on := 17, ground := Go.Ground.chain }], guard := none }) rfl (fun K hK => ?_) AllReadyH.nil)
      refine step_append_row rowZ (B := w.heap.size) (v := .slice Av k cv) (n := k) (zs := (rs.map toS).take k) (m := 1) (ys := [⟨op, fx, fy, fz⟩]) (by rfl) _ _ (by rfl) (by rfl) HO.out (by rfl) HX1.out (by omega) (by exact HB.out.size) ?_
      intro A3 c3 w3 hown3 hg3 hat3
      have nk : some blk ≠ Value.ownBlock (.slice Av k cv) := fun e => by have := (HO.out.lt blk e.symm).1; omega
      replace e0 := (World.cell?_of_block (a := ⟨blk, off + k * 4, none⟩) (hg3.block blk hbl nk)).trans e0
      replace e1 := (World.cell?_of_block (a := ⟨blk, off + k * 4 + 1, none⟩) (hg3.block blk hbl nk)).trans e1
      replace e2 := (World.cell?_of_block (a := ⟨blk, off + k * 4 + 2, none⟩) (hg3.block blk hbl nk)).trans e2
      replace e3 := (World.cell?_of_block (a := ⟨blk, off + k * 4 + 3, none⟩) (hg3.block blk hbl nk)).trans e3
      replace HB := Lib.hid (HB.out.grown hg3 HB.out.size (fun g e => (HO.out.lt g e).1))
      have HO3 := Lib.hid hown3
      clear hown3 hg3 hat3 nk HO HX1
      refine hK.out _ _ ⟨e0, e1, e2, e3⟩ (fun hHeld => ?_)
      clear hK K
      try simp only [Act.put, List.setIfInBounds_toArray, List.set_cons_zero, List.set_cons_succ]
      refine wpAnyH_take (i := 27) (oi := { dst := some 3, op := Go.Op.assign (Go.Operand.tmp 37), type := 26, pos := "law.go:19", after := #[{ on := 26, ground := Go.Ground.data }, { on := 26, ground := Go.Ground.chain }, { on := 0, ground := Go.Ground.phase }, { on := 1, ground := Go.Ground.phase }, { on := 2, ground := Go.Ground.phase }, { on := 3, ground := Go.Ground.phase }, { on := 4, ground := Go.Ground.phase }, { on := 5, ground := Go.Ground.phase }, { on := 6, ground := Go.Ground.phase }, { on := 7, ground := Go.Ground.phase }, { on := 8, ground := Go.Ground.phase }, { on := 9, ground := Go.Ground.phase }, { on := 10, ground := Go.Ground.phase }, { on := 11, ground := Go.Ground.phase }, { on := 12, ground := Go.Ground.phase }, { on := 13, ground := Go.Ground.phase }, { on := 14, ground := Go.Ground.phase }, { on := 15, ground := Go.Ground.phase }, { on := 16, ground := Go.Ground.phase }, { on := 17, ground := Go.Ground.phase }, { on := 18, ground := Go.Ground.phase }, { on := 19, ground := Go.Ground.phase }, { on := 20, ground := Go.Ground.phase }, { on := 21, ground := Go.Ground.phase }, { on := 22, ground := Go.Ground.phase }, { on := 23, ground := Go.Ground.phase }, { on := 24, ground := Go.Ground.phase }, { on := 25, ground := Go.Ground.phase }, { on := 26, ground := Go.Ground.phase }], guard := none }) (v := ?_) rfl (by kernel_rfl) (by kernel_rfl) (by kernel_rfl) (fun _ _ _ h => h) (Or.inl ⟨rfl, ?_⟩) (by assumption) ?_
      rotate_left
      · intro wz hSw; (try dsimp only at hSw); go_simp; try (with_reducible rfl)
      try simp only [Act.put, List.setIfInBounds_toArray, List.set_cons_zero, List.set_cons_succ]
      refine wpAnyH_done (by kernel_rfl) ?_ _
      have HC3 : Hid (CopyZ cellsZ 3 54 w (rs.map toS) (k + 1) A3 c3 w3) := ⟨by rw [HTS.out, HZZ.out]; exact HO3.out, HB.out⟩
      clear hHeld e0 e1 e2 e3 HO3
      go_wp2
      go_roundw
      case rel => exact ⟨k + 1, A3, c3, by omega, by go_num, rfl, HC3⟩
      case measure => simp [intOf]; omega
    · obtain rfl : k = n := by omega
      have HT : Hid ((rs.map toS).take k = rs.map toS) := List.take_of_length_le (by have := HL.out; omega)
      go_wp2
      go_ret
      refine ⟨Av, cv, by rw [HL.out]; rfl, ?_, HB.out⟩
      have h := HO.out
      rw [HT.out] at h
      rw [HL.out]
      exact h
def SmallR (r : RSt) : Prop := Small r.x ∧ Small r.y ∧ Small r.sz
set_option maxRecDepth 100000 in
set_option maxHeartbeats 4000000 in
theorem from_any (A : Option Addr) (n c : Nat) (zs : List Stp) (rs : List RSt) (B : Nat) (w : World) (hB : B ≤ w.heap.size) (hz : RowAt cellsZ 3 w B A n zs) (hl : LikeL zs rs) (hs : ∀ r ∈ rs, SmallR r) (hn : n ≤ 1073741824) :
    Calls Tryd.prog 20 #[.slice A n c] w (OwnRow cellsR 4 59 rs w) := by
  have HL : Hid (rs.length = n) := hl.1.symm.trans hz.1
  have HZ := Lib.hid hz
  have HLK := Lib.hid hl
  have HSM := Lib.hid hs
  clear hz hl hs
  go_enter Tryd.func20, Tryd.ntmps20
  go_wp2
  go_loopw [3, 4] (fun v i wr => ∃ (k : Nat) (Av : Option Addr) (cv : Nat), k ≤ n ∧ i = .int .i64 k ∧ v = .slice Av k cv ∧ Hid (CopyZ cellsR 4 59 w rs k Av cv wr)) (fun _ i _ => n - (intOf i).toNat)
  case atStart => exact ⟨0, none, 0, by omega, rfl, rfl, rown_nil _ _, Below.refl _ _⟩
  case round =>
    obtain ⟨k, Av, cv, hk, rfl, rfl, HC⟩ := hrel
    obtain ⟨hown, hbel⟩ := HC.out
    have HO := Lib.hid hown
    have HB := Lib.hid hbel
    clear hown hbel HC
    by_cases hlt : k < n
    · obtain ⟨blk, off, rfl, hbB, s, hsk, hcell⟩ := HZ.out.get hlt
      obtain ⟨r, hrk, hlike⟩ := HLK.out.get hsk
      obtain ⟨e0, e1, e2⟩ := cellsZ_at hcell
      replace e0 := ((HB.out.mono hB).cell (p := ⟨blk, off + k * 3, none⟩) hbB).trans e0
      replace e1 := ((HB.out.mono hB).cell (p := ⟨blk, off + k * 3 + 1, none⟩) hbB).trans e1
      replace e2 := ((HB.out.mono hB).cell (p := ⟨blk, off + k * 3 + 2, none⟩) hbB).trans e2
      have hi1 : (k : Int) < n := by omega
      have hbl : blk < wr.heap.size := by have := HB.out.size; omega
      have HTS : Hid (rs.take (k + 1) = rs.take k ++ [r]) := snocR hrk
      obtain ⟨s1, s2, s3⟩ := HSM.out r (List.mem_of_getElem? hrk)
      obtain ⟨op, x, y, z⟩ := r
      obtain ⟨sop, re, im, sz⟩ := s
      obtain ⟨rfl, n1, n2, n3⟩ := hlike
      simp only at e0 e1 e2 n1 n2 n3 s1 s2 s3
      have HPL := Lib.hid (lawPlace_any re im x y (n1.num s1) (n2.num s2) s1.lt s2.lt)
      have hc2 := fun w => run_convert_float_int (P := Tryd.prog) w 47 3 .f64 .i64 sz z (by kernel_rfl) Tryd.underlying3 (num_int (n3.num s3) s3.lt)
      clear hcell hrk hsk n1 n2 n3 s1 s2 s3
      go_upto_region 5 with fail
      go_wp2_with fail
      refine (HPL.out _).mono ?_
      rintro e u0 ⟨rfl, hb⟩
      replace e0 := (hb.cell (p := ⟨blk, off + k * 3, none⟩) hbl).trans e0
      replace e2 := (hb.cell (p := ⟨blk, off + k * 3 + 2, none⟩) hbl).trans e2
      replace hbl := Nat.lt_of_lt_of_le hbl hb.size
      replace HO := Lib.hid (rown_below HO.out (below_via (Below.refl _ _) hb (Nat.le_refl _) ⟨rfl, rfl, rfl, rfl⟩))
      replace HB := Lib.hid (below_via HB.out hb HB.out.size ⟨rfl, rfl, rfl, rfl⟩)
      clear hb e1
      go_upto_region 6 with fail
      have hb1 : Below u0.heap.size u0 (u0.alloc (.cells #[.int .i64 x, .int .i64 y] 37)) := (Below.refl _ _).alloc (Nat.le_refl _) _
      have f0 : (u0.alloc (.cells #[.int .i64 x, .int .i64 y] 37)).cell? ⟨u0.heap.size, 0, none⟩ = some (.int .i64 x) := by simp [go_sem]
      have f1 : (u0.alloc (.cells #[.int .i64 x, .int .i64 y] 37)).cell? ⟨u0.heap.size, 1, none⟩ = some (.int .i64 y) := by simp [go_sem]
      have fz : u0.heap.size < (u0.alloc (.cells #[.int .i64 x, .int .i64 y] 37)).heap.size := by simp
      have HX := Lib.hid (fun (g : Nat) (e : Value.ownBlock (.slice Av k cv) = some g) => (HO.out.lt g e).2)
      replace e0 := (hb1.cell (p := ⟨blk, off + k * 3, none⟩) hbl).trans e0
      replace e2 := (hb1.cell (p := ⟨blk, off + k * 3 + 2, none⟩) hbl).trans e2
      replace hbl := Nat.lt_of_lt_of_le hbl hb1.size
      replace HO := Lib.hid (rown_below HO.out hb1)
      replace HB := Lib.hid (HB.out.trans (hb1.mono HB.out.size))
      clear hb1
      generalize (u0.alloc (.cells #[.int .i64 x, .int .i64 y] 37)) = u1 at *
      generalize u0.heap.size = X at *
      refine wp_region_held_drew (S := fun w' => w'.cell? ⟨blk, off + k * 3, none⟩ = some (.int .i64 sop) ∧ w'.cell? ⟨blk, off + k * 3 + 2, none⟩ = some (.float .f64 sz) ∧ w'.cell? ⟨X, 0, none⟩ = some (.int .i64 x) ∧ w'.cell? ⟨X, 1, none⟩ = some (.int .i64 y)) (by kernel_rfl) ⟨e0, e2, f0, f1⟩ (fun hHeld => ?_)
      refine wpAnyH_take (i := 0) (oi := { dst := some 18, op := Go.Op.move (Go.Operand.tmp 3), type := 22, pos := "law.go:29", after := #[], guard := none }) (v := ?_) rfl (by kernel_rfl) (by kernel_rfl) (by kernel_rfl) (fun _ _ _ h => h) (Or.inl ⟨rfl, ?_⟩) (by assumption) ?_
      rotate_left
      · intro wz hSw; (try dsimp only at hSw); go_simp; try (with_reducible rfl)
      try simp only [Act.put, List.setIfInBounds_toArray, List.set_cons_zero, List.set_cons_succ]
      refine wpAnyH_take (i := 1) (oi := { dst := some 19, op := Go.Op.move (Go.Operand.tmp 0), type := 26, pos := "law.go:29", after := #[], guard := none }) (v := ?_) rfl (by kernel_rfl) (by kernel_rfl) (by kernel_rfl) (fun _ _ _ h => h) (Or.inl ⟨rfl, ?_⟩) (by assumption) ?_
      rotate_left
      · intro wz hSw; (try dsimp only at hSw); go_simp; try (with_reducible rfl)
      try simp only [Act.put, List.setIfInBounds_toArray, List.set_cons_zero, List.set_cons_succ]
      refine wpAnyH_take (i := 2) (oi := { dst := some 20, op := Go.Op.move (Go.Operand.tmp 4), type := 3, pos := "law.go:29", after := #[], guard := none }) (v := ?_) rfl (by kernel_rfl) (by kernel_rfl) (by kernel_rfl) (fun _ _ _ h => h) (Or.inl ⟨rfl, ?_⟩) (by assumption) ?_
      rotate_left
      · intro wz hSw; (try dsimp only at hSw); go_simp; try (with_reducible rfl)
      try simp only [Act.put, List.setIfInBounds_toArray, List.set_cons_zero, List.set_cons_succ]
      refine wpAnyH_take (i := 3) (oi := { dst := some 21, op := Go.Op.indexAddr 26 (Go.Operand.tmp 19) (Go.Operand.tmp 20), type := 0, pos := "law.go:29", after := #[{ on := 1, ground := Go.Ground.data }, { on := 2, ground := Go.Ground.data }], guard := none }) (v := ?_) rfl (by kernel_rfl) (by kernel_rfl) (by kernel_rfl) (fun _ _ _ h => h) (Or.inl ⟨rfl, ?_⟩) (by assumption) ?_
      rotate_left
      · intro wz hSw; (try dsimp only at hSw); go_simp; try (with_reducible rfl)
      try simp only [Act.put, List.setIfInBounds_toArray, List.set_cons_zero, List.set_cons_succ]
      refine wpAnyH_take (i := 4) (oi := { dst := some 22, op := Go.Op.fieldAddr 54 (Go.Operand.tmp 21) 0, type := 0, pos := "law.go:29", after := #[{ on := 3, ground := Go.Ground.data }], guard := none }) (v := ?_) rfl (by kernel_rfl) (by kernel_rfl) (by kernel_rfl) (fun _ _ _ h => h) (Or.inl ⟨rfl, ?_⟩) (by assumption) ?_
      rotate_left
      · intro wz hSw; (try dsimp only at hSw); go_simp; try (with_reducible rfl)
      try simp only [Act.put, List.setIfInBounds_toArray, List.set_cons_zero, List.set_cons_succ]
      refine wpAnyH_take (i := 5) (oi := { dst := some 23, op := Go.Op.load 3 (Go.Operand.tmp 22), type := 3, pos := "law.go:29", after := #[{ on := 4, ground := Go.Ground.data }], guard := none }) (v := ?_) rfl (by kernel_rfl) (by kernel_rfl) (by kernel_rfl) (fun _ _ _ h => h) (Or.inl ⟨rfl, ?_⟩) (by assumption) ?_
      rotate_left
      · intro wz hSw; (try dsimp only at hSw); go_simp; try (with_reducible rfl)
      try simp only [Act.put, List.setIfInBounds_toArray, List.set_cons_zero, List.set_cons_succ]
      refine wpAnyH_take (i := 6) (oi := { dst := some 24, op := Go.Op.fieldAddr 37 (Go.Operand.tmp 5) 0, type := 0, pos := "law.go:29", after := #[], guard := none }) (v := ?_) rfl (by kernel_rfl) (by kernel_rfl) (by kernel_rfl) (fun _ _ _ h => h) (Or.inl ⟨rfl, ?_⟩) (by assumption) ?_
      rotate_left
      · intro wz hSw; (try dsimp only at hSw); go_simp; try (with_reducible rfl)
      try simp only [Act.put, List.setIfInBounds_toArray, List.set_cons_zero, List.set_cons_succ]
      refine wpAnyH_take (i := 7) (oi := { dst := some 25, op := Go.Op.load 3 (Go.Operand.tmp 24), type := 3, pos := "law.go:29", after := #[{ on := 6, ground := Go.Ground.data }], guard := none }) (v := ?_) rfl (by kernel_rfl) (by kernel_rfl) (by kernel_rfl) (fun _ _ _ h => h) (Or.inl ⟨rfl, ?_⟩) (by assumption) ?_
      rotate_left
      · intro wz hSw; (try dsimp only at hSw); go_simp; try (with_reducible rfl)
      try simp only [Act.put, List.setIfInBounds_toArray, List.set_cons_zero, List.set_cons_succ]
      refine wpAnyH_take (i := 8) (oi := { dst := some 26, op := Go.Op.fieldAddr 37 (Go.Operand.tmp 5) 1, type := 0, pos := "law.go:29", after := #[], guard := none }) (v := ?_) rfl (by kernel_rfl) (by kernel_rfl) (by kernel_rfl) (fun _ _ _ h => h) (Or.inl ⟨rfl, ?_⟩) (by assumption) ?_
      rotate_left
      · intro wz hSw; (try dsimp only at hSw); go_simp; try (with_reducible rfl)
      try simp only [Act.put, List.setIfInBounds_toArray, List.set_cons_zero, List.set_cons_succ]
      refine wpAnyH_take (i := 9) (oi := { dst := some 27, op := Go.Op.load 3 (Go.Operand.tmp 26), type := 3, pos := "law.go:29", after := #[{ on := 8, ground := Go.Ground.data }], guard := none }) (v := ?_) rfl (by kernel_rfl) (by kernel_rfl) (by kernel_rfl) (fun _ _ _ h => h) (Or.inl ⟨rfl, ?_⟩) (by assumption) ?_
      rotate_left
      · intro wz hSw; (try dsimp only at hSw); go_simp; try (with_reducible rfl)
      try simp only [Act.put, List.setIfInBounds_toArray, List.set_cons_zero, List.set_cons_succ]
      refine wpAnyH_take (i := 10) (oi := { dst := some 28, op := Go.Op.move (Go.Operand.tmp 0), type := 26, pos := "law.go:29", after := #[], guard := none }) (v := ?_) rfl (by kernel_rfl) (by kernel_rfl) (by kernel_rfl) (fun _ _ _ h => h) (Or.inl ⟨rfl, ?_⟩) (by assumption) ?_
      rotate_left
      · intro wz hSw; (try dsimp only at hSw); go_simp; try (with_reducible rfl)
      try simp only [Act.put, List.setIfInBounds_toArray, List.set_cons_zero, List.set_cons_succ]
      refine wpAnyH_take (i := 11) (oi := { dst := some 29, op := Go.Op.move (Go.Operand.tmp 4), type := 3, pos := "law.go:29", after := #[], guard := none }) (v := ?_) rfl (by kernel_rfl) (by kernel_rfl) (by kernel_rfl) (fun _ _ _ h => h) (Or.inl ⟨rfl, ?_⟩) (by assumption) ?_
      rotate_left
      · intro wz hSw; (try dsimp only at hSw); go_simp; try (with_reducible rfl)
      try simp only [Act.put, List.setIfInBounds_toArray, List.set_cons_zero, List.set_cons_succ]
      refine wpAnyH_take (i := 12) (oi := { dst := some 30, op := Go.Op.indexAddr 26 (Go.Operand.tmp 28) (Go.Operand.tmp 29), type := 0, pos := "law.go:29", after := #[{ on := 10, ground := Go.Ground.data }, { on := 11, ground := Go.Ground.data }], guard := none }) (v := ?_) rfl (by kernel_rfl) (by kernel_rfl) (by kernel_rfl) (fun _ _ _ h => h) (Or.inl ⟨rfl, ?_⟩) (by assumption) ?_
      rotate_left
      · intro wz hSw; (try dsimp only at hSw); go_simp; try (with_reducible rfl)
      try simp only [Act.put, List.setIfInBounds_toArray, List.set_cons_zero, List.set_cons_succ]
      refine wpAnyH_take (i := 13) (oi := { dst := some 31, op := Go.Op.fieldAddr 54 (Go.Operand.tmp 30) 2, type := 0, pos := "law.go:29", after := #[{ on := 12, ground := Go.Ground.data }], guard := none }) (v := ?_) rfl (by kernel_rfl) (by kernel_rfl) (by kernel_rfl) (fun _ _ _ h => h) (Or.inl ⟨rfl, ?_⟩) (by assumption) ?_
      rotate_left
      · intro wz hSw; (try dsimp only at hSw); go_simp; try (with_reducible rfl)
      try simp only [Act.put, List.setIfInBounds_toArray, List.set_cons_zero, List.set_cons_succ]
      refine wpAnyH_take (i := 14) (oi := { dst := some 32, op := Go.Op.load 47 (Go.Operand.tmp 31), type := 47, pos := "law.go:29", after := #[{ on := 13, ground := Go.Ground.data }], guard := none }) (v := ?_) rfl (by kernel_rfl) (by kernel_rfl) (by kernel_rfl) (fun _ _ _ h => h) (Or.inl ⟨rfl, ?_⟩) (by assumption) ?_
      rotate_left
      · intro wz hSw; (try dsimp only at hSw); go_simp; try (with_reducible rfl)
      try simp only [Act.put, List.setIfInBounds_toArray, List.set_cons_zero, List.set_cons_succ]
      refine wpAnyH_take (i := 15) (oi := { dst := some 33, op := Go.Op.convert 47 3 (Go.Operand.tmp 32), type := 3, pos := "law.go:29", after := #[{ on := 14, ground := Go.Ground.data }], guard := none }) (v := ?_) rfl (by kernel_rfl) (by kernel_rfl) (by kernel_rfl) (fun _ _ _ h => h) (Or.inl ⟨rfl, ?_⟩) (by assumption) ?_
      rotate_left
      · intro wz hSw; (try dsimp only at hSw); go_simp; try (with_reducible rfl)
      try simp only [Act.put, List.setIfInBounds_toArray, List.set_cons_zero, List.set_cons_succ]
      refine wpAnyH_take (i := 16) (oi := { dst := some 34, op := Go.Op.build 59 #[(0, Go.Operand.tmp 23), (1, Go.Operand.tmp 25), (2, Go.Operand.tmp 27), (3, Go.Operand.tmp 33)], type := 59, pos := "law.go:29", after := #[{ on := 5, ground := Go.Ground.data }, { on := 7, ground := Go.Ground.data }, { on := 9, ground := Go.Ground.data }, { on := 15, ground := Go.Ground.data }], guard := none }) (v := ?_) rfl (by kernel_rfl) (by kernel_rfl) (by kernel_rfl) (fun _ _ _ h => h) (Or.inl ⟨rfl, ?_⟩) (by assumption) ?_
      rotate_left
      · intro wz hSw; (try dsimp only at hSw); go_simp; try (with_reducible rfl)
      try simp only [Act.put, List.setIfInBounds_toArray, List.set_cons_zero, List.set_cons_succ]
      refine wpAnyH_ready (rs := [17]) (by kernel_rfl) (by simp) ?_
      refine (AllReadyH.cons (o := { dst := some 35, op := Go.Op.buildSlice 22 1 #[(0, Go.Operand.tmp 34)], type := 22, pos := "law.go:29", after := #[{ on := 16, ground := Go.Ground.data }], guard := none }) rfl (fun K hK => ?_) AllReadyH.nil)
      go_simp
      have hb1 : Below u1.heap.size u1 (u1.alloc (.cells #[.int .i64 sop, .int .i64 x, .int .i64 y, .int .i64 z] 59)).drew := below_drewz ((Below.refl _ _).alloc (Nat.le_refl _) _)
      replace e0 := (hb1.cell (p := ⟨blk, off + k * 3, none⟩) hbl).trans e0
      replace e2 := (hb1.cell (p := ⟨blk, off + k * 3 + 2, none⟩) hbl).trans e2
      replace hbl := Nat.lt_of_lt_of_le hbl hb1.size
      replace f0 := (hb1.cell (p := ⟨X, 0, none⟩) fz).trans f0
      replace f1 := (hb1.cell (p := ⟨X, 1, none⟩) fz).trans f1
      replace fz := Nat.lt_of_lt_of_le fz hb1.size
      have HX1 : Hid (RowAt cellsR 4 (u1.alloc (.cells #[.int .i64 sop, .int .i64 x, .int .i64 y, .int .i64 z] 59)).drew (u1.heap.size + 1) (some ⟨u1.heap.size, 0, none⟩) 1 [⟨sop, x, y, z⟩]) := one_row rowR (heap_alloc_new u1 _)
      replace HO := Lib.hid (rown_below HO.out hb1)
      replace HB := Lib.hid (HB.out.trans (hb1.mono HB.out.size))
      clear hb1
      generalize (u1.alloc (.cells #[.int .i64 sop, .int .i64 x, .int .i64 y, .int .i64 z] 59)).drew = u2 at *
      generalize u1.heap.size = G1 at *
      refine hK.out _ _ ⟨e0, e2, f0, f1⟩ (fun hHeld => ?_)
      clear hK K
      try simp only [Act.put, List.setIfInBounds_toArray, List.set_cons_zero, List.set_cons_succ]
      refine wpAnyH_ready (rs := [18]) (by kernel_rfl) (by simp) ?_
      refine (AllReadyH.cons (o := { dst := some 36, op := Go.Op.call { callee := Go.Callee.builtin Go.Builtin.append, args := #[Go.Operand.tmp 18, Go.Operand.tmp 35], argTypes := #[22, 22] }, type := 22, pos := "law.go:29", after := #[{ on := 0, ground := Go.Ground.data }, { on := 17, ground := Go.Ground.data }], guard := none }) rfl (fun K hK => ?_) AllReadyH.nil)
      refine step_append_row rowR (B := w.heap.size) (v := .slice Av k cv) (n := k) (zs := rs.take k) (m := 1) (ys := [⟨sop, x, y, z⟩]) (by rfl) _ _ (by rfl) (by rfl) HO.out (by rfl) HX1.out (by omega) (by exact HB.out.size) ?_
      intro A3 c3 w3 hown3 hg3 hat3
      have nk : some blk ≠ Value.ownBlock (.slice Av k cv) := fun e => by have := (HO.out.lt blk e.symm).1; omega
      have nx : some X ≠ Value.ownBlock (.slice Av k cv) := fun e => by have := HX.out X e.symm; omega
      replace e0 := (World.cell?_of_block (a := ⟨blk, off + k * 3, none⟩) (hg3.block blk hbl nk)).trans e0
      replace e2 := (World.cell?_of_block (a := ⟨blk, off + k * 3 + 2, none⟩) (hg3.block blk hbl nk)).trans e2
      replace f0 := (World.cell?_of_block (a := ⟨X, 0, none⟩) (hg3.block X fz nx)).trans f0
      replace f1 := (World.cell?_of_block (a := ⟨X, 1, none⟩) (hg3.block X fz nx)).trans f1
      replace HB := Lib.hid (HB.out.grown hg3 HB.out.size (fun g e => (HO.out.lt g e).1))
      have HO3 := Lib.hid hown3
      clear hown3 hg3 hat3 nk nx HO HX1
      refine hK.out _ _ ⟨e0, e2, f0, f1⟩ (fun hHeld => ?_)
      clear hK K
      try simp only [Act.put, List.setIfInBounds_toArray, List.set_cons_zero, List.set_cons_succ]
      refine wpAnyH_take (i := 19) (oi := { dst := some 3, op := Go.Op.assign (Go.Operand.tmp 36), type := 22, pos := "law.go:29", after := #[{ on := 18, ground := Go.Ground.data }, { on := 18, ground := Go.Ground.chain }, { on := 0, ground := Go.Ground.phase }, { on := 1, ground := Go.Ground.phase }, { on := 2, ground := Go.Ground.phase }, { on := 3, ground := Go.Ground.phase }, { on := 4, ground := Go.Ground.phase }, { on := 5, ground := Go.Ground.phase }, { on := 6, ground := Go.Ground.phase }, { on := 7, ground := Go.Ground.phase }, { on := 8, ground := Go.Ground.phase }, { on := 9, ground := Go.Ground.phase }, { on := 10, ground := Go.Ground.phase }, { on := 11, ground := Go.Ground.phase }, { on := 12, ground := Go.Ground.phase }, { on := 13, ground := Go.Ground.phase }, { on := 14, ground := Go.Ground.phase }, { on := 15, ground := Go.Ground.phase }, { on := 16, ground := Go.Ground.phase }, { on := 17, ground := Go.Ground.phase }, { on := 18, ground := Go.Ground.phase }], guard := none }) (v := ?_) rfl (by kernel_rfl) (by kernel_rfl) (by kernel_rfl) (fun _ _ _ h => h) (Or.inl ⟨rfl, ?_⟩) (by assumption) ?_
      rotate_left
      · intro wz hSw; (try dsimp only at hSw); go_simp; try (with_reducible rfl)
      try simp only [Act.put, List.setIfInBounds_toArray, List.set_cons_zero, List.set_cons_succ]
      refine wpAnyH_done (by kernel_rfl) ?_ _
      have HC3 : Hid (CopyZ cellsR 4 59 w rs (k + 1) A3 c3 w3) := ⟨by rw [HTS.out]; exact HO3.out, HB.out⟩
      clear hHeld e0 e2 f0 f1 HO3
      go_wp2
      go_roundw
      case rel => exact ⟨k + 1, A3, c3, by omega, by go_num, rfl, HC3⟩
      case measure => simp [intOf]; omega
    · obtain rfl : k = n := by omega
      have HT : Hid (rs.take k = rs) := List.take_of_length_le (by have := HL.out; omega)
      go_wp2
      go_ret
      refine ⟨Av, cv, by rw [HL.out]; rfl, ?_, HB.out⟩
      have h := HO.out
      rw [HT.out] at h
      rw [HL.out]
      exact h
def goodR (r : RSt) : Bool := decide (r.x ≤ 1099511627776) && decide (-1099511627776 ≤ r.x) && decide (r.y ≤ 1099511627776) && decide (-1099511627776 ≤ r.y) && decide (r.sz ≤ 1099511627776) && decide (-1099511627776 ≤ r.sz)
def fewF (rs : List RSt) : Bool := rs.all goodR && decide (rs.length ≤ 40)
theorem good_small {r : RSt} (h : goodR r = true) : SmallR r := by
  unfold goodR at h
  simp only [Bool.and_eq_true, decide_eq_true_eq] at h
  unfold SmallR Small
  omega
theorem small_64 {r : RSt} (h : SmallR r) : Fits64 r := by
  unfold SmallR Small at h
  unfold Fits64
  omega
theorem few_bad {rs : List RSt} {k : Nat} {r : RSt} (hr : rs[k]? = some r) (h : goodR r = false) : fewF rs = false := by
  unfold fewF
  rw [Bool.and_eq_false_iff]
  left
  rw [List.all_eq_false]
  exact ⟨r, List.mem_of_getElem? hr, by rw [h]; decide⟩
set_option maxRecDepth 100000 in
set_option maxHeartbeats 4000000 in
theorem few_any (A : Option Addr) (n c : Nat) (rs : List RSt) (B : Nat) (w : World) (hz : RowAt cellsR 4 w B A n rs) (hn63 : n ≤ 9223372036854775807) :
    Calls Tryd.prog 10 #[.slice A n c] w fun e w' => e = .returned (.bool (fewF rs)) ∧ w = w' := by
  have HL : Hid (rs.length = n) := hz.1
  have HZ := Lib.hid hz
  clear hz
  go_enter Tryd.func10, Tryd.ntmps10
  go_wp2
  go_loop [3] (fun i => ∃ k : Nat, k ≤ n ∧ i = .int .i64 k ∧ Hid (∀ r ∈ rs.take k, goodR r = true)) (fun i => n - (intOf i).toNat)
  case atStart => exact ⟨0, by omega, rfl, fun r h => by simp at h⟩
  case round =>
    obtain ⟨k, hk, rfl, HG⟩ := hrel
    by_cases hlt : k < n
    · obtain ⟨blk, off, rfl, hbB, r, hrk, hcell⟩ := HZ.out.get hlt
      obtain ⟨e0, e1, e2, e3⟩ := cellsR_at hcell
      have hi1 : (k : Int) < n := by omega
      have HBAD := Lib.hid (fun (h : goodR r = false) => few_bad hrk h)
      have HTS := Lib.hid (snocR hrk)
      have HGD : Hid (goodR r = (decide (r.x ≤ 1099511627776) && decide (-1099511627776 ≤ r.x) && decide (r.y ≤ 1099511627776) && decide (-1099511627776 ≤ r.y) && decide (r.sz ≤ 1099511627776) && decide (-1099511627776 ≤ r.sz))) := rfl
      clear hcell hrk e0
      generalize hrr : r.x = x at *
      generalize hry : r.y = y at *
      generalize hrz : r.sz = z at *
      by_cases c0 : 1099511627776 < x
      · have HR : Hid (fewF rs = false) := HBAD.out (by rw [HGD.out]; simp; omega)
        go_wp2
        go_ret
        exact ⟨ret_bool HR.out.symm, rfl⟩
      by_cases c1 : x < -1099511627776
      · have HR : Hid (fewF rs = false) := HBAD.out (by rw [HGD.out]; simp; omega)
        go_wp2
        go_ret
        exact ⟨ret_bool HR.out.symm, rfl⟩
      by_cases c2 : 1099511627776 < y
      · have HR : Hid (fewF rs = false) := HBAD.out (by rw [HGD.out]; simp; omega)
        go_wp2
        go_ret
        exact ⟨ret_bool HR.out.symm, rfl⟩
      by_cases c3 : y < -1099511627776
      · have HR : Hid (fewF rs = false) := HBAD.out (by rw [HGD.out]; simp; omega)
        go_wp2
        go_ret
        exact ⟨ret_bool HR.out.symm, rfl⟩
      by_cases c4 : 1099511627776 < z
      · have HR : Hid (fewF rs = false) := HBAD.out (by rw [HGD.out]; simp; omega)
        go_wp2
        go_ret
        exact ⟨ret_bool HR.out.symm, rfl⟩
      by_cases c5 : z < -1099511627776
      · have HR : Hid (fewF rs = false) := HBAD.out (by rw [HGD.out]; simp; omega)
        go_wp2
        go_ret
        exact ⟨ret_bool HR.out.symm, rfl⟩
      have HR : Hid (∀ r' ∈ rs.take (k + 1), goodR r' = true) := fun r' h => by
        rw [HTS.out] at h
        rcases List.mem_append.mp h with h | h
        · exact HG.out r' h
        · rw [List.mem_singleton.mp h, HGD.out]
          simp
          omega
      go_wp2
      go_round
      case rel => exact ⟨k + 1, by omega, by go_num, HR⟩
      case measure => simp [intOf]; omega
    · obtain rfl : k = n := by omega
      have HR : Hid (fewF rs = decide ((k : Int) ≤ 40)) := by
        show _ = _
        have h := HG.out
        rw [List.take_of_length_le (by have := HL.out; omega)] at h
        unfold fewF
        rw [List.all_eq_true.mpr h, HL.out, Bool.true_and]
        congr 1
        exact propext (by omega)
      go_wp2
      go_ret
      exact ⟨ret_bool HR.out.symm, rfl⟩
end Go.Proofs.YtkklikkmpmlnbaaDoor
