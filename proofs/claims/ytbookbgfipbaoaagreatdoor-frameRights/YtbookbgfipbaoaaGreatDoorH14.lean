/- What the law lays, and takes back; the document's Spot. -/
import Derived.Test.YtbookbgfipbaoaaGreatDoorH13
import Derived.Test.YtbookbgfipbaoaaGreatDoorH11
import Derived.Test.YtbookbgfipbaoaaGreatDoorH10
import Derived.Test.YtbookbgfipbaoaaGreatDoorH3
import Derived.Deep.AppendLies
namespace Go.Proofs.YtbookbgfipbaoaaGreatDoor.Zo
open Go.RowKit

def toS (r : RSt) : Stp := ⟨r.op, fl r.x, fl r.y, fl r.sz⟩
def Fits64 (r : RSt) : Prop := r.x.natAbs < 2 ^ 64 ∧ r.y.natAbs < 2 ^ 64 ∧ r.sz.natAbs < 2 ^ 64
theorem to_like {rs : List RSt} (h : ∀ r ∈ rs, Fits64 r) : LikeL (rs.map toS) rs := by
  refine ⟨List.length_map _, fun k z r hz hr => ?_⟩
  rw [List.getElem?_map, hr] at hz
  simp only [Option.map_some, Option.some.injEq] at hz
  subst hz
  obtain ⟨h1, h2, h3⟩ := h r (List.mem_of_getElem? hr)
  exact ⟨rfl, numB_fl _ h1, numB_fl _ h2, numB_fl _ h3⟩
set_option maxRecDepth 100000 in
set_option maxHeartbeats 1000000 in
theorem lawSpot_any (x y : Int) (w : World) : Calls Tryz.prog 100 #[.agg #[.int .i64 x, .int .i64 y]] w fun e w' => e = .returned (.complex .f64 (fl x) (fl y)) ∧ Below w.heap.size w w' := by
  have hc : ∀ (n : Int) w, (convert 3 163 (.int .i64 n)).run Tryz.prog w = .ok (.float .f64 (fl n)) w := fun n w => run_convert_int_float w 3 163 .i64 .f64 n (by kernel_rfl) Tryz.underlying163
  generalize fl = g at *
  go_enter Tryz.func100, Tryz.ntmps100
  go_wp2
  go_ret
  exact ⟨rfl, (Below.refl _ _).alloc (Nat.le_refl _) _⟩
/-- A copy, half way. -/
def CopyZ {α : Type} (cf : α → List Value) (d : Nat) (e : TypeId) (w : World) (zs : List α) (k : Nat) (Av : Option Addr) (cv : Nat) (wr : World) : Prop :=
  wr.ownsRow w.heap.size e d (.slice Av k cv) k (rowCells cf (zs.take k)) ∧ Below w.heap.size w wr
set_option maxRecDepth 100000 in
set_option maxHeartbeats 4000000 in
theorem to_any (A : Option Addr) (n c : Nat) (rs : List RSt) (B : Nat) (w : World) (hB : B ≤ w.heap.size) (hz : RowAt cellsR 4 w B A n rs) (hn : n ≤ 1073741824) :
    Calls Tryz.prog 31 #[.slice A n c] w (OwnRow cellsZ 3 165 (rs.map toS) w) := by
  have HL : Hid ((rs.map toS).length = n) := by show _ = _; rw [List.length_map]; exact hz.1
  have HZ := Lib.hid hz
  have hc : ∀ (n : Int) w, (convert 3 163 (.int .i64 n)).run Tryz.prog w = .ok (.float .f64 (fl n)) w := fun n w => run_convert_int_float w 3 163 .i64 .f64 n (by kernel_rfl) Tryz.underlying163
  clear hz
  go_enter Tryz.func31, Tryz.ntmps31
  go_wp2
  go_loopw [3, 4] (fun v i wr => ∃ (k : Nat) (Av : Option Addr) (cv : Nat), k ≤ n ∧ i = .int .i64 k ∧ v = .slice Av k cv ∧ Hid (CopyZ cellsZ 3 165 w (rs.map toS) k Av cv wr)) (fun _ i _ => n - (intOf i).toNat)
  case atStart => exact ⟨0, none, 0, by omega, rfl, rfl, rown_nil _ _, Below.refl _ _⟩
  case round =>
    obtain ⟨k, Av, cv, hk, rfl, rfl, HC⟩ := hrel
    obtain ⟨hown, hbel⟩ := HC.out
    have HO := Lib.hid hown
    have HB := Lib.hid hbel
    clear hown hbel HC
    by_cases hlt : k < n
    · obtain ⟨blk, off, rfl, hbB, r, hrk, hcell⟩ := HZ.out.get hlt
      obtain ⟨e0, e1, e2, e3⟩ := cellsR_at hcell
      replace e0 := ((HB.out.mono hB).cell (p := ⟨blk, off + k * 4, none⟩) hbB).trans e0
      replace e1 := ((HB.out.mono hB).cell (p := ⟨blk, off + k * 4 + 1, none⟩) hbB).trans e1
      replace e2 := ((HB.out.mono hB).cell (p := ⟨blk, off + k * 4 + 2, none⟩) hbB).trans e2
      replace e3 := ((HB.out.mono hB).cell (p := ⟨blk, off + k * 4 + 3, none⟩) hbB).trans e3
      have hi1 : (k : Int) < n := by omega
      have hbl : blk < wr.heap.size := by have := HB.out.size; omega
      have HTS : Hid ((rs.map toS).take (k + 1) = (rs.map toS).take k ++ [toS r]) := snocR (by rw [List.getElem?_map, hrk]; rfl)
      obtain ⟨op, x, y, z⟩ := r
      have HSP := Lib.hid (lawSpot_any x y)
      have HZZ : Hid (toS ⟨op, x, y, z⟩ = ⟨op, fl x, fl y, fl z⟩) := rfl
      simp only at e0 e1 e2 e3
      have hcz := hc z
      generalize toS ⟨op, x, y, z⟩ = zz at *
      generalize fl x = fx at *
      generalize fl y = fy at *
      generalize fl z = fz at *
      clear hcell hrk hc
      go_upto_region 5 with fail
      refine wp_region_held_drew (S := fun w' => w'.cell? ⟨blk, off + k * 4, none⟩ = some (.int .i64 op) ∧ w'.cell? ⟨blk, off + k * 4 + 1, none⟩ = some (.int .i64 x) ∧ w'.cell? ⟨blk, off + k * 4 + 2, none⟩ = some (.int .i64 y) ∧ w'.cell? ⟨blk, off + k * 4 + 3, none⟩ = some (.int .i64 z)) (by kernel_rfl) ⟨e0, e1, e2, e3⟩ (fun hHeld => ?_)
      refine tk 0 ?_
      refine tk 1 ?_
      refine tk 2 ?_
      refine tk 3 ?_
      refine tk 4 ?_
      refine tk 5 ?_
      refine tk 6 ?_
      refine tk 7 ?_
      refine tk 8 ?_
      refine tk 9 ?_
      refine tk 10 ?_
      refine tk 11 ?_
      refine tk 12 ?_
      refine tk 13 ?_
      refine tk 14 ?_
      refine tk 15 ?_
      refine tk 16 ?_
      refine tk 18 ?_
      refine tk 19 ?_
      refine tk 20 ?_
      refine tk 21 ?_
      refine tk 22 ?_
      refine tk 23 ?_
      refine wpAnyH_ready (rs := [17]) (by kernel_rfl) (by simp) ?_
      refine (ac (fun K hK => ?_) AllReadyH.nil)
      go_simp
      refine (HSP.out _).mono ?_
      rintro e u1 ⟨rfl, hb⟩
      replace e0 := (hb.cell (p := ⟨blk, off + k * 4, none⟩) hbl).trans e0
      replace e1 := (hb.cell (p := ⟨blk, off + k * 4 + 1, none⟩) hbl).trans e1
      replace e2 := (hb.cell (p := ⟨blk, off + k * 4 + 2, none⟩) hbl).trans e2
      replace e3 := (hb.cell (p := ⟨blk, off + k * 4 + 3, none⟩) hbl).trans e3
      replace hbl := Nat.lt_of_lt_of_le hbl hb.size
      replace HO := Lib.hid (rown_below HO.out (below_via (Below.refl _ _) hb (Nat.le_refl _) ⟨rfl, rfl, rfl, rfl⟩))
      replace HB := Lib.hid (below_via HB.out hb HB.out.size ⟨rfl, rfl, rfl, rfl⟩)
      clear hb
      refine hK.out _ _ ⟨e0, e1, e2, e3⟩ (fun hHeld => ?_)
      clear hK K
      try simp only [Act.put, List.setIfInBounds_toArray, List.set_cons_zero, List.set_cons_succ]
      refine tk 24 ?_
      refine wpAnyH_ready (rs := [25]) (by kernel_rfl) (by simp) ?_
      refine (ac (fun K hK => ?_) AllReadyH.nil)
      go_simp
      have hb1 : Below u1.heap.size u1 (u1.alloc (.cells #[.int .i64 op, .complex .f64 fx fy, .float .f64 fz] 165)) := (Below.refl _ _).alloc (Nat.le_refl _) _
      replace e0 := (hb1.cell (p := ⟨blk, off + k * 4, none⟩) hbl).trans e0
      replace e1 := (hb1.cell (p := ⟨blk, off + k * 4 + 1, none⟩) hbl).trans e1
      replace e2 := (hb1.cell (p := ⟨blk, off + k * 4 + 2, none⟩) hbl).trans e2
      replace e3 := (hb1.cell (p := ⟨blk, off + k * 4 + 3, none⟩) hbl).trans e3
      replace hbl := Nat.lt_of_lt_of_le hbl hb1.size
      have HX1 : Hid (RowAt cellsZ 3 (u1.alloc (.cells #[.int .i64 op, .complex .f64 fx fy, .float .f64 fz] 165)) (u1.heap.size + 1) (some ⟨u1.heap.size, 0, none⟩) 1 [⟨op, fx, fy, fz⟩]) := one_row rowZ (heap_alloc_new u1 _)
      replace HO := Lib.hid (rown_below HO.out hb1)
      replace HB := Lib.hid (HB.out.trans (hb1.mono HB.out.size))
      clear hb1
      generalize (u1.alloc (.cells #[.int .i64 op, .complex .f64 fx fy, .float .f64 fz] 165)) = u2 at *
      generalize u1.heap.size = G1 at *
      refine hK.out _ _ ⟨e0, e1, e2, e3⟩ (fun hHeld => ?_)
      clear hK K
      try simp only [Act.put, List.setIfInBounds_toArray, List.set_cons_zero, List.set_cons_succ]
      refine wpAnyH_ready (rs := [26]) (by kernel_rfl) (by simp) ?_
      refine (ac (fun K hK => ?_) AllReadyH.nil)
      refine step_append_row rowZ (B := w.heap.size) (v := .slice Av k cv) (n := k) (zs := (rs.map toS).take k) (m := 1) (ys := [⟨op, fx, fy, fz⟩]) (by rfl) _ _ (by rfl) (by rfl) HO.out (by rfl) HX1.out (by omega) (by exact HB.out.size) ?_
      intro A3 c3 w3 hown3 hg3 hat3
      have nk : some blk ≠ Value.ownBlock (.slice Av k cv) := fun e => by have := (HO.out.lt blk e.symm).1; omega
      replace e0 := (World.cell?_of_block (a := ⟨blk, off + k * 4, none⟩) (hg3.block blk hbl nk)).trans e0
      replace e1 := (World.cell?_of_block (a := ⟨blk, off + k * 4 + 1, none⟩) (hg3.block blk hbl nk)).trans e1
      replace e2 := (World.cell?_of_block (a := ⟨blk, off + k * 4 + 2, none⟩) (hg3.block blk hbl nk)).trans e2
      replace e3 := (World.cell?_of_block (a := ⟨blk, off + k * 4 + 3, none⟩) (hg3.block blk hbl nk)).trans e3
      replace HB := Lib.hid (HB.out.grown hg3 HB.out.size (fun g e => (HO.out.lt g e).1))
      have HO3 := Lib.hid hown3
      clear hown3 hg3 hat3 nk HO HX1
      refine hK.out _ _ ⟨e0, e1, e2, e3⟩ (fun hHeld => ?_)
      clear hK K
      try simp only [Act.put, List.setIfInBounds_toArray, List.set_cons_zero, List.set_cons_succ]
      refine tk 27 ?_
      refine wpAnyH_done (by kernel_rfl) ?_ _
      have HC3 : Hid (CopyZ cellsZ 3 165 w (rs.map toS) (k + 1) A3 c3 w3) := ⟨by rw [HTS.out, HZZ.out]; exact HO3.out, HB.out⟩
      clear hHeld e0 e1 e2 e3 HO3
      go_wp2
      go_roundw
      case rel => exact ⟨k + 1, A3, c3, by omega, by go_num, rfl, HC3⟩
      case measure => simp [intOf]; omega
    · obtain rfl : k = n := by omega
      have HT : Hid ((rs.map toS).take k = rs.map toS) := List.take_of_length_le (by have := HL.out; omega)
      go_wp2
      go_ret
      refine ⟨Av, cv, by rw [HL.out]; rfl, ?_, HB.out⟩
      have h := HO.out
      rw [HT.out] at h
      rw [HL.out]
      exact h
def SmallR (r : RSt) : Prop := Small r.x ∧ Small r.y ∧ Small r.sz
theorem small_64 {r : RSt} (h : SmallR r) : Fits64 r := by
  unfold SmallR Small at h
  unfold Fits64
  omega
end Go.Proofs.YtbookbgfipbaoaaGreatDoor.Zo

/- When steps are the same: the document's, and the program's. -/
namespace Go.Proofs.YtbookbgfipbaoaaGreatDoor.Zo
open Go.RowKit

theorem ite_ok (p : Prop) [Decidable p] (a : Bool) (w : World) : (if p then Result.ok (Value.bool a) w else Result.ok (Value.bool false) w) = Result.ok (Value.bool (decide p && a)) w := by
  by_cases h : p <;> simp [h]
theorem ite_no (p : Prop) [Decidable p] (a : Bool) (w : World) : (if p then Result.ok (Value.bool false) w else Result.ok (Value.bool a) w) = Result.ok (Value.bool (decide (¬ p) && a)) w := by
  by_cases h : p <;> simp [h]
theorem run_equalIn_complex {P : Program} (w : World) (d : Nat) (t : TypeId) (k k' : FloatKind) (a b a' b' : Nat) (h : P.underlying t = some (.complex k')) : (Op.equalIn (d + 1) t (.complex k a b) (.complex k a' b')).run P w = .ok (Op.floatEq k a a' && Op.floatEq k b b') w := by
  simp [Op.equalIn, run_underlying h]
theorem run_equalIn_float {P : Program} (w : World) (d : Nat) (t : TypeId) (k k' : FloatKind) (a a' : Nat) (h : P.underlying t = some (.float k')) : (Op.equalIn (d + 1) t (.float k a) (.float k a')).run P w = .ok (Op.floatEq k a a') w := by
  simp [Op.equalIn, run_underlying h]
def eqR (i j : RSt) : Bool := (i.op == j.op) && ((i.x == j.x) && ((i.y == j.y) && (i.sz == j.sz)))
theorem eqR_iff (i j : RSt) : eqR i j = true ↔ i = j := by
  obtain ⟨i1, i2, i3, i4⟩ := i
  obtain ⟨j1, j2, j3, j4⟩ := j
  simp [eqR]
def eqS (a b : Stp) : Bool := (a.op == b.op) && ((Op.floatEq .f64 a.re b.re && Op.floatEq .f64 a.im b.im) && Op.floatEq .f64 a.sz b.sz)
set_option maxRecDepth 100000 in
set_option maxHeartbeats 1000000 in
theorem eql_stp (a b : Stp) (w : World) : (binOp .eql 165 (stpV a) (stpV b)).run Tryz.prog w = .ok (.bool (eqS a b)) w := by
  obtain ⟨a1, a2, a3, a4⟩ := a
  obtain ⟨b1, b2, b3, b4⟩ := b
  have hx := @run_equalIn_complex Tryz.prog
  have hy := @run_equalIn_float Tryz.prog
  unfold stpV eqS
  simp only
  rw [run_eql_struct]
  go_simp
  simp only [ite_ok, ite_no]
  congr 2
  rw [Bool.eq_iff_iff]
  simp [and_assoc]
set_option maxRecDepth 100000 in
theorem neq_stp (a b : Stp) (w : World) : (binOp .neq 165 (stpV a) (stpV b)).run Tryz.prog w = .ok (.bool (!eqS a b)) w := by
  have h := eql_stp a b w
  unfold stpV at *
  rw [run_eql_struct] at h
  rw [run_neq_struct]
  generalize (Op.equalIn 10000 165 _ _).run Tryz.prog w = r at *
  rcases r with ⟨b, w'⟩ | ⟨h', w'⟩
  · simp only [Result.andThen] at h ⊢
    injection h with h1 h2
    injection h1 with h1
    subst h1 h2
    rfl
  · simp [Result.andThen] at h
instance : Inhabited Stp := ⟨⟨0, 0, 0, 0⟩⟩
theorem eqS_like {a b : Stp} {r q : RSt} (h1 : Like a r) (h2 : Like b q) (s1 : SmallR r) (s2 : SmallR q) : eqS a b = decide (r = q) := by
  have e : eqS a b = eqR r q := by
    unfold eqS eqR Op.floatEq
    rw [h1.op, h2.op, num_eql (h1.re.num s1.1) (h2.re.num s2.1), num_eql (h1.im.num s1.2.1) (h2.im.num s2.2.1), num_eql (h1.sz.num s1.2.2) (h2.sz.num s2.2.2)]
    rw [Bool.eq_iff_iff]
    simp [and_assoc]
  rw [e, Bool.eq_iff_iff, eqR_iff, decide_eq_true_eq]
theorem allEq_like : ∀ (zs ys : List Stp) (rs qs : List RSt), LikeL zs rs → LikeL ys qs → (∀ r ∈ rs, SmallR r) → (∀ r ∈ qs, SmallR r) → Lib.allEq eqS zs ys = decide (rs = qs)
  | [], [], rs, qs, h1, h2, _, _ => by
    rw [List.eq_nil_of_length_eq_zero h1.1.symm, List.eq_nil_of_length_eq_zero h2.1.symm]
    rfl
  | [], y :: ys, rs, qs, h1, h2, _, _ => by
    rw [List.eq_nil_of_length_eq_zero h1.1.symm]
    symm
    show decide ([] = qs) = false
    rw [decide_eq_false_iff_not]
    rintro rfl
    exact absurd h2.1 (by simp)
  | z :: zs, [], rs, qs, h1, h2, _, _ => by
    rw [List.eq_nil_of_length_eq_zero h2.1.symm]
    symm
    show decide (rs = []) = false
    rw [decide_eq_false_iff_not]
    rintro rfl
    exact absurd h1.1 (by simp)
  | z :: zs, y :: ys, rs, qs, h1, h2, s1, s2 => by
    obtain ⟨r, rs, rfl⟩ : ∃ r l, rs = r :: l := by
      cases rs with
      | nil => exact absurd h1.1 (by simp)
      | cons r l => exact ⟨r, l, rfl⟩
    obtain ⟨q, qs, rfl⟩ : ∃ r l, qs = r :: l := by
      cases qs with
      | nil => exact absurd h2.1 (by simp)
      | cons r l => exact ⟨r, l, rfl⟩
    have e1 := eqS_like (h1.2 0 z r rfl rfl) (h2.2 0 y q rfl rfl) (s1 r (by simp)) (s2 q (by simp))
    have e2 := allEq_like zs ys rs qs ⟨by simpa using h1.1, fun k a b ha hb => h1.2 (k + 1) a b ha hb⟩ ⟨by simpa using h2.1, fun k a b ha hb => h2.2 (k + 1) a b ha hb⟩ (fun r hr => s1 r (by simp [hr])) (fun r hr => s2 r (by simp [hr]))
    show (eqS z y && Lib.allEq eqS zs ys) = _
    rw [e1, e2, Bool.eq_iff_iff]
    simp
theorem row_bang {w : World} {B b o n : Nat} {zs : List Stp} (h : RowAt cellsZ 3 w B (some ⟨b, o, none⟩) n zs) (hn : 0 < n) : ∀ j, j < zs.length → ∀ i v, (cellsZ zs[j]!)[i]? = some v → w.cell? ⟨b, o + j * 3 + i, none⟩ = some v := by
  obtain ⟨b', o', e, _, hc⟩ := h.2 hn
  injection e with e
  injection e with e1 e2
  subst e1 e2
  intro j hj i v hv
  rw [getElem!_pos zs j hj] at hv
  exact hc j hj i v hv
set_option maxRecDepth 100000 in
set_option maxHeartbeats 1000000 in
theorem zsame_any (b1 o1 n c b2 o2 m d : Nat) (zs ys : List Stp) (rs qs : List RSt) (B : Nat) (w : World) (hz : RowAt cellsZ 3 w B (some ⟨b1, o1, none⟩) n zs) (hy : RowAt cellsZ 3 w B (some ⟨b2, o2, none⟩) m ys) (hn : 0 < n) (hm : 0 < m) (hn' : n ≤ 1099511627776) (hm' : m ≤ 1099511627776)
    (h1 : LikeL zs rs) (h2 : LikeL ys qs) (s1 : ∀ r ∈ rs, SmallR r) (s2 : ∀ r ∈ qs, SmallR r) :
    Calls Tryz.prog 72 #[.slice (some ⟨b1, o1, none⟩) n c, .slice (some ⟨b2, o2, none⟩) m d] w fun e w' => e = .returned (.bool (decide (rs = qs))) ∧ ∃ q, w' = w.drewN q := by
  have hE := Tryz.slices_Equal_f139 3 (fun w => Tryz.isAgg165 w) (fun w => Tryz.sizeOf165 w) cellsZ (fun _ => rfl) eqS ⟨fun x y w => neq_stp x y w, GuardAt.agg _ (by kernel_rfl)⟩ b1 o1 n c b2 o2 m d zs ys w (by rw [hz.1]; omega) (by rw [hy.1]; omega) (by omega) (by omega) (row_bang hz hn) (row_bang hy hm)
  rw [List.take_of_length_le (by rw [hz.1]; omega), List.take_of_length_le (by rw [hy.1]; omega), allEq_like zs ys rs qs h1 h2 s1 s2] at hE
  have HE := Lib.hid hE
  clear hE hz hy h1 h2 s1 s2
  go_enter Tryz.func72, Tryz.ntmps72
  go_wp2_with fail
  refine HE.out.mono ?_
  rintro e w1 ⟨rfl, q, rfl⟩
  go_wp2
  go_ret
  exact ⟨rfl, q, rfl⟩
end Go.Proofs.YtbookbgfipbaoaaGreatDoor.Zo

/- frame: when lists are the same; what a Frame is. -/
namespace Go.Proofs.YtbookbgfipbaoaaGreatDoor
open Go.RowKit

set_option maxRecDepth 100000 in
set_option maxHeartbeats 4000000 in
theorem idsEq_any (A : Option Addr) (n c : Nat) (zs : List ByteArray) (A' : Option Addr) (n' c' : Nat) (ys : List ByteArray) (B : Nat) (w : World) (hz : RowAt cellsT 1 w B A n zs) (hy : RowAt cellsT 1 w B A' n' ys) (hn : n ≤ 1099511627776) (hn' : n' ≤ 1099511627776) :
    Calls Tryz.prog 69 #[.slice A n c, .slice A' n' c'] w fun e w' => e = .returned (.bool (decide (zs = ys))) ∧ Hid (Drawn w w') := by
  have hl : zs.length = n := hz.1
  have hl' : ys.length = n' := hy.1
  by_cases hnn : n = n'
  · subst hnn
    have HL := Lib.hid hl
    have HL' := Lib.hid hl'
    have HZ := Lib.hid hz
    have HY := Lib.hid hy
    clear hl hl' hz hy
    go_enter Tryz.func69, Tryz.ntmps69
    go_wp2
    go_loopw [13] (fun i wr => ∃ k : Nat, k ≤ n ∧ i = .int .i64 k ∧ Hid (zs.take k = ys.take k) ∧ Hid (Drawn w wr)) (fun i _ => n - (intOf i).toNat)
    case atStart => exact ⟨0, by omega, rfl, rfl, Drawn.refl w⟩
    case round =>
      obtain ⟨k, hk, rfl, HA, HD⟩ := hrel
      by_cases hlt : k < n
      · obtain ⟨b1, o1, x, rfl, hb1, hx, hc1⟩ := HZ.out.text (drawn_below HD.out B) (k := k) hlt
        obtain ⟨b2, o2, y, rfl, hb2, hy, hd1⟩ := HY.out.text (drawn_below HD.out B) (k := k) hlt
        have hi0 : (0 : Int) ≤ (k : Int) := by omega
        have hi1 : (k : Int) < (n : Int) := by omega
        by_cases he : x = y
        · have HN : Hid (zs.take (k + 1) = ys.take (k + 1)) := by show _ = _; rw [snocT hx, snocT hy, HA.out, he]
          subst he
          clear hx hy
          go_wp2_with fail
          go_quiet (fail)
          go_wp2
          go_roundw
          case rel => exact ⟨k + 1, by omega, by go_num, HN, HD.out.more _⟩
          case measure => simp [intOf]; omega
        · have HF : Hid (decide (zs = ys) = false) := decide_eq_false (fun e => he (by rw [e, hy] at hx; injection hx with hx; exact hx.symm))
          have hq : (x.toList == y.toList) = false := by rw [beq_eq_false_iff_ne]; exact fun e => he (By.toList_inj e)
          clear he hx hy
          go_wp2_with fail
          go_quiet (fail)
          go_wp2
          go_ret
          exact ⟨ret_bool HF.out.symm, HD.out.more _⟩
      · have hi1 : ¬ (k : Int) < (n : Int) := by omega
        have HF : Hid (decide (zs = ys) = true) := decide_eq_true (by
          have := HA.out
          rwa [List.take_of_length_le (by have := HL.out; omega), List.take_of_length_le (by have := HL'.out; omega)] at this)
        go_wp2
        go_ret
        exact ⟨ret_bool HF.out.symm, HD.out⟩
  · have HF : Hid (decide (zs = ys) = false) := decide_eq_false (fun e => hnn (by rw [← hl, ← hl', e]))
    have hne : ((n : Int) != (n' : Int)) = true := by simp; omega
    have hne' : (n != n') = true := by simp [hnn]
    clear hl hl' hz hy hnn
    go_enter Tryz.func69, Tryz.ntmps69
    go_wp2
    go_ret
    exact ⟨ret_bool HF.out.symm, Drawn.refl w⟩

instance : DecidableEq By.Itm := fun a b => decidable_of_iff _ (By.eqI_iff a b)
def eqP (i j : By.Itm) : Bool := (i.key == j.key) && (By.eqV i.ver j.ver && ((i.dead == j.dead) && ((Op.floatEq .f64 (fl i.x) (fl j.x) && Op.floatEq .f64 (fl i.y) (fl j.y)) && ((i.text.toList == j.text.toList) && (i.held == j.held)))))
set_option maxRecDepth 100000 in
set_option maxHeartbeats 1000000 in
theorem eql_itm (i j : By.Itm) (w : World) : (binOp .eql 114 (By.itmV i) (By.itmV j)).run Tryz.prog w = .ok (.bool (eqP i j)) w := by
  obtain ⟨i1, ⟨d1, a1, s1⟩, i3, i4, i5, i6, i7⟩ := i
  obtain ⟨j1, ⟨d2, a2, s2⟩, j3, j4, j5, j6, j7⟩ := j
  have hx := @By.run_equalIn_complex Tryz.prog
  unfold By.itmV eqP By.eqV
  simp only
  generalize fl i4 = f4 at *
  generalize fl i5 = f5 at *
  generalize fl j4 = g4 at *
  generalize fl j5 = g5 at *
  rw [run_eql_struct]
  go_simp
  simp only [By.ite_ok, By.ite_no]
  congr 2
  rw [Bool.eq_iff_iff]
  simp [and_assoc]
set_option maxRecDepth 100000 in
theorem neq_itm (a b : By.Itm) (w : World) : (binOp .neq 114 (By.itmV a) (By.itmV b)).run Tryz.prog w = .ok (.bool (!eqP a b)) w := by
  have h := eql_itm a b w
  unfold By.itmV at *
  rw [run_eql_struct] at h
  rw [run_neq_struct]
  generalize (Op.equalIn 10000 114 _ _).run Tryz.prog w = r at *
  rcases r with ⟨b, w'⟩ | ⟨h', w'⟩
  · simp only [Result.andThen] at h ⊢
    injection h with h1 h2
    injection h1 with h1
    subst h1 h2
    rfl
  · simp [Result.andThen] at h
instance : Inhabited By.Itm := ⟨By.zeroI⟩
def SmallI (i : By.Itm) : Prop := i.x.natAbs < 2 ^ 53 ∧ i.y.natAbs < 2 ^ 53
theorem eqP_small {a b : By.Itm} (h1 : SmallI a) (h2 : SmallI b) : eqP a b = decide (a = b) := by
  have e : eqP a b = By.eqI a b := by
    unfold eqP By.eqI
    rw [By.floatEq_fl _ _ h1.1 h2.1, By.floatEq_fl _ _ h1.2 h2.2]
  rw [e, Bool.eq_iff_iff, By.eqI_iff, decide_eq_true_eq]
theorem allEq_items : ∀ (zs ys : List By.Itm), (∀ r ∈ zs, SmallI r) → (∀ r ∈ ys, SmallI r) → Lib.allEq eqP zs ys = decide (zs = ys)
  | [], [], _, _ => rfl
  | [], y :: ys, _, _ => rfl
  | z :: zs, [], _, _ => rfl
  | z :: zs, y :: ys, s1, s2 => by
    have e1 := eqP_small (s1 z (by simp)) (s2 y (by simp))
    have e2 := allEq_items zs ys (fun r hr => s1 r (by simp [hr])) (fun r hr => s2 r (by simp [hr]))
    show (eqP z y && Lib.allEq eqP zs ys) = _
    rw [e1, e2, Bool.eq_iff_iff]
    simp
theorem item_bang {w : World} {B b o n : Nat} {zs : List By.Itm} (h : RowAt By.cellsP 8 w B (some ⟨b, o, none⟩) n zs) (hn : 0 < n) : ∀ j, j < zs.length → ∀ i v, (By.cellsP zs[j]!)[i]? = some v → w.cell? ⟨b, o + j * 8 + i, none⟩ = some v := by
  obtain ⟨b', o', e, _, hc⟩ := h.2 hn
  injection e with e
  injection e with e1 e2
  subst e1 e2
  intro j hj i v hv
  exact hc j hj i v (by rwa [getElem!_pos zs j hj] at hv)
set_option maxRecDepth 100000 in
set_option maxHeartbeats 1000000 in
theorem itemsEq_empty (A : Option Addr) (n c : Nat) (A' : Option Addr) (n' c' : Nat) (w : World) (h : n = 0 ∨ n' = 0) (hn : n ≤ 1099511627776) (hn' : n' ≤ 1099511627776) :
    Calls Tryz.prog 73 #[.slice A n c, .slice A' n' c'] w fun e w' => e = .returned (.bool (decide (n = n'))) ∧ w = w' := by
  by_cases hnn : n = n'
  · subst hnn
    obtain rfl : n = 0 := by omega
    go_enter Tryz.func73, Tryz.ntmps73
    go_wp2
    go_loopw [13] (fun i wr => i = .int .i64 (0 : Nat) ∧ Hid (w = wr)) (fun i _ => 0)
    case atStart => exact ⟨rfl, rfl⟩
    case round =>
      obtain ⟨rfl, HD⟩ := hrel
      go_wp2
      go_ret
      exact ⟨rfl, HD.out⟩
  · have hne : ((n : Int) != (n' : Int)) = true := by simp; omega
    have hne' : (n != n') = true := by simp [hnn]
    have hd : decide (n = n') = false := decide_eq_false hnn
    rw [hd]
    clear hnn hd
    go_enter Tryz.func73, Tryz.ntmps73
    go_wp2
    go_ret
    exact ⟨rfl, rfl⟩
set_option maxRecDepth 100000 in
set_option maxHeartbeats 1000000 in
theorem zoneEq_empty (A : Option Addr) (n c : Nat) (A' : Option Addr) (n' c' : Nat) (w : World) (h : n = 0 ∨ n' = 0) (hn : n ≤ 1099511627776) (hn' : n' ≤ 1099511627776) :
    Calls Tryz.prog 139 #[.slice A n c, .slice A' n' c'] w fun e w' => e = .returned (.bool (decide (n = n'))) ∧ w = w' := by
  by_cases hnn : n = n'
  · subst hnn
    obtain rfl : n = 0 := by omega
    go_enter Tryz.func139, Tryz.ntmps139
    go_wp2
    go_loopw [13] (fun i wr => i = .int .i64 (0 : Nat) ∧ Hid (w = wr)) (fun i _ => 0)
    case atStart => exact ⟨rfl, rfl⟩
    case round =>
      obtain ⟨rfl, HD⟩ := hrel
      go_wp2
      go_ret
      exact ⟨rfl, HD.out⟩
  · have hne : ((n : Int) != (n' : Int)) = true := by simp; omega
    have hne' : (n != n') = true := by simp [hnn]
    have hd : decide (n = n') = false := decide_eq_false hnn
    rw [hd]
    clear hnn hd
    go_enter Tryz.func139, Tryz.ntmps139
    go_wp2
    go_ret
    exact ⟨rfl, rfl⟩
theorem nil_of {α : Type} {l : List α} {n : Nat} (h : l.length = n) (h0 : n = 0) : l = [] := List.eq_nil_of_length_eq_zero (by omega)
theorem eq_len {α : Type} [DecidableEq α] {a b : List α} {n m : Nat} (ha : a.length = n) (hb : b.length = m) (h : n = 0 ∨ m = 0) : decide (n = m) = decide (a = b) := by
  rw [Bool.eq_iff_iff, decide_eq_true_eq, decide_eq_true_eq]
  constructor
  · intro e
    rw [nil_of ha (by omega), nil_of hb (by omega)]
  · rintro rfl; omega
theorem itemsEq_any (A : Option Addr) (n c : Nat) (zs : List By.Itm) (A' : Option Addr) (n' c' : Nat) (ys : List By.Itm) (B : Nat) (w : World) (hz : RowAt By.cellsP 8 w B A n zs) (hy : RowAt By.cellsP 8 w B A' n' ys) (hn : n ≤ 1099511627776) (hn' : n' ≤ 1099511627776) (s1 : ∀ r ∈ zs, SmallI r) (s2 : ∀ r ∈ ys, SmallI r) :
    Calls Tryz.prog 73 #[.slice A n c, .slice A' n' c'] w fun e w' => e = .returned (.bool (decide (zs = ys))) ∧ ∃ q, w' = w.drewN q := by
  by_cases h : n = 0 ∨ n' = 0
  · refine (itemsEq_empty A n c A' n' c' w h hn hn').mono ?_
    rintro e w' ⟨rfl, rfl⟩
    exact ⟨by rw [eq_len hz.1 hy.1 h], 0, rfl⟩
  · obtain ⟨b1, o1, rfl, _, _⟩ := hz.2 (by omega)
    obtain ⟨b2, o2, rfl, _, _⟩ := hy.2 (by omega)
    have hE := Tryz.slices_Equal_f73 8 (fun w => Tryz.isAgg114 w) (fun w => Tryz.sizeOf114 w) By.cellsP (fun _ => rfl) eqP ⟨fun x y w => neq_itm x y w, GuardAt.agg _ (by kernel_rfl)⟩ b1 o1 n c b2 o2 n' c' zs ys w (by rw [hz.1]; omega) (by rw [hy.1]; omega) (by omega) (by omega) (item_bang hz (by omega)) (item_bang hy (by omega))
    rw [List.take_of_length_le (by rw [hz.1]; omega), List.take_of_length_le (by rw [hy.1]; omega), allEq_items zs ys s1 s2] at hE
    exact hE
set_option maxRecDepth 100000 in
theorem zoneSame_any (A : Option Addr) (n c : Nat) (zs : List Zo.Stp) (rs : List Zo.RSt) (A' : Option Addr) (n' c' : Nat) (ys : List Zo.Stp) (qs : List Zo.RSt) (B : Nat) (w : World) (hz : RowAt Zo.cellsZ 3 w B A n zs) (hy : RowAt Zo.cellsZ 3 w B A' n' ys) (hn : n ≤ 1099511627776) (hn' : n' ≤ 1099511627776) (h1 : Zo.LikeL zs rs) (h2 : Zo.LikeL ys qs) (s1 : ∀ r ∈ rs, Zo.SmallR r) (s2 : ∀ r ∈ qs, Zo.SmallR r) :
    Calls Tryz.prog 72 #[.slice A n c, .slice A' n' c'] w fun e w' => e = .returned (.bool (decide (rs = qs))) ∧ ∃ q, w' = w.drewN q := by
  by_cases h : n = 0 ∨ n' = 0
  · have HE := Lib.hid (zoneEq_empty A n c A' n' c' w h hn hn')
    have HF := Lib.hid (eq_len (a := rs) (b := qs) (by rw [← h1.1, hz.1]) (by rw [← h2.1, hy.1]) h)
    clear hz hy h1 h2 s1 s2
    rw [HF.out] at HE
    go_enter Tryz.func72, Tryz.ntmps72
    go_wp2_with fail
    refine HE.out.mono ?_
    rintro e w1 ⟨rfl, rfl⟩
    go_wp2
    go_ret
    exact ⟨rfl, 0, rfl⟩
  · obtain ⟨b1, o1, rfl, _, _⟩ := hz.2 (by omega)
    obtain ⟨b2, o2, rfl, _, _⟩ := hy.2 (by omega)
    exact Zo.zsame_any b1 o1 n c b2 o2 n' c' zs ys rs qs B w hz hy (by omega) (by omega) hn hn' h1 h2 s1 s2

/-- What a Frame says. -/
structure Frm where
  kind : Int
  src : ByteArray
  dst : ByteArray
  know : Kn.Mat
  clock : Int
  members : List ByteArray
  certs : List At
  rows : Mx.Mat
  zone : List Zo.RSt
  items : List By.Itm
  whole : Bool
  floor : List At
/-- Where its lists lie. -/
structure Lie where
  kA : Option Addr
  kc : Nat
  mA : Option Addr
  mc : Nat
  cA : Option Addr
  cc : Nat
  rA : Option Addr
  rc : Nat
  zA : Option Addr
  zc : Nat
  iA : Option Addr
  ic : Nat
  fA : Option Addr
  fc : Nat
def frmV (f : Frm) (h : Lie) : Value := .agg #[.int .i64 f.kind, .string f.src, .string f.dst, .slice h.kA f.know.length h.kc, .int .i64 f.clock, .slice h.mA f.members.length h.mc, .slice h.cA f.certs.length h.cc, .slice h.rA f.rows.length h.rc, .slice h.zA f.zone.length h.zc, .slice h.iA f.items.length h.ic, .bool f.whole, .slice h.fA f.floor.length h.fc]
/-- Its lists lie there, in blocks below B. -/
structure FrmAt (w : World) (B : Nat) (f : Frm) (h : Lie) : Prop where
  know : Kn.MatAt w B h.kA f.know.length f.know
  members : RowAt cellsT 1 w B h.mA f.members.length f.members
  certs : VecAt w B h.cA f.certs.length f.certs
  rows : Mx.MatAt w B h.rA f.rows.length f.rows
  zone : ∃ zs, RowAt Zo.cellsZ 3 w B h.zA f.zone.length zs ∧ Zo.LikeL zs f.zone
  items : RowAt By.cellsP 8 w B h.iA f.items.length f.items
  floor : VecAt w B h.fA f.floor.length f.floor
theorem FrmAt.keep {w w' : World} {B : Nat} {f : Frm} {h : Lie} (k : FrmAt w B f h) (hb : Below B w w') : FrmAt w' B f h :=
  ⟨k.know.keep hb, k.members.keep hb, k.certs.keep hb, k.rows.keep hb, by obtain ⟨zs, h1, h2⟩ := k.zone; exact ⟨zs, h1.keep hb, h2⟩, k.items.keep hb, k.floor.keep hb⟩
theorem FrmAt.more {w : World} {B B' : Nat} {f : Frm} {h : Lie} (k : FrmAt w B f h) (hB : B ≤ B') : FrmAt w B' f h :=
  ⟨k.know.more hB, k.members.more hB, k.certs.more hB, k.rows.more hB, by obtain ⟨zs, h1, h2⟩ := k.zone; exact ⟨zs, h1.more hB, h2⟩, k.items.more hB, k.floor.more hB⟩
/-- As much as may be looked at. -/
structure FewF (f : Frm) : Prop where
  know : f.know.length ≤ 100 ∧ ∀ z ∈ f.know, z.2.2.length ≤ 5000
  members : f.members.length ≤ 100
  certs : f.certs.length ≤ 100
  rows : f.rows.length ≤ 100 ∧ ∀ z ∈ f.rows, z.2.length ≤ 100
  zone : f.zone.length ≤ 3000 ∧ ∀ r ∈ f.zone, Zo.SmallR r
  items : f.items.length ≤ 100 ∧ ∀ i ∈ f.items, SmallI i
  floor : f.floor.length ≤ 100
def sameFrm (f g : Frm) : Bool := (decide (f.kind = g.kind) && (decide (f.src = g.src) && decide (f.dst = g.dst))) && ((Kn.sameM f.know g.know && (decide (f.clock = g.clock) && decide (f.members = g.members))) && ((decide (f.certs = g.certs) && (Mx.sameM f.rows g.rows && decide (f.zone = g.zone))) && (decide (f.items = g.items) && (decide (f.whole = g.whole) && decide (f.floor = g.floor)))))
theorem sameFrm_iff (f g : Frm) : sameFrm f g = true ↔ f = g := by
  obtain ⟨a1, a2, a3, a4, a5, a6, a7, a8, a9, a10, a11, a12⟩ := f
  obtain ⟨b1, b2, b3, b4, b5, b6, b7, b8, b9, b10, b11, b12⟩ := g
  simp only [sameFrm, Kn.sameM, Mx.sameM, Bool.and_eq_true, decide_eq_true_eq, Frm.mk.injEq]
  constructor
  · rintro ⟨⟨h1, h2, h3⟩, ⟨h4, h5, h6⟩, ⟨h7, h8, h9⟩, h10, h11, h12⟩
    exact ⟨h1, h2, h3, h4, h5, h6, h7, h8, h9, h10, h11, h12⟩
  · rintro ⟨h1, h2, h3, h4, h5, h6, h7, h8, h9, h10, h11, h12⟩
    exact ⟨⟨h1, h2, h3⟩, ⟨h4, h5, h6⟩, ⟨h7, h8, h9⟩, h10, h11, h12⟩
def rightNewsF (f : Frm) : Bool := (decide (f.know.length ≤ 64) && Kn.rightM f.know) && ((decide (0 ≤ f.clock) && decide (f.clock ≤ 1048576)) && (rightMembersF f.members && (rightVecF f.certs && (rightRowsF f.rows && rightItemsF f.items))))
/-- The Stale that has no more than f's Floor. -/
def staleOf (f : Frm) : Frm := ⟨3, f.src, f.dst, [], 0, [], [], [], [], [], false, f.floor⟩
def rightFrm (f : Frm) : Bool := (rightL f.src.data.toList && rightL f.dst.data.toList) &&
  (if f.kind = 1 then rightNewsF f && (Zo.rightZ f.zone && (stubsF f.items && (!f.whole && decide (f.floor.length = 0))))
   else if f.kind = 2 then rightNewsF f && (decide (f.zone.length = 0) && decide (f.floor.length = 0))
   else if f.kind = 3 then rightVecF f.floor && sameFrm f (staleOf f) else false)
end Go.Proofs.YtbookbgfipbaoaaGreatDoor

/- Blocks of one struct whose cells are known one by one; twelve stores into one block. -/
namespace Go.Proofs.YtbookbgfipbaoaaGreatDoor
open Go.RowKit

/-- The block b holds the cells vs, none of them frozen. -/
structure Blk (w : World) (b : Nat) (vs : List Value) : Prop where
  c : ∀ o v, vs[o]? = some v → w.cell? ⟨b, o, none⟩ = some v
  f : ∀ o, o < vs.length → w.frozen? ⟨b, o, none⟩ = false
  z : b < w.heap.size
theorem Blk.new (w : World) (cs : List Value) (ty : TypeId) : Blk (w.alloc (.cells cs.toArray ty)) w.heap.size cs :=
  ⟨fun o v h => by simp [go_sem, h], fun o h => by simp [go_sem], by simp⟩
theorem Blk.keep {w w' : World} {b B : Nat} {vs : List Value} (h : Blk w b vs) (hb : Below B w w') (hB : b < B) : Blk w' b vs :=
  ⟨fun o v e => (hb.cell (p := ⟨b, o, none⟩) hB).trans (h.c o v e), fun o e => (hb.frozen (p := ⟨b, o, none⟩) hB).trans (h.f o e), Nat.lt_of_lt_of_le h.z hb.size⟩
theorem Blk.below {w w' : World} {b : Nat} {vs : List Value} (h : Blk w b vs) (hb : Below w.heap.size w w') : Blk w' b vs := h.keep hb h.z
theorem Blk.read {w w' : World} {b R : Nat} {vs : List Value} (h : Blk w b vs) (hg : w.grownBy w' (some R)) (hR : R < b) : Blk w' b vs := by
  have hne : some b ≠ (some R : Option Nat) := fun e => by injection e with e; omega
  exact ⟨fun o v e => (hg.cell_far ⟨b, o, none⟩ h.z hne).trans (h.c o v e), fun o e => (hg.frozen_far ⟨b, o, none⟩ h.z hne).trans (h.f o e), Nat.lt_of_lt_of_le h.z hg.size⟩
theorem Blk.far {w w' : World} {b : Nat} {row : Option Nat} {vs : List Value} (h : Blk w b vs) (hg : w.grownBy w' row) (hne : some b ≠ row) : Blk w' b vs :=
  ⟨fun o v e => (hg.cell_far ⟨b, o, none⟩ h.z hne).trans (h.c o v e), fun o e => (hg.frozen_far ⟨b, o, none⟩ h.z hne).trans (h.f o e), Nat.lt_of_lt_of_le h.z hg.size⟩
theorem Blk.other {w : World} {b : Nat} {vs : List Value} (h : Blk w b vs) {p : Addr} (hp : p.block ≠ b) (u : Value) : Blk (w.setCell p u) b vs := by
  have hg : w.grownBy (w.setCell p u) (some p.block) := By.grown_set u
  have hne : some b ≠ (some p.block : Option Nat) := fun e => by injection e with e; exact hp e.symm
  exact ⟨fun o v e => (hg.cell_far ⟨b, o, none⟩ h.z hne).trans (h.c o v e), fun o e => (hg.frozen_far ⟨b, o, none⟩ h.z hne).trans (h.f o e), Nat.lt_of_lt_of_le h.z hg.size⟩
theorem Blk.set {w : World} {b : Nat} {vs : List Value} (h : Blk w b vs) (o : Nat) (ho : o < vs.length) (u : Value) : Blk (w.setCell ⟨b, o, none⟩ u) b (vs.set o u) := by
  have hc : w.cell? ⟨b, o, none⟩ = some vs[o] := h.c o _ (List.getElem?_eq_getElem ho)
  refine ⟨fun q v e => ?_, fun q e => ?_, by simp; exact h.z⟩
  · by_cases hq : q = o
    · subst hq
      rw [List.getElem?_set_self (by omega)] at e
      injection e with e
      subst e
      simp [go_sem, hc]
    · rw [List.getElem?_set_ne (fun e2 => hq e2.symm)] at e
      have := h.c q v e
      simp [go_sem, this]
  · have := h.f q (by simpa using e)
    simp [go_sem, this]
section
variable {w : World} {b : Nat} {v0 v1 v2 v3 v4 v5 v6 v7 v8 v9 v10 v11 : Value}
theorem Blk.cs (h : Blk w b [v0, v1, v2, v3, v4, v5, v6, v7, v8, v9, v10, v11]) : w.cell? ⟨b, 0, none⟩ = some v0 ∧ w.cell? ⟨b, 1, none⟩ = some v1 ∧ w.cell? ⟨b, 2, none⟩ = some v2 ∧ w.cell? ⟨b, 3, none⟩ = some v3 ∧ w.cell? ⟨b, 4, none⟩ = some v4 ∧ w.cell? ⟨b, 5, none⟩ = some v5 ∧ w.cell? ⟨b, 6, none⟩ = some v6 ∧ w.cell? ⟨b, 7, none⟩ = some v7 ∧ w.cell? ⟨b, 8, none⟩ = some v8 ∧ w.cell? ⟨b, 9, none⟩ = some v9 ∧ w.cell? ⟨b, 10, none⟩ = some v10 ∧ w.cell? ⟨b, 11, none⟩ = some v11 :=
  ⟨h.c 0 _ rfl, h.c 1 _ rfl, h.c 2 _ rfl, h.c 3 _ rfl, h.c 4 _ rfl, h.c 5 _ rfl, h.c 6 _ rfl, h.c 7 _ rfl, h.c 8 _ rfl, h.c 9 _ rfl, h.c 10 _ rfl, h.c 11 _ rfl⟩
theorem Blk.fs (h : Blk w b [v0, v1, v2, v3, v4, v5, v6, v7, v8, v9, v10, v11]) : w.frozen? ⟨b, 0, none⟩ = false ∧ w.frozen? ⟨b, 1, none⟩ = false ∧ w.frozen? ⟨b, 2, none⟩ = false ∧ w.frozen? ⟨b, 3, none⟩ = false ∧ w.frozen? ⟨b, 4, none⟩ = false ∧ w.frozen? ⟨b, 5, none⟩ = false ∧ w.frozen? ⟨b, 6, none⟩ = false ∧ w.frozen? ⟨b, 7, none⟩ = false ∧ w.frozen? ⟨b, 8, none⟩ = false ∧ w.frozen? ⟨b, 9, none⟩ = false ∧ w.frozen? ⟨b, 10, none⟩ = false ∧ w.frozen? ⟨b, 11, none⟩ = false :=
  have g : ∀ o, o < 12 → w.frozen? ⟨b, o, none⟩ = false := h.f
  ⟨g 0 (by omega), g 1 (by omega), g 2 (by omega), g 3 (by omega), g 4 (by omega), g 5 (by omega), g 6 (by omega), g 7 (by omega), g 8 (by omega), g 9 (by omega), g 10 (by omega), g 11 (by omega)⟩
/-- Twelve cells of one block are stored. -/
abbrev sets12 (w : World) (b : Nat) (v0 v1 v2 v3 v4 v5 v6 v7 v8 v9 v10 v11 : Value) : World := (((((((((((w.setCell ⟨b, 0, none⟩ v0).setCell ⟨b, 1, none⟩ v1).setCell ⟨b, 2, none⟩ v2).setCell ⟨b, 3, none⟩ v3).setCell ⟨b, 4, none⟩ v4).setCell ⟨b, 5, none⟩ v5).setCell ⟨b, 6, none⟩ v6).setCell ⟨b, 7, none⟩ v7).setCell ⟨b, 8, none⟩ v8).setCell ⟨b, 9, none⟩ v9).setCell ⟨b, 10, none⟩ v10).setCell ⟨b, 11, none⟩ v11
theorem sets12_any {P : World → Prop} (hs : ∀ u o v, P u → P (u.setCell ⟨b, o, none⟩ v)) (h : P w) : P (sets12 w b v0 v1 v2 v3 v4 v5 v6 v7 v8 v9 v10 v11) :=
  hs _ _ _ (hs _ _ _ (hs _ _ _ (hs _ _ _ (hs _ _ _ (hs _ _ _ (hs _ _ _ (hs _ _ _ (hs _ _ _ (hs _ _ _ (hs _ _ _ (hs _ _ _ h)))))))))))
end
end Go.Proofs.YtbookbgfipbaoaaGreatDoor
