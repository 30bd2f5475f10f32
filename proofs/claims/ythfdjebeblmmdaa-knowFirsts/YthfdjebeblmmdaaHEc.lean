/- know.pushAll, order and Union. -/
import Derived.Test.YthfdjebeblmmdaaHEb
namespace Go.Proofs.Ythfdjebeblmmdaa
open Go.RowKit

theorem push_m (A : Option Addr) (n c : Nat) (m : Mat) (id : ByteArray) (u : Int) (Ar : Option Addr) (cr : Nat) (v : List Int) (B : Nat) (w : World) (hB : B ≤ w.heap.size) (hO : OwnsM w B 77 A n c m) (hv : Sp.IntsAt w w.heap.size Ar v.length v) (hcr : v.length ≤ cr) (hn : n ≤ 1000000) (hs : OkS (u, v)) :
    Calls Try.prog 60 #[.slice A n c, .agg #[.string id, .int .i64 u, .slice Ar v.length cr]] w fun e w' => ∃ A3 c3, e = .returned (.slice A3 (n + 1) c3) ∧ OwnsM w' B 77 A3 (n + 1) c3 (m ++ [(id, (u, v))]) ∧ Below B w w' := by
  obtain ⟨rs, rfl, hO⟩ := hO
  refine (push_any A n c rs id u Ar cr v B w hB hO hv hcr hn hs).mono ?_
  rintro e w' ⟨A3, c3, r, rfl, rfl, hsr, hO3, hg⟩
  exact ⟨A3, c3, rfl, ⟨rs ++ [r], by rw [absH_append, ← hsr]; rfl, hO3⟩, grown_below hg hB (fun g e => (hO.own.lt g e).1)⟩
theorem unionS_any (a b : Int) (A : Option Addr) (c : Nat) (xs : List Int) (A' : Option Addr) (c' : Nat) (ys : List Int) (B : Nat) (w : World) (hB : B ≤ w.heap.size) (hx : Sp.IntsAt w B A xs.length xs) (hy : Sp.IntsAt w B A' ys.length ys) (hnc : xs.length ≤ c) (hmc : ys.length ≤ c') (hn : xs.length ≤ 1000000) (hm : ys.length ≤ 1000000) :
    Calls Try.prog 67 #[.agg #[.int .i64 a, .slice A xs.length c], .agg #[.int .i64 b, .slice A' ys.length c']] w (OwnS (Sp.unionF (a, xs) (b, ys)) w) :=
  (Sp.union_any a b A xs.length c xs A' ys.length c' ys B w hB hx hy hnc hmc (by omega) (by omega)).mono fun _ _ h => ownS_of h
theorem drew_below (B : Nat) (w : World) : Below B w w.drew := ⟨rfl, rfl, rfl, Nat.le_refl _, fun _ _ => rfl⟩
/-- Some Rows more behind. -/
def MoreRet (B : Nat) (m : Mat) (w : World) (e : Ending) (w' : World) : Prop := ∃ A3 c3, e = .returned (.slice A3 m.length c3) ∧ OwnsM w' B 77 A3 m.length c3 m ∧ Below B w w'
set_option maxRecDepth 100000 in
set_option maxHeartbeats 4000000 in
theorem pushAll_any (A : Option Addr) (n c : Nat) (m0 : Mat) (A' : Option Addr) (n' c' : Nat) (m : Mat) (B : Nat) (w : World) (hB : B ≤ w.heap.size) (hO : OwnsM w B 77 A n c m0) (hz : MatAt w B A' n' m) (hn : n + n' ≤ 1000000) (hv : ∀ x ∈ m, OkS x.2) :
    Calls Try.prog 68 #[.slice A n c, .slice A' n' c'] w (MoreRet B (m0 ++ m) w) := by
  have hl0 := hO.len
  have HL := Lib.hid hz.len
  have HZ := Lib.hid hz
  have HV := Lib.hid hv
  have HO0 := Lib.hid hO
  have HL0 := Lib.hid hl0
  clear hz hv hO hl0
  go_enter Try.func68, Try.ntmps68
  go_wp2
  go_loopw [0, 9] (fun v i wr => ∃ (k : Nat) (Av : Option Addr) (cv : Nat), k ≤ n' ∧ i = .int .i64 k ∧ v = .slice Av (n + k) cv ∧ Hid (OwnsM wr B 77 Av (n + k) cv (m0 ++ m.take k)) ∧ Hid (Below B w wr)) (fun _ i _ => n' - (intOf i).toNat)
  case atStart => exact ⟨0, A, c, by omega, rfl, rfl, by rw [List.take_zero, List.append_nil]; exact HO0.out, Below.refl _ _⟩
  case round =>
    obtain ⟨k, Av, cv, hk, rfl, rfl, HO, HB⟩ := hrel
    by_cases hlt : k < n'
    · obtain ⟨blk, off, r, rfl, hbB, hmk, e0, e1, e2, hf⟩ := HZ.out.get HB.out hlt
      have HTS := Lib.hid (takeM hmk)
      have hi1 : (k : Int) < (n' : Int) := by omega
      have hvl : OkS (r.u, r.v) := HV.out _ (List.mem_of_getElem? hmk)
      have hbw : Below wr.heap.size wr (wr.alloc (.cells #[.string r.id, .int .i64 r.u, .slice r.A r.v.length r.c] 77)) := (Below.refl _ _).alloc (Nat.le_refl _) _
      have hBr : B ≤ wr.heap.size := Nat.le_trans hB HB.out.size
      have HP := Lib.hid (push_m Av (n + k) cv (m0 ++ m.take k) r.id r.u r.A r.c r.v B (wr.alloc (.cells #[.string r.id, .int .i64 r.u, .slice r.A r.v.length r.c] 77)) (Nat.le_trans hBr hbw.size) (HO.out.below hbw) ((hf.vec.more hBr).keep hbw |>.more hbw.size) hf.cap (by omega) hvl)
      have HB1 := Lib.hid (HB.out.trans (hbw.mono hBr))
      rw [show m0 ++ m.take k ++ [(r.id, (r.u, r.v))] = m0 ++ m.take (k + 1) by rw [HTS.out, List.append_assoc]] at HP
      obtain ⟨id, u, Ar, cr, v⟩ := r
      simp only at e0 e1 e2 HP HB1
      clear hmk hf hbw HTS hvl
      go_wp2_with fail
      refine HP.out.mono ?_
      rintro e w1 ⟨A3, c3, rfl, ho, hb⟩
      have HO3 := Lib.hid ho
      replace HB := Lib.hid (HB1.out.trans hb)
      clear ho hb HP HB1 e0 e1 e2
      go_wp2_with fail
      go_roundw
      case rel => exact ⟨k + 1, A3, c3, by omega, by go_num, rfl, HO3, HB⟩
      case measure => simp [intOf]; omega
    · obtain rfl : k = n' := by omega
      have HT : Hid (m.take k = m) := List.take_of_length_le (by have := HL.out; omega)
      have HLm : Hid ((m0 ++ m).length = n + k) := by show _ = _; rw [List.length_append, HL0.out, HL.out]
      go_wp2
      go_ret
      unfold MoreRet
      rw [HLm.out]
      have h := HO.out
      rw [HT.out] at h
      exact ⟨Av, cv, rfl, h, HB.out⟩
set_option maxRecDepth 100000 in
set_option maxHeartbeats 1000000 in
theorem orderM_any (id : ByteArray) (u : Int) (Ar : Option Addr) (n c : Nat) (a : ByteArray) (w : World) :
    Calls Try.prog 66 #[.agg #[.string id, .int .i64 u, .slice Ar n c], .string a] w fun e w' => e = .returned (.int .i64 (cmpId id a)) ∧ Below w.heap.size w w' := by
  go_enter Try.func66, Try.ntmps66
  go_wp2_with (go_at_call 50; refine (compare_any _ _ _).mono ?_; rintro e w' ⟨rfl, rfl⟩)
  go_ret
  exact ⟨rfl, (Below.refl _ _).alloc (Nat.le_refl _) _⟩
theorem orderM_is (id : ByteArray) (u : Int) (Ar : Option Addr) (n c : Nat) (a : ByteArray) (x : Int) (h : Hid (cmpId id a = x)) (w : World) :
    Calls Try.prog 66 #[.agg #[.string id, .int .i64 u, .slice Ar n c], .string a] w fun e w' => e = .returned (.int .i64 x) ∧ Below w.heap.size w w' := by
  rw [← h.out]; exact orderM_any id u Ar n c a w

/-- Of each id what either has. -/
def mergeF : Mat → Mat → Mat
  | [], ys => ys
  | x :: xs, [] => x :: xs
  | x :: xs, y :: ys => if cmpId x.1 y.1 < 0 then x :: mergeF xs (y :: ys) else if 0 < cmpId x.1 y.1 then y :: mergeF (x :: xs) ys else (x.1, Sp.unionF x.2 y.2) :: mergeF xs ys
termination_by xs ys => xs.length + ys.length
theorem mergeF_nil (xs : Mat) : mergeF xs [] = xs := by cases xs <;> simp [mergeF]
theorem mergeF_lt {x y : ByteArray × (Int × List Int)} {xs ys : Mat} (h : cmpId x.1 y.1 < 0) : mergeF (x :: xs) (y :: ys) = x :: mergeF xs (y :: ys) := by rw [mergeF, if_pos h]
theorem mergeF_gt {x y : ByteArray × (Int × List Int)} {xs ys : Mat} (h : 0 < cmpId x.1 y.1) : mergeF (x :: xs) (y :: ys) = y :: mergeF (x :: xs) ys := by rw [mergeF, if_neg (by omega), if_pos h]
theorem mergeF_eq {x y : ByteArray × (Int × List Int)} {xs ys : Mat} (h : cmpId x.1 y.1 = 0) : mergeF (x :: xs) (y :: ys) = (x.1, Sp.unionF x.2 y.2) :: mergeF xs ys := by rw [mergeF, if_neg (by omega), if_neg (by omega)]
theorem cutM (ad : Addr) (n c : Nat) (hn : 0 < n) (hnc : n ≤ c) : ∃ A', (∀ W, (Instr.slice 31 (.slice (some ad) n c) (some (.int .i64 1)) none none).run Try.prog W = .ok (.slice A' (n - 1) (c - 1)) W) ∧
    ∀ (w : World) (B : Nat) (z : ByteArray × (Int × List Int)) (zs : Mat), MatAt w B (some ad) n (z :: zs) → MatAt w B A' (n - 1) zs := by
  have hel : Try.prog.elem 31 = 77 := by kernel_rfl
  have hsz : ∀ W, (sizeOf 77).run Try.prog W = .ok 3 W := fun W => by
    obtain ⟨i, hi, _, hz1, _⟩ := info_parts rowM.i
    simp [sizeOf, typeInfo, hi, hz1]
  refine ⟨if c = 1 then some ad else some (ad.add 3), fun W => ?_, fun w B z zs h => ?_⟩
  · rw [run_slice_l (P := Try.prog) W 31 (some ad) n c (by rw [hel]; exact Try.underlying31) .i64 1 (by omega) (by omega), hel, hsz]
    simp [sliced]
  · obtain ⟨b, off, _, e, _⟩ := h.get (Below.refl _ _) (k := 0) hn
    injection e with e
    subst e
    by_cases h1 : n = 1
    · subst h1
      have : zs = [] := by have := h.len; simp at this; exact this
      subst this
      exact MatAt.nil _ _ _
    · rw [if_neg (by omega), radd]
      obtain ⟨k, rfl⟩ : ∃ k, n = k + 1 := ⟨n - 1, by omega⟩
      exact h.tail
theorem MatAt.head {w wr : World} {B : Nat} {A : Option Addr} {n : Nat} {m : Mat} (h : MatAt w B A n m) (hb : Below B w wr) (hn : 0 < n) :
    ∃ blk off Ar cr, ∃ x : ByteArray × (Int × List Int), ∃ xt, A = some ⟨blk, off, none⟩ ∧ blk < B ∧ m = x :: xt ∧ wr.cell? ⟨blk, off, none⟩ = some (.string x.1) ∧ wr.cell? ⟨blk, off + 1, none⟩ = some (.int .i64 x.2.1) ∧ wr.cell? ⟨blk, off + 2, none⟩ = some (.slice Ar x.2.2.length cr) ∧ Sp.IntsAt wr B Ar x.2.2.length x.2.2 ∧ x.2.2.length ≤ cr := by
  have hl := h.len
  obtain ⟨b, off, r, e, hlt, hm, h0, h1, h2, hf⟩ := h.get hb (k := 0) hn
  match m, hl with
  | [], hl => simp at hl; omega
  | x :: xt, hl =>
    simp at hm
    subst hm
    exact ⟨b, off, r.A, r.c, _, xt, e, hlt, rfl, by simpa using h0, by simpa using h1, by simpa using h2, hf.vec, hf.cap⟩
theorem merge_len : ∀ (xs ys : Mat), (mergeF xs ys).length ≤ xs.length + ys.length
  | [], ys => by simp [mergeF]
  | x :: xs, [] => by simp [mergeF]
  | x :: xs, y :: ys => by
    rw [mergeF]
    split
    · have := merge_len xs (y :: ys); simp at this ⊢; omega
    · split
      · have := merge_len (x :: xs) ys; simp at this ⊢; omega
      · have := merge_len xs ys; simp at this ⊢; omega
termination_by xs ys => xs.length + ys.length
/-- Half way through Merge: o is done, xs and ys are left. -/
structure MergeRel (w : World) (B : Nat) (t xs ys : Mat) (A1 : Option Addr) (A2 : Option Addr) (Av : Option Addr) (nv cv : Nat) (o : Mat) (wr : World) : Prop where
  fx : MatAt w B A1 xs.length xs
  fy : MatAt w B A2 ys.length ys
  fo : OwnsM wr w.heap.size 77 Av nv cv o
  ft : o ++ mergeF xs ys = t
  fb : Below w.heap.size w wr
set_option maxRecDepth 100000 in
set_option maxHeartbeats 8000000 in
theorem mergeM_any (A : Option Addr) (n c : Nat) (xs : Mat) (A' : Option Addr) (n' c' : Nat) (ys : Mat) (B : Nat) (w : World) (hB : B ≤ w.heap.size) (hx : MatAt w B A n xs) (hy : MatAt w B A' n' ys) (hnc : n ≤ c) (hnc' : n' ≤ c') (hn : n + n' ≤ 1000000) (hvx : ∀ x ∈ xs, OkS x.2) (hvy : ∀ x ∈ ys, OkS x.2) :
    Calls Try.prog 30 #[.slice A n c, .slice A' n' c'] w (OwnMat 77 (mergeF xs ys) w) := by
  have hl := hx.len
  have hl' := hy.len
  subst hl hl'
  have HX := Lib.hid hx
  have HY := Lib.hid hy
  have HVX := Lib.hid hvx
  have HVY := Lib.hid hvy
  clear hx hy hvx hvy
  go_enter Try.func30, Try.ntmps30
  go_wp2
  go_loopw [0, 1, 5] (fun x y v wr => ∃ A1 c1 A2 c2 Av nv cv, ∃ xs' ys' o : Mat, x = .slice A1 xs'.length c1 ∧ y = .slice A2 ys'.length c2 ∧ v = .slice Av nv cv ∧ xs'.length ≤ c1 ∧ ys'.length ≤ c2 ∧ xs'.length + ys'.length + nv ≤ 1000000 ∧ Hid (∀ x ∈ xs', OkS x.2) ∧ Hid (∀ x ∈ ys', OkS x.2) ∧ Hid (MergeRel w B (mergeF xs ys) xs' ys' A1 A2 Av nv cv o wr)) (fun x y _ _ => lenOf x + lenOf y)
  case atStart => exact ⟨A, c, A', c', none, 0, 0, xs, ys, [], rfl, rfl, rfl, hnc, hnc', by omega, HVX, HVY, HX.out, HY.out, OwnsM.nil _ _ _, rfl, Below.refl _ _⟩
  case round =>
    clear HX HY HVX HVY
    obtain ⟨A1, c1, A2, c2, Av, nv, cv, xs', ys', o, rfl, rfl, rfl, h1c, h2c, hsum, HVX, HVY, HM⟩ := hrel
    have hol := HM.out.fo.len
    by_cases hc : 0 < xs'.length ∧ 0 < ys'.length
    · obtain ⟨b1, o1, Ar1, cr1, x0, xt, rfl, hb1, rfl, kx0, kx1, kx2, fx, gx⟩ := HM.out.fx.head (HM.out.fb.mono hB) hc.1
      obtain ⟨b2, o2, Ar2, cr2, y0, yt, rfl, hb2, rfl, ky0, ky1, ky2, fy, gy⟩ := HM.out.fy.head (HM.out.fb.mono hB) hc.2
      obtain ⟨hc1, hc2⟩ := hc
      obtain ⟨Ax, hsx, hax⟩ := cutM ⟨b1, o1, none⟩ (x0 :: xt).length c1 hc1 h1c
      obtain ⟨Ay, hsy, hay⟩ := cutM ⟨b2, o2, none⟩ (y0 :: yt).length c2 hc2 h2c
      have HAx := Lib.hid (hax w B x0 xt HM.out.fx)
      have HAy := Lib.hid (hay w B y0 yt HM.out.fy)
      have HSX : Hid (OkS x0.2) := HVX.out x0 (by simp)
      have HSY : Hid (OkS y0.2) := HVY.out y0 (by simp)
      have HVX' : Hid (∀ x ∈ xt, OkS x.2) := fun x hx => HVX.out x (by simp [hx])
      have HVY' : Hid (∀ x ∈ yt, OkS x.2) := fun x hx => HVY.out x (by simp [hx])
      have hsz := HM.out.fb.size
      have l1 : b1 < wr.heap.size := by omega
      have l2 : b2 < wr.heap.size := by omega
      have HO := Lib.hid HM.out.fo
      have HB := Lib.hid HM.out.fb
      have HT := Lib.hid HM.out.ft
      have HX1 := Lib.hid HM.out.fx
      have HY1 := Lib.hid HM.out.fy
      have hLx : (x0 :: xt).length = xt.length + 1 := rfl
      have hLy : (y0 :: yt).length = yt.length + 1 := rfl
      rw [hLx] at hsx hc1 h1c hsum
      rw [hLy] at hsy hc2 h2c hsum
      simp only [Nat.add_sub_cancel] at hsx hsy
      rw [hLx, Nat.add_sub_cancel] at HAx
      rw [hLy, Nat.add_sub_cancel] at HAy
      rw [hLx, hLy]
      have HFX := Lib.hid fx
      have HFY := Lib.hid fy
      clear hax hay HM fx fy hLx hLy
      have q1 : (0 : Int) < (xt.length : Int) + 1 := by omega
      have q2 : (0 : Int) < (yt.length : Int) + 1 := by omega
      obtain ⟨y, hy⟩ : ∃ y, cmpId x0.1 y0.1 = y := ⟨_, rfl⟩
      have HCy := Lib.hid hy
      clear hy
      obtain ⟨idx, ux, vx⟩ := x0
      obtain ⟨idy, uy, vy⟩ := y0
      have hlx : vx.length ≤ 100000 := HSX.out.len
      have hly : vy.length ≤ 100000 := HSY.out.len
      simp only at *
      go_upto_region 3 with fail
      have hBc : B ≤ wr.heap.size := Nat.le_trans hB hsz
      refine wp_region_held_drew (S := fun w' => w'.cell? ⟨b1, o1, none⟩ = some (.string idx) ∧ w'.cell? ⟨b1, o1 + 1, none⟩ = some (.int .i64 ux) ∧ w'.cell? ⟨b1, o1 + 2, none⟩ = some (.slice Ar1 vx.length cr1) ∧ w'.cell? ⟨b2, o2, none⟩ = some (.string idy) ∧ w'.cell? ⟨b2, o2 + 1, none⟩ = some (.int .i64 uy) ∧ w'.cell? ⟨b2, o2 + 2, none⟩ = some (.slice Ar2 vy.length cr2)) (by kernel_rfl) ⟨kx0, kx1, kx2, ky0, ky1, ky2⟩ (fun hHeld => ?_)
      refine wpAnyH_take (i := 0) (oi := { dst := some 15, op := Go.Op.move (Go.Operand.tmp 0), type := 31, pos := "know.go:66", after := #[], guard := none }) (v := ?_) rfl (by kernel_rfl) (by kernel_rfl) (by kernel_rfl) (fun _ _ _ h => h) (Or.inl ⟨rfl, ?_⟩) (by assumption) ?_
      rotate_left
      · intro wz hSw; (try dsimp only at hSw); go_simp; try (with_reducible rfl)
      try simp only [Act.put, List.setIfInBounds_toArray, List.set_cons_zero, List.set_cons_succ]
      refine wpAnyH_take (i := 1) (oi := { dst := some 16, op := Go.Op.indexAddr 31 (Go.Operand.tmp 15) (Go.Operand.const (Go.Value.int Go.IntKind.i64 0)), type := 0, pos := "know.go:66", after := #[{ on := 0, ground := Go.Ground.data }], guard := none }) (v := ?_) rfl (by kernel_rfl) (by kernel_rfl) (by kernel_rfl) (fun _ _ _ h => h) (Or.inl ⟨rfl, ?_⟩) (by assumption) ?_
      rotate_left
      · intro wz hSw; (try dsimp only at hSw); go_simp; try (with_reducible rfl)
      try simp only [Act.put, List.setIfInBounds_toArray, List.set_cons_zero, List.set_cons_succ]
      refine wpAnyH_take (i := 2) (oi := { dst := some 17, op := Go.Op.load 77 (Go.Operand.tmp 16), type := 77, pos := "know.go:66", after := #[{ on := 1, ground := Go.Ground.data }], guard := none }) (v := ?_) rfl (by kernel_rfl) (by kernel_rfl) (by kernel_rfl) (fun _ _ _ h => h) (Or.inl ⟨rfl, ?_⟩) (by assumption) ?_
      rotate_left
      · intro wz hSw; (try dsimp only at hSw); go_simp; try (with_reducible rfl)
      try simp only [Act.put, List.setIfInBounds_toArray, List.set_cons_zero, List.set_cons_succ]
      refine wpAnyH_take (i := 3) (oi := { dst := some 18, op := Go.Op.move (Go.Operand.tmp 1), type := 31, pos := "know.go:66", after := #[], guard := none }) (v := ?_) rfl (by kernel_rfl) (by kernel_rfl) (by kernel_rfl) (fun _ _ _ h => h) (Or.inl ⟨rfl, ?_⟩) (by assumption) ?_
      rotate_left
      · intro wz hSw; (try dsimp only at hSw); go_simp; try (with_reducible rfl)
      try simp only [Act.put, List.setIfInBounds_toArray, List.set_cons_zero, List.set_cons_succ]
      refine wpAnyH_take (i := 4) (oi := { dst := some 19, op := Go.Op.indexAddr 31 (Go.Operand.tmp 18) (Go.Operand.const (Go.Value.int Go.IntKind.i64 0)), type := 0, pos := "know.go:66", after := #[{ on := 3, ground := Go.Ground.data }], guard := none }) (v := ?_) rfl (by kernel_rfl) (by kernel_rfl) (by kernel_rfl) (fun _ _ _ h => h) (Or.inl ⟨rfl, ?_⟩) (by assumption) ?_
      rotate_left
      · intro wz hSw; (try dsimp only at hSw); go_simp; try (with_reducible rfl)
      try simp only [Act.put, List.setIfInBounds_toArray, List.set_cons_zero, List.set_cons_succ]
      refine wpAnyH_take (i := 5) (oi := { dst := some 20, op := Go.Op.fieldAddr 77 (Go.Operand.tmp 19) 0, type := 0, pos := "know.go:66", after := #[{ on := 4, ground := Go.Ground.data }], guard := none }) (v := ?_) rfl (by kernel_rfl) (by kernel_rfl) (by kernel_rfl) (fun _ _ _ h => h) (Or.inl ⟨rfl, ?_⟩) (by assumption) ?_
      rotate_left
      · intro wz hSw; (try dsimp only at hSw); go_simp; try (with_reducible rfl)
      try simp only [Act.put, List.setIfInBounds_toArray, List.set_cons_zero, List.set_cons_succ]
      refine wpAnyH_take (i := 6) (oi := { dst := some 21, op := Go.Op.load 36 (Go.Operand.tmp 20), type := 36, pos := "know.go:66", after := #[{ on := 5, ground := Go.Ground.data }], guard := none }) (v := ?_) rfl (by kernel_rfl) (by kernel_rfl) (by kernel_rfl) (fun _ _ _ h => h) (Or.inl ⟨rfl, ?_⟩) (by assumption) ?_
      rotate_left
      · intro wz hSw; (try dsimp only at hSw); go_simp; try (with_reducible rfl)
      try simp only [Act.put, List.setIfInBounds_toArray, List.set_cons_zero, List.set_cons_succ]
      refine wpAnyH_ready (rs := [7]) (by kernel_rfl) (by simp) ?_
      refine (AllReadyH.cons (o := { dst := some 22, op := Go.Op.call { callee := Go.Callee.value (Go.Operand.func 66), args := #[Go.Operand.tmp 17, Go.Operand.tmp 21], argTypes := #[77, 36] }, type := 3, pos := "know.go:66", after := #[{ on := 2, ground := Go.Ground.data }, { on := 6, ground := Go.Ground.data }], guard := none }) rfl (fun K hK => ?_) AllReadyH.nil)
      go_simp
      go_at_call 66
      refine (orderM_is _ _ _ _ _ _ _ HCy _).mono ?_
      rintro e w1 ⟨rfl, hb⟩
      replace kx0 := (hb.cell (p := ⟨b1, o1, none⟩) l1).trans kx0
      replace kx1 := (hb.cell (p := ⟨b1, o1 + 1, none⟩) l1).trans kx1
      replace kx2 := (hb.cell (p := ⟨b1, o1 + 2, none⟩) l1).trans kx2
      replace ky0 := (hb.cell (p := ⟨b2, o2, none⟩) l2).trans ky0
      replace ky1 := (hb.cell (p := ⟨b2, o2 + 1, none⟩) l2).trans ky1
      replace ky2 := (hb.cell (p := ⟨b2, o2 + 2, none⟩) l2).trans ky2
      have hbv := below_via (Below.refl wr.heap.size wr) hb (Nat.le_refl _) ⟨rfl, rfl, rfl, rfl⟩
      replace HO := Lib.hid (HO.out.below hbv)
      replace HFX := Lib.hid (HFX.out.keep (hbv.mono hBc))
      replace HFY := Lib.hid (HFY.out.keep (hbv.mono hBc))
      replace hBc := Nat.le_trans hBc hbv.size
      replace HB := Lib.hid (HB.out.trans (hbv.mono HB.out.size))
      replace l1 := Nat.lt_of_lt_of_le l1 hbv.size
      replace l2 := Nat.lt_of_lt_of_le l2 hbv.size
      clear hb hbv
      refine hK.out _ _ ⟨kx0, kx1, kx2, ky0, ky1, ky2⟩ (fun hHeld => ?_)
      clear hK K
      try simp only [Act.put, List.setIfInBounds_toArray, List.set_cons_zero, List.set_cons_succ]
      refine wpAnyH_take (i := 8) (oi := { dst := some 6, op := Go.Op.assign (Go.Operand.tmp 22), type := 3, pos := "know.go:66", after := #[{ on := 7, ground := Go.Ground.data }, { on := 7, ground := Go.Ground.chain }, { on := 0, ground := Go.Ground.phase }, { on := 1, ground := Go.Ground.phase }, { on := 2, ground := Go.Ground.phase }, { on := 3, ground := Go.Ground.phase }, { on := 4, ground := Go.Ground.phase }, { on := 5, ground := Go.Ground.phase }, { on := 6, ground := Go.Ground.phase }, { on := 7, ground := Go.Ground.phase }], guard := none }) (v := ?_) rfl (by kernel_rfl) (by kernel_rfl) (by kernel_rfl) (fun _ _ _ h => h) (Or.inl ⟨rfl, ?_⟩) (by assumption) ?_
      rotate_left
      · intro wz hSw; (try dsimp only at hSw); go_simp; try (with_reducible rfl)
      try simp only [Act.put, List.setIfInBounds_toArray, List.set_cons_zero, List.set_cons_succ]
      refine wpAnyH_done (by kernel_rfl) ?_ _
      by_cases hlt : y < 0
      · have HMF : Hid (o ++ [(idx, (ux, vx))] ++ mergeF xt ((idy, (uy, vy)) :: yt) = mergeF xs ys) := by show _ = _; rw [← HT.out, mergeF_lt (by simp only; rw [HCy.out]; exact hlt)]; simp
        clear HT HCy
        go_upto_region 7 with fail
        refine wp_region_held_drew (S := fun w' => w'.cell? ⟨b1, o1, none⟩ = some (.string idx) ∧ w'.cell? ⟨b1, o1 + 1, none⟩ = some (.int .i64 ux) ∧ w'.cell? ⟨b1, o1 + 2, none⟩ = some (.slice Ar1 vx.length cr1) ∧ w'.cell? ⟨b2, o2, none⟩ = some (.string idy) ∧ w'.cell? ⟨b2, o2 + 1, none⟩ = some (.int .i64 uy) ∧ w'.cell? ⟨b2, o2 + 2, none⟩ = some (.slice Ar2 vy.length cr2)) (by kernel_rfl) ⟨kx0, kx1, kx2, ky0, ky1, ky2⟩ (fun hHeld => ?_)
        refine wpAnyH_take (i := 0) (oi := { dst := some 47, op := Go.Op.move (Go.Operand.tmp 5), type := 31, pos := "know.go:68", after := #[], guard := none }) (v := ?_) rfl (by kernel_rfl) (by kernel_rfl) (by kernel_rfl) (fun _ _ _ h => h) (Or.inl ⟨rfl, ?_⟩) (by assumption) ?_
        rotate_left
        · intro wz hSw; (try dsimp only at hSw); go_simp; try (with_reducible rfl)
        try simp only [Act.put, List.setIfInBounds_toArray, List.set_cons_zero, List.set_cons_succ]
        refine wpAnyH_take (i := 1) (oi := { dst := some 48, op := Go.Op.move (Go.Operand.tmp 0), type := 31, pos := "know.go:68", after := #[], guard := none }) (v := ?_) rfl (by kernel_rfl) (by kernel_rfl) (by kernel_rfl) (fun _ _ _ h => h) (Or.inl ⟨rfl, ?_⟩) (by assumption) ?_
        rotate_left
        · intro wz hSw; (try dsimp only at hSw); go_simp; try (with_reducible rfl)
        try simp only [Act.put, List.setIfInBounds_toArray, List.set_cons_zero, List.set_cons_succ]
        refine wpAnyH_take (i := 2) (oi := { dst := some 49, op := Go.Op.indexAddr 31 (Go.Operand.tmp 48) (Go.Operand.const (Go.Value.int Go.IntKind.i64 0)), type := 0, pos := "know.go:68", after := #[{ on := 1, ground := Go.Ground.data }], guard := none }) (v := ?_) rfl (by kernel_rfl) (by kernel_rfl) (by kernel_rfl) (fun _ _ _ h => h) (Or.inl ⟨rfl, ?_⟩) (by assumption) ?_
        rotate_left
        · intro wz hSw; (try dsimp only at hSw); go_simp; try (with_reducible rfl)
        try simp only [Act.put, List.setIfInBounds_toArray, List.set_cons_zero, List.set_cons_succ]
        refine wpAnyH_take (i := 3) (oi := { dst := some 50, op := Go.Op.load 77 (Go.Operand.tmp 49), type := 77, pos := "know.go:68", after := #[{ on := 2, ground := Go.Ground.data }], guard := none }) (v := ?_) rfl (by kernel_rfl) (by kernel_rfl) (by kernel_rfl) (fun _ _ _ h => h) (Or.inl ⟨rfl, ?_⟩) (by assumption) ?_
        rotate_left
        · intro wz hSw; (try dsimp only at hSw); go_simp; try (with_reducible rfl)
        try simp only [Act.put, List.setIfInBounds_toArray, List.set_cons_zero, List.set_cons_succ]
        refine wpAnyH_take (i := 5) (oi := { dst := some 52, op := Go.Op.move (Go.Operand.tmp 0), type := 31, pos := "know.go:68", after := #[], guard := none }) (v := ?_) rfl (by kernel_rfl) (by kernel_rfl) (by kernel_rfl) (fun _ _ _ h => h) (Or.inl ⟨rfl, ?_⟩) (by assumption) ?_
        rotate_left
        · intro wz hSw; (try dsimp only at hSw); go_simp; try (with_reducible rfl)
        try simp only [Act.put, List.setIfInBounds_toArray, List.set_cons_zero, List.set_cons_succ]
        refine wpAnyH_take (i := 6) (oi := { dst := some 53, op := Go.Op.slice 31 (Go.Operand.tmp 52) (some (Go.Operand.const (Go.Value.int Go.IntKind.i64 1))) none none, type := 31, pos := "know.go:68", after := #[{ on := 5, ground := Go.Ground.data }], guard := none }) (v := ?_) rfl (by kernel_rfl) (by kernel_rfl) (by kernel_rfl) (fun _ _ _ h => h) (Or.inl ⟨rfl, ?_⟩) (by assumption) ?_
        rotate_left
        · intro wz hSw; (try dsimp only at hSw); go_simp; try (with_reducible rfl)
        try simp only [Act.put, List.setIfInBounds_toArray, List.set_cons_zero, List.set_cons_succ]
        refine wpAnyH_ready (rs := [4]) (by kernel_rfl) (by simp) ?_
        refine (AllReadyH.cons (o := { dst := some 51, op := Go.Op.call { callee := Go.Callee.value (Go.Operand.func 60), args := #[Go.Operand.tmp 47, Go.Operand.tmp 50], argTypes := #[31, 77] }, type := 31, pos := "know.go:68", after := #[{ on := 0, ground := Go.Ground.data }, { on := 3, ground := Go.Ground.data }], guard := none }) rfl (fun K hK => ?_) AllReadyH.nil)
        go_simp
        go_at_call 60
        refine (push_m Av nv cv o idx ux Ar1 cr1 vx w.heap.size _ (by exact HB.out.size) (HO.out.below (drew_below _ _)) (by exact HFX.out.more hBc) gx (by omega) HSX.out).mono ?_
        rintro e w2 ⟨A3, c3, rfl, ho, hb⟩
        replace kx0 := (hb.cell (p := ⟨b1, o1, none⟩) (by simp; omega)).trans kx0
        replace kx1 := (hb.cell (p := ⟨b1, o1 + 1, none⟩) (by simp; omega)).trans kx1
        replace kx2 := (hb.cell (p := ⟨b1, o1 + 2, none⟩) (by simp; omega)).trans kx2
        replace ky0 := (hb.cell (p := ⟨b2, o2, none⟩) (by simp; omega)).trans ky0
        replace ky1 := (hb.cell (p := ⟨b2, o2 + 1, none⟩) (by simp; omega)).trans ky1
        replace ky2 := (hb.cell (p := ⟨b2, o2 + 2, none⟩) (by simp; omega)).trans ky2
        have HO3 := Lib.hid ho
        replace HB := Lib.hid (HB.out.trans ((drew_below _ _).trans hb))
        clear ho hb HO
        refine hK.out _ _ ⟨kx0, kx1, kx2, ky0, ky1, ky2⟩ (fun hHeld => ?_)
        clear hK K
        try simp only [Act.put, List.setIfInBounds_toArray, List.set_cons_zero, List.set_cons_succ]
        refine wpAnyH_take (i := 7) (oi := { dst := some 5, op := Go.Op.assign (Go.Operand.tmp 51), type := 31, pos := "know.go:68", after := #[{ on := 4, ground := Go.Ground.data }, { on := 4, ground := Go.Ground.chain }, { on := 0, ground := Go.Ground.phase }, { on := 1, ground := Go.Ground.phase }, { on := 2, ground := Go.Ground.phase }, { on := 3, ground := Go.Ground.phase }, { on := 4, ground := Go.Ground.phase }, { on := 5, ground := Go.Ground.textOnly Go.Departure.lateStores }, { on := 6, ground := Go.Ground.textOnly Go.Departure.lateStoresUnsure }], guard := none }) (v := ?_) rfl (by kernel_rfl) (by kernel_rfl) (by kernel_rfl) (fun _ _ _ h => h) (Or.inl ⟨rfl, ?_⟩) (by assumption) ?_
        rotate_left
        · intro wz hSw; (try dsimp only at hSw); go_simp; try (with_reducible rfl)
        try simp only [Act.put, List.setIfInBounds_toArray, List.set_cons_zero, List.set_cons_succ]
        refine wpAnyH_take (i := 8) (oi := { dst := some 0, op := Go.Op.assign (Go.Operand.tmp 53), type := 31, pos := "know.go:68", after := #[{ on := 6, ground := Go.Ground.data }, { on := 7, ground := Go.Ground.chain }, { on := 0, ground := Go.Ground.phase }, { on := 1, ground := Go.Ground.phase }, { on := 2, ground := Go.Ground.phase }, { on := 3, ground := Go.Ground.phase }, { on := 4, ground := Go.Ground.phase }, { on := 5, ground := Go.Ground.phase }, { on := 6, ground := Go.Ground.phase }, { on := 7, ground := Go.Ground.phase }], guard := none }) (v := ?_) rfl (by kernel_rfl) (by kernel_rfl) (by kernel_rfl) (fun _ _ _ h => h) (Or.inl ⟨rfl, ?_⟩) (by assumption) ?_
        rotate_left
        · intro wz hSw; (try dsimp only at hSw); go_simp; try (with_reducible rfl)
        try simp only [Act.put, List.setIfInBounds_toArray, List.set_cons_zero]
        refine wpAnyH_done (by kernel_rfl) ?_ _
        have HM2 : Hid (MergeRel w B (mergeF xs ys) xt ((idy, (uy, vy)) :: yt) Ax (some ⟨b2, o2, none⟩) A3 (nv + 1) c3 (o ++ [(idx, (ux, vx))]) w2) := ⟨HAx.out, HY1.out, HO3.out, HMF.out, HB.out⟩
        clear hHeld HO3 HMF HAx HAy
        go_wp2_with fail
        go_roundw
        case rel => exact ⟨Ax, c1 - 1, _, c2, A3, nv + 1, c3, xt, (idy, (uy, vy)) :: yt, o ++ [(idx, (ux, vx))], rfl, rfl, rfl, by omega, h2c, by simp; omega, HVX', HVY, HM2⟩
        case measure => simp [lenOf]
      · by_cases hgt : 0 < y
        · have HMF : Hid (o ++ [(idy, (uy, vy))] ++ mergeF ((idx, (ux, vx)) :: xt) yt = mergeF xs ys) := by show _ = _; rw [← HT.out, mergeF_gt (by simp only; rw [HCy.out]; exact hgt)]; simp
          clear HT HCy
          go_upto_region 9 with fail
          refine wp_region_held_drew (S := fun w' => w'.cell? ⟨b1, o1, none⟩ = some (.string idx) ∧ w'.cell? ⟨b1, o1 + 1, none⟩ = some (.int .i64 ux) ∧ w'.cell? ⟨b1, o1 + 2, none⟩ = some (.slice Ar1 vx.length cr1) ∧ w'.cell? ⟨b2, o2, none⟩ = some (.string idy) ∧ w'.cell? ⟨b2, o2 + 1, none⟩ = some (.int .i64 uy) ∧ w'.cell? ⟨b2, o2 + 2, none⟩ = some (.slice Ar2 vy.length cr2)) (by kernel_rfl) ⟨kx0, kx1, kx2, ky0, ky1, ky2⟩ (fun hHeld => ?_)
          refine wpAnyH_take (i := 0) (oi := { dst := some 57, op := Go.Op.move (Go.Operand.tmp 5), type := 31, pos := "know.go:70", after := #[], guard := none }) (v := ?_) rfl (by kernel_rfl) (by kernel_rfl) (by kernel_rfl) (fun _ _ _ h => h) (Or.inl ⟨rfl, ?_⟩) (by assumption) ?_
          rotate_left
          · intro wz hSw; (try dsimp only at hSw); go_simp; try (with_reducible rfl)
          try simp only [Act.put, List.setIfInBounds_toArray, List.set_cons_zero, List.set_cons_succ]
          refine wpAnyH_take (i := 1) (oi := { dst := some 58, op := Go.Op.move (Go.Operand.tmp 1), type := 31, pos := "know.go:70", after := #[], guard := none }) (v := ?_) rfl (by kernel_rfl) (by kernel_rfl) (by kernel_rfl) (fun _ _ _ h => h) (Or.inl ⟨rfl, ?_⟩) (by assumption) ?_
          rotate_left
          · intro wz hSw; (try dsimp only at hSw); go_simp; try (with_reducible rfl)
          try simp only [Act.put, List.setIfInBounds_toArray, List.set_cons_zero, List.set_cons_succ]
          refine wpAnyH_take (i := 2) (oi := { dst := some 59, op := Go.Op.indexAddr 31 (Go.Operand.tmp 58) (Go.Operand.const (Go.Value.int Go.IntKind.i64 0)), type := 0, pos := "know.go:70", after := #[{ on := 1, ground := Go.Ground.data }], guard := none }) (v := ?_) rfl (by kernel_rfl) (by kernel_rfl) (by kernel_rfl) (fun _ _ _ h => h) (Or.inl ⟨rfl, ?_⟩) (by assumption) ?_
          rotate_left
          · intro wz hSw; (try dsimp only at hSw); go_simp; try (with_reducible rfl)
          try simp only [Act.put, List.setIfInBounds_toArray, List.set_cons_zero, List.set_cons_succ]
          refine wpAnyH_take (i := 3) (oi := { dst := some 60, op := Go.Op.load 77 (Go.Operand.tmp 59), type := 77, pos := "know.go:70", after := #[{ on := 2, ground := Go.Ground.data }], guard := none }) (v := ?_) rfl (by kernel_rfl) (by kernel_rfl) (by kernel_rfl) (fun _ _ _ h => h) (Or.inl ⟨rfl, ?_⟩) (by assumption) ?_
          rotate_left
          · intro wz hSw; (try dsimp only at hSw); go_simp; try (with_reducible rfl)
          try simp only [Act.put, List.setIfInBounds_toArray, List.set_cons_zero, List.set_cons_succ]
          refine wpAnyH_take (i := 5) (oi := { dst := some 62, op := Go.Op.move (Go.Operand.tmp 1), type := 31, pos := "know.go:70", after := #[], guard := none }) (v := ?_) rfl (by kernel_rfl) (by kernel_rfl) (by kernel_rfl) (fun _ _ _ h => h) (Or.inl ⟨rfl, ?_⟩) (by assumption) ?_
          rotate_left
          · intro wz hSw; (try dsimp only at hSw); go_simp; try (with_reducible rfl)
          try simp only [Act.put, List.setIfInBounds_toArray, List.set_cons_zero, List.set_cons_succ]
          refine wpAnyH_take (i := 6) (oi := { dst := some 63, op := Go.Op.slice 31 (Go.Operand.tmp 62) (some (Go.Operand.const (Go.Value.int Go.IntKind.i64 1))) none none, type := 31, pos := "know.go:70", after := #[{ on := 5, ground := Go.Ground.data }], guard := none }) (v := ?_) rfl (by kernel_rfl) (by kernel_rfl) (by kernel_rfl) (fun _ _ _ h => h) (Or.inl ⟨rfl, ?_⟩) (by assumption) ?_
          rotate_left
          · intro wz hSw; (try dsimp only at hSw); go_simp; try (with_reducible rfl)
          try simp only [Act.put, List.setIfInBounds_toArray, List.set_cons_zero, List.set_cons_succ]
          refine wpAnyH_ready (rs := [4]) (by kernel_rfl) (by simp) ?_
          refine (AllReadyH.cons (o := { dst := some 61, op := Go.Op.call { callee := Go.Callee.value (Go.Operand.func 60), args := #[Go.Operand.tmp 57, Go.Operand.tmp 60], argTypes := #[31, 77] }, type := 31, pos := "know.go:70", after := #[{ on := 0, ground := Go.Ground.data }, { on := 3, ground := Go.Ground.data }], guard := none }) rfl (fun K hK => ?_) AllReadyH.nil)
          go_simp
          go_at_call 60
          refine (push_m Av nv cv o idy uy Ar2 cr2 vy w.heap.size _ (by exact HB.out.size) (HO.out.below (drew_below _ _)) (by exact HFY.out.more hBc) gy (by omega) HSY.out).mono ?_
          rintro e w2 ⟨A3, c3, rfl, ho, hb⟩
          replace kx0 := (hb.cell (p := ⟨b1, o1, none⟩) (by simp; omega)).trans kx0
          replace kx1 := (hb.cell (p := ⟨b1, o1 + 1, none⟩) (by simp; omega)).trans kx1
          replace kx2 := (hb.cell (p := ⟨b1, o1 + 2, none⟩) (by simp; omega)).trans kx2
          replace ky0 := (hb.cell (p := ⟨b2, o2, none⟩) (by simp; omega)).trans ky0
          replace ky1 := (hb.cell (p := ⟨b2, o2 + 1, none⟩) (by simp; omega)).trans ky1
          replace ky2 := (hb.cell (p := ⟨b2, o2 + 2, none⟩) (by simp; omega)).trans ky2
          have HO3 := Lib.hid ho
          replace HB := Lib.hid (HB.out.trans ((drew_below _ _).trans hb))
          clear ho hb HO
          refine hK.out _ _ ⟨kx0, kx1, kx2, ky0, ky1, ky2⟩ (fun hHeld => ?_)
          clear hK K
          try simp only [Act.put, List.setIfInBounds_toArray, List.set_cons_zero, List.set_cons_succ]
          refine wpAnyH_take (i := 7) (oi := { dst := some 5, op := Go.Op.assign (Go.Operand.tmp 61), type := 31, pos := "know.go:70", after := #[{ on := 4, ground := Go.Ground.data }, { on := 4, ground := Go.Ground.chain }, { on := 0, ground := Go.Ground.phase }, { on := 1, ground := Go.Ground.phase }, { on := 2, ground := Go.Ground.phase }, { on := 3, ground := Go.Ground.phase }, { on := 4, ground := Go.Ground.phase }, { on := 5, ground := Go.Ground.textOnly Go.Departure.lateStores }, { on := 6, ground := Go.Ground.textOnly Go.Departure.lateStoresUnsure }], guard := none }) (v := ?_) rfl (by kernel_rfl) (by kernel_rfl) (by kernel_rfl) (fun _ _ _ h => h) (Or.inl ⟨rfl, ?_⟩) (by assumption) ?_
          rotate_left
          · intro wz hSw; (try dsimp only at hSw); go_simp; try (with_reducible rfl)
          try simp only [Act.put, List.setIfInBounds_toArray, List.set_cons_zero, List.set_cons_succ]
          refine wpAnyH_take (i := 8) (oi := { dst := some 1, op := Go.Op.assign (Go.Operand.tmp 63), type := 31, pos := "know.go:70", after := #[{ on := 6, ground := Go.Ground.data }, { on := 7, ground := Go.Ground.chain }, { on := 0, ground := Go.Ground.phase }, { on := 1, ground := Go.Ground.phase }, { on := 2, ground := Go.Ground.phase }, { on := 3, ground := Go.Ground.phase }, { on := 4, ground := Go.Ground.phase }, { on := 5, ground := Go.Ground.phase }, { on := 6, ground := Go.Ground.phase }, { on := 7, ground := Go.Ground.phase }], guard := none }) (v := ?_) rfl (by kernel_rfl) (by kernel_rfl) (by kernel_rfl) (fun _ _ _ h => h) (Or.inl ⟨rfl, ?_⟩) (by assumption) ?_
          rotate_left
          · intro wz hSw; (try dsimp only at hSw); go_simp; try (with_reducible rfl)
          try simp only [Act.put, List.setIfInBounds_toArray, List.set_cons_zero, List.set_cons_succ]
          refine wpAnyH_done (by kernel_rfl) ?_ _
          have HM2 : Hid (MergeRel w B (mergeF xs ys) ((idx, (ux, vx)) :: xt) yt (some ⟨b1, o1, none⟩) Ay A3 (nv + 1) c3 (o ++ [(idy, (uy, vy))]) w2) := ⟨HX1.out, HAy.out, HO3.out, HMF.out, HB.out⟩
          clear hHeld HO3 HMF HAx HAy
          go_wp2_with fail
          go_roundw
          case rel => exact ⟨_, c1, Ay, c2 - 1, A3, nv + 1, c3, (idx, (ux, vx)) :: xt, yt, o ++ [(idy, (uy, vy))], rfl, rfl, rfl, h1c, by omega, by simp; omega, HVX, HVY', HM2⟩
          case measure => simp [lenOf]
        · have HMF : Hid (o ++ [(idx, Sp.unionF (ux, vx) (uy, vy))] ++ mergeF xt yt = mergeF xs ys) := by show _ = _; rw [← HT.out, mergeF_eq (by simp only; rw [HCy.out]; omega)]; simp
          obtain ⟨rs, habs, hown⟩ := HO.out
          have HOH := Lib.hid hown
          have HAB := Lib.hid habs
          clear HT HCy hown habs HO
          go_upto_region 4 with fail
          refine wp_region_held_drew (S := fun w' => w'.cell? ⟨b1, o1, none⟩ = some (.string idx) ∧ w'.cell? ⟨b1, o1 + 1, none⟩ = some (.int .i64 ux) ∧ w'.cell? ⟨b1, o1 + 2, none⟩ = some (.slice Ar1 vx.length cr1) ∧ w'.cell? ⟨b2, o2, none⟩ = some (.string idy) ∧ w'.cell? ⟨b2, o2 + 1, none⟩ = some (.int .i64 uy) ∧ w'.cell? ⟨b2, o2 + 2, none⟩ = some (.slice Ar2 vy.length cr2)) (by kernel_rfl) ⟨kx0, kx1, kx2, ky0, ky1, ky2⟩ (fun hHeld => ?_)
          refine wpAnyH_take (i := 0) (oi := { dst := some 23, op := Go.Op.move (Go.Operand.tmp 5), type := 31, pos := "know.go:72", after := #[], guard := none }) (v := ?_) rfl (by kernel_rfl) (by kernel_rfl) (by kernel_rfl) (fun _ _ _ h => h) (Or.inl ⟨rfl, ?_⟩) (by assumption) ?_
          rotate_left
          · intro wz hSw; (try dsimp only at hSw); go_simp; try (with_reducible rfl)
          try simp only [Act.put, List.setIfInBounds_toArray, List.set_cons_zero, List.set_cons_succ]
          refine wpAnyH_take (i := 1) (oi := { dst := some 24, op := Go.Op.move (Go.Operand.tmp 0), type := 31, pos := "know.go:72", after := #[], guard := none }) (v := ?_) rfl (by kernel_rfl) (by kernel_rfl) (by kernel_rfl) (fun _ _ _ h => h) (Or.inl ⟨rfl, ?_⟩) (by assumption) ?_
          rotate_left
          · intro wz hSw; (try dsimp only at hSw); go_simp; try (with_reducible rfl)
          try simp only [Act.put, List.setIfInBounds_toArray, List.set_cons_zero, List.set_cons_succ]
          refine wpAnyH_take (i := 2) (oi := { dst := some 25, op := Go.Op.indexAddr 31 (Go.Operand.tmp 24) (Go.Operand.const (Go.Value.int Go.IntKind.i64 0)), type := 0, pos := "know.go:72", after := #[{ on := 1, ground := Go.Ground.data }], guard := none }) (v := ?_) rfl (by kernel_rfl) (by kernel_rfl) (by kernel_rfl) (fun _ _ _ h => h) (Or.inl ⟨rfl, ?_⟩) (by assumption) ?_
          rotate_left
          · intro wz hSw; (try dsimp only at hSw); go_simp; try (with_reducible rfl)
          try simp only [Act.put, List.setIfInBounds_toArray, List.set_cons_zero, List.set_cons_succ]
          refine wpAnyH_take (i := 3) (oi := { dst := some 26, op := Go.Op.fieldAddr 77 (Go.Operand.tmp 25) 0, type := 0, pos := "know.go:72", after := #[{ on := 2, ground := Go.Ground.data }], guard := none }) (v := ?_) rfl (by kernel_rfl) (by kernel_rfl) (by kernel_rfl) (fun _ _ _ h => h) (Or.inl ⟨rfl, ?_⟩) (by assumption) ?_
          rotate_left
          · intro wz hSw; (try dsimp only at hSw); go_simp; try (with_reducible rfl)
          try simp only [Act.put, List.setIfInBounds_toArray, List.set_cons_zero, List.set_cons_succ]
          refine wpAnyH_take (i := 4) (oi := { dst := some 27, op := Go.Op.load 36 (Go.Operand.tmp 26), type := 36, pos := "know.go:72", after := #[{ on := 3, ground := Go.Ground.data }], guard := none }) (v := ?_) rfl (by kernel_rfl) (by kernel_rfl) (by kernel_rfl) (fun _ _ _ h => h) (Or.inl ⟨rfl, ?_⟩) (by assumption) ?_
          rotate_left
          · intro wz hSw; (try dsimp only at hSw); go_simp; try (with_reducible rfl)
          try simp only [Act.put, List.setIfInBounds_toArray, List.set_cons_zero, List.set_cons_succ]
          refine wpAnyH_take (i := 5) (oi := { dst := some 28, op := Go.Op.move (Go.Operand.tmp 0), type := 31, pos := "know.go:72", after := #[], guard := none }) (v := ?_) rfl (by kernel_rfl) (by kernel_rfl) (by kernel_rfl) (fun _ _ _ h => h) (Or.inl ⟨rfl, ?_⟩) (by assumption) ?_
          rotate_left
          · intro wz hSw; (try dsimp only at hSw); go_simp; try (with_reducible rfl)
          try simp only [Act.put, List.setIfInBounds_toArray, List.set_cons_zero, List.set_cons_succ]
          refine wpAnyH_take (i := 6) (oi := { dst := some 29, op := Go.Op.indexAddr 31 (Go.Operand.tmp 28) (Go.Operand.const (Go.Value.int Go.IntKind.i64 0)), type := 0, pos := "know.go:72", after := #[{ on := 5, ground := Go.Ground.data }], guard := none }) (v := ?_) rfl (by kernel_rfl) (by kernel_rfl) (by kernel_rfl) (fun _ _ _ h => h) (Or.inl ⟨rfl, ?_⟩) (by assumption) ?_
          rotate_left
          · intro wz hSw; (try dsimp only at hSw); go_simp; try (with_reducible rfl)
          try simp only [Act.put, List.setIfInBounds_toArray, List.set_cons_zero, List.set_cons_succ]
          refine wpAnyH_take (i := 7) (oi := { dst := some 30, op := Go.Op.fieldAddr 77 (Go.Operand.tmp 29) 1, type := 0, pos := "know.go:72", after := #[{ on := 6, ground := Go.Ground.data }], guard := none }) (v := ?_) rfl (by kernel_rfl) (by kernel_rfl) (by kernel_rfl) (fun _ _ _ h => h) (Or.inl ⟨rfl, ?_⟩) (by assumption) ?_
          rotate_left
          · intro wz hSw; (try dsimp only at hSw); go_simp; try (with_reducible rfl)
          try simp only [Act.put, List.setIfInBounds_toArray, List.set_cons_zero, List.set_cons_succ]
          refine wpAnyH_take (i := 8) (oi := { dst := some 31, op := Go.Op.load 44 (Go.Operand.tmp 30), type := 44, pos := "know.go:72", after := #[{ on := 7, ground := Go.Ground.data }], guard := none }) (v := ?_) rfl (by kernel_rfl) (by kernel_rfl) (by kernel_rfl) (fun _ _ _ h => h) (Or.inl ⟨rfl, ?_⟩) (by assumption) ?_
          rotate_left
          · intro wz hSw; (try dsimp only at hSw); go_simp; try (with_reducible rfl)
          try simp only [Act.put, List.setIfInBounds_toArray, List.set_cons_zero, List.set_cons_succ]
          refine wpAnyH_take (i := 9) (oi := { dst := some 32, op := Go.Op.move (Go.Operand.tmp 1), type := 31, pos := "know.go:72", after := #[], guard := none }) (v := ?_) rfl (by kernel_rfl) (by kernel_rfl) (by kernel_rfl) (fun _ _ _ h => h) (Or.inl ⟨rfl, ?_⟩) (by assumption) ?_
          rotate_left
          · intro wz hSw; (try dsimp only at hSw); go_simp; try (with_reducible rfl)
          try simp only [Act.put, List.setIfInBounds_toArray, List.set_cons_zero, List.set_cons_succ]
          refine wpAnyH_take (i := 10) (oi := { dst := some 33, op := Go.Op.indexAddr 31 (Go.Operand.tmp 32) (Go.Operand.const (Go.Value.int Go.IntKind.i64 0)), type := 0, pos := "know.go:72", after := #[{ on := 9, ground := Go.Ground.data }], guard := none }) (v := ?_) rfl (by kernel_rfl) (by kernel_rfl) (by kernel_rfl) (fun _ _ _ h => h) (Or.inl ⟨rfl, ?_⟩) (by assumption) ?_
          rotate_left
          · intro wz hSw; (try dsimp only at hSw); go_simp; try (with_reducible rfl)
          try simp only [Act.put, List.setIfInBounds_toArray, List.set_cons_zero, List.set_cons_succ]
          refine wpAnyH_take (i := 11) (oi := { dst := some 34, op := Go.Op.fieldAddr 77 (Go.Operand.tmp 33) 1, type := 0, pos := "know.go:72", after := #[{ on := 10, ground := Go.Ground.data }], guard := none }) (v := ?_) rfl (by kernel_rfl) (by kernel_rfl) (by kernel_rfl) (fun _ _ _ h => h) (Or.inl ⟨rfl, ?_⟩) (by assumption) ?_
          rotate_left
          · intro wz hSw; (try dsimp only at hSw); go_simp; try (with_reducible rfl)
          try simp only [Act.put, List.setIfInBounds_toArray, List.set_cons_zero, List.set_cons_succ]
          refine wpAnyH_take (i := 12) (oi := { dst := some 35, op := Go.Op.load 44 (Go.Operand.tmp 34), type := 44, pos := "know.go:72", after := #[{ on := 11, ground := Go.Ground.data }], guard := none }) (v := ?_) rfl (by kernel_rfl) (by kernel_rfl) (by kernel_rfl) (fun _ _ _ h => h) (Or.inl ⟨rfl, ?_⟩) (by assumption) ?_
          rotate_left
          · intro wz hSw; (try dsimp only at hSw); go_simp; try (with_reducible rfl)
          try simp only [Act.put, List.setIfInBounds_toArray, List.set_cons_zero, List.set_cons_succ]
          refine wpAnyH_ready (rs := [13]) (by kernel_rfl) (by simp) ?_
          refine (AllReadyH.cons (o := { dst := some 36, op := Go.Op.call { callee := Go.Callee.value (Go.Operand.func 67), args := #[Go.Operand.tmp 31, Go.Operand.tmp 35], argTypes := #[44, 44] }, type := 44, pos := "know.go:72", after := #[{ on := 8, ground := Go.Ground.data }, { on := 12, ground := Go.Ground.data }], guard := none }) rfl (fun K hK => ?_) AllReadyH.nil)
          go_simp
          go_at_call 67
          refine (unionS_any ux uy Ar1 cr1 vx Ar2 cr2 vy B _ (by exact hBc) (by exact HFX.out) (by exact HFY.out) gx gy (by omega) (by omega)).mono ?_
          rintro e u1 ⟨A5, c5, rfl, hc5, ho, hb⟩
          replace kx0 := (hb.cell (p := ⟨b1, o1, none⟩) l1).trans kx0
          replace kx1 := (hb.cell (p := ⟨b1, o1 + 1, none⟩) l1).trans kx1
          replace kx2 := (hb.cell (p := ⟨b1, o1 + 2, none⟩) l1).trans kx2
          replace ky0 := (hb.cell (p := ⟨b2, o2, none⟩) l2).trans ky0
          replace ky1 := (hb.cell (p := ⟨b2, o2 + 1, none⟩) l2).trans ky1
          replace ky2 := (hb.cell (p := ⟨b2, o2 + 2, none⟩) l2).trans ky2
          have HA1 : Hid (Apart ⟨idx, (Sp.unionF (ux, vx) (uy, vy)).1, A5, c5, (Sp.unionF (ux, vx) (uy, vy)).2⟩ (Value.ownBlock (.slice Av nv cv))) := apart_new (r := ⟨idx, (Sp.unionF (ux, vx) (uy, vy)).1, A5, c5, (Sp.unionF (ux, vx) (uy, vy)).2⟩) HOH.out (by exact ho)
          have HF1 : Hid (Fine u1 u1.heap.size ⟨idx, (Sp.unionF (ux, vx) (uy, vy)).1, A5, c5, (Sp.unionF (ux, vx) (uy, vy)).2⟩) := ⟨Sp.own_ints ho, hc5⟩
          have hbv := below_via (Below.refl w1.heap.size w1) hb (Nat.le_refl _) ⟨rfl, rfl, rfl, rfl⟩
          replace HOH := Lib.hid (HOH.out.below hbv)
          replace HB := Lib.hid (HB.out.trans (hbv.mono HB.out.size))
          replace l1 := Nat.lt_of_lt_of_le l1 hbv.size
          replace l2 := Nat.lt_of_lt_of_le l2 hbv.size
          clear ho hb hbv hc5
          generalize Sp.unionF (ux, vx) (uy, vy) = sj at *
          obtain ⟨uj, vj⟩ := sj
          dsimp only at *
          refine hK.out _ _ ⟨kx0, kx1, kx2, ky0, ky1, ky2⟩ (fun hHeld => ?_)
          clear hK K
          try simp only [Act.put, List.setIfInBounds_toArray, List.set_cons_zero, List.set_cons_succ]
          refine wpAnyH_take (i := 14) (oi := { dst := some 37, op := Go.Op.build 77 #[(0, Go.Operand.tmp 27), (1, Go.Operand.tmp 36)], type := 77, pos := "know.go:72", after := #[{ on := 4, ground := Go.Ground.data }, { on := 13, ground := Go.Ground.data }], guard := none }) (v := ?_) rfl (by kernel_rfl) (by kernel_rfl) (by kernel_rfl) (fun _ _ _ h => h) (Or.inl ⟨rfl, ?_⟩) (by assumption) ?_
          rotate_left
          · intro wz hSw; (try dsimp only at hSw); go_simp; try (with_reducible rfl)
          try simp only [Act.put, List.setIfInBounds_toArray, List.set_cons_zero, List.set_cons_succ]
          refine wpAnyH_ready (rs := [15]) (by kernel_rfl) (by simp) ?_
          refine (AllReadyH.cons (o := { dst := some 38, op := Go.Op.buildSlice 31 1 #[(0, Go.Operand.tmp 37)], type := 31, pos := "know.go:72", after := #[{ on := 14, ground := Go.Ground.data }], guard := none }) rfl (fun K hK => ?_) AllReadyH.nil)
          go_simp
          have hb1 : Below u1.heap.size u1 (u1.alloc (.cells #[.string idx, .int .i64 uj, .slice A5 vj.length c5] 77)) := (Below.refl _ _).alloc (Nat.le_refl _) _
          replace kx0 := (hb1.cell (p := ⟨b1, o1, none⟩) l1).trans kx0
          replace kx1 := (hb1.cell (p := ⟨b1, o1 + 1, none⟩) l1).trans kx1
          replace kx2 := (hb1.cell (p := ⟨b1, o1 + 2, none⟩) l1).trans kx2
          replace ky0 := (hb1.cell (p := ⟨b2, o2, none⟩) l2).trans ky0
          replace ky1 := (hb1.cell (p := ⟨b2, o2 + 1, none⟩) l2).trans ky1
          replace ky2 := (hb1.cell (p := ⟨b2, o2 + 2, none⟩) l2).trans ky2
          replace l1 := Nat.lt_of_lt_of_le l1 hb1.size
          replace l2 := Nat.lt_of_lt_of_le l2 hb1.size
          have HX5 : Hid (RowAt cellsH 3 (u1.alloc (.cells #[.string idx, .int .i64 uj, .slice A5 vj.length c5] 77)) (u1.heap.size + 1) (some ⟨u1.heap.size, 0, none⟩) 1 [⟨idx, uj, A5, c5, vj⟩]) := one_row rowM (heap_alloc_new u1 _)
          replace HOH := Lib.hid (HOH.out.below hb1)
          replace HF1 := Lib.hid ((HF1.out.keep hb1).more hb1.size)
          replace HB := Lib.hid (HB.out.trans (hb1.mono HB.out.size))
          clear hb1
          generalize (u1.alloc (.cells #[.string idx, .int .i64 uj, .slice A5 vj.length c5] 77)) = u2 at *
          generalize u1.heap.size = G1 at *
          refine hK.out _ _ ⟨kx0, kx1, kx2, ky0, ky1, ky2⟩ (fun hHeld => ?_)
          clear hK K
          try simp only [Act.put, List.setIfInBounds_toArray, List.set_cons_zero, List.set_cons_succ]
          refine wpAnyH_ready (rs := [16]) (by kernel_rfl) (by simp) ?_
          refine (AllReadyH.cons (o := { dst := some 39, op := Go.Op.call { callee := Go.Callee.builtin Go.Builtin.append, args := #[Go.Operand.tmp 23, Go.Operand.tmp 38], argTypes := #[31, 31] }, type := 31, pos := "know.go:72", after := #[{ on := 0, ground := Go.Ground.data }, { on := 15, ground := Go.Ground.data }, { on := 13, ground := Go.Ground.chain }], guard := none }) rfl (fun K hK => ?_) AllReadyH.nil)
          refine step_append_row rowM (B := w.heap.size) (v := .slice Av nv cv) (n := nv) (zs := rs) (m := 1) (ys := [⟨idx, uj, A5, c5, vj⟩]) (by rfl) _ _ (by rfl) (by rfl) HOH.out.own (by rfl) HX5.out (by omega) (by exact HB.out.size) ?_
          intro A3 c3 w2 hown3 hg3 hat3
          have n1 : some b1 ≠ Value.ownBlock (.slice Av nv cv) := fun e => by have := (HOH.out.own.lt b1 e.symm).1; omega
          have n2 : some b2 ≠ Value.ownBlock (.slice Av nv cv) := fun e => by have := (HOH.out.own.lt b2 e.symm).1; omega
          replace kx0 := (World.cell?_of_block (a := ⟨b1, o1, none⟩) (hg3.block b1 l1 n1)).trans kx0
          replace kx1 := (World.cell?_of_block (a := ⟨b1, o1 + 1, none⟩) (hg3.block b1 l1 n1)).trans kx1
          replace kx2 := (World.cell?_of_block (a := ⟨b1, o1 + 2, none⟩) (hg3.block b1 l1 n1)).trans kx2
          replace ky0 := (World.cell?_of_block (a := ⟨b2, o2, none⟩) (hg3.block b2 l2 n2)).trans ky0
          replace ky1 := (World.cell?_of_block (a := ⟨b2, o2 + 1, none⟩) (hg3.block b2 l2 n2)).trans ky1
          replace ky2 := (World.cell?_of_block (a := ⟨b2, o2 + 2, none⟩) (hg3.block b2 l2 n2)).trans ky2
          have HO3 : Hid (OwnsM w2 w.heap.size 77 A3 (nv + 1) c3 (o ++ [(idx, (uj, vj))])) := ⟨rs ++ [⟨idx, uj, A5, c5, vj⟩], by rw [absH_append, HAB.out]; rfl, HOH.out.snoc HF1.out HA1.out hown3 hg3 hat3⟩
          replace HB := Lib.hid (HB.out.grown hg3 HB.out.size (fun g e => (HOH.out.own.lt g e).1))
          clear hown3 hg3 hat3 n1 n2 HOH HX5 HF1 HA1 HAB
          refine hK.out _ _ ⟨kx0, kx1, kx2, ky0, ky1, ky2⟩ (fun hHeld => ?_)
          clear hK K
          try simp only [Act.put, List.setIfInBounds_toArray, List.set_cons_zero, List.set_cons_succ]
          refine wpAnyH_take (i := 17) (oi := { dst := some 5, op := Go.Op.assign (Go.Operand.tmp 39), type := 31, pos := "know.go:72", after := #[{ on := 16, ground := Go.Ground.data }, { on := 16, ground := Go.Ground.chain }, { on := 0, ground := Go.Ground.phase }, { on := 1, ground := Go.Ground.phase }, { on := 2, ground := Go.Ground.phase }, { on := 3, ground := Go.Ground.phase }, { on := 4, ground := Go.Ground.phase }, { on := 5, ground := Go.Ground.phase }, { on := 6, ground := Go.Ground.phase }, { on := 7, ground := Go.Ground.phase }, { on := 8, ground := Go.Ground.phase }, { on := 9, ground := Go.Ground.phase }, { on := 10, ground := Go.Ground.phase }, { on := 11, ground := Go.Ground.phase }, { on := 12, ground := Go.Ground.phase }, { on := 13, ground := Go.Ground.phase }, { on := 14, ground := Go.Ground.phase }, { on := 15, ground := Go.Ground.phase }, { on := 16, ground := Go.Ground.phase }], guard := none }) (v := ?_) rfl (by kernel_rfl) (by kernel_rfl) (by kernel_rfl) (fun _ _ _ h => h) (Or.inl ⟨rfl, ?_⟩) (by assumption) ?_
          rotate_left
          · intro wz hSw; (try dsimp only at hSw); go_simp; try (with_reducible rfl)
          try simp only [Act.put, List.setIfInBounds_toArray, List.set_cons_zero, List.set_cons_succ]
          refine wpAnyH_done (by kernel_rfl) ?_ _
          have HM2 : Hid (MergeRel w B (mergeF xs ys) xt yt Ax Ay A3 (nv + 1) c3 (o ++ [(idx, (uj, vj))]) w2) := ⟨HAx.out, HAy.out, HO3.out, HMF.out, HB.out⟩
          clear hHeld HO3 HMF HAx HAy
          go_wp2_with fail
          go_quiet (fail)
          go_wp2_with fail
          go_roundw
          case rel => exact ⟨Ax, c1 - 1, Ay, c2 - 1, A3, nv + 1, c3, xt, yt, o ++ [(idx, (uj, vj))], rfl, rfl, rfl, by omega, by omega, by omega, HVX', HVY', HM2.out.fx, HM2.out.fy, HM2.out.fo.below (below_drewN (Below.refl _ _) _), HM2.out.ft, below_drewN HM2.out.fb _⟩
          case measure => simp [lenOf]; omega
    · have hj : mergeF xs' ys' = xs' ++ ys' := by
        rcases Nat.eq_zero_or_pos xs'.length with h | h
        · rw [List.eq_nil_of_length_eq_zero h]; simp [mergeF]
        · have h2 : ys'.length = 0 := by omega
          rw [List.eq_nil_of_length_eq_zero h2, mergeF_nil]; simp
      have HT : Hid (o ++ xs' ++ ys' = mergeF xs ys) := by show _ = _; rw [← HM.out.ft, hj]; simp
      have hsz := HM.out.fb.size
      have HO := Lib.hid HM.out.fo
      have HB := Lib.hid HM.out.fb
      have HX2 : Hid (MatAt wr w.heap.size A1 xs'.length xs') := (HM.out.fx.keep (HM.out.fb.mono hB)).more hB
      have HY2 : Hid (MatAt wr w.heap.size A2 ys'.length ys') := (HM.out.fy.keep (HM.out.fb.mono hB)).more hB
      have hgd : ¬ (0 < xs'.length) ∨ ¬ (0 < ys'.length) := by omega
      have HP1 : Hid (Calls Try.prog 68 #[.slice Av nv cv, .slice A1 xs'.length c1] wr (MoreRet w.heap.size (o ++ xs') wr)) := pushAll_any Av nv cv o A1 xs'.length c1 xs' w.heap.size wr hsz HO.out HX2.out (by omega) (fun x hx => HVX.out x hx)
      have HP2 : Hid (∀ w2 A3 c3, Below w.heap.size wr w2 → OwnsM w2 w.heap.size 77 A3 (o ++ xs').length c3 (o ++ xs') → Calls Try.prog 68 #[.slice A3 (o ++ xs').length c3, .slice A2 ys'.length c2] w2 (MoreRet w.heap.size (mergeF xs ys) w2)) := fun w2 A3 c3 hb ho => by
        have := pushAll_any A3 (o ++ xs').length c3 (o ++ xs') A2 ys'.length c2 ys' w.heap.size w2 (Nat.le_trans hsz hb.size) ho (HY2.out.keep hb) (by rw [List.length_append]; omega) (fun x hx => HVY.out x hx)
        rwa [HT.out] at this
      generalize (o ++ xs') = p at *
      clear HM HO HX2 HY2 HT hj HVX HVY hc
      generalize xs'.length = n1 at *
      generalize ys'.length = n2 at *
      rcases Nat.eq_zero_or_pos n1 with h0 | h0
      · subst h0
        clear hgd
        go_wp2_with fail
        refine HP1.out.mono ?_
        rintro e w2 ⟨A3, c3, rfl, ho, hb⟩
        have HQ := Lib.hid (HP2.out w2 A3 c3 hb ho)
        replace HB := Lib.hid (HB.out.trans hb)
        clear ho hb HP1 HP2
        go_wp2_with fail
        refine HQ.out.mono ?_
        rintro e w3 ⟨A4, c4, rfl, ho, hb⟩
        have HO4 := Lib.hid ho
        replace HB := Lib.hid (HB.out.trans hb)
        clear ho hb HQ
        go_wp2
        go_ret
        exact ⟨A4, c4, rfl, HO4.out, HB.out⟩
      · obtain rfl : n2 = 0 := by omega
        have hd' : (0 : Int) < (n1 : Int) := by omega
        clear hgd
        go_wp2_with fail
        refine HP1.out.mono ?_
        rintro e w2 ⟨A3, c3, rfl, ho, hb⟩
        have HQ := Lib.hid (HP2.out w2 A3 c3 hb ho)
        replace HB := Lib.hid (HB.out.trans hb)
        clear ho hb HP1 HP2
        go_wp2_with fail
        refine HQ.out.mono ?_
        rintro e w3 ⟨A4, c4, rfl, ho, hb⟩
        have HO4 := Lib.hid ho
        replace HB := Lib.hid (HB.out.trans hb)
        clear ho hb HQ
        go_wp2
        go_ret
        exact ⟨A4, c4, rfl, HO4.out, HB.out⟩
end Go.Proofs.Ythfdjebeblmmdaa
