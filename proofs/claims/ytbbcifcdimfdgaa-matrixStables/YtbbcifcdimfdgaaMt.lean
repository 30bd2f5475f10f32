/- The reference's Merge and Stable of Matrices. -/
import Derived.Test.YtbbcifcdimfdgaaMp
import Derived.Test.YtbbcifcdimfdgaaUt
namespace Go.Proofs.Ytbbcifcdimfdgaa
open Go.RowKit

theorem merge_last : ∀ {p : Mat} {z : ByteArray × List At}, RisingM (p ++ [z]) → mergeF p [z] = p ++ [z]
  | [], z, _ => by simp [mergeF]
  | x :: p, z, h => by
    have h1 := RisingM.head (x := x) (m := p ++ [z]) h z (by simp)
    rw [mergeF_lt h1, merge_last (RisingM.tail (x := x) (m := p ++ [z]) h)]
    rfl
theorem GoodM.take {m : Mat} (h : GoodM m) (k : Nat) : GoodM (m.take k) := ⟨(risingM_iff _).mpr (((risingM_iff _).mp h.1).sublist (List.take_sublist _ _)), fun x hx => h.2 x (List.mem_of_mem_take hx)⟩
theorem goodM_one {z : ByteArray × List At} (h : rightL z.1.data.toList = true ∧ Good z.2 ∧ z.2 ≠ []) : GoodM [z] := ⟨(risingM_iff _).mpr (List.pairwise_singleton _ _), fun x hx => by simp at hx; subst hx; exact h⟩
theorem merge_snoc {x ys : Mat} (hx : GoodM x) (hy : GoodM ys) {k : Nat} {z : ByteArray × List At} (h : ys[k]? = some z) : putM (mergeF x (ys.take k)) z.1 z.2 = mergeF x (ys.take (k + 1)) := by
  have hz := hy.2 z (List.mem_of_getElem? h)
  unfold putM
  rw [if_pos ⟨hz.1, hz.2.2⟩, merge_three hx (hy.take k) (goodM_one hz), takeM h, merge_last]
  rw [← takeM h]
  exact (hy.take (k + 1)).1
set_option maxRecDepth 100000 in
set_option maxHeartbeats 8000000 in
theorem rmergeM_any (A : Option Addr) (n c : Nat) (x : Mat) (A' : Option Addr) (n' c' : Nat) (y : Mat) (B : Nat) (w : World) (hB : B ≤ w.heap.size) (hx : MatAt w B A n x) (hy : MatAt w B A' n' y) (hn : n + n' ≤ 1000) (hgx : GoodM x) (hgy : GoodM y) (hux : Up 1000 x) (huy : Up 1000 y) :
    Calls Try.prog 28 #[.slice A n c, .slice A' n' c'] w (OwnMat 25 (mergeF x y) w) := by
  have hlx := hx.len
  have HL' := Lib.hid hy.len
  obtain ⟨rs, habs, hrow, hfine⟩ := hx
  have hb3 : Below w.heap.size w (w.alloc (.cells #[] 25)) := (Below.refl _ _).alloc (Nat.le_refl _) _
  have HO1 : Hid ((w.alloc (.cells #[] 25)).ownsRow w.heap.size 25 2 (.slice (some ⟨w.heap.size, 0, none⟩) 0 0) 0 (rowCells cellsH [])) := ⟨by simp [rowCells], .inr ⟨w.heap.size, 0, #[], rfl, Nat.le_refl _, heap_alloc_new w _, Nat.le_refl _, Nat.zero_le _, by simp, by simp [rowCells]⟩⟩
  have HRW := Lib.hid (hrow.keep (hb3.mono hB))
  have HFI : Hid (∀ r ∈ rs, Fine (w.alloc (.cells #[] 25)) B r) := fun r hr => (hfine r hr).keep (hb3.mono hB)
  have HAB := Lib.hid habs
  have HB3 := Lib.hid hb3
  have HY := Lib.hid hy
  have HGX := Lib.hid hgx
  have HGY := Lib.hid hgy
  have HUX := Lib.hid hux
  have HUY := Lib.hid huy
  have HFIN : Hid (∀ A4 c4 w4, w4.ownsRow w.heap.size 25 2 (.slice A4 (0 + n) c4) (0 + n) (rowCells cellsH ([] ++ rs)) → (w.alloc (.cells #[] 25)).grownBy w4 (Value.ownBlock (.slice (some ⟨w.heap.size, 0, none⟩) 0 0)) → OwnsM w4 w.heap.size 25 A4 n c4 x ∧ Below w.heap.size w w4) := fun A4 c4 w4 hown hg => by
    rw [Nat.zero_add, List.nil_append] at hown
    have hbl : Below w.heap.size (w.alloc (.cells #[] 25)) w4 := grown_below hg HB3.out.size (fun g e => by injection e with e; simp only at e; omega)
    have hbw : Below w.heap.size w w4 := HB3.out.trans hbl
    refine ⟨⟨rs, HAB.out, hown, fun r hr => ?_, fun r hr => ?_⟩, hbw⟩
    · exact ((HFI.out r hr).keep (hbl.mono hB)).more (by have := hbw.size; omega)
    · intro hn ad e1 e2
      have h1 := (hown.lt ad.block e2).1
      obtain ⟨b, off, e3, hlt, _⟩ := (HFI.out r hr).vec.2 hn
      rw [e1] at e3
      injection e3 with e3
      subst e3
      simp only at h1 hlt
      omega
  clear hy hgx hgy hux huy habs hrow hfine hb3
  go_enter Try.func28, Try.ntmps28
  go_wp2_with (at_builtin; refine wpList_append_row rowN (B := w.heap.size) (v := .slice (some ⟨w.heap.size, 0, none⟩) 0 0) (n := 0) (zs := []) (m := n) (ys := rs) (c := c) rfl _ _ rfl rfl HO1.out rfl HRW.out (by omega) HB3.out.size ?_; intro A4 c4 w4 hown4 hg4 _; have HO4 := Lib.hid (HFIN.out A4 c4 w4 hown4 hg4).1; have HB4 := Lib.hid (HFIN.out A4 c4 w4 hown4 hg4).2; clear hown4 hg4)
  subst hlx
  clear HFIN HO1 HRW HFI HAB HB3
  go_loopw [5, 6] (fun v i wr => ∃ (k : Nat) (Av : Option Addr) (cv : Nat), k ≤ n' ∧ i = .int .i64 k ∧ v = .slice Av (List.length (mergeF x (y.take k))) cv ∧ Hid (OwnsM wr w.heap.size 25 Av (List.length (mergeF x (y.take k))) cv (mergeF x (y.take k))) ∧ Hid (Below w.heap.size w wr)) (fun _ i _ => n' - (intOf i).toNat)
  case atStart => exact ⟨0, A4, c4, by omega, rfl, by rw [List.take_zero, mergeF_nil], by rw [List.take_zero, mergeF_nil]; exact HO4, HB4⟩
  case round =>
    clear HO4 HB4
    obtain ⟨k, Av, cv, hk, rfl, rfl, HO, HB⟩ := hrel
    by_cases hlt : k < n'
    · obtain ⟨blk, off, r, rfl, hbB, hmk, e0, e1, hf⟩ := HY.out.get (HB.out.mono hB) hlt
      have hi0 : (0 : Int) ≤ (k : Int) := by omega
      have hi1 : (k : Int) < (n' : Int) := by omega
      have hsz := HB.out.size
      have hbl : blk < wr.heap.size := by omega
      have HSN := Lib.hid (merge_snoc HGX.out HGY.out hmk)
      have hvl : r.v.length ≤ 1000 := HUY.out _ (List.mem_of_getElem? hmk)
      have HGR : Hid (Good r.v) := (HGY.out.2 _ (List.mem_of_getElem? hmk)).2.1
      have HVC := Lib.hid (hf.vec.more (Nat.le_trans hB hsz))
      have HGO := Lib.hid (HGX.out.merge (HGY.out.take k))
      have HUO : Hid (Up 10000 (mergeF x (y.take k))) := fun z hz => by have := HUX.out.merge (show Up 1000 (y.take k) from fun u hu => HUY.out u (List.mem_of_mem_take hu)) z hz; omega
      have hlo : List.length (mergeF x (y.take k)) ≤ 10000 := by have := merge_len x (y.take k); rw [List.length_take] at this; omega
      obtain ⟨id, Ar, cr, v⟩ := r
      simp only at e0 e1 hvl HSN HGR HVC
      generalize mergeF x (y.take k) = o at *
      clear hmk hf
      go_upto_region 5 with fail
      refine wp_region_held_drew (S := fun w' => w'.cell? ⟨blk, off + k * 2, none⟩ = some (.string id) ∧ w'.cell? ⟨blk, off + k * 2 + 1, none⟩ = some (.slice Ar v.length cr)) (by kernel_rfl) ⟨e0, e1⟩ (fun hHeld => ?_)
      refine wpAnyH_take (i := 0) (oi := { dst := some 16, op := Go.Op.move (Go.Operand.tmp 5), type := 22, pos := "ref.go:63", after := #[], guard := none }) (v := ?_) rfl (by kernel_rfl) (by kernel_rfl) (by kernel_rfl) (fun _ _ _ h => h) (Or.inl ⟨rfl, ?_⟩) (by assumption) ?_
      rotate_left
      · intro wz hSw; (try dsimp only at hSw); go_simp; try (with_reducible rfl)
      try simp only [Act.put, List.setIfInBounds_toArray, List.set_cons_zero, List.set_cons_succ]
      refine wpAnyH_take (i := 1) (oi := { dst := some 17, op := Go.Op.move (Go.Operand.tmp 1), type := 22, pos := "ref.go:63", after := #[], guard := none }) (v := ?_) rfl (by kernel_rfl) (by kernel_rfl) (by kernel_rfl) (fun _ _ _ h => h) (Or.inl ⟨rfl, ?_⟩) (by assumption) ?_
      rotate_left
      · intro wz hSw; (try dsimp only at hSw); go_simp; try (with_reducible rfl)
      try simp only [Act.put, List.setIfInBounds_toArray, List.set_cons_zero, List.set_cons_succ]
      refine wpAnyH_take (i := 2) (oi := { dst := some 18, op := Go.Op.move (Go.Operand.tmp 6), type := 3, pos := "ref.go:63", after := #[], guard := none }) (v := ?_) rfl (by kernel_rfl) (by kernel_rfl) (by kernel_rfl) (fun _ _ _ h => h) (Or.inl ⟨rfl, ?_⟩) (by assumption) ?_
      rotate_left
      · intro wz hSw; (try dsimp only at hSw); go_simp; try (with_reducible rfl)
      try simp only [Act.put, List.setIfInBounds_toArray, List.set_cons_zero, List.set_cons_succ]
      refine wpAnyH_take (i := 3) (oi := { dst := some 19, op := Go.Op.indexAddr 22 (Go.Operand.tmp 17) (Go.Operand.tmp 18), type := 0, pos := "ref.go:63", after := #[{ on := 1, ground := Go.Ground.data }, { on := 2, ground := Go.Ground.data }], guard := none }) (v := ?_) rfl (by kernel_rfl) (by kernel_rfl) (by kernel_rfl) (fun _ _ _ h => h) (Or.inl ⟨rfl, ?_⟩) (by assumption) ?_
      rotate_left
      · intro wz hSw; (try dsimp only at hSw); go_simp; try (with_reducible rfl)
      try simp only [Act.put, List.setIfInBounds_toArray, List.set_cons_zero, List.set_cons_succ]
      refine wpAnyH_take (i := 4) (oi := { dst := some 20, op := Go.Op.fieldAddr 25 (Go.Operand.tmp 19) 0, type := 0, pos := "ref.go:63", after := #[{ on := 3, ground := Go.Ground.data }], guard := none }) (v := ?_) rfl (by kernel_rfl) (by kernel_rfl) (by kernel_rfl) (fun _ _ _ h => h) (Or.inl ⟨rfl, ?_⟩) (by assumption) ?_
      rotate_left
      · intro wz hSw; (try dsimp only at hSw); go_simp; try (with_reducible rfl)
      try simp only [Act.put, List.setIfInBounds_toArray, List.set_cons_zero, List.set_cons_succ]
      refine wpAnyH_take (i := 5) (oi := { dst := some 21, op := Go.Op.load 9 (Go.Operand.tmp 20), type := 9, pos := "ref.go:63", after := #[{ on := 4, ground := Go.Ground.data }], guard := none }) (v := ?_) rfl (by kernel_rfl) (by kernel_rfl) (by kernel_rfl) (fun _ _ _ h => h) (Or.inl ⟨rfl, ?_⟩) (by assumption) ?_
      rotate_left
      · intro wz hSw; (try dsimp only at hSw); go_simp; try (with_reducible rfl)
      try simp only [Act.put, List.setIfInBounds_toArray, List.set_cons_zero, List.set_cons_succ]
      refine wpAnyH_take (i := 6) (oi := { dst := some 22, op := Go.Op.move (Go.Operand.tmp 1), type := 22, pos := "ref.go:63", after := #[], guard := none }) (v := ?_) rfl (by kernel_rfl) (by kernel_rfl) (by kernel_rfl) (fun _ _ _ h => h) (Or.inl ⟨rfl, ?_⟩) (by assumption) ?_
      rotate_left
      · intro wz hSw; (try dsimp only at hSw); go_simp; try (with_reducible rfl)
      try simp only [Act.put, List.setIfInBounds_toArray, List.set_cons_zero, List.set_cons_succ]
      refine wpAnyH_take (i := 7) (oi := { dst := some 23, op := Go.Op.move (Go.Operand.tmp 6), type := 3, pos := "ref.go:63", after := #[], guard := none }) (v := ?_) rfl (by kernel_rfl) (by kernel_rfl) (by kernel_rfl) (fun _ _ _ h => h) (Or.inl ⟨rfl, ?_⟩) (by assumption) ?_
      rotate_left
      · intro wz hSw; (try dsimp only at hSw); go_simp; try (with_reducible rfl)
      try simp only [Act.put, List.setIfInBounds_toArray, List.set_cons_zero, List.set_cons_succ]
      refine wpAnyH_take (i := 8) (oi := { dst := some 24, op := Go.Op.indexAddr 22 (Go.Operand.tmp 22) (Go.Operand.tmp 23), type := 0, pos := "ref.go:63", after := #[{ on := 6, ground := Go.Ground.data }, { on := 7, ground := Go.Ground.data }], guard := none }) (v := ?_) rfl (by kernel_rfl) (by kernel_rfl) (by kernel_rfl) (fun _ _ _ h => h) (Or.inl ⟨rfl, ?_⟩) (by assumption) ?_
      rotate_left
      · intro wz hSw; (try dsimp only at hSw); go_simp; try (with_reducible rfl)
      try simp only [Act.put, List.setIfInBounds_toArray, List.set_cons_zero, List.set_cons_succ]
      refine wpAnyH_take (i := 9) (oi := { dst := some 25, op := Go.Op.fieldAddr 25 (Go.Operand.tmp 24) 1, type := 0, pos := "ref.go:63", after := #[{ on := 8, ground := Go.Ground.data }], guard := none }) (v := ?_) rfl (by kernel_rfl) (by kernel_rfl) (by kernel_rfl) (fun _ _ _ h => h) (Or.inl ⟨rfl, ?_⟩) (by assumption) ?_
      rotate_left
      · intro wz hSw; (try dsimp only at hSw); go_simp; try (with_reducible rfl)
      try simp only [Act.put, List.setIfInBounds_toArray, List.set_cons_zero, List.set_cons_succ]
      refine wpAnyH_take (i := 10) (oi := { dst := some 26, op := Go.Op.load 23 (Go.Operand.tmp 25), type := 23, pos := "ref.go:63", after := #[{ on := 9, ground := Go.Ground.data }], guard := none }) (v := ?_) rfl (by kernel_rfl) (by kernel_rfl) (by kernel_rfl) (fun _ _ _ h => h) (Or.inl ⟨rfl, ?_⟩) (by assumption) ?_
      rotate_left
      · intro wz hSw; (try dsimp only at hSw); go_simp; try (with_reducible rfl)
      try simp only [Act.put, List.setIfInBounds_toArray, List.set_cons_zero, List.set_cons_succ]
      refine wpAnyH_ready (rs := [11]) (by kernel_rfl) (by simp) ?_
      refine (AllReadyH.cons (o := { dst := some 27, op := Go.Op.call { callee := Go.Callee.value (Go.Operand.func 18), args := #[Go.Operand.tmp 16, Go.Operand.tmp 21, Go.Operand.tmp 26], argTypes := #[22, 9, 23] }, type := 22, pos := "ref.go:63", after := #[{ on := 0, ground := Go.Ground.data }, { on := 5, ground := Go.Ground.data }, { on := 10, ground := Go.Ground.data }], guard := none }) rfl (fun K hK => ?_) AllReadyH.nil)
      go_simp
      go_at_call 18
      refine (rputM_any Av (List.length o) cv o id Ar cr v wr.heap.size wr.drew (Nat.le_refl _) (HO.out.mat.keep (drew_below _ _)) (HVC.out.keep (drew_below _ _)) (by omega) HUO.out (by omega) HGO.out HGR.out).mono ?_
      rw [HSN.out]
      rintro e u1 ⟨A3, c3, rfl, ho, hb0⟩
      have hb : Below wr.heap.size wr u1 := (drew_below _ _).trans hb0
      replace e0 := (hb.cell (p := ⟨blk, off + k * 2, none⟩) hbl).trans e0
      replace e1 := (hb.cell (p := ⟨blk, off + k * 2 + 1, none⟩) hbl).trans e1
      have HO3 := Lib.hid (ho.base hsz)
      replace HB := Lib.hid (HB.out.trans (hb.mono HB.out.size))
      clear ho hb hb0
      refine hK.out _ _ ⟨e0, e1⟩ (fun hHeld => ?_)
      clear hK K
      try simp only [Act.put, List.setIfInBounds_toArray, List.set_cons_zero, List.set_cons_succ]
      refine wpAnyH_take (i := 12) (oi := { dst := some 5, op := Go.Op.assign (Go.Operand.tmp 27), type := 22, pos := "ref.go:63", after := #[{ on := 11, ground := Go.Ground.data }, { on := 11, ground := Go.Ground.chain }, { on := 0, ground := Go.Ground.phase }, { on := 1, ground := Go.Ground.phase }, { on := 2, ground := Go.Ground.phase }, { on := 3, ground := Go.Ground.phase }, { on := 4, ground := Go.Ground.phase }, { on := 5, ground := Go.Ground.phase }, { on := 6, ground := Go.Ground.phase }, { on := 7, ground := Go.Ground.phase }, { on := 8, ground := Go.Ground.phase }, { on := 9, ground := Go.Ground.phase }, { on := 10, ground := Go.Ground.phase }, { on := 11, ground := Go.Ground.phase }], guard := none }) (v := ?_) rfl (by kernel_rfl) (by kernel_rfl) (by kernel_rfl) (fun _ _ _ h => h) (Or.inl ⟨rfl, ?_⟩) (by assumption) ?_
      rotate_left
      · intro wz hSw; (try dsimp only at hSw); go_simp; try (with_reducible rfl)
      try simp only [Act.put, List.setIfInBounds_toArray, List.set_cons_zero, List.set_cons_succ]
      refine wpAnyH_done (by kernel_rfl) ?_ _
      clear hHeld e0 e1 HO HVC
      go_wp2_with fail
      go_roundw
      case rel => exact ⟨k + 1, A3, c3, by omega, by go_num, rfl, HO3, HB⟩
      case measure => simp [intOf]; omega
    · obtain rfl : k = n' := by omega
      have HT : Hid (y.take k = y) := List.take_of_length_le (by have := HL'.out; omega)
      rw [HT.out] at HO ⊢
      go_wp2
      go_ret
      exact ⟨Av, cv, rfl, HO.out, HB.out⟩
theorem stable_good {m : Mat} (h : GoodM m) : ∀ (r : List ByteArray) {v : List At}, Good v → Good (r.foldl (fun v b => meetF v (mOf m b)) v)
  | [], _, hv => hv
  | _ :: r, _, hv => stable_good h r (hv.meet _)
theorem stableF_good {m : Mat} (h : GoodM m) (l : List ByteArray) : Good (stableF m l) := by
  cases l with
  | nil => exact Good.nil
  | cons a r => exact stable_good h r (h.of a)
theorem stableF_len {m : Mat} {k : Nat} (h : Up k m) (l : List ByteArray) : (stableF m l).length ≤ k := by
  cases l with
  | nil => exact Nat.zero_le _
  | cons a r => exact Nat.le_trans (stable_len m r _) (h.of a)
theorem foldl_mono {x m : Mat} (hx : GoodM x) (hm : GoodM m) (h : ∀ b a, ofF (mOf x b) a ≤ ofF (mOf m b) a) : ∀ (r : List ByteArray) {u v : List At}, Good u → Good v → (∀ a, ofF u a ≤ ofF v a) → ∀ a, ofF (r.foldl (fun v b => meetF v (mOf x b)) u) a ≤ ofF (r.foldl (fun v b => meetF v (mOf m b)) v) a
  | [], _, _, _, _, huv, a => huv a
  | b :: r, u, v, hu, hv, huv, a => foldl_mono hx hm h r (hu.meet _) (hv.meet _) (fun a => by
      rw [ofF_meet hu.1 hu.pos (hx.of b).pos, ofF_meet hv.1 hv.pos (hm.of b).pos]
      have h1 := huv a
      have h2 := h b a
      omega) a
theorem stable_mono {x m : Mat} (hx : GoodM x) (hm : GoodM m) (h : ∀ b a, ofF (mOf x b) a ≤ ofF (mOf m b) a) (l : List ByteArray) : withinF (stableF x l) (stableF m l) = true := by
  rw [within_iff (stableF_good hx l).1 (stableF_good hm l).pos]
  cases l with
  | nil => exact fun a => Int.le_refl _
  | cons a r => exact foldl_mono hx hm h r (hx.of a) (hm.of a) (h a)
theorem merge_more {x y : Mat} (hx : GoodM x) (hy : GoodM y) (b a : ByteArray) : ofF (mOf x b) a ≤ ofF (mOf (mergeF x y) b) a ∧ ofF (mOf y b) a ≤ ofF (mOf (mergeF x y) b) a := by
  rw [mOf_merge hx.1 hy.1, ofF_join (hx.of b).1 (hy.of b).1 (hx.of b).pos (hy.of b).pos]
  omega
set_option maxRecDepth 100000 in
set_option maxHeartbeats 4000000 in
theorem rstableM_any (A : Option Addr) (n c : Nat) (m : Mat) (A' : Option Addr) (n' c' : Nat) (l : List ByteArray) (B : Nat) (w : World) (hB : B ≤ w.heap.size) (hz : MatAt w B A n m) (hy : RowAt cellsT 1 w B A' n' l) (hn : n ≤ 100000) (hn' : n' ≤ 100000) (hg : GoodM m) (hu : Up 10000 m) :
    Calls Try.prog 30 #[.slice A n c, .slice A' n' c'] w (OwnVec w.heap.size 76 (stableF m l) w) := by
  have HG := Lib.hid hg
  have HU := Lib.hid hu
  have HZ := Lib.hid hz
  have HY := Lib.hid hy
  have hl := hy.1
  clear hz hg hu
  match l, hl, hy with
  | [], hl, hy =>
    obtain rfl : n' = 0 := by simpa using hl.symm
    clear hy HY
    go_enter Try.func30, Try.ntmps30
    go_wp2
    go_ret
    exact ⟨none, 0, rfl, Nat.le_refl _, own_nil _ _ _, Below.refl _ _⟩
  | a :: r, hl, hy =>
    obtain ⟨k, rfl⟩ : ∃ k, n' = k + 1 := ⟨n' - 1, by simp at hl; omega⟩
    have hlr : r.length = k := by simpa using hl
    obtain ⟨blk, off, s, rfl, hbB, hsk, hc⟩ := hy.text (Below.refl _ _) (k := 0) (by omega)
    simp at hsk
    subst hsk
    rw [Nat.add_zero] at hc
    have HSt : Hid (stableF m (a :: r) = r.foldl (fun v b => meetF v (mOf m b)) (mOf m a)) := rfl
    have hbl : blk < w.heap.size := by omega
    have hb3 : Below w.heap.size w (w.alloc (.cells #[] 76)) := (Below.refl _ _).alloc (Nat.le_refl _) _
    have HO1 : Hid ((w.alloc (.cells #[] 76)).ownsRow w.heap.size 76 2 (.slice (some ⟨w.heap.size, 0, none⟩) 0 0) 0 (atCells [])) := own_emptyV 76 w
    have hcA : (w.alloc (.cells #[] 76)).cell? ⟨blk, off, none⟩ = some (.string a) := (hb3.cell (p := ⟨blk, off, none⟩) hbl).trans hc
    have HOF := Lib.hid (rofM_any A n c m a B (w.alloc (.cells #[] 76)) (HZ.out.keep (hb3.mono hB)) (by omega))
    have hla := HU.out.of a
    have HB3 := Lib.hid hb3
    clear hy hl hc hb3
    go_enter Try.func30, Try.ntmps30
    have hk1 : ¬ ((k : Int) + 1 < 1) := by omega
    go_wp2_with fail
    refine HOF.out.mono ?_
    rintro e w1 ⟨A1, c1, rfl, hc1, hv1, rfl⟩
    have HV1 := Lib.hid hv1
    clear hv1 HOF
    go_wp2_with (at_builtin; refine wpList_append_at refTy (B := w.heap.size) (v := .slice (some ⟨w.heap.size, 0, none⟩) 0 0) (n := 0) (zs := []) (m := (mOf m a).length) (ys := mOf m a) (c := c1) rfl _ _ rfl rfl HO1.out rfl HV1.out (by omega) HB3.out.size ?_; intro A3 c3 w3 hown3 hg3 _; have HO3 := Lib.hid hown3; have HB4 : Hid (Below w.heap.size w w3) := HB3.out.grown hg3 HB3.out.size (fun i hi => (HO1.out.lt i hi).1); clear hown3 hg3)
    rw [Nat.zero_add, List.nil_append] at HO3
    clear HO1 HV1 HB3 hcA
    go_loopw [5, 6] (fun v i wr => ∃ (j : Nat) (Av : Option Addr) (cv : Nat), j ≤ k ∧ i = .int .i64 (j + 1 : Nat) ∧ v = .slice Av ((r.take j).foldl (fun v b => meetF v (mOf m b)) (mOf m a)).length cv ∧ Hid (wr.ownsRow w.heap.size 76 2 (.slice Av ((r.take j).foldl (fun v b => meetF v (mOf m b)) (mOf m a)).length cv) ((r.take j).foldl (fun v b => meetF v (mOf m b)) (mOf m a)).length (atCells ((r.take j).foldl (fun v b => meetF v (mOf m b)) (mOf m a)))) ∧ Hid (Below w.heap.size w wr)) (fun _ i _ => k + 1 - (intOf i).toNat)
    case atStart => exact ⟨0, A3, c3, by omega, rfl, rfl, HO3, HB4⟩
    case round =>
      clear HO3 HB4
      obtain ⟨j, Av, cv, hj, rfl, rfl, HO, HB⟩ := hrel
      by_cases hlt : j < k
      · obtain ⟨blk2, off2, s, e2, hbB2, hsk, hcell⟩ := HY.out.text (HB.out.mono hB) (k := j + 1) (by omega)
        injection e2 with e2
        injection e2 with e2 e3
        subst e2 e3
        have hsk' : r[j]? = some s := by simpa using hsk
        have HTS := Lib.hid (snocT hsk')
        have hi1 : ((j + 1 : Nat) : Int) < (k : Int) + 1 := by omega
        have hi0 : (0 : Int) ≤ ((j + 1 : Nat) : Int) := by omega
        have hlen : ((r.take j).foldl (fun v b => meetF v (mOf m b)) (mOf m a)).length ≤ 10000 := Nat.le_trans (stable_len m _ _) hla
        have HN : Hid ((r.take (j + 1)).foldl (fun v b => meetF v (mOf m b)) (mOf m a) = meetF ((r.take j).foldl (fun v b => meetF v (mOf m b)) (mOf m a)) (mOf m s)) := by show _ = _; rw [HTS.out, List.foldl_append]; rfl
        have HGJ := Lib.hid (stable_good HG.out (r.take j) (HG.out.of a))
        generalize (r.take j).foldl (fun v b => meetF v (mOf m b)) (mOf m a) = vj at *
        have hsz := HB.out.size
        clear hsk HTS hsk'
        have HOF := Lib.hid (rofM_any A n c m s B wr (HZ.out.keep (HB.out.mono hB)) (by omega))
        have hls := HU.out.of s
        have HGS := Lib.hid (HG.out.of s)
        generalize mOf m s = vs at *
        go_wp2_with fail
        refine HOF.out.mono ?_
        rintro e w2 ⟨A5, c5, rfl, hc5, hv5, rfl⟩
        have HV5 := Lib.hid hv5
        clear hv5 HOF
        go_wp2_with fail
        refine (rmeet_any Av vj.length cv vj A5 vs.length c5 vs wr.heap.size _ (Nat.le_refl _) (own_vec HO.out) (HV5.out.more (by omega)) (by omega) (by omega) HGJ.out HGS.out).mono ?_
        rintro e w3 ⟨A6, c6, rfl, hc6, ho, hb⟩
        have HO3 := Lib.hid (own_base ho hsz)
        have HB3 := Lib.hid (HB.out.trans (hb.mono hsz))
        clear ho hb
        go_wp2_with fail
        go_roundw
        case rel => exact ⟨j + 1, A6, c6, by omega, by go_num, by rw [HN.out], by rw [HN.out]; exact HO3, HB3⟩
        case measure => simp [intOf]; omega
      · obtain rfl : j = k := by omega
        have HT : Hid (r.take j = r) := List.take_of_length_le (by omega)
        rw [HT.out] at HO ⊢
        have hi1 : ¬ (((j + 1 : Nat) : Int) < (j : Int) + 1) := by omega
        go_wp2
        go_ret
        rw [HSt.out]
        exact ⟨Av, cv, rfl, own_cap HO.out, HO.out, HB.out⟩
end Go.Proofs.Ytbbcifcdimfdgaa
