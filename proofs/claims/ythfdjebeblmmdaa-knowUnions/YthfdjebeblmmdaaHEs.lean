/- The reference's Union and Within of two Knows. -/
import Derived.Test.YthfdjebeblmmdaaHEq
import Derived.Test.YthfdjebeblmmdaaHK5
namespace Go.Proofs.Ythfdjebeblmmdaa
open Go.RowKit

theorem refUnion_eq {s t : Int × List Int} (hs : Sp.Small s) (ht : Sp.Small t) : Sp.refUnionF s t = Sp.unionF s t := by
  have h1 := Sp.refUnion_small hs ht
  have h2 := Sp.union_small hs ht
  exact Sp.Ok.ext h1.1.1 h2.1.1 fun x => by rw [h1.2 x, h2.2 x]
theorem SM.take {m : Mat} (h : SM m) (k : Nat) : SM (m.take k) := by
  have h1 : GK 60 (m.take k) := ⟨(risingM_iff _).mpr (((risingM_iff _).mp h.gk.up).sublist (List.take_sublist _ _)), fun x hx => h.gk.row x (List.mem_of_mem_take hx)⟩
  refine ⟨h1, fun a => ?_⟩
  by_cases hx : ∃ x ∈ m.take k, x.1 = a
  · obtain ⟨x, hx, rfl⟩ := hx
    rw [mOf_mem h1.up hx]; exact h.row (List.mem_of_mem_take hx)
  · rw [mOf_none (fun x hx' e => hx ⟨x, hx', e⟩)]; exact small_nil
theorem mOf_app : ∀ {p q : Mat} {a : ByteArray}, (∀ x ∈ p, x.1 ≠ a) → mOf (p ++ q) a = mOf q a
  | [], _, _, _ => rfl
  | x :: p, q, a, h => by
    rw [List.cons_append, mOf, if_neg (h x (by simp))]
    exact mOf_app fun y hy => h y (by simp [hy])
theorem mOf_app_ne : ∀ {p : Mat} {x : ByteArray × (Int × List Int)} {a : ByteArray}, x.1 ≠ a → mOf (p ++ [x]) a = mOf p a
  | [], x, a, h => by
    rw [List.nil_append]
    show (if x.1 = a then x.2 else mOf [] a) = mOf [] a
    rw [if_neg h]
  | y :: p, x, a, h => by
    rw [List.cons_append, mOf, mOf]
    split
    · rfl
    · exact mOf_app_ne h
theorem union_step {a b : Mat} (ha : SM a) (hb : SM b) {k : Nat} {x : ByteArray × (Int × List Int)} (hx : b[k]? = some x) :
    putK (mergeF a (b.take k)) x.1 (Sp.refUnionF (mOf (mergeF a (b.take k)) x.1) x.2) = mergeF a (b.take (k + 1)) := by
  have hxm : x ∈ b := List.mem_of_getElem? hx
  have hr := (hb.gk.row x hxm).1
  have ho := ha.merge (hb.take k)
  have hsm := hb.row hxm
  have hru := refUnion_eq (ho.sm x.1) hsm
  rw [hru]
  have hp := ho.put hr (Sp.union_small (ho.sm x.1) hsm).1
  have hv := (ho.gk.put hr (small_num (Sp.union_small (ho.sm x.1) hsm).1) (Nat.le_refl _)).2
  have hno : ∀ y ∈ b.take k, y.1 ≠ x.1 := by
    have h1 := (hb.take (k + 1)).gk.up
    rw [takeM hx, risingM_iff, List.pairwise_append] at h1
    intro y hy e
    have := h1.2.2 y hy x (by simp)
    rw [e, cmpId_self] at this
    omega
  refine hp.gk.ext (ha.merge (hb.take (k + 1))).gk fun c => ?_
  rw [hv c, mOf_merge ha.gk (hb.take (k + 1)).gk, takeM hx]
  by_cases e : c = x.1
  · subst e
    rw [if_pos rfl, mOf_app hno, mOf_head x [], mOf_merge ha.gk (hb.take k).gk, mOf_none hno, (ha.gk.of x.1).union_nil]
  · rw [if_neg e, mOf_app_ne (fun h => e h.symm), mOf_merge ha.gk (hb.take k).gk]
set_option maxRecDepth 100000 in
set_option maxHeartbeats 8000000 in
theorem runionM_any (A : Option Addr) (n c : Nat) (x : Mat) (A' : Option Addr) (n' c' : Nat) (y : Mat) (B : Nat) (w : World) (hB : B ≤ w.heap.size) (hx : MatAt w B A n x) (hy : MatAt w B A' n' y) (hn : n ≤ 1000) (hn' : n' ≤ 1000) (hsx : SM x) (hsy : SM y) :
    Calls Try.prog 31 #[.slice A n c, .slice A' n' c'] w (OwnMat 27 (mergeF x y) w) := by
  have HLx := Lib.hid hx.len
  have HL := Lib.hid hy.len
  have HY := Lib.hid hy
  have HSX := Lib.hid hsx
  have HSY := Lib.hid hsy
  obtain ⟨rs, hrw, ho1, hfin⟩ := copy_ready hB hx
  have HRW := Lib.hid hrw
  have HO1 := Lib.hid ho1
  have HFIN := Lib.hid hfin
  have HSZ : Hid (w.heap.size ≤ (w.alloc (.cells #[] 27)).heap.size) := by show _ ≤ _; simp
  have HLN : Hid (∀ k, (mergeF x (y.take k)).length ≤ 2000) := fun k => by
    have h1 := merge_len x (y.take k)
    have h2 := List.length_take (l := y) (i := k)
    have h3 := HLx.out
    have h4 := HL.out
    omega
  clear hx hy hsx hsy hrw ho1 hfin
  go_enter Try.func31, Try.ntmps31
  go_wp2_with (at_builtin; refine wpList_append_row rowN (B := w.heap.size) (v := .slice (some ⟨w.heap.size, 0, none⟩) 0 0) (n := 0) (zs := []) (m := n) (ys := rs) rfl _ _ rfl rfl HO1.out rfl HRW.out (by omega) HSZ.out ?_; intro A4 c4 w4 hown4 hg4 _; have HR4 := Lib.hid (HFIN.out A4 c4 w4 hown4 hg4); clear hown4 hg4)
  obtain ⟨A5, c5, h5, ho5, hb5⟩ := HR4.out
  injection h5 with h5
  injection h5 with h5 h6 h7
  subst h5 h7
  have HO5 : Hid (OwnsM w4 w.heap.size 27 A4 (mergeF x (y.take 0)).length c4 (mergeF x (y.take 0))) := by
    rw [List.take_zero, mergeF_nil]; exact ho5
  have HB5 := Lib.hid hb5
  have hlen0 : (mergeF x (y.take 0)).length = n := by rw [List.take_zero, mergeF_nil]; exact HLx.out
  clear HR4 ho5 hb5 h6 HO1 HRW HFIN HSZ
  go_loopw [5, 6] (fun v i wr => ∃ (k : Nat) (Av : Option Addr) (cv : Nat), k ≤ n' ∧ i = .int .i64 k ∧ v = .slice Av (mergeF x (y.take k)).length cv ∧ Hid (OwnsM wr w.heap.size 27 Av (mergeF x (y.take k)).length cv (mergeF x (y.take k))) ∧ Hid (Below w.heap.size w wr)) (fun _ i _ => n' - (intOf i).toNat)
  case atStart => exact ⟨0, A4, c4, by omega, rfl, by rw [hlen0], HO5, HB5⟩
  case round =>
    clear HO5 HB5 hlen0
    obtain ⟨k, Av, cv, hk, rfl, rfl, HO, HB⟩ := hrel
    by_cases hlt : k < n'
    · obtain ⟨blk, off, r, rfl, hbB, hmk, e0, e1, e2, hf⟩ := HY.out.get (HB.out.mono hB) hlt
      have hi0 : (0 : Int) ≤ (k : Int) := by omega
      have hi1 : (k : Int) < (n' : Int) := by omega
      have hsz := HB.out.size
      have hbl : blk < wr.heap.size := by omega
      have hBr := Nat.le_trans hB hsz
      have HVC := Lib.hid hf.vec
      have hcap := hf.cap
      have HSTEP := Lib.hid (union_step HSX.out HSY.out hmk)
      have HMO : Hid (SM (mergeF x (y.take k))) := HSX.out.merge (HSY.out.take k)
      have HRT : Hid (Sp.Small (r.u, r.v)) := HSY.out.row (List.mem_of_getElem? hmk)
      have HID : Hid (rightL r.id.data.toList = true) := (HSY.out.gk.row _ (List.mem_of_getElem? hmk)).1
      have hol := HLN.out k
      obtain ⟨id, u, Ar, cr, v⟩ := r
      simp only at e0 e1 e2 HVC hcap HSTEP HRT HID
      generalize mergeF x (y.take k) = o at *
      obtain ⟨t, ht⟩ : ∃ t, mOf o id = t := ⟨_, rfl⟩
      have HT := Lib.hid ht
      have HTS : Hid (Sp.Small t) := ht ▸ HMO.out.sm id
      obtain ⟨q, hq⟩ : ∃ q, Sp.refUnionF t (u, v) = q := ⟨_, rfl⟩
      have HQ := Lib.hid hq
      have HQS : Hid (Sp.Small q) := hq ▸ (Sp.refUnion_small HTS.out HRT.out).1
      rw [ht, hq] at HSTEP
      clear hmk hf ht hq
      go_upto_region 5 with fail
      refine wp_region_held_drew (S := fun w' => w'.cell? ⟨blk, off + k * 3, none⟩ = some (.string id) ∧ w'.cell? ⟨blk, off + k * 3 + 1, none⟩ = some (.int .i64 u) ∧ w'.cell? ⟨blk, off + k * 3 + 2, none⟩ = some (.slice Ar v.length cr)) (by kernel_rfl) ⟨e0, e1, e2⟩ (fun hHeld => ?_)
      refine wpAnyH_take (i := 0) (oi := { dst := some 16, op := Go.Op.move (Go.Operand.tmp 5), type := 22, pos := "ref.go:75", after := #[], guard := none }) (v := ?_) rfl (by kernel_rfl) (by kernel_rfl) (by kernel_rfl) (fun _ _ _ h => h) (Or.inl ⟨rfl, ?_⟩) (by assumption) ?_
      rotate_left
      · intro wz hSw; (try dsimp only at hSw); go_simp; try (with_reducible rfl)
      try simp only [Act.put, List.setIfInBounds_toArray, List.set_cons_zero, List.set_cons_succ]
      refine wpAnyH_take (i := 1) (oi := { dst := some 17, op := Go.Op.move (Go.Operand.tmp 1), type := 22, pos := "ref.go:75", after := #[], guard := none }) (v := ?_) rfl (by kernel_rfl) (by kernel_rfl) (by kernel_rfl) (fun _ _ _ h => h) (Or.inl ⟨rfl, ?_⟩) (by assumption) ?_
      rotate_left
      · intro wz hSw; (try dsimp only at hSw); go_simp; try (with_reducible rfl)
      try simp only [Act.put, List.setIfInBounds_toArray, List.set_cons_zero, List.set_cons_succ]
      refine wpAnyH_take (i := 2) (oi := { dst := some 18, op := Go.Op.move (Go.Operand.tmp 6), type := 3, pos := "ref.go:75", after := #[], guard := none }) (v := ?_) rfl (by kernel_rfl) (by kernel_rfl) (by kernel_rfl) (fun _ _ _ h => h) (Or.inl ⟨rfl, ?_⟩) (by assumption) ?_
      rotate_left
      · intro wz hSw; (try dsimp only at hSw); go_simp; try (with_reducible rfl)
      try simp only [Act.put, List.setIfInBounds_toArray, List.set_cons_zero, List.set_cons_succ]
      refine wpAnyH_take (i := 3) (oi := { dst := some 19, op := Go.Op.indexAddr 22 (Go.Operand.tmp 17) (Go.Operand.tmp 18), type := 0, pos := "ref.go:75", after := #[{ on := 1, ground := Go.Ground.data }, { on := 2, ground := Go.Ground.data }], guard := none }) (v := ?_) rfl (by kernel_rfl) (by kernel_rfl) (by kernel_rfl) (fun _ _ _ h => h) (Or.inl ⟨rfl, ?_⟩) (by assumption) ?_
      rotate_left
      · intro wz hSw; (try dsimp only at hSw); go_simp; try (with_reducible rfl)
      try simp only [Act.put, List.setIfInBounds_toArray, List.set_cons_zero, List.set_cons_succ]
      refine wpAnyH_take (i := 4) (oi := { dst := some 20, op := Go.Op.fieldAddr 27 (Go.Operand.tmp 19) 0, type := 0, pos := "ref.go:75", after := #[{ on := 3, ground := Go.Ground.data }], guard := none }) (v := ?_) rfl (by kernel_rfl) (by kernel_rfl) (by kernel_rfl) (fun _ _ _ h => h) (Or.inl ⟨rfl, ?_⟩) (by assumption) ?_
      rotate_left
      · intro wz hSw; (try dsimp only at hSw); go_simp; try (with_reducible rfl)
      try simp only [Act.put, List.setIfInBounds_toArray, List.set_cons_zero, List.set_cons_succ]
      refine wpAnyH_take (i := 5) (oi := { dst := some 21, op := Go.Op.load 9 (Go.Operand.tmp 20), type := 9, pos := "ref.go:75", after := #[{ on := 4, ground := Go.Ground.data }], guard := none }) (v := ?_) rfl (by kernel_rfl) (by kernel_rfl) (by kernel_rfl) (fun _ _ _ h => h) (Or.inl ⟨rfl, ?_⟩) (by assumption) ?_
      rotate_left
      · intro wz hSw; (try dsimp only at hSw); go_simp; try (with_reducible rfl)
      try simp only [Act.put, List.setIfInBounds_toArray, List.set_cons_zero, List.set_cons_succ]
      refine wpAnyH_take (i := 6) (oi := { dst := some 22, op := Go.Op.move (Go.Operand.tmp 5), type := 22, pos := "ref.go:75", after := #[], guard := none }) (v := ?_) rfl (by kernel_rfl) (by kernel_rfl) (by kernel_rfl) (fun _ _ _ h => h) (Or.inl ⟨rfl, ?_⟩) (by assumption) ?_
      rotate_left
      · intro wz hSw; (try dsimp only at hSw); go_simp; try (with_reducible rfl)
      try simp only [Act.put, List.setIfInBounds_toArray, List.set_cons_zero, List.set_cons_succ]
      refine wpAnyH_take (i := 7) (oi := { dst := some 23, op := Go.Op.move (Go.Operand.tmp 1), type := 22, pos := "ref.go:75", after := #[], guard := none }) (v := ?_) rfl (by kernel_rfl) (by kernel_rfl) (by kernel_rfl) (fun _ _ _ h => h) (Or.inl ⟨rfl, ?_⟩) (by assumption) ?_
      rotate_left
      · intro wz hSw; (try dsimp only at hSw); go_simp; try (with_reducible rfl)
      try simp only [Act.put, List.setIfInBounds_toArray, List.set_cons_zero, List.set_cons_succ]
      refine wpAnyH_take (i := 8) (oi := { dst := some 24, op := Go.Op.move (Go.Operand.tmp 6), type := 3, pos := "ref.go:75", after := #[], guard := none }) (v := ?_) rfl (by kernel_rfl) (by kernel_rfl) (by kernel_rfl) (fun _ _ _ h => h) (Or.inl ⟨rfl, ?_⟩) (by assumption) ?_
      rotate_left
      · intro wz hSw; (try dsimp only at hSw); go_simp; try (with_reducible rfl)
      try simp only [Act.put, List.setIfInBounds_toArray, List.set_cons_zero, List.set_cons_succ]
      refine wpAnyH_take (i := 9) (oi := { dst := some 25, op := Go.Op.indexAddr 22 (Go.Operand.tmp 23) (Go.Operand.tmp 24), type := 0, pos := "ref.go:75", after := #[{ on := 7, ground := Go.Ground.data }, { on := 8, ground := Go.Ground.data }], guard := none }) (v := ?_) rfl (by kernel_rfl) (by kernel_rfl) (by kernel_rfl) (fun _ _ _ h => h) (Or.inl ⟨rfl, ?_⟩) (by assumption) ?_
      rotate_left
      · intro wz hSw; (try dsimp only at hSw); go_simp; try (with_reducible rfl)
      try simp only [Act.put, List.setIfInBounds_toArray, List.set_cons_zero, List.set_cons_succ]
      refine wpAnyH_take (i := 10) (oi := { dst := some 26, op := Go.Op.fieldAddr 27 (Go.Operand.tmp 25) 0, type := 0, pos := "ref.go:75", after := #[{ on := 9, ground := Go.Ground.data }], guard := none }) (v := ?_) rfl (by kernel_rfl) (by kernel_rfl) (by kernel_rfl) (fun _ _ _ h => h) (Or.inl ⟨rfl, ?_⟩) (by assumption) ?_
      rotate_left
      · intro wz hSw; (try dsimp only at hSw); go_simp; try (with_reducible rfl)
      try simp only [Act.put, List.setIfInBounds_toArray, List.set_cons_zero, List.set_cons_succ]
      refine wpAnyH_take (i := 11) (oi := { dst := some 27, op := Go.Op.load 9 (Go.Operand.tmp 26), type := 9, pos := "ref.go:75", after := #[{ on := 10, ground := Go.Ground.data }], guard := none }) (v := ?_) rfl (by kernel_rfl) (by kernel_rfl) (by kernel_rfl) (fun _ _ _ h => h) (Or.inl ⟨rfl, ?_⟩) (by assumption) ?_
      rotate_left
      · intro wz hSw; (try dsimp only at hSw); go_simp; try (with_reducible rfl)
      try simp only [Act.put, List.setIfInBounds_toArray, List.set_cons_zero, List.set_cons_succ]
      refine wpAnyH_take (i := 13) (oi := { dst := some 29, op := Go.Op.move (Go.Operand.tmp 1), type := 22, pos := "ref.go:75", after := #[], guard := none }) (v := ?_) rfl (by kernel_rfl) (by kernel_rfl) (by kernel_rfl) (fun _ _ _ h => h) (Or.inl ⟨rfl, ?_⟩) (by assumption) ?_
      rotate_left
      · intro wz hSw; (try dsimp only at hSw); go_simp; try (with_reducible rfl)
      try simp only [Act.put, List.setIfInBounds_toArray, List.set_cons_zero, List.set_cons_succ]
      refine wpAnyH_take (i := 14) (oi := { dst := some 30, op := Go.Op.move (Go.Operand.tmp 6), type := 3, pos := "ref.go:75", after := #[], guard := none }) (v := ?_) rfl (by kernel_rfl) (by kernel_rfl) (by kernel_rfl) (fun _ _ _ h => h) (Or.inl ⟨rfl, ?_⟩) (by assumption) ?_
      rotate_left
      · intro wz hSw; (try dsimp only at hSw); go_simp; try (with_reducible rfl)
      try simp only [Act.put, List.setIfInBounds_toArray, List.set_cons_zero, List.set_cons_succ]
      refine wpAnyH_take (i := 15) (oi := { dst := some 31, op := Go.Op.indexAddr 22 (Go.Operand.tmp 29) (Go.Operand.tmp 30), type := 0, pos := "ref.go:75", after := #[{ on := 13, ground := Go.Ground.data }, { on := 14, ground := Go.Ground.data }], guard := none }) (v := ?_) rfl (by kernel_rfl) (by kernel_rfl) (by kernel_rfl) (fun _ _ _ h => h) (Or.inl ⟨rfl, ?_⟩) (by assumption) ?_
      rotate_left
      · intro wz hSw; (try dsimp only at hSw); go_simp; try (with_reducible rfl)
      try simp only [Act.put, List.setIfInBounds_toArray, List.set_cons_zero, List.set_cons_succ]
      refine wpAnyH_take (i := 16) (oi := { dst := some 32, op := Go.Op.fieldAddr 27 (Go.Operand.tmp 31) 1, type := 0, pos := "ref.go:75", after := #[{ on := 15, ground := Go.Ground.data }], guard := none }) (v := ?_) rfl (by kernel_rfl) (by kernel_rfl) (by kernel_rfl) (fun _ _ _ h => h) (Or.inl ⟨rfl, ?_⟩) (by assumption) ?_
      rotate_left
      · intro wz hSw; (try dsimp only at hSw); go_simp; try (with_reducible rfl)
      try simp only [Act.put, List.setIfInBounds_toArray, List.set_cons_zero, List.set_cons_succ]
      refine wpAnyH_take (i := 17) (oi := { dst := some 33, op := Go.Op.load 25 (Go.Operand.tmp 32), type := 25, pos := "ref.go:75", after := #[{ on := 16, ground := Go.Ground.data }], guard := none }) (v := ?_) rfl (by kernel_rfl) (by kernel_rfl) (by kernel_rfl) (fun _ _ _ h => h) (Or.inl ⟨rfl, ?_⟩) (by assumption) ?_
      rotate_left
      · intro wz hSw; (try dsimp only at hSw); go_simp; try (with_reducible rfl)
      try simp only [Act.put, List.setIfInBounds_toArray, List.set_cons_zero, List.set_cons_succ]
      refine wpAnyH_ready (rs := [12]) (by kernel_rfl) (by simp) ?_
      refine (AllReadyH.cons (o := { dst := some 28, op := Go.Op.call { callee := Go.Callee.value (Go.Operand.func 23), args := #[Go.Operand.tmp 22, Go.Operand.tmp 27], argTypes := #[22, 9] }, type := 25, pos := "ref.go:75", after := #[{ on := 6, ground := Go.Ground.data }, { on := 11, ground := Go.Ground.data }], guard := none }) rfl (fun K hK => ?_) AllReadyH.nil)
      go_simp
      go_at_call 23
      refine (rofM_any Av (List.length o) cv o id wr.heap.size _ (by exact Nat.le_refl _) (by exact HO.out.mat.keep (drew_below _ _)) (by omega)).mono ?_
      rw [HT.out]
      rintro e u1 ⟨A1, c1, rfl, hc1, hv1, hbd⟩
      have hb : Below wr.heap.size wr u1 := (drew_below _ _).trans hbd
      have HV1 := Lib.hid (hv1.more hb.size)
      clear hv1 hbd
      replace e0 := (hb.cell (p := ⟨blk, off + k * 3, none⟩) hbl).trans e0
      replace e1 := (hb.cell (p := ⟨blk, off + k * 3 + 1, none⟩) hbl).trans e1
      replace e2 := (hb.cell (p := ⟨blk, off + k * 3 + 2, none⟩) hbl).trans e2
      replace HO := Lib.hid (HO.out.below hb)
      replace HVC := Lib.hid (HVC.out.keep (hb.mono hBr))
      replace HB := Lib.hid (HB.out.trans (hb.mono HB.out.size))
      replace hbl := Nat.lt_of_lt_of_le hbl hb.size
      replace hBr := Nat.le_trans hBr hb.size
      clear hb
      refine hK.out _ _ ⟨e0, e1, e2⟩ (fun hHeld => ?_)
      clear hK K
      try simp only [Act.put, List.setIfInBounds_toArray, List.set_cons_zero, List.set_cons_succ]
      refine wpAnyH_ready (rs := [18]) (by kernel_rfl) (by simp) ?_
      refine (AllReadyH.cons (o := { dst := some 34, op := Go.Op.call { callee := Go.Callee.value (Go.Operand.func 69), args := #[Go.Operand.tmp 28, Go.Operand.tmp 33], argTypes := #[25, 25] }, type := 25, pos := "ref.go:75", after := #[{ on := 12, ground := Go.Ground.data }, { on := 17, ground := Go.Ground.data }, { on := 12, ground := Go.Ground.chain }], guard := none }) rfl (fun K hK => ?_) AllReadyH.nil)
      go_simp
      go_at_call 69
      refine (Sp.cRefUnion (w := u1) (A := A1) (A' := Ar) (c := c1) (c' := cr) (s := t) (t := (u, v)) ⟨HV1.out, hc1⟩ ⟨HVC.out.more hBr, hcap⟩ HTS.out HRT.out).mono ?_
      rw [HQ.out]
      rintro e u2 ⟨A2, c2, rfl, hin, hb⟩
      have HV2 := Lib.hid hin.1
      have hc2 := hin.2
      replace e0 := (hb.cell (p := ⟨blk, off + k * 3, none⟩) hbl).trans e0
      replace e1 := (hb.cell (p := ⟨blk, off + k * 3 + 1, none⟩) hbl).trans e1
      replace e2 := (hb.cell (p := ⟨blk, off + k * 3 + 2, none⟩) hbl).trans e2
      replace HO := Lib.hid (HO.out.below hb)
      replace HVC := Lib.hid (HVC.out.keep (hb.mono hBr))
      replace HB := Lib.hid (HB.out.trans (hb.mono HB.out.size))
      replace hbl := Nat.lt_of_lt_of_le hbl hb.size
      replace hBr := Nat.le_trans hBr hb.size
      clear hin hb HV1
      refine hK.out _ _ ⟨e0, e1, e2⟩ (fun hHeld => ?_)
      clear hK K
      try simp only [Act.put, List.setIfInBounds_toArray, List.set_cons_zero, List.set_cons_succ]
      refine wpAnyH_ready (rs := [19]) (by kernel_rfl) (by simp) ?_
      refine (AllReadyH.cons (o := { dst := some 35, op := Go.Op.call { callee := Go.Callee.value (Go.Operand.func 56), args := #[Go.Operand.tmp 16, Go.Operand.tmp 21, Go.Operand.tmp 34], argTypes := #[22, 9, 25] }, type := 22, pos := "ref.go:75", after := #[{ on := 0, ground := Go.Ground.data }, { on := 5, ground := Go.Ground.data }, { on := 18, ground := Go.Ground.data }, { on := 18, ground := Go.Ground.chain }], guard := none }) rfl (fun K hK => ?_) AllReadyH.nil)
      go_simp
      go_at_call 56
      refine (rputM_any Av (List.length o) cv o id q.1 A2 c2 q.2 u2.heap.size u2 (Nat.le_refl _) HO.out.mat HV2.out hc2 (by omega) 60 HMO.out.gk (small_num HQS.out) (by omega) HID.out).mono ?_
      rw [show putK o id (q.1, q.2) = mergeF x (y.take (k + 1)) from HSTEP.out]
      rintro e u3 ⟨A3, c3, rfl, ho, hb⟩
      have HO3 := Lib.hid (ho.base HB.out.size)
      replace e0 := (hb.cell (p := ⟨blk, off + k * 3, none⟩) hbl).trans e0
      replace e1 := (hb.cell (p := ⟨blk, off + k * 3 + 1, none⟩) hbl).trans e1
      replace e2 := (hb.cell (p := ⟨blk, off + k * 3 + 2, none⟩) hbl).trans e2
      replace HB := Lib.hid (HB.out.trans (hb.mono HB.out.size))
      clear ho hb
      refine hK.out _ _ ⟨e0, e1, e2⟩ (fun hHeld => ?_)
      clear hK K
      try simp only [Act.put, List.setIfInBounds_toArray, List.set_cons_zero, List.set_cons_succ]
      refine wpAnyH_take (i := 20) (oi := { dst := some 5, op := Go.Op.assign (Go.Operand.tmp 35), type := 22, pos := "ref.go:75", after := #[{ on := 19, ground := Go.Ground.data }, { on := 19, ground := Go.Ground.chain }, { on := 0, ground := Go.Ground.phase }, { on := 1, ground := Go.Ground.phase }, { on := 2, ground := Go.Ground.phase }, { on := 3, ground := Go.Ground.phase }, { on := 4, ground := Go.Ground.phase }, { on := 5, ground := Go.Ground.phase }, { on := 6, ground := Go.Ground.phase }, { on := 7, ground := Go.Ground.phase }, { on := 8, ground := Go.Ground.phase }, { on := 9, ground := Go.Ground.phase }, { on := 10, ground := Go.Ground.phase }, { on := 11, ground := Go.Ground.phase }, { on := 12, ground := Go.Ground.phase }, { on := 13, ground := Go.Ground.phase }, { on := 14, ground := Go.Ground.phase }, { on := 15, ground := Go.Ground.phase }, { on := 16, ground := Go.Ground.phase }, { on := 17, ground := Go.Ground.phase }, { on := 18, ground := Go.Ground.phase }, { on := 19, ground := Go.Ground.phase }], guard := none }) (v := ?_) rfl (by kernel_rfl) (by kernel_rfl) (by kernel_rfl) (fun _ _ _ h => h) (Or.inl ⟨rfl, ?_⟩) (by assumption) ?_
      rotate_left
      · intro wz hSw; (try dsimp only at hSw); go_simp; try (with_reducible rfl)
      try simp only [Act.put, List.setIfInBounds_toArray, List.set_cons_zero, List.set_cons_succ]
      refine wpAnyH_done (by kernel_rfl) ?_ _
      clear hHeld e0 e1 e2 HO HVC HV2
      go_wp2_with fail
      go_roundw
      case rel => exact ⟨k + 1, A3, c3, by omega, by go_num, rfl, HO3, HB⟩
      case measure => simp [intOf]; omega
    · obtain rfl : k = n' := by omega
      have HT : Hid (y.take k = y) := List.take_of_length_le (by have := HL.out; omega)
      rw [HT.out] at HO ⊢
      go_wp2
      go_ret
      exact ⟨Av, cv, rfl, HO.out, HB.out⟩
set_option maxRecDepth 100000 in
set_option maxHeartbeats 8000000 in
theorem rwithinM_any (A : Option Addr) (n c : Nat) (x : Mat) (A' : Option Addr) (n' c' : Nat) (y : Mat) (B : Nat) (w : World) (hB : B ≤ w.heap.size) (hx : MatAt w B A n x) (hy : MatAt w B A' n' y) (hn : n ≤ 1000) (hn' : n' ≤ 1000) (hsx : SM x) (hsy : SM y) :
    Calls Try.prog 33 #[.slice A n c, .slice A' n' c'] w fun e w' => e = .returned (.bool (withinM x y)) ∧ Below w.heap.size w w' := by
  have HL := Lib.hid hx.len
  have HX := Lib.hid hx
  have HY := Lib.hid hy
  have HSX := Lib.hid hsx
  have HSY := Lib.hid hsy
  clear hx hy hsx hsy
  go_enter Try.func33, Try.ntmps33
  go_wp2
  go_loopw [5] (fun i wr => ∃ k : Nat, k ≤ n ∧ i = .int .i64 k ∧ Hid ((x.take k).all (fun r => Sp.withinF r.2 (mOf y r.1)) = true) ∧ Hid (Below w.heap.size w wr)) (fun i _ => n - (intOf i).toNat)
  case atStart => exact ⟨0, by omega, rfl, by show _ = _; simp, Below.refl _ _⟩
  case round =>
    obtain ⟨k, hk, rfl, HE, HB⟩ := hrel
    by_cases hlt : k < n
    · obtain ⟨blk, off, r, rfl, hbB, hmk, e0, e1, e2, hf⟩ := HX.out.get (HB.out.mono hB) hlt
      have hi0 : (0 : Int) ≤ (k : Int) := by omega
      have hi1 : (k : Int) < n := by omega
      have hsz := HB.out.size
      have hbl : blk < wr.heap.size := by omega
      have hBr := Nat.le_trans hB hsz
      have HVC := Lib.hid hf.vec
      have hcap := hf.cap
      have HRT : Hid (Sp.Small (r.u, r.v)) := HSX.out.row (List.mem_of_getElem? hmk)
      have hrl : r.v.length ≤ 60 := HRT.out.2.2.2
      obtain ⟨t, ht⟩ : ∃ t, mOf y r.id = t := ⟨_, rfl⟩
      have HT := Lib.hid ht
      have HTS : Hid (Sp.Small t) := ht ▸ HSY.out.sm r.id
      obtain ⟨b, hbv⟩ : ∃ b, Sp.withinF (r.u, r.v) t = b := ⟨_, rfl⟩
      have HBV := Lib.hid hbv
      have HST : Hid ((x.take (k + 1)).all (fun r => Sp.withinF r.2 (mOf y r.1)) = b) := by show _ = _; rw [all_take_m hmk, HE.out]; simp only [Bool.true_and]; rw [ht, hbv]
      have HNO : Hid (b = false → withinM x y = false) := fun h => by
        unfold withinM
        rw [List.all_eq_false]
        exact ⟨_, List.mem_of_getElem? hmk, by simp only; rw [ht, hbv, h]; simp⟩
      have HYW := Lib.hid (HY.out.keep (HB.out.mono hB))
      obtain ⟨id, u, Ar, cr, v⟩ := r
      simp only at e0 e1 e2 HT HBV HVC hcap hrl
      clear hmk hf ht hbv HRT
      go_upto_region 4 with fail
      refine wp_region_held_drew (S := fun w' => w'.cell? ⟨blk, off + k * 3, none⟩ = some (.string id) ∧ w'.cell? ⟨blk, off + k * 3 + 1, none⟩ = some (.int .i64 u) ∧ w'.cell? ⟨blk, off + k * 3 + 2, none⟩ = some (.slice Ar v.length cr)) (by kernel_rfl) ⟨e0, e1, e2⟩ (fun hHeld => ?_)
      refine wpAnyH_take (i := 0) (oi := { dst := some 12, op := Go.Op.move (Go.Operand.tmp 0), type := 22, pos := "ref.go:83", after := #[], guard := none }) (v := ?_) rfl (by kernel_rfl) (by kernel_rfl) (by kernel_rfl) (fun _ _ _ h => h) (Or.inl ⟨rfl, ?_⟩) (by assumption) ?_
      rotate_left
      · intro wz hSw; (try dsimp only at hSw); go_simp; try (with_reducible rfl)
      try simp only [Act.put, List.setIfInBounds_toArray, List.set_cons_zero, List.set_cons_succ]
      refine wpAnyH_take (i := 1) (oi := { dst := some 13, op := Go.Op.move (Go.Operand.tmp 5), type := 3, pos := "ref.go:83", after := #[], guard := none }) (v := ?_) rfl (by kernel_rfl) (by kernel_rfl) (by kernel_rfl) (fun _ _ _ h => h) (Or.inl ⟨rfl, ?_⟩) (by assumption) ?_
      rotate_left
      · intro wz hSw; (try dsimp only at hSw); go_simp; try (with_reducible rfl)
      try simp only [Act.put, List.setIfInBounds_toArray, List.set_cons_zero, List.set_cons_succ]
      refine wpAnyH_take (i := 2) (oi := { dst := some 14, op := Go.Op.indexAddr 22 (Go.Operand.tmp 12) (Go.Operand.tmp 13), type := 0, pos := "ref.go:83", after := #[{ on := 0, ground := Go.Ground.data }, { on := 1, ground := Go.Ground.data }], guard := none }) (v := ?_) rfl (by kernel_rfl) (by kernel_rfl) (by kernel_rfl) (fun _ _ _ h => h) (Or.inl ⟨rfl, ?_⟩) (by assumption) ?_
      rotate_left
      · intro wz hSw; (try dsimp only at hSw); go_simp; try (with_reducible rfl)
      try simp only [Act.put, List.setIfInBounds_toArray, List.set_cons_zero, List.set_cons_succ]
      refine wpAnyH_take (i := 3) (oi := { dst := some 15, op := Go.Op.fieldAddr 27 (Go.Operand.tmp 14) 1, type := 0, pos := "ref.go:83", after := #[{ on := 2, ground := Go.Ground.data }], guard := none }) (v := ?_) rfl (by kernel_rfl) (by kernel_rfl) (by kernel_rfl) (fun _ _ _ h => h) (Or.inl ⟨rfl, ?_⟩) (by assumption) ?_
      rotate_left
      · intro wz hSw; (try dsimp only at hSw); go_simp; try (with_reducible rfl)
      try simp only [Act.put, List.setIfInBounds_toArray, List.set_cons_zero, List.set_cons_succ]
      refine wpAnyH_take (i := 4) (oi := { dst := some 16, op := Go.Op.load 25 (Go.Operand.tmp 15), type := 25, pos := "ref.go:83", after := #[{ on := 3, ground := Go.Ground.data }], guard := none }) (v := ?_) rfl (by kernel_rfl) (by kernel_rfl) (by kernel_rfl) (fun _ _ _ h => h) (Or.inl ⟨rfl, ?_⟩) (by assumption) ?_
      rotate_left
      · intro wz hSw; (try dsimp only at hSw); go_simp; try (with_reducible rfl)
      try simp only [Act.put, List.setIfInBounds_toArray, List.set_cons_zero, List.set_cons_succ]
      refine wpAnyH_take (i := 5) (oi := { dst := some 17, op := Go.Op.move (Go.Operand.tmp 1), type := 22, pos := "ref.go:83", after := #[], guard := none }) (v := ?_) rfl (by kernel_rfl) (by kernel_rfl) (by kernel_rfl) (fun _ _ _ h => h) (Or.inl ⟨rfl, ?_⟩) (by assumption) ?_
      rotate_left
      · intro wz hSw; (try dsimp only at hSw); go_simp; try (with_reducible rfl)
      try simp only [Act.put, List.setIfInBounds_toArray, List.set_cons_zero, List.set_cons_succ]
      refine wpAnyH_take (i := 6) (oi := { dst := some 18, op := Go.Op.move (Go.Operand.tmp 0), type := 22, pos := "ref.go:83", after := #[], guard := none }) (v := ?_) rfl (by kernel_rfl) (by kernel_rfl) (by kernel_rfl) (fun _ _ _ h => h) (Or.inl ⟨rfl, ?_⟩) (by assumption) ?_
      rotate_left
      · intro wz hSw; (try dsimp only at hSw); go_simp; try (with_reducible rfl)
      try simp only [Act.put, List.setIfInBounds_toArray, List.set_cons_zero, List.set_cons_succ]
      refine wpAnyH_take (i := 7) (oi := { dst := some 19, op := Go.Op.move (Go.Operand.tmp 5), type := 3, pos := "ref.go:83", after := #[], guard := none }) (v := ?_) rfl (by kernel_rfl) (by kernel_rfl) (by kernel_rfl) (fun _ _ _ h => h) (Or.inl ⟨rfl, ?_⟩) (by assumption) ?_
      rotate_left
      · intro wz hSw; (try dsimp only at hSw); go_simp; try (with_reducible rfl)
      try simp only [Act.put, List.setIfInBounds_toArray, List.set_cons_zero, List.set_cons_succ]
      refine wpAnyH_take (i := 8) (oi := { dst := some 20, op := Go.Op.indexAddr 22 (Go.Operand.tmp 18) (Go.Operand.tmp 19), type := 0, pos := "ref.go:83", after := #[{ on := 6, ground := Go.Ground.data }, { on := 7, ground := Go.Ground.data }], guard := none }) (v := ?_) rfl (by kernel_rfl) (by kernel_rfl) (by kernel_rfl) (fun _ _ _ h => h) (Or.inl ⟨rfl, ?_⟩) (by assumption) ?_
      rotate_left
      · intro wz hSw; (try dsimp only at hSw); go_simp; try (with_reducible rfl)
      try simp only [Act.put, List.setIfInBounds_toArray, List.set_cons_zero, List.set_cons_succ]
      refine wpAnyH_take (i := 9) (oi := { dst := some 21, op := Go.Op.fieldAddr 27 (Go.Operand.tmp 20) 0, type := 0, pos := "ref.go:83", after := #[{ on := 8, ground := Go.Ground.data }], guard := none }) (v := ?_) rfl (by kernel_rfl) (by kernel_rfl) (by kernel_rfl) (fun _ _ _ h => h) (Or.inl ⟨rfl, ?_⟩) (by assumption) ?_
      rotate_left
      · intro wz hSw; (try dsimp only at hSw); go_simp; try (with_reducible rfl)
      try simp only [Act.put, List.setIfInBounds_toArray, List.set_cons_zero, List.set_cons_succ]
      refine wpAnyH_take (i := 10) (oi := { dst := some 22, op := Go.Op.load 9 (Go.Operand.tmp 21), type := 9, pos := "ref.go:83", after := #[{ on := 9, ground := Go.Ground.data }], guard := none }) (v := ?_) rfl (by kernel_rfl) (by kernel_rfl) (by kernel_rfl) (fun _ _ _ h => h) (Or.inl ⟨rfl, ?_⟩) (by assumption) ?_
      rotate_left
      · intro wz hSw; (try dsimp only at hSw); go_simp; try (with_reducible rfl)
      try simp only [Act.put, List.setIfInBounds_toArray, List.set_cons_zero, List.set_cons_succ]
      refine wpAnyH_ready (rs := [11]) (by kernel_rfl) (by simp) ?_
      refine (AllReadyH.cons (o := { dst := some 23, op := Go.Op.call { callee := Go.Callee.value (Go.Operand.func 23), args := #[Go.Operand.tmp 17, Go.Operand.tmp 22], argTypes := #[22, 9] }, type := 25, pos := "ref.go:83", after := #[{ on := 5, ground := Go.Ground.data }, { on := 10, ground := Go.Ground.data }], guard := none }) rfl (fun K hK => ?_) AllReadyH.nil)
      go_simp
      go_at_call 23
      refine (rofM_any A' n' c' y id B _ (by exact hBr) (by exact HYW.out.keep (drew_below _ _)) (by omega)).mono ?_
      rw [HT.out]
      rintro e u1 ⟨A1, c1, rfl, hc1, hv1, hbd⟩
      have hb : Below wr.heap.size wr u1 := (drew_below _ _).trans hbd
      have HV1 := Lib.hid (hv1.more (Nat.le_trans hBr hb.size))
      clear hv1 hbd
      replace e0 := (hb.cell (p := ⟨blk, off + k * 3, none⟩) hbl).trans e0
      replace e1 := (hb.cell (p := ⟨blk, off + k * 3 + 1, none⟩) hbl).trans e1
      replace e2 := (hb.cell (p := ⟨blk, off + k * 3 + 2, none⟩) hbl).trans e2
      replace HVC := Lib.hid (HVC.out.keep (hb.mono hBr))
      replace HB := Lib.hid (HB.out.trans (hb.mono HB.out.size))
      replace hbl := Nat.lt_of_lt_of_le hbl hb.size
      replace hBr := Nat.le_trans hBr hb.size
      clear hb
      refine hK.out _ _ ⟨e0, e1, e2⟩ (fun hHeld => ?_)
      clear hK K
      try simp only [Act.put, List.setIfInBounds_toArray, List.set_cons_zero, List.set_cons_succ]
      refine wpAnyH_ready (rs := [12]) (by kernel_rfl) (by simp) ?_
      refine (AllReadyH.cons (o := { dst := some 24, op := Go.Op.call { callee := Go.Callee.value (Go.Operand.func 71), args := #[Go.Operand.tmp 16, Go.Operand.tmp 23], argTypes := #[25, 25] }, type := 4, pos := "ref.go:83", after := #[{ on := 4, ground := Go.Ground.data }, { on := 11, ground := Go.Ground.data }, { on := 11, ground := Go.Ground.chain }], guard := none }) rfl (fun K hK => ?_) AllReadyH.nil)
      go_simp
      go_at_call 71
      refine (Sp.cRefWithin (w := u1) (A := Ar) (A' := A1) (c := cr) (c' := c1) (s := (u, v)) (t := t) ⟨HVC.out.more hBr, hcap⟩ ⟨HV1.out, hc1⟩ (by simp only; omega) (by have := HTS.out.2.2.2; omega) HTS.out.1 (by have := HTS.out.2.2.1; omega)).mono ?_
      rw [HBV.out]
      rintro e u2 ⟨rfl, hb⟩
      replace e0 := (hb.cell (p := ⟨blk, off + k * 3, none⟩) hbl).trans e0
      replace e1 := (hb.cell (p := ⟨blk, off + k * 3 + 1, none⟩) hbl).trans e1
      replace e2 := (hb.cell (p := ⟨blk, off + k * 3 + 2, none⟩) hbl).trans e2
      replace HVC := Lib.hid (HVC.out.keep (hb.mono hBr))
      replace HB := Lib.hid (HB.out.trans (hb.mono HB.out.size))
      replace hbl := Nat.lt_of_lt_of_le hbl hb.size
      replace hBr := Nat.le_trans hBr hb.size
      clear hb
      refine hK.out _ _ ⟨e0, e1, e2⟩ (fun hHeld => ?_)
      clear hK K
      try simp only [Act.put, List.setIfInBounds_toArray, List.set_cons_zero, List.set_cons_succ]
      refine wpAnyH_take (i := 13) (oi := { dst := some 25, op := Go.Op.unOp Go.UnOp.not 4 (Go.Operand.tmp 24), type := 4, pos := "ref.go:83", after := #[{ on := 12, ground := Go.Ground.data }], guard := none }) (v := ?_) rfl (by kernel_rfl) (by kernel_rfl) (by kernel_rfl) (fun _ _ _ h => h) (Or.inl ⟨rfl, ?_⟩) (by assumption) ?_
      rotate_left
      · intro wz hSw; (try dsimp only at hSw); go_simp; try (with_reducible rfl)
      try simp only [Act.put, List.setIfInBounds_toArray, List.set_cons_zero, List.set_cons_succ]
      refine wpAnyH_done (by kernel_rfl) ?_ _
      clear hHeld e0 e1 e2 HVC HV1 HYW
      cases b with
      | true =>
        clear HNO
        go_wp2
        go_roundw
        case rel => exact ⟨k + 1, by omega, by go_num, HST, HB⟩
        case measure => simp [intOf]; omega
      | false =>
        have HF := Lib.hid (HNO.out rfl)
        clear HNO
        go_wp2
        go_ret
        exact ⟨ret_bool HF.out.symm, HB.out⟩
    · have HT : Hid (withinM x y = true) := by
        have := HE.out
        rw [List.take_of_length_le (by have := HL.out; omega)] at this
        exact this
      go_wp2
      go_ret
      exact ⟨ret_bool HT.out.symm, HB.out⟩
end Go.Proofs.Ythfdjebeblmmdaa
