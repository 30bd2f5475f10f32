/- The reference's Fix of a Matrix. -/
import Derived.Test.YtbbcifcdimfdgaaMk
namespace Go.Proofs.Ytbbcifcdimfdgaa
open Go.RowKit

/-- A Matrix that may be, of at most 8 Rows of at most 96. -/
def GoodMat (e : TypeId) (w : World) (en : Ending) (w' : World) : Prop := ∃ r, GoodM r ∧ List.length r ≤ 8 ∧ Up 96 r ∧ OwnMat e r w en w'
theorem goodM_nil : GoodM [] := ⟨List.Pairwise.nil, by simp⟩
theorem Up.put {k l : Nat} {m : Mat} (h : Up k m) {v : List At} (hv : v.length ≤ l) (a : ByteArray) : Up (k + l) (putM m a v) := by
  unfold putM
  split
  · exact h.merge (fun x hx => by simp at hx; subst hx; exact hv)
  · intro x hx; have := h x hx; omega
set_option maxRecDepth 100000 in
set_option maxHeartbeats 8000000 in
theorem rfixM_any (A : Option Addr) (n c : Nat) (m : Mat) (B : Nat) (w : World) (hB : B ≤ w.heap.size) (hz : MatAt w B A n m) :
    Calls Try.prog 12 #[.slice A n c] w (GoodMat 25 w) := by
  have HZ := Lib.hid hz
  clear hz
  go_enter Try.func12, Try.ntmps12
  go_wp2
  go_loopw [3, 4] (fun v i wr => ∃ (k : Nat) (Av : Option Addr) (cv : Nat) (o : Mat), k ≤ n ∧ k ≤ 8 ∧ List.length o ≤ k ∧ i = .int .i64 k ∧ v = .slice Av (List.length o) cv ∧ Hid (GoodM o) ∧ Hid (Up (12 * k) o) ∧ Hid (OwnsM wr w.heap.size 25 Av (List.length o) cv o) ∧ Hid (Below w.heap.size w wr)) (fun _ i _ => 8 - (intOf i).toNat)
  case atStart => exact ⟨0, none, 0, [], by omega, by omega, by simp, rfl, rfl, goodM_nil, fun x hx => by simp at hx, OwnsM.nil _ _ _, Below.refl _ _⟩
  case round =>
    obtain ⟨k, Av, cv, o, hk, hk8, hol, rfl, rfl, HG, HUP, HO, HB⟩ := hrel
    by_cases hlt : k < n
    · by_cases hl8 : k < 8
      · obtain ⟨blk, off, r, rfl, hbB, hmk, e0, e1, hf⟩ := HZ.out.get (HB.out.mono hB) hlt
        have hi0 : (0 : Int) ≤ (k : Int) := by omega
        have hi1 : (k : Int) < (n : Int) := by omega
        have hl3 : (k : Int) < 8 := by omega
        have hsz := HB.out.size
        have hbl : blk < wr.heap.size := by omega
        have hBr := Nat.le_trans hB hsz
        have HVC := Lib.hid hf.vec
        obtain ⟨id, Ar, cr, v⟩ := r
        obtain ⟨s, hs⟩ : ∃ s, ByteArray.mk (fixL id.data.toList).toArray = s := ⟨_, rfl⟩
        have HS := Lib.hid hs
        have HSR : Hid (rightL s.data.toList = true) := by show _ = _; rw [← hs]; exact fixL_right _
        simp only at e0 e1 HVC
        clear hmk hf hs
        generalize hvl : v.length = L at *
        go_upto_region 5 with fail
        refine wp_region_held_drew (S := fun w' => w'.cell? ⟨blk, off + k * 2, none⟩ = some (.string id) ∧ w'.cell? ⟨blk, off + k * 2 + 1, none⟩ = some (.slice Ar L cr)) (by kernel_rfl) ⟨e0, e1⟩ (fun hHeld => ?_)
        refine wpAnyH_take (i := 0) (oi := { dst := some 15, op := Go.Op.move (Go.Operand.tmp 3), type := 22, pos := "ref.go:97", after := #[], guard := none }) (v := ?_) rfl (by kernel_rfl) (by kernel_rfl) (by kernel_rfl) (fun _ _ _ h => h) (Or.inl ⟨rfl, ?_⟩) (by assumption) ?_
        rotate_left
        · intro wz hSw; (try dsimp only at hSw); go_simp; try (with_reducible rfl)
        try simp only [Act.put, List.setIfInBounds_toArray, List.set_cons_zero, List.set_cons_succ]
        refine wpAnyH_take (i := 1) (oi := { dst := some 16, op := Go.Op.move (Go.Operand.tmp 0), type := 22, pos := "ref.go:97", after := #[], guard := none }) (v := ?_) rfl (by kernel_rfl) (by kernel_rfl) (by kernel_rfl) (fun _ _ _ h => h) (Or.inl ⟨rfl, ?_⟩) (by assumption) ?_
        rotate_left
        · intro wz hSw; (try dsimp only at hSw); go_simp; try (with_reducible rfl)
        try simp only [Act.put, List.setIfInBounds_toArray, List.set_cons_zero, List.set_cons_succ]
        refine wpAnyH_take (i := 2) (oi := { dst := some 17, op := Go.Op.move (Go.Operand.tmp 4), type := 3, pos := "ref.go:97", after := #[], guard := none }) (v := ?_) rfl (by kernel_rfl) (by kernel_rfl) (by kernel_rfl) (fun _ _ _ h => h) (Or.inl ⟨rfl, ?_⟩) (by assumption) ?_
        rotate_left
        · intro wz hSw; (try dsimp only at hSw); go_simp; try (with_reducible rfl)
        try simp only [Act.put, List.setIfInBounds_toArray, List.set_cons_zero, List.set_cons_succ]
        refine wpAnyH_take (i := 3) (oi := { dst := some 18, op := Go.Op.indexAddr 22 (Go.Operand.tmp 16) (Go.Operand.tmp 17), type := 0, pos := "ref.go:97", after := #[{ on := 1, ground := Go.Ground.data }, { on := 2, ground := Go.Ground.data }], guard := none }) (v := ?_) rfl (by kernel_rfl) (by kernel_rfl) (by kernel_rfl) (fun _ _ _ h => h) (Or.inl ⟨rfl, ?_⟩) (by assumption) ?_
        rotate_left
        · intro wz hSw; (try dsimp only at hSw); go_simp; try (with_reducible rfl)
        try simp only [Act.put, List.setIfInBounds_toArray, List.set_cons_zero, List.set_cons_succ]
        refine wpAnyH_take (i := 4) (oi := { dst := some 19, op := Go.Op.fieldAddr 25 (Go.Operand.tmp 18) 0, type := 0, pos := "ref.go:97", after := #[{ on := 3, ground := Go.Ground.data }], guard := none }) (v := ?_) rfl (by kernel_rfl) (by kernel_rfl) (by kernel_rfl) (fun _ _ _ h => h) (Or.inl ⟨rfl, ?_⟩) (by assumption) ?_
        rotate_left
        · intro wz hSw; (try dsimp only at hSw); go_simp; try (with_reducible rfl)
        try simp only [Act.put, List.setIfInBounds_toArray, List.set_cons_zero, List.set_cons_succ]
        refine wpAnyH_take (i := 5) (oi := { dst := some 20, op := Go.Op.load 9 (Go.Operand.tmp 19), type := 9, pos := "ref.go:97", after := #[{ on := 4, ground := Go.Ground.data }], guard := none }) (v := ?_) rfl (by kernel_rfl) (by kernel_rfl) (by kernel_rfl) (fun _ _ _ h => h) (Or.inl ⟨rfl, ?_⟩) (by assumption) ?_
        rotate_left
        · intro wz hSw; (try dsimp only at hSw); go_simp; try (with_reducible rfl)
        try simp only [Act.put, List.setIfInBounds_toArray, List.set_cons_zero, List.set_cons_succ]
        refine wpAnyH_take (i := 7) (oi := { dst := some 22, op := Go.Op.move (Go.Operand.tmp 0), type := 22, pos := "ref.go:97", after := #[], guard := none }) (v := ?_) rfl (by kernel_rfl) (by kernel_rfl) (by kernel_rfl) (fun _ _ _ h => h) (Or.inl ⟨rfl, ?_⟩) (by assumption) ?_
        rotate_left
        · intro wz hSw; (try dsimp only at hSw); go_simp; try (with_reducible rfl)
        try simp only [Act.put, List.setIfInBounds_toArray, List.set_cons_zero, List.set_cons_succ]
        refine wpAnyH_take (i := 8) (oi := { dst := some 23, op := Go.Op.move (Go.Operand.tmp 4), type := 3, pos := "ref.go:97", after := #[], guard := none }) (v := ?_) rfl (by kernel_rfl) (by kernel_rfl) (by kernel_rfl) (fun _ _ _ h => h) (Or.inl ⟨rfl, ?_⟩) (by assumption) ?_
        rotate_left
        · intro wz hSw; (try dsimp only at hSw); go_simp; try (with_reducible rfl)
        try simp only [Act.put, List.setIfInBounds_toArray, List.set_cons_zero, List.set_cons_succ]
        refine wpAnyH_take (i := 9) (oi := { dst := some 24, op := Go.Op.indexAddr 22 (Go.Operand.tmp 22) (Go.Operand.tmp 23), type := 0, pos := "ref.go:97", after := #[{ on := 7, ground := Go.Ground.data }, { on := 8, ground := Go.Ground.data }], guard := none }) (v := ?_) rfl (by kernel_rfl) (by kernel_rfl) (by kernel_rfl) (fun _ _ _ h => h) (Or.inl ⟨rfl, ?_⟩) (by assumption) ?_
        rotate_left
        · intro wz hSw; (try dsimp only at hSw); go_simp; try (with_reducible rfl)
        try simp only [Act.put, List.setIfInBounds_toArray, List.set_cons_zero, List.set_cons_succ]
        refine wpAnyH_take (i := 10) (oi := { dst := some 25, op := Go.Op.fieldAddr 25 (Go.Operand.tmp 24) 1, type := 0, pos := "ref.go:97", after := #[{ on := 9, ground := Go.Ground.data }], guard := none }) (v := ?_) rfl (by kernel_rfl) (by kernel_rfl) (by kernel_rfl) (fun _ _ _ h => h) (Or.inl ⟨rfl, ?_⟩) (by assumption) ?_
        rotate_left
        · intro wz hSw; (try dsimp only at hSw); go_simp; try (with_reducible rfl)
        try simp only [Act.put, List.setIfInBounds_toArray, List.set_cons_zero, List.set_cons_succ]
        refine wpAnyH_take (i := 11) (oi := { dst := some 26, op := Go.Op.load 23 (Go.Operand.tmp 25), type := 23, pos := "ref.go:97", after := #[{ on := 10, ground := Go.Ground.data }], guard := none }) (v := ?_) rfl (by kernel_rfl) (by kernel_rfl) (by kernel_rfl) (fun _ _ _ h => h) (Or.inl ⟨rfl, ?_⟩) (by assumption) ?_
        rotate_left
        · intro wz hSw; (try dsimp only at hSw); go_simp; try (with_reducible rfl)
        try simp only [Act.put, List.setIfInBounds_toArray, List.set_cons_zero, List.set_cons_succ]
        refine wpAnyH_ready (rs := [6]) (by kernel_rfl) (by simp) ?_
        refine (AllReadyH.cons (o := { dst := some 21, op := Go.Op.call { callee := Go.Callee.value (Go.Operand.func 41), args := #[Go.Operand.tmp 20], argTypes := #[9] }, type := 9, pos := "ref.go:97", after := #[{ on := 5, ground := Go.Ground.data }], guard := none }) rfl (fun K hK => ?_) AllReadyH.nil)
        go_simp
        go_at_call 41
        refine (put1_is _ _ HS _).mono ?_
        rintro e u1 ⟨rfl, hd⟩
        have hb : Below wr.heap.size wr u1 := (drew_below _ _).trans (drawn_below hd.out _)
        clear hd
        replace e0 := (hb.cell (p := ⟨blk, off + k * 2, none⟩) hbl).trans e0
        replace e1 := (hb.cell (p := ⟨blk, off + k * 2 + 1, none⟩) hbl).trans e1
        replace HO := Lib.hid (HO.out.below hb)
        replace HVC := Lib.hid (HVC.out.keep (hb.mono hBr))
        replace HB := Lib.hid (HB.out.trans (hb.mono HB.out.size))
        replace hbl := Nat.lt_of_lt_of_le hbl hb.size
        replace hBr := Nat.le_trans hBr hb.size
        clear hb
        refine hK.out _ _ ⟨e0, e1⟩ (fun hHeld => ?_)
        clear hK K
        try simp only [Act.put, List.setIfInBounds_toArray, List.set_cons_zero, List.set_cons_succ]
        refine wpAnyH_ready (rs := [12]) (by kernel_rfl) (by simp) ?_
        refine (AllReadyH.cons (o := { dst := some 27, op := Go.Op.call { callee := Go.Callee.value (Go.Operand.func 13), args := #[Go.Operand.tmp 26], argTypes := #[23] }, type := 23, pos := "ref.go:97", after := #[{ on := 11, ground := Go.Ground.data }, { on := 6, ground := Go.Ground.chain }], guard := none }) rfl (fun K hK => ?_) AllReadyH.nil)
        go_simp
        go_at_call 13
        refine (fixv_any Ar L cr v B u1 hBr HVC.out).mono ?_
        rintro e u2 ⟨r, hgr, hrl, A2, c2, rfl, hc2, ho, hb⟩
        have HGR := Lib.hid hgr
        have HV2 := Lib.hid (own_vec ho)
        replace e0 := (hb.cell (p := ⟨blk, off + k * 2, none⟩) hbl).trans e0
        replace e1 := (hb.cell (p := ⟨blk, off + k * 2 + 1, none⟩) hbl).trans e1
        replace HO := Lib.hid (HO.out.below hb)
        replace HVC := Lib.hid (HVC.out.keep (hb.mono hBr))
        replace HB := Lib.hid (HB.out.trans (hb.mono HB.out.size))
        replace hbl := Nat.lt_of_lt_of_le hbl hb.size
        replace hBr := Nat.le_trans hBr hb.size
        clear hgr ho hb
        refine hK.out _ _ ⟨e0, e1⟩ (fun hHeld => ?_)
        clear hK K
        try simp only [Act.put, List.setIfInBounds_toArray, List.set_cons_zero, List.set_cons_succ]
        refine wpAnyH_ready (rs := [13]) (by kernel_rfl) (by simp) ?_
        refine (AllReadyH.cons (o := { dst := some 28, op := Go.Op.call { callee := Go.Callee.value (Go.Operand.func 18), args := #[Go.Operand.tmp 15, Go.Operand.tmp 21, Go.Operand.tmp 27], argTypes := #[22, 9, 23] }, type := 22, pos := "ref.go:97", after := #[{ on := 0, ground := Go.Ground.data }, { on := 6, ground := Go.Ground.data }, { on := 12, ground := Go.Ground.data }, { on := 12, ground := Go.Ground.chain }], guard := none }) rfl (fun K hK => ?_) AllReadyH.nil)
        go_simp
        go_at_call 18
        refine (rputM_any Av (List.length o) cv o s A2 c2 r u2.heap.size u2 (Nat.le_refl _) HO.out.mat HV2.out (by omega) (fun x hx => by have := HUP.out x hx; omega) (by omega) HG.out HGR.out).mono ?_
        rintro e u3 ⟨A3, c3, rfl, ho, hb⟩
        have HO3 := Lib.hid (ho.base HB.out.size)
        replace e0 := (hb.cell (p := ⟨blk, off + k * 2, none⟩) hbl).trans e0
        replace e1 := (hb.cell (p := ⟨blk, off + k * 2 + 1, none⟩) hbl).trans e1
        replace HB := Lib.hid (HB.out.trans (hb.mono HB.out.size))
        clear ho hb
        refine hK.out _ _ ⟨e0, e1⟩ (fun hHeld => ?_)
        clear hK K
        try simp only [Act.put, List.setIfInBounds_toArray, List.set_cons_zero, List.set_cons_succ]
        refine wpAnyH_take (i := 14) (oi := { dst := some 3, op := Go.Op.assign (Go.Operand.tmp 28), type := 22, pos := "ref.go:97", after := #[{ on := 13, ground := Go.Ground.data }, { on := 13, ground := Go.Ground.chain }, { on := 0, ground := Go.Ground.phase }, { on := 1, ground := Go.Ground.phase }, { on := 2, ground := Go.Ground.phase }, { on := 3, ground := Go.Ground.phase }, { on := 4, ground := Go.Ground.phase }, { on := 5, ground := Go.Ground.phase }, { on := 6, ground := Go.Ground.phase }, { on := 7, ground := Go.Ground.phase }, { on := 8, ground := Go.Ground.phase }, { on := 9, ground := Go.Ground.phase }, { on := 10, ground := Go.Ground.phase }, { on := 11, ground := Go.Ground.phase }, { on := 12, ground := Go.Ground.phase }, { on := 13, ground := Go.Ground.phase }], guard := none }) (v := ?_) rfl (by kernel_rfl) (by kernel_rfl) (by kernel_rfl) (fun _ _ _ h => h) (Or.inl ⟨rfl, ?_⟩) (by assumption) ?_
        rotate_left
        · intro wz hSw; (try dsimp only at hSw); go_simp; try (with_reducible rfl)
        try simp only [Act.put, List.setIfInBounds_toArray, List.set_cons_zero, List.set_cons_succ]
        refine wpAnyH_done (by kernel_rfl) ?_ _
        have HG2 : Hid (GoodM (putM o s r)) := (putM_is HG.out HGR.out s).1
        have HUP2 : Hid (Up (12 * (k + 1)) (putM o s r)) := fun x hx => by have := HUP.out.put hrl s x hx; omega
        have hln := putM_len o s r
        generalize putM o s r = o2 at *
        clear hHeld e0 e1 HO HVC HV2
        go_wp2_with fail
        go_roundw
        case rel => exact ⟨k + 1, A3, c3, o2, by omega, by omega, by omega, by go_num, rfl, HG2, HUP2, HO3, HB⟩
        case measure => simp [intOf]; omega
      · have h3 : decide ((k : Int) < 8) = false := by simp; omega
        go_wp2
        go_ret
        exact ⟨o, HG.out, by omega, fun x hx => by have := HUP.out x hx; omega, Av, cv, rfl, HO.out, HB.out⟩
    · skip
      go_wp2
      go_ret
      exact ⟨o, HG.out, by omega, fun x hx => by have := HUP.out x hx; omega, Av, cv, rfl, HO.out, HB.out⟩
end Go.Proofs.Ytbbcifcdimfdgaa
