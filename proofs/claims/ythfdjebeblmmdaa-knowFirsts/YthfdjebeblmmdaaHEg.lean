/- know.Within, Firsts and From. -/
import Derived.Test.YthfdjebeblmmdaaHEn
namespace Go.Proofs.Ythfdjebeblmmdaa
open Go.RowKit

theorem all_take_m {p : ByteArray × (Int × List Int) → Bool} {m : Mat} {k : Nat} {x : ByteArray × (Int × List Int)} (h : m[k]? = some x) : (m.take (k + 1)).all p = ((m.take k).all p && p x) := by
  rw [takeM h]; simp
set_option maxRecDepth 100000 in
set_option maxHeartbeats 4000000 in
theorem withinM_any (A : Option Addr) (n c : Nat) (x : Mat) (A' : Option Addr) (n' c' : Nat) (y : Mat) (B : Nat) (w : World) (hB : B ≤ w.heap.size) (hx : MatAt w B A n x) (hy : MatAt w B A' n' y) (hn : n ≤ 100000) (hn' : n' ≤ 100000) (hvx : ∀ z ∈ x, OkS z.2) (hvy : ∀ z ∈ y, OkS z.2) (hs : RisingM y) :
    Calls Try.prog 32 #[.slice A n c, .slice A' n' c'] w fun e w' => e = .returned (.bool (withinM x y)) ∧ Below w.heap.size w w' := by
  have HL := Lib.hid hx.len
  have HX := Lib.hid hx
  have HY := Lib.hid hy
  have HVX := Lib.hid hvx
  have HO : Hid (∀ a, OkS (mOf y a)) := fun a => mOf_okS hs hvy a
  have HS := Lib.hid hs
  clear hx hy hvx hvy hs
  go_enter Try.func32, Try.ntmps32
  go_wp2
  go_loopw [9] (fun i wr => ∃ k : Nat, k ≤ n ∧ i = .int .i64 k ∧ Hid ((x.take k).all (fun r => Sp.withinF r.2 (mOf y r.1)) = true) ∧ Hid (Below w.heap.size w wr)) (fun i _ => n - (intOf i).toNat)
  case atStart => exact ⟨0, by omega, rfl, by show _ = _; simp, Below.refl _ _⟩
  case round =>
    obtain ⟨k, hk, rfl, HE, HB⟩ := hrel
    by_cases hlt : k < n
    · obtain ⟨blk, off, r, rfl, hbB, hmk, d0, d1, d2, hf⟩ := HX.out.get (HB.out.mono hB) hlt
      have hi1 : (k : Int) < n := by omega
      have hox : OkS (r.u, r.v) := HVX.out _ (List.mem_of_getElem? hmk)
      have hsz := HB.out.size
      obtain ⟨t, ht⟩ : ∃ t, mOf y r.id = t := ⟨_, rfl⟩
      have HT := Lib.hid ht
      have hot : OkS t := ht ▸ HO.out r.id
      obtain ⟨b, hbv⟩ : ∃ b, Sp.withinF (r.u, r.v) t = b := ⟨_, rfl⟩
      have HBV := Lib.hid hbv
      have HST : Hid ((x.take (k + 1)).all (fun r => Sp.withinF r.2 (mOf y r.1)) = b) := by show _ = _; rw [all_take_m hmk, HE.out]; simp only [Bool.true_and]; rw [ht, hbv]
      have HNO : Hid (b = false → withinM x y = false) := fun h => by
        unfold withinM
        rw [List.all_eq_false]
        exact ⟨_, List.mem_of_getElem? hmk, by simp only; rw [ht, hbv, h]; simp⟩
      have HVR : Hid (Sp.IntsAt wr B r.A r.v.length r.v) := hf.vec
      have hrl := hox.len
      have htl := hot.len
      have HOT := Lib.hid hot.ok
      obtain ⟨id, u, Ar, cr, v⟩ := r
      simp only at d0 d1 d2 HT HBV HVR hrl
      clear hmk hf ht hbv hox hot HO HVX
      go_upto_region 4 with fail
      have hb0 : Below wr.heap.size wr (wr.alloc (.cells #[.string id, .int .i64 u, .slice Ar v.length cr] 77)) := (Below.refl _ _).alloc (Nat.le_refl _) _
      have e0 : (wr.alloc (.cells #[.string id, .int .i64 u, .slice Ar v.length cr] 77)).cell? ⟨wr.heap.size, 0, none⟩ = some (.string id) := by simp [go_sem]
      have e1 : (wr.alloc (.cells #[.string id, .int .i64 u, .slice Ar v.length cr] 77)).cell? ⟨wr.heap.size, 1, none⟩ = some (.int .i64 u) := by simp [go_sem]
      have e2 : (wr.alloc (.cells #[.string id, .int .i64 u, .slice Ar v.length cr] 77)).cell? ⟨wr.heap.size, 2, none⟩ = some (.slice Ar v.length cr) := by simp [go_sem]
      have hbl : wr.heap.size < (wr.alloc (.cells #[.string id, .int .i64 u, .slice Ar v.length cr] 77)).heap.size := by simp
      have hBW : B ≤ (wr.alloc (.cells #[.string id, .int .i64 u, .slice Ar v.length cr] 77)).heap.size := Nat.le_trans (Nat.le_trans hB hsz) hb0.size
      replace HVR := Lib.hid (HVR.out.keep (hb0.mono (Nat.le_trans hB hsz)))
      have HYW := Lib.hid ((HY.out.keep (HB.out.mono hB)).keep (hb0.mono (Nat.le_trans hB hsz)))
      replace HB := Lib.hid (HB.out.trans (hb0.mono hsz))
      clear hb0 d0 d1 d2
      generalize (wr.alloc (.cells #[.string id, .int .i64 u, .slice Ar v.length cr] 77)) = W at *
      generalize wr.heap.size = G at *
      refine wp_region_held_drew (S := fun w' => w'.cell? ⟨G, 0, none⟩ = some (.string id) ∧ w'.cell? ⟨G, 1, none⟩ = some (.int .i64 u) ∧ w'.cell? ⟨G, 2, none⟩ = some (.slice Ar v.length cr)) (by kernel_rfl) ⟨e0, e1, e2⟩ (fun hHeld => ?_)
      refine wpAnyH_take (i := 0) (oi := { dst := some 13, op := Go.Op.fieldAddr 77 (Go.Operand.tmp 6) 1, type := 0, pos := "know.go:93", after := #[], guard := none }) (v := ?_) rfl (by kernel_rfl) (by kernel_rfl) (by kernel_rfl) (fun _ _ _ h => h) (Or.inl ⟨rfl, ?_⟩) (by assumption) ?_
      rotate_left
      · intro wz hSw; (try dsimp only at hSw); go_simp; try (with_reducible rfl)
      try simp only [Act.put, List.setIfInBounds_toArray, List.set_cons_zero, List.set_cons_succ]
      refine wpAnyH_take (i := 1) (oi := { dst := some 14, op := Go.Op.load 44 (Go.Operand.tmp 13), type := 44, pos := "know.go:93", after := #[{ on := 0, ground := Go.Ground.data }], guard := none }) (v := ?_) rfl (by kernel_rfl) (by kernel_rfl) (by kernel_rfl) (fun _ _ _ h => h) (Or.inl ⟨rfl, ?_⟩) (by assumption) ?_
      rotate_left
      · intro wz hSw; (try dsimp only at hSw); go_simp; try (with_reducible rfl)
      try simp only [Act.put, List.setIfInBounds_toArray, List.set_cons_zero, List.set_cons_succ]
      refine wpAnyH_take (i := 2) (oi := { dst := some 15, op := Go.Op.move (Go.Operand.tmp 1), type := 31, pos := "know.go:93", after := #[], guard := none }) (v := ?_) rfl (by kernel_rfl) (by kernel_rfl) (by kernel_rfl) (fun _ _ _ h => h) (Or.inl ⟨rfl, ?_⟩) (by assumption) ?_
      rotate_left
      · intro wz hSw; (try dsimp only at hSw); go_simp; try (with_reducible rfl)
      try simp only [Act.put, List.setIfInBounds_toArray, List.set_cons_zero, List.set_cons_succ]
      refine wpAnyH_take (i := 3) (oi := { dst := some 16, op := Go.Op.fieldAddr 77 (Go.Operand.tmp 6) 0, type := 0, pos := "know.go:93", after := #[], guard := none }) (v := ?_) rfl (by kernel_rfl) (by kernel_rfl) (by kernel_rfl) (fun _ _ _ h => h) (Or.inl ⟨rfl, ?_⟩) (by assumption) ?_
      rotate_left
      · intro wz hSw; (try dsimp only at hSw); go_simp; try (with_reducible rfl)
      try simp only [Act.put, List.setIfInBounds_toArray, List.set_cons_zero, List.set_cons_succ]
      refine wpAnyH_take (i := 4) (oi := { dst := some 17, op := Go.Op.load 36 (Go.Operand.tmp 16), type := 36, pos := "know.go:93", after := #[{ on := 3, ground := Go.Ground.data }], guard := none }) (v := ?_) rfl (by kernel_rfl) (by kernel_rfl) (by kernel_rfl) (fun _ _ _ h => h) (Or.inl ⟨rfl, ?_⟩) (by assumption) ?_
      rotate_left
      · intro wz hSw; (try dsimp only at hSw); go_simp; try (with_reducible rfl)
      try simp only [Act.put, List.setIfInBounds_toArray, List.set_cons_zero, List.set_cons_succ]
      refine wpAnyH_ready (rs := [5]) (by kernel_rfl) (by simp) ?_
      refine (AllReadyH.cons (o := { dst := some 18, op := Go.Op.call { callee := Go.Callee.value (Go.Operand.func 63), args := #[Go.Operand.tmp 15, Go.Operand.tmp 17], argTypes := #[31, 36] }, type := 44, pos := "know.go:93", after := #[{ on := 2, ground := Go.Ground.data }, { on := 4, ground := Go.Ground.data }], guard := none }) rfl (fun K hK => ?_) AllReadyH.nil)
      go_simp
      go_at_call 63
      refine (findM_any A' n' c' y id B _ (by exact hBW) (by exact HYW.out.keep (drew_below _ _)) (by omega) HS.out).mono ?_
      rw [HT.out]
      rintro e u1 ⟨At, ct, rfl, hct, ht, hb⟩
      have HTT := Lib.hid ht
      replace e0 := (hb.cell (p := ⟨G, 0, none⟩) hbl).trans e0
      replace e1 := (hb.cell (p := ⟨G, 1, none⟩) hbl).trans e1
      replace e2 := (hb.cell (p := ⟨G, 2, none⟩) hbl).trans e2
      replace hbl := Nat.lt_of_lt_of_le hbl hb.size
      replace HB := Lib.hid (below_via HB.out hb (by have := HB.out.size; exact this) ⟨rfl, rfl, rfl, rfl⟩)
      replace HVR := Lib.hid ((HVR.out.keep (drew_below _ _)).keep (hb.mono hBW))
      replace hBW := Nat.le_trans hBW hb.size
      clear ht hb
      refine hK.out _ _ ⟨e0, e1, e2⟩ (fun hHeld => ?_)
      clear hK K
      try simp only [Act.put, List.setIfInBounds_toArray, List.set_cons_zero, List.set_cons_succ]
      refine wpAnyH_ready (rs := [6]) (by kernel_rfl) (by simp) ?_
      refine (AllReadyH.cons (o := { dst := some 19, op := Go.Op.call { callee := Go.Callee.value (Go.Operand.func 70), args := #[Go.Operand.tmp 14, Go.Operand.tmp 18], argTypes := #[44, 44] }, type := 4, pos := "know.go:93", after := #[{ on := 1, ground := Go.Ground.data }, { on := 5, ground := Go.Ground.data }, { on := 5, ground := Go.Ground.chain }], guard := none }) rfl (fun K hK => ?_) AllReadyH.nil)
      go_simp
      go_at_call 70
      refine (Sp.within_any u Ar v.length cr v t.1 At t.2.length ct t.2 B _ (by exact hBW) (by exact HVR.out) (by exact HTT.out) (by omega) (by omega) HOT.out.2.1).mono ?_
      rw [HBV.out]
      rintro e u2 ⟨rfl, hb⟩
      replace e0 := (hb.cell (p := ⟨G, 0, none⟩) hbl).trans e0
      replace e1 := (hb.cell (p := ⟨G, 1, none⟩) hbl).trans e1
      replace e2 := (hb.cell (p := ⟨G, 2, none⟩) hbl).trans e2
      replace hbl := Nat.lt_of_lt_of_le hbl hb.size
      replace HB := Lib.hid (below_via HB.out hb (by have := HB.out.size; exact this) ⟨rfl, rfl, rfl, rfl⟩)
      clear hb
      refine hK.out _ _ ⟨e0, e1, e2⟩ (fun hHeld => ?_)
      clear hK K
      try simp only [Act.put, List.setIfInBounds_toArray, List.set_cons_zero, List.set_cons_succ]
      refine wpAnyH_take (i := 7) (oi := { dst := some 20, op := Go.Op.unOp Go.UnOp.not 4 (Go.Operand.tmp 19), type := 4, pos := "know.go:93", after := #[{ on := 6, ground := Go.Ground.data }], guard := none }) (v := ?_) rfl (by kernel_rfl) (by kernel_rfl) (by kernel_rfl) (fun _ _ _ h => h) (Or.inl ⟨rfl, ?_⟩) (by assumption) ?_
      rotate_left
      · intro wz hSw; (try dsimp only at hSw); go_simp; try (with_reducible rfl)
      try simp only [Act.put, List.setIfInBounds_toArray, List.set_cons_zero, List.set_cons_succ]
      refine wpAnyH_done (by kernel_rfl) ?_ _
      clear hHeld e0 e1 e2 HTT HVR HYW
      cases b with
      | true =>
        clear HNO
        go_wp2
        go_roundw
        case rel => exact ⟨k + 1, by omega, by go_num, HST, HB⟩
        case measure => simp [intOf]; omega
      | false =>
        have HF := Lib.hid (HNO.out rfl)
        clear HNO
        go_wp2
        go_ret
        exact ⟨ret_bool HF.out.symm, HB.out⟩
    · have HT : Hid (withinM x y = true) := by
        have := HE.out
        rw [List.take_of_length_le (by have := HL.out; omega)] at this
        exact this
      go_wp2
      go_ret
      exact ⟨ret_bool HT.out.symm, HB.out⟩
/-- How far each is without a hole. -/
def firstsF (m : Mat) : List At := m.filterMap fun x => if 0 < x.2.1 then some (x.1, x.2.1) else none
theorem firsts_step {m : Mat} {k : Nat} {x : ByteArray × (Int × List Int)} (h : m[k]? = some x) : firstsF (m.take (k + 1)) = firstsF (m.take k) ++ (if 0 < x.2.1 then [(x.1, x.2.1)] else []) := by
  rw [takeM h]
  unfold firstsF
  rw [List.filterMap_append]
  congr 1
  by_cases h0 : 0 < x.2.1 <;> simp [h0]
theorem firsts_len (m : Mat) : (firstsF m).length ≤ m.length := List.length_filterMap_le _ _
set_option maxRecDepth 100000 in
set_option maxHeartbeats 4000000 in
theorem firstsM_any (A : Option Addr) (n c : Nat) (m : Mat) (B : Nat) (w : World) (hB : B ≤ w.heap.size) (hz : MatAt w B A n m) (hn : n ≤ 100000) :
    Calls Try.prog 37 #[.slice A n c] w (OwnVec w.heap.size 75 (firstsF m) w) := by
  have HL := Lib.hid hz.len
  have HZ := Lib.hid hz
  clear hz
  go_enter Try.func37, Try.ntmps37
  go_wp2
  go_loopw [3, 8] (fun v i wr => ∃ (k : Nat) (Av : Option Addr) (nv cv : Nat), k ≤ n ∧ nv ≤ k ∧ i = .int .i64 k ∧ v = .slice Av nv cv ∧ Hid (MakeRel w 75 (firstsF (m.take k)) Av nv cv wr)) (fun _ i _ => n - (intOf i).toNat)
  case atStart => exact ⟨0, none, 0, 0, by omega, by omega, rfl, rfl, MakeRel.start w 75⟩
  case round =>
    obtain ⟨k, Av, nv, cv, hk, hnv, rfl, rfl, HM⟩ := hrel
    have hsz : w.heap.size ≤ wr.heap.size := HM.out.2.2.size
    by_cases hlt : k < n
    · obtain ⟨blk, off, r, rfl, hbB, hmk, d0, d1, d2, hf⟩ := HZ.out.get (HM.out.2.2.mono hB) hlt
      have hi1 : (k : Int) < n := by omega
      have HST := Lib.hid (firsts_step hmk)
      obtain ⟨id, u, Ar, cr, v⟩ := r
      simp only at d0 d1 d2 HST
      clear hmk hf
      have hbw : Below wr.heap.size wr (wr.alloc (.cells #[.string id, .int .i64 u, .slice Ar v.length cr] 77)) := (Below.refl _ _).alloc (Nat.le_refl _) _
      have HBW := Lib.hid hbw
      by_cases h0 : 0 < u
      · rw [if_pos h0] at HST
        clear hbw
        go_wp2_with (at_builtin; refine wpList_append_at (B := w.heap.size) (v := .slice Av nv cv) (n := nv) (zs := firstsF (m.take k)) (m := 1) (ys := [(id, u)]) vecTy rfl _ _ rfl rfl ((own_below HM.out.2.1 HBW.out).alloc _) rfl (one_at (new2 wr _ _)) (by omega) (by simp; omega) ?_; intro A3 c3 w3 hown3 hg3 hat3; have HM3 : Hid (MakeRel w 75 (firstsF (m.take (k + 1))) A3 (nv + 1) c3 w3) := (by rw [HST.out]; exact HM.out.push (HBW.out.trans (((Below.refl _ _).alloc (Nat.le_refl _) _).mono HBW.out.size)) hown3 hg3); clear hown3 hg3 hat3)
        go_roundw
        case rel => exact ⟨k + 1, A3, nv + 1, c3, by omega, by omega, by go_num, rfl, HM3⟩
        case measure => simp [intOf]; omega
      · rw [if_neg h0, List.append_nil] at HST
        have HM3 : Hid (MakeRel w 75 (firstsF (m.take (k + 1))) Av nv cv (wr.alloc (.cells #[.string id, .int .i64 u, .slice Ar v.length cr] 77))) := by rw [HST.out]; exact HM.out.step hbw
        clear hbw
        go_wp2_with fail
        go_roundw
        case rel => exact ⟨k + 1, Av, nv, cv, by omega, by omega, by go_num, rfl, HM3⟩
        case measure => simp [intOf]; omega
    · obtain rfl : k = n := by omega
      have HT : Hid (m.take k = m) := List.take_of_length_le (by have := HL.out; omega)
      rw [HT.out] at HM
      go_wp2
      go_ret
      exact HM.out.own
end Go.Proofs.Ythfdjebeblmmdaa
