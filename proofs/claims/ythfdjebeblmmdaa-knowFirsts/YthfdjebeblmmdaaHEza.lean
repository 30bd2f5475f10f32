/- The reference's Firsts and Only of a Know. -/
import Derived.Test.YthfdjebeblmmdaaHEy
namespace Go.Proofs.Ythfdjebeblmmdaa
open Go.RowKit

set_option maxRecDepth 100000 in
set_option maxHeartbeats 8000000 in
theorem rfirstsM_any (A : Option Addr) (n c : Nat) (m : Mat) (B : Nat) (w : World) (hB : B ≤ w.heap.size) (hz : MatAt w B A n m) (hn : n ≤ 100000) :
    Calls Try.prog 41 #[.slice A n c] w (OwnVec w.heap.size 104 (firstsF m) w) := by
  have HL := Lib.hid hz.len
  have HZ := Lib.hid hz
  clear hz
  go_enter Try.func41, Try.ntmps41
  go_wp2
  go_loopw [3, 4] (fun v i wr => ∃ (k : Nat) (Av : Option Addr) (nv cv : Nat), k ≤ n ∧ nv ≤ k ∧ i = .int .i64 k ∧ v = .slice Av nv cv ∧ Hid (MakeRel w 104 (firstsF (m.take k)) Av nv cv wr)) (fun _ i _ => n - (intOf i).toNat)
  case atStart => exact ⟨0, none, 0, 0, by omega, by omega, rfl, rfl, MakeRel.start w 104⟩
  case round =>
    obtain ⟨k, Av, nv, cv, hk, hnv, rfl, rfl, HM⟩ := hrel
    have hsz : w.heap.size ≤ wr.heap.size := HM.out.2.2.size
    by_cases hlt : k < n
    · obtain ⟨blk, off, r, rfl, hbB, hmk, e0, e1, e2, hf⟩ := HZ.out.get (HM.out.2.2.mono hB) hlt
      have hi0 : (0 : Int) ≤ (k : Int) := by omega
      have hi1 : (k : Int) < n := by omega
      have hbl : blk < wr.heap.size := by omega
      have HST := Lib.hid (firsts_step hmk)
      obtain ⟨id, u, Ar, cr, v⟩ := r
      simp only at e0 e1 e2 HST
      clear hmk hf
      by_cases h0 : 0 < u
      · rw [if_pos h0] at HST
        have hgn : ∀ g, Value.ownBlock (.slice Av nv cv) = some g → w.heap.size ≤ g := fun g e => (own_lt HM.out.2.1 e).1
        go_upto_region 6 with fail
        refine wp_region_held_drew (S := fun w' => w'.cell? ⟨blk, off + k * 3, none⟩ = some (.string id) ∧ w'.cell? ⟨blk, off + k * 3 + 1, none⟩ = some (.int .i64 u)) (by kernel_rfl) ⟨e0, e1⟩ (fun hHeld => ?_)
        refine wpAnyH_take (i := 0) (oi := { dst := some 18, op := Go.Op.move (Go.Operand.tmp 3), type := 55, pos := "ref.go:125", after := #[], guard := none }) (v := ?_) rfl (by kernel_rfl) (by kernel_rfl) (by kernel_rfl) (fun _ _ _ h => h) (Or.inl ⟨rfl, ?_⟩) (by assumption) ?_
        rotate_left
        · intro wz hSw; (try dsimp only at hSw); go_simp; try (with_reducible rfl)
        try simp only [Act.put, List.setIfInBounds_toArray, List.set_cons_zero, List.set_cons_succ]
        refine wpAnyH_take (i := 1) (oi := { dst := some 19, op := Go.Op.move (Go.Operand.tmp 0), type := 22, pos := "ref.go:125", after := #[], guard := none }) (v := ?_) rfl (by kernel_rfl) (by kernel_rfl) (by kernel_rfl) (fun _ _ _ h => h) (Or.inl ⟨rfl, ?_⟩) (by assumption) ?_
        rotate_left
        · intro wz hSw; (try dsimp only at hSw); go_simp; try (with_reducible rfl)
        try simp only [Act.put, List.setIfInBounds_toArray, List.set_cons_zero, List.set_cons_succ]
        refine wpAnyH_take (i := 2) (oi := { dst := some 20, op := Go.Op.move (Go.Operand.tmp 4), type := 3, pos := "ref.go:125", after := #[], guard := none }) (v := ?_) rfl (by kernel_rfl) (by kernel_rfl) (by kernel_rfl) (fun _ _ _ h => h) (Or.inl ⟨rfl, ?_⟩) (by assumption) ?_
        rotate_left
        · intro wz hSw; (try dsimp only at hSw); go_simp; try (with_reducible rfl)
        try simp only [Act.put, List.setIfInBounds_toArray, List.set_cons_zero, List.set_cons_succ]
        refine wpAnyH_take (i := 3) (oi := { dst := some 21, op := Go.Op.indexAddr 22 (Go.Operand.tmp 19) (Go.Operand.tmp 20), type := 0, pos := "ref.go:125", after := #[{ on := 1, ground := Go.Ground.data }, { on := 2, ground := Go.Ground.data }], guard := none }) (v := ?_) rfl (by kernel_rfl) (by kernel_rfl) (by kernel_rfl) (fun _ _ _ h => h) (Or.inl ⟨rfl, ?_⟩) (by assumption) ?_
        rotate_left
        · intro wz hSw; (try dsimp only at hSw); go_simp; try (with_reducible rfl)
        try simp only [Act.put, List.setIfInBounds_toArray, List.set_cons_zero, List.set_cons_succ]
        refine wpAnyH_take (i := 4) (oi := { dst := some 22, op := Go.Op.fieldAddr 27 (Go.Operand.tmp 21) 0, type := 0, pos := "ref.go:125", after := #[{ on := 3, ground := Go.Ground.data }], guard := none }) (v := ?_) rfl (by kernel_rfl) (by kernel_rfl) (by kernel_rfl) (fun _ _ _ h => h) (Or.inl ⟨rfl, ?_⟩) (by assumption) ?_
        rotate_left
        · intro wz hSw; (try dsimp only at hSw); go_simp; try (with_reducible rfl)
        try simp only [Act.put, List.setIfInBounds_toArray, List.set_cons_zero, List.set_cons_succ]
        refine wpAnyH_take (i := 5) (oi := { dst := some 23, op := Go.Op.load 9 (Go.Operand.tmp 22), type := 9, pos := "ref.go:125", after := #[{ on := 4, ground := Go.Ground.data }], guard := none }) (v := ?_) rfl (by kernel_rfl) (by kernel_rfl) (by kernel_rfl) (fun _ _ _ h => h) (Or.inl ⟨rfl, ?_⟩) (by assumption) ?_
        rotate_left
        · intro wz hSw; (try dsimp only at hSw); go_simp; try (with_reducible rfl)
        try simp only [Act.put, List.setIfInBounds_toArray, List.set_cons_zero, List.set_cons_succ]
        refine wpAnyH_take (i := 6) (oi := { dst := some 24, op := Go.Op.move (Go.Operand.tmp 0), type := 22, pos := "ref.go:125", after := #[], guard := none }) (v := ?_) rfl (by kernel_rfl) (by kernel_rfl) (by kernel_rfl) (fun _ _ _ h => h) (Or.inl ⟨rfl, ?_⟩) (by assumption) ?_
        rotate_left
        · intro wz hSw; (try dsimp only at hSw); go_simp; try (with_reducible rfl)
        try simp only [Act.put, List.setIfInBounds_toArray, List.set_cons_zero, List.set_cons_succ]
        refine wpAnyH_take (i := 7) (oi := { dst := some 25, op := Go.Op.move (Go.Operand.tmp 4), type := 3, pos := "ref.go:125", after := #[], guard := none }) (v := ?_) rfl (by kernel_rfl) (by kernel_rfl) (by kernel_rfl) (fun _ _ _ h => h) (Or.inl ⟨rfl, ?_⟩) (by assumption) ?_
        rotate_left
        · intro wz hSw; (try dsimp only at hSw); go_simp; try (with_reducible rfl)
        try simp only [Act.put, List.setIfInBounds_toArray, List.set_cons_zero, List.set_cons_succ]
        refine wpAnyH_take (i := 8) (oi := { dst := some 26, op := Go.Op.indexAddr 22 (Go.Operand.tmp 24) (Go.Operand.tmp 25), type := 0, pos := "ref.go:125", after := #[{ on := 6, ground := Go.Ground.data }, { on := 7, ground := Go.Ground.data }], guard := none }) (v := ?_) rfl (by kernel_rfl) (by kernel_rfl) (by kernel_rfl) (fun _ _ _ h => h) (Or.inl ⟨rfl, ?_⟩) (by assumption) ?_
        rotate_left
        · intro wz hSw; (try dsimp only at hSw); go_simp; try (with_reducible rfl)
        try simp only [Act.put, List.setIfInBounds_toArray, List.set_cons_zero, List.set_cons_succ]
        refine wpAnyH_take (i := 9) (oi := { dst := some 27, op := Go.Op.fieldAddr 27 (Go.Operand.tmp 26) 1, type := 0, pos := "ref.go:125", after := #[{ on := 8, ground := Go.Ground.data }], guard := none }) (v := ?_) rfl (by kernel_rfl) (by kernel_rfl) (by kernel_rfl) (fun _ _ _ h => h) (Or.inl ⟨rfl, ?_⟩) (by assumption) ?_
        rotate_left
        · intro wz hSw; (try dsimp only at hSw); go_simp; try (with_reducible rfl)
        try simp only [Act.put, List.setIfInBounds_toArray, List.set_cons_zero, List.set_cons_succ]
        refine wpAnyH_take (i := 10) (oi := { dst := some 28, op := Go.Op.fieldAddr 25 (Go.Operand.tmp 27) 0, type := 0, pos := "ref.go:125", after := #[{ on := 9, ground := Go.Ground.data }], guard := none }) (v := ?_) rfl (by kernel_rfl) (by kernel_rfl) (by kernel_rfl) (fun _ _ _ h => h) (Or.inl ⟨rfl, ?_⟩) (by assumption) ?_
        rotate_left
        · intro wz hSw; (try dsimp only at hSw); go_simp; try (with_reducible rfl)
        try simp only [Act.put, List.setIfInBounds_toArray, List.set_cons_zero, List.set_cons_succ]
        refine wpAnyH_take (i := 11) (oi := { dst := some 29, op := Go.Op.load 3 (Go.Operand.tmp 28), type := 3, pos := "ref.go:125", after := #[{ on := 10, ground := Go.Ground.data }], guard := none }) (v := ?_) rfl (by kernel_rfl) (by kernel_rfl) (by kernel_rfl) (fun _ _ _ h => h) (Or.inl ⟨rfl, ?_⟩) (by assumption) ?_
        rotate_left
        · intro wz hSw; (try dsimp only at hSw); go_simp; try (with_reducible rfl)
        try simp only [Act.put, List.setIfInBounds_toArray, List.set_cons_zero, List.set_cons_succ]
        refine wpAnyH_take (i := 12) (oi := { dst := some 30, op := Go.Op.build 104 #[(0, Go.Operand.tmp 23), (1, Go.Operand.tmp 29)], type := 104, pos := "ref.go:125", after := #[{ on := 5, ground := Go.Ground.data }, { on := 11, ground := Go.Ground.data }], guard := none }) (v := ?_) rfl (by kernel_rfl) (by kernel_rfl) (by kernel_rfl) (fun _ _ _ h => h) (Or.inl ⟨rfl, ?_⟩) (by assumption) ?_
        rotate_left
        · intro wz hSw; (try dsimp only at hSw); go_simp; try (with_reducible rfl)
        try simp only [Act.put, List.setIfInBounds_toArray, List.set_cons_zero, List.set_cons_succ]
        refine wpAnyH_ready (rs := [13]) (by kernel_rfl) (by simp) ?_
        refine (AllReadyH.cons (o := { dst := some 31, op := Go.Op.buildSlice 55 1 #[(0, Go.Operand.tmp 30)], type := 55, pos := "ref.go:125", after := #[{ on := 12, ground := Go.Ground.data }], guard := none }) rfl (fun K hK => ?_) AllReadyH.nil)
        go_simp
        have hb1 : Below wr.heap.size wr (wr.alloc (.cells #[.string id, .int .i64 u] 104)).drew := ((Below.refl _ _).alloc (Nat.le_refl _) _).drew
        replace e0 := (hb1.cell (p := ⟨blk, off + k * 3, none⟩) hbl).trans e0
        replace e1 := (hb1.cell (p := ⟨blk, off + k * 3 + 1, none⟩) hbl).trans e1
        replace hbl := Nat.lt_of_lt_of_le hbl hb1.size
        have HX1 : Hid (VecAt (wr.alloc (.cells #[.string id, .int .i64 u] 104)).drew (wr.heap.size + 1) (some ⟨wr.heap.size, 0, none⟩) 1 [(id, u)]) := one_at (w := (wr.alloc (.cells #[.string id, .int .i64 u] 104)).drew) (heap_alloc_new wr _)
        have HB1 := Lib.hid hb1
        have HOW := Lib.hid (own_below HM.out.2.1 hb1)
        clear hb1
        generalize (wr.alloc (.cells #[.string id, .int .i64 u] 104)).drew = u2 at *
        refine hK.out _ _ ⟨e0, e1⟩ (fun hHeld => ?_)
        clear hK K
        try simp only [Act.put, List.setIfInBounds_toArray, List.set_cons_zero, List.set_cons_succ]
        refine wpAnyH_ready (rs := [14]) (by kernel_rfl) (by simp) ?_
        refine (AllReadyH.cons (o := { dst := some 32, op := Go.Op.call { callee := Go.Callee.builtin Go.Builtin.append, args := #[Go.Operand.tmp 18, Go.Operand.tmp 31], argTypes := #[55, 55] }, type := 55, pos := "ref.go:125", after := #[{ on := 0, ground := Go.Ground.data }, { on := 13, ground := Go.Ground.data }], guard := none }) rfl (fun K hK => ?_) AllReadyH.nil)
        refine step_append_at (B := w.heap.size) (v := .slice Av nv cv) (n := nv) (zs := firstsF (m.take k)) (m := 1) (ys := [(id, u)]) refTy (by rfl) _ _ (by rfl) (by rfl) HOW.out (by rfl) HX1.out (by omega) (by have := HB1.out.size; omega) ?_
        intro A3 c3 w3 hown3 hg3 hat3
        have nk : some blk ≠ Value.ownBlock (.slice Av nv cv) := fun e => by have := hgn _ e.symm; omega
        replace e0 := (World.cell?_of_block (a := ⟨blk, off + k * 3, none⟩) (hg3.block blk hbl nk)).trans e0
        replace e1 := (World.cell?_of_block (a := ⟨blk, off + k * 3 + 1, none⟩) (hg3.block blk hbl nk)).trans e1
        have HM3 : Hid (MakeRel w 104 (firstsF (m.take (k + 1))) A3 (nv + 1) c3 w3) := by show MakeRel _ _ _ _ _ _ _; rw [HST.out]; exact HM.out.push HB1.out hown3 hg3
        clear hown3 hg3 hat3 nk HX1 HOW
        refine hK.out _ _ ⟨e0, e1⟩ (fun hHeld => ?_)
        clear hK K
        try simp only [Act.put, List.setIfInBounds_toArray, List.set_cons_zero, List.set_cons_succ]
        refine wpAnyH_take (i := 15) (oi := { dst := some 3, op := Go.Op.assign (Go.Operand.tmp 32), type := 55, pos := "ref.go:125", after := #[{ on := 14, ground := Go.Ground.data }, { on := 14, ground := Go.Ground.chain }, { on := 0, ground := Go.Ground.phase }, { on := 1, ground := Go.Ground.phase }, { on := 2, ground := Go.Ground.phase }, { on := 3, ground := Go.Ground.phase }, { on := 4, ground := Go.Ground.phase }, { on := 5, ground := Go.Ground.phase }, { on := 6, ground := Go.Ground.phase }, { on := 7, ground := Go.Ground.phase }, { on := 8, ground := Go.Ground.phase }, { on := 9, ground := Go.Ground.phase }, { on := 10, ground := Go.Ground.phase }, { on := 11, ground := Go.Ground.phase }, { on := 12, ground := Go.Ground.phase }, { on := 13, ground := Go.Ground.phase }, { on := 14, ground := Go.Ground.phase }], guard := none }) (v := ?_) rfl (by kernel_rfl) (by kernel_rfl) (by kernel_rfl) (fun _ _ _ h => h) (Or.inl ⟨rfl, ?_⟩) (by assumption) ?_
        rotate_left
        · intro wz hSw; (try dsimp only at hSw); go_simp; try (with_reducible rfl)
        try simp only [Act.put, List.setIfInBounds_toArray, List.set_cons_zero, List.set_cons_succ]
        refine wpAnyH_done (by kernel_rfl) ?_ _
        clear hHeld e0 e1
        go_wp2_with fail
        go_roundw
        case rel => exact ⟨k + 1, A3, nv + 1, c3, by omega, by omega, by go_num, rfl, HM3⟩
        case measure => simp [intOf]; omega
      · rw [if_neg h0, List.append_nil] at HST
        have HM3 : Hid (MakeRel w 104 (firstsF (m.take (k + 1))) Av nv cv wr) := by show MakeRel _ _ _ _ _ _ _; rw [HST.out]; exact HM.out
        go_wp2_with fail
        go_roundw
        case rel => exact ⟨k + 1, Av, nv, cv, by omega, by omega, by go_num, rfl, HM3⟩
        case measure => simp [intOf]; omega
    · obtain rfl : k = n := by omega
      have HT : Hid (m.take k = m) := List.take_of_length_le (by have := HL.out; omega)
      rw [HT.out] at HM
      go_wp2
      go_ret
      exact HM.out.own
set_option maxRecDepth 100000 in
set_option maxHeartbeats 4000000 in
theorem ronlyM_any (A : Option Addr) (n c : Nat) (m : Mat) (A' : Option Addr) (n' c' : Nat) (l : List ByteArray) (B : Nat) (w : World) (hB : B ≤ w.heap.size) (hz : MatAt w B A n m) (hy : RowAt cellsT 1 w B A' n' l) (hn : n ≤ 100000) (hn' : n' ≤ 100000) :
    Calls Try.prog 46 #[.slice A n c, .slice A' n' c'] w (OwnMat 27 (onlyM m l) w) := by
  have HL := Lib.hid hz.len
  have HZ := Lib.hid hz
  have HY := Lib.hid hy
  clear hz hy
  go_enter Try.func46, Try.ntmps46
  go_wp2
  go_loopw [5, 6] (fun v i wr => ∃ (k : Nat) (Av : Option Addr) (cv : Nat), k ≤ n ∧ i = .int .i64 k ∧ v = .slice Av (onlyM (m.take k) l).length cv ∧ Hid (OwnsM wr w.heap.size 27 Av (onlyM (m.take k) l).length cv (onlyM (m.take k) l)) ∧ Hid (Below w.heap.size w wr)) (fun _ i _ => n - (intOf i).toNat)
  case atStart => exact ⟨0, none, 0, by omega, rfl, rfl, OwnsM.nil _ _ _, Below.refl _ _⟩
  case round =>
    obtain ⟨k, Av, cv, hk, rfl, rfl, HOM, HB⟩ := hrel
    by_cases hlt : k < n
    · obtain ⟨blk, off, r, rfl, hbB, hmk, e0, e1, e2, hf⟩ := HZ.out.get (HB.out.mono hB) hlt
      have HTS := Lib.hid (onlyM_take l hmk)
      have hi1 : (k : Int) < (n : Int) := by omega
      have hdl : (onlyM (m.take k) l).length ≤ 100000 := Nat.le_trans (onlyM_len _ _) (by rw [List.length_take]; omega)
      have hsz := HB.out.size
      have HY1 := Lib.hid (HY.out.keep (HB.out.mono hB))
      cases hh : hasT l r.id with
      | false =>
        have HH := Lib.hid hh
        have HN : Hid (onlyM (m.take (k + 1)) l = onlyM (m.take k) l) := by show _ = _; rw [HTS.out, if_neg (by simp [hh]), List.append_nil]
        obtain ⟨id, u, Ar, cr, v⟩ := r
        simp only at e0 e1 e2 HH
        clear hmk hf HTS hh
        generalize onlyM (m.take k) l = d at *
        go_wp2_with fail
        refine (rhas_is A' n' c' l id B false HH _ HY1.out (by omega)).mono ?_
        rintro e w' ⟨rfl, rfl⟩
        go_wp2_with fail
        go_roundw
        case rel => exact ⟨k + 1, Av, cv, by omega, by go_num, by rw [HN.out], by rw [HN.out]; exact HOM, HB⟩
        case measure => simp [intOf]; omega
      | true =>
        have HH := Lib.hid hh
        have HN : Hid (onlyM (m.take (k + 1)) l = onlyM (m.take k) l ++ [(r.id, (r.u, r.v))]) := by show _ = _; rw [HTS.out, if_pos hh]
        obtain ⟨rs, habs, hown⟩ := HOM.out
        have HAB := Lib.hid habs
        have hbw : Below wr.heap.size wr (wr.alloc (.cells #[.string r.id, .int .i64 r.u, .slice r.A r.v.length r.c] 27)) := (Below.refl _ _).alloc (Nat.le_refl _) _
        have HAP := Lib.hid (apart_old hown hf hB)
        have HO1 := Lib.hid (hown.below hbw)
        have HF1 := Lib.hid (((hf.more (Nat.le_trans hB hsz)).keep hbw).more hbw.size)
        have HB1 := Lib.hid (HB.out.trans (hbw.mono hsz))
        have HX1 : Hid (RowAt cellsH 3 (wr.alloc (.cells #[.string r.id, .int .i64 r.u, .slice r.A r.v.length r.c] 27)) (wr.heap.size + 1) (some ⟨wr.heap.size, 0, none⟩) 1 [r]) := one_row rowN (heap_alloc_new wr _)
        obtain ⟨id, u, Ar, cr, v⟩ := r
        simp only at e0 e1 e2 HH HB1 HO1 HN HX1 HF1 HAP
        clear hmk hf hbw HTS hh hown habs HOM
        generalize onlyM (m.take k) l = d at *
        go_wp2_with fail
        refine (rhas_is A' n' c' l id B true HH _ HY1.out (by omega)).mono ?_
        rintro e w' ⟨rfl, rfl⟩
        go_wp2_with (at_builtin; refine wpList_append_row rowN (B := w.heap.size) (v := .slice Av d.length cv) (n := d.length) (zs := rs) (m := 1) (ys := [⟨id, u, Ar, cr, v⟩]) rfl _ _ rfl rfl HO1.out.own rfl HX1.out (by omega) HB1.out.size ?_; intro A3 c3 w3 hown3 hg3 hat3)
        have HO3 := Lib.hid (HO1.out.snoc HF1.out HAP.out hown3 hg3 hat3)
        have HB3 := Lib.hid (HB1.out.grown hg3 HB1.out.size (fun g e => (HO1.out.own.lt g e).1))
        clear hown3 hg3 hat3
        have HLn : Hid ((onlyM (m.take (k + 1)) l).length = d.length + 1) := by show _ = _; rw [HN.out]; simp
        go_wp2_with fail
        go_roundw
        case rel => exact ⟨k + 1, A3, c3, by omega, by go_num, by rw [HLn.out], by rw [HLn.out, HN.out]; exact ⟨rs ++ [⟨id, u, Ar, cr, v⟩], by rw [absH_append, HAB.out]; rfl, HO3.out⟩, HB3⟩
        case measure => simp [intOf]; omega
    · obtain rfl : k = n := by omega
      have HT : Hid (m.take k = m) := List.take_of_length_le (by have := HL.out; omega)
      go_wp2
      go_ret
      rw [HT.out] at HOM ⊢
      exact ⟨Av, cv, rfl, HOM.out, HB.out⟩
end Go.Proofs.Ythfdjebeblmmdaa
