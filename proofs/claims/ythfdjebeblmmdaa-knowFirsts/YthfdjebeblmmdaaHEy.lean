/- know.From; the reference's From, Firsts and Only. -/
import Derived.Test.YthfdjebeblmmdaaHEw
namespace Go.Proofs.Ythfdjebeblmmdaa
open Go.RowKit

/-- What is as far. -/
def kfromF (v : List At) : Mat := v.map fun x => (x.1, (Sp.firstU x.2, []))
def rfromF (v : List At) : Mat := v.map fun x => (x.1, (x.2, []))
theorem kfrom_take {v : List At} {k : Nat} (h : k < v.length) : kfromF (v.take (k + 1)) = kfromF (v.take k) ++ [((v.getD k atNil).1, (Sp.firstU (v.getD k atNil).2, []))] := by
  unfold kfromF
  rw [List.take_succ_eq_append_getElem h, List.map_append]
  simp [List.getD_eq_getElem?_getD, List.getElem?_eq_getElem h]
theorem rfrom_take {v : List At} {k : Nat} (h : k < v.length) : rfromF (v.take (k + 1)) = rfromF (v.take k) ++ [((v.getD k atNil).1, ((v.getD k atNil).2, []))] := by
  unfold rfromF
  rw [List.take_succ_eq_append_getElem h, List.map_append]
  simp [List.getD_eq_getElem?_getD, List.getElem?_eq_getElem h]
theorem kfrom_len (v : List At) : (kfromF v).length = v.length := by simp [kfromF]
theorem rfrom_len (v : List At) : (rfromF v).length = v.length := by simp [rfromF]
theorem apart_nil {id : ByteArray} {u : Int} {A : Option Addr} {c : Nat} (g : Option Nat) : Apart ⟨id, u, A, c, []⟩ g := fun h => absurd h (by simp)
theorem fine_nil {w : World} {B : Nat} {id : ByteArray} {u : Int} : Fine w B ⟨id, u, none, 0, []⟩ := ⟨Sp.IntsAt.nil _ _ _, Nat.le_refl _⟩
set_option maxRecDepth 100000 in
set_option maxHeartbeats 8000000 in
theorem kfromM_any (A : Option Addr) (n c : Nat) (v : List At) (B : Nat) (w : World) (hB : B ≤ w.heap.size) (hz : VecAt w B A n v) (hn : n ≤ 100000) :
    Calls Try.prog 38 #[.slice A n c] w (OwnMat 77 (kfromF v) w) := by
  have hl : v.length = n := hz.1
  have HL := Lib.hid hl
  have HZ := Lib.hid hz
  clear hl hz
  go_enter Try.func38, Try.ntmps38
  go_wp2
  go_loopw [3, 8] (fun q i wr => ∃ (k : Nat) (Av : Option Addr) (cv : Nat) (rs : List Hd), k ≤ n ∧ i = .int .i64 k ∧ q = .slice Av k cv ∧ Hid (absH rs = kfromF (v.take k)) ∧ Hid (OwnsH wr w.heap.size 77 Av k cv rs) ∧ Hid (Below w.heap.size w wr)) (fun _ i _ => n - (intOf i).toNat)
  case atStart => exact ⟨0, none, 0, [], by omega, rfl, rfl, rfl, OwnsH.nil _ _ _, Below.refl _ _⟩
  case round =>
    obtain ⟨k, Av, cv, rs, hk, rfl, rfl, HAB, HO, HB⟩ := hrel
    by_cases hlt : k < n
    · obtain ⟨blk, off, rfl, hbB, d0, d1⟩ := HZ.out.cells (HB.out.mono hB) (k := k) hlt
      have hi0 : (0 : Int) ≤ (k : Int) := by omega
      have hi1 : (k : Int) < (n : Int) := by omega
      have hsz := HB.out.size
      have hbd : blk < wr.heap.size := by omega
      have HST := Lib.hid (kfrom_take (v := v) (k := k) (by have := HL.out; omega))
      generalize v.getD k atNil = x at *
      obtain ⟨id, u⟩ := x
      simp only at d0 d1 HST
      go_upto_region 5 with fail
      have hb0 : Below wr.heap.size wr (wr.alloc (.cells #[.string id, .int .i64 u] 75)) := (Below.refl _ _).alloc (Nat.le_refl _) _
      have e0 : (wr.alloc (.cells #[.string id, .int .i64 u] 75)).cell? ⟨wr.heap.size, 0, none⟩ = some (.string id) := by simp [go_sem]
      have e1 : (wr.alloc (.cells #[.string id, .int .i64 u] 75)).cell? ⟨wr.heap.size, 1, none⟩ = some (.int .i64 u) := by simp [go_sem]
      have hbl : wr.heap.size < (wr.alloc (.cells #[.string id, .int .i64 u] 75)).heap.size := by simp
      have hgn : ∀ g, Value.ownBlock (.slice Av k cv) = some g → g < wr.heap.size := fun g e => (HO.out.own.lt g e).2
      replace HO := Lib.hid (HO.out.below hb0)
      replace HB := Lib.hid (HB.out.trans (hb0.mono hsz))
      clear hb0 d0 d1 hbd
      generalize (wr.alloc (.cells #[.string id, .int .i64 u] 75)) = W at *
      generalize wr.heap.size = G at *
      refine wp_region_held_drew (S := fun w' => w'.cell? ⟨G, 0, none⟩ = some (.string id) ∧ w'.cell? ⟨G, 1, none⟩ = some (.int .i64 u)) (by kernel_rfl) ⟨e0, e1⟩ (fun hHeld => ?_)
      refine wpAnyH_take (i := 0) (oi := { dst := some 12, op := Go.Op.move (Go.Operand.tmp 3), type := 31, pos := "know.go:129", after := #[], guard := none }) (v := ?_) rfl (by kernel_rfl) (by kernel_rfl) (by kernel_rfl) (fun _ _ _ h => h) (Or.inl ⟨rfl, ?_⟩) (by assumption) ?_
      rotate_left
      · intro wz hSw; (try dsimp only at hSw); go_simp; try (with_reducible rfl)
      try simp only [Act.put, List.setIfInBounds_toArray, List.set_cons_zero, List.set_cons_succ]
      refine wpAnyH_take (i := 1) (oi := { dst := some 13, op := Go.Op.fieldAddr 75 (Go.Operand.tmp 5) 0, type := 0, pos := "know.go:129", after := #[], guard := none }) (v := ?_) rfl (by kernel_rfl) (by kernel_rfl) (by kernel_rfl) (fun _ _ _ h => h) (Or.inl ⟨rfl, ?_⟩) (by assumption) ?_
      rotate_left
      · intro wz hSw; (try dsimp only at hSw); go_simp; try (with_reducible rfl)
      try simp only [Act.put, List.setIfInBounds_toArray, List.set_cons_zero, List.set_cons_succ]
      refine wpAnyH_take (i := 2) (oi := { dst := some 14, op := Go.Op.load 36 (Go.Operand.tmp 13), type := 36, pos := "know.go:129", after := #[{ on := 1, ground := Go.Ground.data }], guard := none }) (v := ?_) rfl (by kernel_rfl) (by kernel_rfl) (by kernel_rfl) (fun _ _ _ h => h) (Or.inl ⟨rfl, ?_⟩) (by assumption) ?_
      rotate_left
      · intro wz hSw; (try dsimp only at hSw); go_simp; try (with_reducible rfl)
      try simp only [Act.put, List.setIfInBounds_toArray, List.set_cons_zero, List.set_cons_succ]
      refine wpAnyH_take (i := 3) (oi := { dst := some 15, op := Go.Op.fieldAddr 75 (Go.Operand.tmp 5) 1, type := 0, pos := "know.go:129", after := #[], guard := none }) (v := ?_) rfl (by kernel_rfl) (by kernel_rfl) (by kernel_rfl) (fun _ _ _ h => h) (Or.inl ⟨rfl, ?_⟩) (by assumption) ?_
      rotate_left
      · intro wz hSw; (try dsimp only at hSw); go_simp; try (with_reducible rfl)
      try simp only [Act.put, List.setIfInBounds_toArray, List.set_cons_zero, List.set_cons_succ]
      refine wpAnyH_take (i := 4) (oi := { dst := some 16, op := Go.Op.load 3 (Go.Operand.tmp 15), type := 3, pos := "know.go:129", after := #[{ on := 3, ground := Go.Ground.data }], guard := none }) (v := ?_) rfl (by kernel_rfl) (by kernel_rfl) (by kernel_rfl) (fun _ _ _ h => h) (Or.inl ⟨rfl, ?_⟩) (by assumption) ?_
      rotate_left
      · intro wz hSw; (try dsimp only at hSw); go_simp; try (with_reducible rfl)
      try simp only [Act.put, List.setIfInBounds_toArray, List.set_cons_zero, List.set_cons_succ]
      refine wpAnyH_ready (rs := [5]) (by kernel_rfl) (by simp) ?_
      refine (AllReadyH.cons (o := { dst := some 17, op := Go.Op.call { callee := Go.Callee.value (Go.Operand.func 76), args := #[Go.Operand.tmp 16], argTypes := #[3] }, type := 44, pos := "know.go:129", after := #[{ on := 4, ground := Go.Ground.data }], guard := none }) rfl (fun K hK => ?_) AllReadyH.nil)
      go_simp
      go_at_call 76
      refine (Sp.first_any u _).mono ?_
      rintro e u1 ⟨rfl, hbd⟩
      have hb : Below W.heap.size W u1 := (drew_below _ _).trans hbd
      replace e0 := (hb.cell (p := ⟨G, 0, none⟩) hbl).trans e0
      replace e1 := (hb.cell (p := ⟨G, 1, none⟩) hbl).trans e1
      replace hbl := Nat.lt_of_lt_of_le hbl hb.size
      replace HO := Lib.hid (HO.out.below hb)
      replace HB := Lib.hid (HB.out.trans (hb.mono HB.out.size))
      clear hb hbd
      refine hK.out _ _ ⟨e0, e1⟩ (fun hHeld => ?_)
      clear hK K
      try simp only [Act.put, List.setIfInBounds_toArray, List.set_cons_zero, List.set_cons_succ]
      refine wpAnyH_take (i := 6) (oi := { dst := some 18, op := Go.Op.build 77 #[(0, Go.Operand.tmp 14), (1, Go.Operand.tmp 17)], type := 77, pos := "know.go:129", after := #[{ on := 2, ground := Go.Ground.data }, { on := 5, ground := Go.Ground.data }], guard := none }) (v := ?_) rfl (by kernel_rfl) (by kernel_rfl) (by kernel_rfl) (fun _ _ _ h => h) (Or.inl ⟨rfl, ?_⟩) (by assumption) ?_
      rotate_left
      · intro wz hSw; (try dsimp only at hSw); go_simp; try (with_reducible rfl)
      try simp only [Act.put, List.setIfInBounds_toArray, List.set_cons_zero, List.set_cons_succ]
      refine wpAnyH_ready (rs := [7]) (by kernel_rfl) (by simp) ?_
      refine (AllReadyH.cons (o := { dst := some 19, op := Go.Op.buildSlice 31 1 #[(0, Go.Operand.tmp 18)], type := 31, pos := "know.go:129", after := #[{ on := 6, ground := Go.Ground.data }], guard := none }) rfl (fun K hK => ?_) AllReadyH.nil)
      go_simp
      have hb1 : Below u1.heap.size u1 (u1.alloc (.cells #[.string id, .int .i64 (Sp.firstU u), .slice none 0 0] 77)) := (Below.refl _ _).alloc (Nat.le_refl _) _
      replace e0 := (hb1.cell (p := ⟨G, 0, none⟩) hbl).trans e0
      replace e1 := (hb1.cell (p := ⟨G, 1, none⟩) hbl).trans e1
      replace hbl := Nat.lt_of_lt_of_le hbl hb1.size
      have HX1 : Hid (RowAt cellsH 3 (u1.alloc (.cells #[.string id, .int .i64 (Sp.firstU u), .slice none 0 0] 77)) (u1.heap.size + 1) (some ⟨u1.heap.size, 0, none⟩) 1 [⟨id, Sp.firstU u, none, 0, []⟩]) := one_row (w := (u1.alloc (.cells #[.string id, .int .i64 (Sp.firstU u), .slice none 0 0] 77))) rowM (heap_alloc_new u1 _)
      replace HO := Lib.hid (HO.out.below hb1)
      replace HB := Lib.hid (HB.out.trans (hb1.mono HB.out.size))
      clear hb1
      generalize (u1.alloc (.cells #[.string id, .int .i64 (Sp.firstU u), .slice none 0 0] 77)) = u2 at *
      generalize u1.heap.size = G2 at *
      refine hK.out _ _ ⟨e0, e1⟩ (fun hHeld => ?_)
      clear hK K
      try simp only [Act.put, List.setIfInBounds_toArray, List.set_cons_zero, List.set_cons_succ]
      refine wpAnyH_ready (rs := [8]) (by kernel_rfl) (by simp) ?_
      refine (AllReadyH.cons (o := { dst := some 20, op := Go.Op.call { callee := Go.Callee.builtin Go.Builtin.append, args := #[Go.Operand.tmp 12, Go.Operand.tmp 19], argTypes := #[31, 31] }, type := 31, pos := "know.go:129", after := #[{ on := 0, ground := Go.Ground.data }, { on := 7, ground := Go.Ground.data }, { on := 5, ground := Go.Ground.chain }], guard := none }) rfl (fun K hK => ?_) AllReadyH.nil)
      refine step_append_row rowM (B := w.heap.size) (v := .slice Av k cv) (n := k) (zs := rs) (m := 1) (ys := [⟨id, Sp.firstU u, none, 0, []⟩]) (by rfl) _ _ (by rfl) (by rfl) HO.out.own (by rfl) HX1.out (by omega) HB.out.size ?_
      intro A3 c3 w3 hown3 hg3 hat3
      have nk : some G ≠ Value.ownBlock (.slice Av k cv) := fun e => by have := hgn _ e.symm; omega
      replace e0 := (World.cell?_of_block (a := ⟨G, 0, none⟩) (hg3.block G hbl nk)).trans e0
      replace e1 := (World.cell?_of_block (a := ⟨G, 1, none⟩) (hg3.block G hbl nk)).trans e1
      have HO3 := Lib.hid (HO.out.snoc fine_nil (apart_nil _) hown3 hg3 hat3)
      replace HB := Lib.hid (HB.out.grown hg3 HB.out.size (fun g e => (HO.out.own.lt g e).1))
      clear hown3 hg3 hat3 nk HO HX1
      refine hK.out _ _ ⟨e0, e1⟩ (fun hHeld => ?_)
      clear hK K
      try simp only [Act.put, List.setIfInBounds_toArray, List.set_cons_zero, List.set_cons_succ]
      refine wpAnyH_take (i := 9) (oi := { dst := some 3, op := Go.Op.assign (Go.Operand.tmp 20), type := 31, pos := "know.go:129", after := #[{ on := 8, ground := Go.Ground.data }, { on := 8, ground := Go.Ground.chain }, { on := 0, ground := Go.Ground.phase }, { on := 1, ground := Go.Ground.phase }, { on := 2, ground := Go.Ground.phase }, { on := 3, ground := Go.Ground.phase }, { on := 4, ground := Go.Ground.phase }, { on := 5, ground := Go.Ground.phase }, { on := 6, ground := Go.Ground.phase }, { on := 7, ground := Go.Ground.phase }, { on := 8, ground := Go.Ground.phase }], guard := none }) (v := ?_) rfl (by kernel_rfl) (by kernel_rfl) (by kernel_rfl) (fun _ _ _ h => h) (Or.inl ⟨rfl, ?_⟩) (by assumption) ?_
      rotate_left
      · intro wz hSw; (try dsimp only at hSw); go_simp; try (with_reducible rfl)
      try simp only [Act.put, List.setIfInBounds_toArray, List.set_cons_zero, List.set_cons_succ]
      refine wpAnyH_done (by kernel_rfl) ?_ _
      have HAB3 : Hid (absH (rs ++ [⟨id, Sp.firstU u, none, 0, []⟩]) = kfromF (v.take (k + 1))) := by show _ = _; rw [absH_append, HAB.out, HST.out]; rfl
      clear hHeld e0 e1 HAB HST
      go_wp2_with fail
      go_roundw
      case rel => exact ⟨k + 1, A3, c3, rs ++ [⟨id, Sp.firstU u, none, 0, []⟩], by omega, by go_num, rfl, HAB3, HO3, HB⟩
      case measure => simp [intOf]; omega
    · obtain rfl : k = n := by omega
      have HT : Hid (v.take k = v) := List.take_of_length_le (by have := HL.out; omega)
      have HLn : Hid ((kfromF v).length = k) := by show _ = _; rw [kfrom_len]; exact HL.out
      go_wp2
      go_ret
      unfold OwnMat
      rw [HLn.out]
      exact ⟨Av, cv, rfl, ⟨rs, by rw [HAB.out, HT.out], HO.out⟩, HB.out⟩
set_option maxRecDepth 100000 in
set_option maxHeartbeats 8000000 in
theorem rfromM_any (A : Option Addr) (n c : Nat) (v : List At) (B : Nat) (w : World) (hB : B ≤ w.heap.size) (hz : VecAt w B A n v) (hn : n ≤ 100000) :
    Calls Try.prog 43 #[.slice A n c] w (OwnMat 27 (rfromF v) w) := by
  have hl : v.length = n := hz.1
  have HL := Lib.hid hl
  have HZ := Lib.hid hz
  clear hl hz
  go_enter Try.func43, Try.ntmps43
  go_wp2
  go_loopw [3, 4] (fun q i wr => ∃ (k : Nat) (Av : Option Addr) (cv : Nat) (rs : List Hd), k ≤ n ∧ i = .int .i64 k ∧ q = .slice Av k cv ∧ Hid (absH rs = rfromF (v.take k)) ∧ Hid (OwnsH wr w.heap.size 27 Av k cv rs) ∧ Hid (Below w.heap.size w wr)) (fun _ i _ => n - (intOf i).toNat)
  case atStart => exact ⟨0, none, 0, [], by omega, rfl, rfl, rfl, OwnsH.nil _ _ _, Below.refl _ _⟩
  case round =>
    obtain ⟨k, Av, cv, rs, hk, rfl, rfl, HAB, HO, HB⟩ := hrel
    by_cases hlt : k < n
    · obtain ⟨blk, off, rfl, hbB, d0, d1⟩ := HZ.out.cells (HB.out.mono hB) (k := k) hlt
      have hi0 : (0 : Int) ≤ (k : Int) := by omega
      have hi1 : (k : Int) < (n : Int) := by omega
      have hsz := HB.out.size
      have hbd : blk < wr.heap.size := by omega
      have HST := Lib.hid (rfrom_take (v := v) (k := k) (by have := HL.out; omega))
      generalize v.getD k atNil = x at *
      obtain ⟨id, u⟩ := x
      simp only at d0 d1 HST
      go_upto_region 5 with fail
      have e0 := d0
      have e1 := d1
      have hbl := hbd
      have hgn : ∀ g, Value.ownBlock (.slice Av k cv) = some g → w.heap.size ≤ g := fun g e => (HO.out.own.lt g e).1
      clear d0 d1 hbd
      refine wp_region_held_drew (S := fun w' => w'.cell? ⟨blk, off + k * 2, none⟩ = some (.string id) ∧ w'.cell? ⟨blk, off + k * 2 + 1, none⟩ = some (.int .i64 u)) (by kernel_rfl) ⟨e0, e1⟩ (fun hHeld => ?_)
      refine wpAnyH_take (i := 0) (oi := { dst := some 11, op := Go.Op.move (Go.Operand.tmp 3), type := 22, pos := "ref.go:135", after := #[], guard := none }) (v := ?_) rfl (by kernel_rfl) (by kernel_rfl) (by kernel_rfl) (fun _ _ _ h => h) (Or.inl ⟨rfl, ?_⟩) (by assumption) ?_
      rotate_left
      · intro wz hSw; (try dsimp only at hSw); go_simp; try (with_reducible rfl)
      try simp only [Act.put, List.setIfInBounds_toArray, List.set_cons_zero, List.set_cons_succ]
      refine wpAnyH_take (i := 1) (oi := { dst := some 12, op := Go.Op.move (Go.Operand.tmp 0), type := 55, pos := "ref.go:135", after := #[], guard := none }) (v := ?_) rfl (by kernel_rfl) (by kernel_rfl) (by kernel_rfl) (fun _ _ _ h => h) (Or.inl ⟨rfl, ?_⟩) (by assumption) ?_
      rotate_left
      · intro wz hSw; (try dsimp only at hSw); go_simp; try (with_reducible rfl)
      try simp only [Act.put, List.setIfInBounds_toArray, List.set_cons_zero, List.set_cons_succ]
      refine wpAnyH_take (i := 2) (oi := { dst := some 13, op := Go.Op.move (Go.Operand.tmp 4), type := 3, pos := "ref.go:135", after := #[], guard := none }) (v := ?_) rfl (by kernel_rfl) (by kernel_rfl) (by kernel_rfl) (fun _ _ _ h => h) (Or.inl ⟨rfl, ?_⟩) (by assumption) ?_
      rotate_left
      · intro wz hSw; (try dsimp only at hSw); go_simp; try (with_reducible rfl)
      try simp only [Act.put, List.setIfInBounds_toArray, List.set_cons_zero, List.set_cons_succ]
      refine wpAnyH_take (i := 3) (oi := { dst := some 14, op := Go.Op.indexAddr 55 (Go.Operand.tmp 12) (Go.Operand.tmp 13), type := 0, pos := "ref.go:135", after := #[{ on := 1, ground := Go.Ground.data }, { on := 2, ground := Go.Ground.data }], guard := none }) (v := ?_) rfl (by kernel_rfl) (by kernel_rfl) (by kernel_rfl) (fun _ _ _ h => h) (Or.inl ⟨rfl, ?_⟩) (by assumption) ?_
      rotate_left
      · intro wz hSw; (try dsimp only at hSw); go_simp; try (with_reducible rfl)
      try simp only [Act.put, List.setIfInBounds_toArray, List.set_cons_zero, List.set_cons_succ]
      refine wpAnyH_take (i := 4) (oi := { dst := some 15, op := Go.Op.fieldAddr 104 (Go.Operand.tmp 14) 0, type := 0, pos := "ref.go:135", after := #[{ on := 3, ground := Go.Ground.data }], guard := none }) (v := ?_) rfl (by kernel_rfl) (by kernel_rfl) (by kernel_rfl) (fun _ _ _ h => h) (Or.inl ⟨rfl, ?_⟩) (by assumption) ?_
      rotate_left
      · intro wz hSw; (try dsimp only at hSw); go_simp; try (with_reducible rfl)
      try simp only [Act.put, List.setIfInBounds_toArray, List.set_cons_zero, List.set_cons_succ]
      refine wpAnyH_take (i := 5) (oi := { dst := some 16, op := Go.Op.load 9 (Go.Operand.tmp 15), type := 9, pos := "ref.go:135", after := #[{ on := 4, ground := Go.Ground.data }], guard := none }) (v := ?_) rfl (by kernel_rfl) (by kernel_rfl) (by kernel_rfl) (fun _ _ _ h => h) (Or.inl ⟨rfl, ?_⟩) (by assumption) ?_
      rotate_left
      · intro wz hSw; (try dsimp only at hSw); go_simp; try (with_reducible rfl)
      try simp only [Act.put, List.setIfInBounds_toArray, List.set_cons_zero, List.set_cons_succ]
      refine wpAnyH_take (i := 6) (oi := { dst := some 17, op := Go.Op.move (Go.Operand.tmp 0), type := 55, pos := "ref.go:135", after := #[], guard := none }) (v := ?_) rfl (by kernel_rfl) (by kernel_rfl) (by kernel_rfl) (fun _ _ _ h => h) (Or.inl ⟨rfl, ?_⟩) (by assumption) ?_
      rotate_left
      · intro wz hSw; (try dsimp only at hSw); go_simp; try (with_reducible rfl)
      try simp only [Act.put, List.setIfInBounds_toArray, List.set_cons_zero, List.set_cons_succ]
      refine wpAnyH_take (i := 7) (oi := { dst := some 18, op := Go.Op.move (Go.Operand.tmp 4), type := 3, pos := "ref.go:135", after := #[], guard := none }) (v := ?_) rfl (by kernel_rfl) (by kernel_rfl) (by kernel_rfl) (fun _ _ _ h => h) (Or.inl ⟨rfl, ?_⟩) (by assumption) ?_
      rotate_left
      · intro wz hSw; (try dsimp only at hSw); go_simp; try (with_reducible rfl)
      try simp only [Act.put, List.setIfInBounds_toArray, List.set_cons_zero, List.set_cons_succ]
      refine wpAnyH_take (i := 8) (oi := { dst := some 19, op := Go.Op.indexAddr 55 (Go.Operand.tmp 17) (Go.Operand.tmp 18), type := 0, pos := "ref.go:135", after := #[{ on := 6, ground := Go.Ground.data }, { on := 7, ground := Go.Ground.data }], guard := none }) (v := ?_) rfl (by kernel_rfl) (by kernel_rfl) (by kernel_rfl) (fun _ _ _ h => h) (Or.inl ⟨rfl, ?_⟩) (by assumption) ?_
      rotate_left
      · intro wz hSw; (try dsimp only at hSw); go_simp; try (with_reducible rfl)
      try simp only [Act.put, List.setIfInBounds_toArray, List.set_cons_zero, List.set_cons_succ]
      refine wpAnyH_take (i := 9) (oi := { dst := some 20, op := Go.Op.fieldAddr 104 (Go.Operand.tmp 19) 1, type := 0, pos := "ref.go:135", after := #[{ on := 8, ground := Go.Ground.data }], guard := none }) (v := ?_) rfl (by kernel_rfl) (by kernel_rfl) (by kernel_rfl) (fun _ _ _ h => h) (Or.inl ⟨rfl, ?_⟩) (by assumption) ?_
      rotate_left
      · intro wz hSw; (try dsimp only at hSw); go_simp; try (with_reducible rfl)
      try simp only [Act.put, List.setIfInBounds_toArray, List.set_cons_zero, List.set_cons_succ]
      refine wpAnyH_take (i := 10) (oi := { dst := some 21, op := Go.Op.load 3 (Go.Operand.tmp 20), type := 3, pos := "ref.go:135", after := #[{ on := 9, ground := Go.Ground.data }], guard := none }) (v := ?_) rfl (by kernel_rfl) (by kernel_rfl) (by kernel_rfl) (fun _ _ _ h => h) (Or.inl ⟨rfl, ?_⟩) (by assumption) ?_
      rotate_left
      · intro wz hSw; (try dsimp only at hSw); go_simp; try (with_reducible rfl)
      try simp only [Act.put, List.setIfInBounds_toArray, List.set_cons_zero, List.set_cons_succ]
      refine wpAnyH_take (i := 11) (oi := { dst := some 22, op := Go.Op.build 25 #[(0, Go.Operand.tmp 21)], type := 25, pos := "ref.go:135", after := #[{ on := 10, ground := Go.Ground.data }], guard := none }) (v := ?_) rfl (by kernel_rfl) (by kernel_rfl) (by kernel_rfl) (fun _ _ _ h => h) (Or.inl ⟨rfl, ?_⟩) (by assumption) ?_
      rotate_left
      · intro wz hSw; (try dsimp only at hSw); go_simp; try (with_reducible rfl)
      try simp only [Act.put, List.setIfInBounds_toArray, List.set_cons_zero, List.set_cons_succ]
      refine wpAnyH_take (i := 12) (oi := { dst := some 23, op := Go.Op.build 27 #[(0, Go.Operand.tmp 16), (1, Go.Operand.tmp 22)], type := 27, pos := "ref.go:135", after := #[{ on := 5, ground := Go.Ground.data }, { on := 11, ground := Go.Ground.data }], guard := none }) (v := ?_) rfl (by kernel_rfl) (by kernel_rfl) (by kernel_rfl) (fun _ _ _ h => h) (Or.inl ⟨rfl, ?_⟩) (by assumption) ?_
      rotate_left
      · intro wz hSw; (try dsimp only at hSw); go_simp; try (with_reducible rfl)
      try simp only [Act.put, List.setIfInBounds_toArray, List.set_cons_zero, List.set_cons_succ]
      refine wpAnyH_ready (rs := [13]) (by kernel_rfl) (by simp) ?_
      refine (AllReadyH.cons (o := { dst := some 24, op := Go.Op.buildSlice 22 1 #[(0, Go.Operand.tmp 23)], type := 22, pos := "ref.go:135", after := #[{ on := 12, ground := Go.Ground.data }], guard := none }) rfl (fun K hK => ?_) AllReadyH.nil)
      go_simp
      have hb1 : Below wr.heap.size wr (wr.alloc (.cells #[.string id, .int .i64 u, .slice none 0 0] 27)).drew := ((Below.refl _ _).alloc (Nat.le_refl _) _).drew
      replace e0 := (hb1.cell (p := ⟨blk, off + k * 2, none⟩) hbl).trans e0
      replace e1 := (hb1.cell (p := ⟨blk, off + k * 2 + 1, none⟩) hbl).trans e1
      replace hbl := Nat.lt_of_lt_of_le hbl hb1.size
      have HX1 : Hid (RowAt cellsH 3 (wr.alloc (.cells #[.string id, .int .i64 u, .slice none 0 0] 27)).drew (wr.heap.size + 1) (some ⟨wr.heap.size, 0, none⟩) 1 [⟨id, u, none, 0, []⟩]) := one_row (w := (wr.alloc (.cells #[.string id, .int .i64 u, .slice none 0 0] 27)).drew) rowN (heap_alloc_new wr _)
      replace HO := Lib.hid (HO.out.below hb1)
      replace HB := Lib.hid (HB.out.trans (hb1.mono HB.out.size))
      clear hb1
      generalize (wr.alloc (.cells #[.string id, .int .i64 u, .slice none 0 0] 27)).drew = u2 at *
      generalize wr.heap.size = G2 at *
      refine hK.out _ _ ⟨e0, e1⟩ (fun hHeld => ?_)
      clear hK K
      try simp only [Act.put, List.setIfInBounds_toArray, List.set_cons_zero, List.set_cons_succ]
      refine wpAnyH_ready (rs := [14]) (by kernel_rfl) (by simp) ?_
      refine (AllReadyH.cons (o := { dst := some 25, op := Go.Op.call { callee := Go.Callee.builtin Go.Builtin.append, args := #[Go.Operand.tmp 11, Go.Operand.tmp 24], argTypes := #[22, 22] }, type := 22, pos := "ref.go:135", after := #[{ on := 0, ground := Go.Ground.data }, { on := 13, ground := Go.Ground.data }], guard := none }) rfl (fun K hK => ?_) AllReadyH.nil)
      refine step_append_row rowN (B := w.heap.size) (v := .slice Av k cv) (n := k) (zs := rs) (m := 1) (ys := [⟨id, u, none, 0, []⟩]) (by rfl) _ _ (by rfl) (by rfl) HO.out.own (by rfl) HX1.out (by omega) HB.out.size ?_
      intro A3 c3 w3 hown3 hg3 hat3
      have nk : some blk ≠ Value.ownBlock (.slice Av k cv) := fun e => by have := hgn _ e.symm; omega
      replace e0 := (World.cell?_of_block (a := ⟨blk, off + k * 2, none⟩) (hg3.block blk hbl nk)).trans e0
      replace e1 := (World.cell?_of_block (a := ⟨blk, off + k * 2 + 1, none⟩) (hg3.block blk hbl nk)).trans e1
      have HO3 := Lib.hid (HO.out.snoc fine_nil (apart_nil _) hown3 hg3 hat3)
      replace HB := Lib.hid (HB.out.grown hg3 HB.out.size (fun g e => (HO.out.own.lt g e).1))
      clear hown3 hg3 hat3 nk HO HX1
      refine hK.out _ _ ⟨e0, e1⟩ (fun hHeld => ?_)
      clear hK K
      try simp only [Act.put, List.setIfInBounds_toArray, List.set_cons_zero, List.set_cons_succ]
      refine wpAnyH_take (i := 15) (oi := { dst := some 3, op := Go.Op.assign (Go.Operand.tmp 25), type := 22, pos := "ref.go:135", after := #[{ on := 14, ground := Go.Ground.data }, { on := 14, ground := Go.Ground.chain }, { on := 0, ground := Go.Ground.phase }, { on := 1, ground := Go.Ground.phase }, { on := 2, ground := Go.Ground.phase }, { on := 3, ground := Go.Ground.phase }, { on := 4, ground := Go.Ground.phase }, { on := 5, ground := Go.Ground.phase }, { on := 6, ground := Go.Ground.phase }, { on := 7, ground := Go.Ground.phase }, { on := 8, ground := Go.Ground.phase }, { on := 9, ground := Go.Ground.phase }, { on := 10, ground := Go.Ground.phase }, { on := 11, ground := Go.Ground.phase }, { on := 12, ground := Go.Ground.phase }, { on := 13, ground := Go.Ground.phase }, { on := 14, ground := Go.Ground.phase }], guard := none }) (v := ?_) rfl (by kernel_rfl) (by kernel_rfl) (by kernel_rfl) (fun _ _ _ h => h) (Or.inl ⟨rfl, ?_⟩) (by assumption) ?_
      rotate_left
      · intro wz hSw; (try dsimp only at hSw); go_simp; try (with_reducible rfl)
      try simp only [Act.put, List.setIfInBounds_toArray, List.set_cons_zero, List.set_cons_succ]
      refine wpAnyH_done (by kernel_rfl) ?_ _
      have HAB3 : Hid (absH (rs ++ [⟨id, u, none, 0, []⟩]) = rfromF (v.take (k + 1))) := by show _ = _; rw [absH_append, HAB.out, HST.out]; rfl
      clear hHeld e0 e1 HAB HST
      go_wp2_with fail
      go_roundw
      case rel => exact ⟨k + 1, A3, c3, rs ++ [⟨id, u, none, 0, []⟩], by omega, by go_num, rfl, HAB3, HO3, HB⟩
      case measure => simp [intOf]; omega
    · obtain rfl : k = n := by omega
      have HT : Hid (v.take k = v) := List.take_of_length_le (by have := HL.out; omega)
      have HLn : Hid ((rfromF v).length = k) := by show _ = _; rw [rfrom_len]; exact HL.out
      go_wp2
      go_ret
      unfold OwnMat
      rw [HLn.out]
      exact ⟨Av, cv, rfl, ⟨rs, by rw [HAB.out, HT.out], HO.out⟩, HB.out⟩
end Go.Proofs.Ythfdjebeblmmdaa
