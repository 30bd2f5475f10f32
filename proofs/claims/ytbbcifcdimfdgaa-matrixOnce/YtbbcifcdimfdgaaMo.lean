/- The law MatrixOnce walked. -/
import Derived.Test.YtbbcifcdimfdgaaMr
namespace Go.Proofs.Ytbbcifcdimfdgaa
open Go.RowKit

set_option maxRecDepth 100000 in
set_option maxHeartbeats 16000000 in
theorem matrixOnce_walk (A0 : Option Addr) (n0 c0 : Nat) (z0 : Mat) (A1 : Option Addr) (n1 c1 : Nat) (z1 : Mat) (A2 : Option Addr) (n2 c2 : Nat) (z2 : Mat) (w : World) (hz0 : MatAt w w.heap.size A0 n0 z0) (_hc0 : n0 ≤ c0) (_hs0 : ShortM z0) (_hn0 : c0 ≤ 9223372036854775807) (hz1 : MatAt w w.heap.size A1 n1 z1) (_hc1 : n1 ≤ c1) (_hs1 : ShortM z1) (_hn1 : c1 ≤ 9223372036854775807) (hz2 : MatAt w w.heap.size A2 n2 z2) (_hc2 : n2 ≤ c2) (_hs2 : ShortM z2) (_hn2 : c2 ≤ 9223372036854775807) :
    Calls Try.prog 7 #[.slice A0 n0 c0, .slice A1 n1 c1, .slice A2 n2 c2] w fun e w' => e = .returned (.bool true) ∧ Below w.heap.size w w' := by
  have HZ0 := Lib.hid hz0
  have HZ1 := Lib.hid hz1
  have HZ2 := Lib.hid hz2
  clear hz0 _hc0 _hs0 _hn0 hz1 _hc1 _hs1 _hn1 hz2 _hc2 _hs2 _hn2
  go_enter Try.func7, Try.ntmps7
  go_wp2_with fail
  refine (rfixM_any A0 n0 c0 z0 w.heap.size _ (Nat.le_refl _) HZ0.out).mono ?_
  rintro e w1 ⟨x, gx, lx, ux, Bx, dx, rfl, ho, hb⟩
  have hdx := ho.cap
  have Gx := Lib.hid gx
  have Ux := Lib.hid ux
  clear gx ux
  have HM1 : Hid (Ms w1 [(Bx, x)]) := (Ms.nil _).ownM ho hb
  have HB1 : Hid (Below w.heap.size w w1) := hb
  clear hb ho
  go_wp2_with fail
  refine (toM_any Bx (List.length x) dx x w1.heap.size _ (Nat.le_refl _) (HM1.out.get (by simp)) (by omega) (fun x hx => by have := Ux.out x hx; omega)).mono ?_
  rintro e w2 ⟨Ax, cx, rfl, ho, hb⟩
  have hcx := ho.cap
  have HM2 : Hid (Ms w2 [(Ax, x), (Bx, x)]) := HM1.out.ownM ho hb
  clear HM1
  have HB2 : Hid (Below w.heap.size w w2) := HB1.out.trans (hb.mono HB1.out.size)
  clear HB1
  clear hb ho
  go_wp2_with fail
  refine (rfixM_any A1 n1 c1 z1 w.heap.size _ HB2.out.size (HZ1.out.keep HB2.out)).mono ?_
  rintro e w3 ⟨y, gy, ly, uy, By, dy, rfl, ho, hb⟩
  have hdy := ho.cap
  have Gy := Lib.hid gy
  have Uy := Lib.hid uy
  clear gy uy
  have HM3 : Hid (Ms w3 [(By, y), (Ax, x), (Bx, x)]) := HM2.out.ownM ho hb
  clear HM2
  have HB3 : Hid (Below w.heap.size w w3) := HB2.out.trans (hb.mono HB2.out.size)
  clear HB2
  clear hb ho
  go_wp2_with fail
  refine (toM_any By (List.length y) dy y w3.heap.size _ (Nat.le_refl _) (HM3.out.get (by simp)) (by omega) (fun x hx => by have := Uy.out x hx; omega)).mono ?_
  rintro e w4 ⟨Ay, cy, rfl, ho, hb⟩
  have hcy := ho.cap
  have HM4 : Hid (Ms w4 [(Ay, y), (By, y), (Ax, x), (Bx, x)]) := HM3.out.ownM ho hb
  clear HM3
  have HB4 : Hid (Below w.heap.size w w4) := HB3.out.trans (hb.mono HB3.out.size)
  clear HB3
  clear hb ho
  go_wp2_with fail
  refine (rfixM_any A2 n2 c2 z2 w.heap.size _ HB4.out.size (HZ2.out.keep HB4.out)).mono ?_
  rintro e w5 ⟨z, gz, lz, uz, Bz, dz, rfl, ho, hb⟩
  have hdz := ho.cap
  have Gz := Lib.hid gz
  have Uz := Lib.hid uz
  clear gz uz
  have HM5 : Hid (Ms w5 [(Bz, z), (Ay, y), (By, y), (Ax, x), (Bx, x)]) := HM4.out.ownM ho hb
  clear HM4
  have HB5 : Hid (Below w.heap.size w w5) := HB4.out.trans (hb.mono HB4.out.size)
  clear HB4
  clear hb ho
  go_wp2_with fail
  refine (toM_any Bz (List.length z) dz z w5.heap.size _ (Nat.le_refl _) (HM5.out.get (by simp)) (by omega) (fun x hx => by have := Uz.out x hx; omega)).mono ?_
  rintro e w6 ⟨Az, cz, rfl, ho, hb⟩
  have hcz := ho.cap
  have HM6 : Hid (Ms w6 [(Az, z), (Bz, z), (Ay, y), (By, y), (Ax, x), (Bx, x)]) := HM5.out.ownM ho hb
  clear HM5
  have HB6 : Hid (Below w.heap.size w w6) := HB5.out.trans (hb.mono HB5.out.size)
  clear HB5
  clear hb ho
  obtain ⟨m, hm⟩ : ∃ m, mergeF x y = m := ⟨_, rfl⟩
  obtain ⟨q, hq⟩ : ∃ q, mergeF y z = q := ⟨_, rfl⟩
  obtain ⟨t, ht⟩ : ∃ t, mergeF m z = t := ⟨_, rfl⟩
  have lm : List.length m ≤ 16 := by rw [← hm]; have := merge_len x y; omega
  have lq : List.length q ≤ 16 := by rw [← hq]; have := merge_len y z; omega
  have lt : List.length t ≤ 24 := by rw [← ht]; have := merge_len m z; omega
  have Gm : Hid (GoodM m) := by show GoodM m; rw [← hm]; exact Gx.out.merge Gy.out
  have Um : Hid (Up 192 m) := by show Up _ m; rw [← hm]; exact Ux.out.merge Uy.out
  have Uq : Hid (Up 192 q) := by show Up _ q; rw [← hq]; exact Uy.out.merge Uz.out
  have Ut : Hid (Up 288 t) := by show Up _ t; rw [← ht]; exact Um.out.merge Uz.out
  have HM0 := Lib.hid hm
  have HQ0 := Lib.hid hq
  have HT0 := Lib.hid ht
  have HMT : Hid (mergeF m y = m) := by show _ = _; rw [← hm]; exact merge_twice Gx.out Gy.out
  have HTT : Hid (mergeF x q = t) := by show _ = _; rw [← ht, ← hm, ← hq]; exact (merge_three Gx.out Gy.out Gz.out).symm
  have HRM : Hid (rightM m = true) := (rightM_iff m).mpr Gm.out
  have HOF : Hid (∀ u ∈ m, joinF (mOf x u.1) (mOf y u.1) = u.2) := fun u hu => by
    rw [← mOf_merge Gx.out.1 Gy.out.1, hm]
    exact mOf_mem Gm.out.1 hu
  clear hm hq ht
  go_wp2_with fail
  refine (mergeM_any Ax (List.length x) cx x Ay (List.length y) cy y w6.heap.size _ (Nat.le_refl _) (HM6.out.get (by simp)) (HM6.out.get (by simp)) hcx hcy (by omega) (fun x hx => by have := Ux.out x hx; omega) (fun x hx => by have := Uy.out x hx; omega)).mono ?_
  rw [HM0.out]
  rintro e w7 ⟨Am, cm, rfl, ho, hb⟩
  have hcm := ho.cap
  have HM7 : Hid (Ms w7 [(Am, m), (Az, z), (Bz, z), (Ay, y), (By, y), (Ax, x), (Bx, x)]) := HM6.out.ownM ho hb
  clear HM6
  have HB7 : Hid (Below w.heap.size w w7) := HB6.out.trans (hb.mono HB6.out.size)
  clear HB6
  clear hb ho
  go_wp2
  go_loopw [11] (fun i wr => ∃ k : Nat, k ≤ List.length m ∧ i = .int .i64 k ∧ Hid (Ms wr [(Am, m), (Az, z), (Bz, z), (Ay, y), (By, y), (Ax, x), (Bx, x)]) ∧ Hid (Below w.heap.size w wr)) (fun i _ => List.length m - (intOf i).toNat)
  case atStart => exact ⟨0, by omega, rfl, HM7, HB7⟩
  case round =>
    clear HM7 HB7
    obtain ⟨k, hk, rfl, HMS, HB⟩ := hrel
    by_cases hlt : k < List.length m
    · obtain ⟨blk, off, r, e, hbB, hmk, e0, e1, hf⟩ := (show MatAt wr wr.heap.size Am (List.length m) m from HMS.out.get (by simp)).get (Below.refl _ _) hlt
      have hi0 : (0 : Int) ≤ (k : Int) := by omega
      have hi1 : (k : Int) < (List.length m : Int) := by omega
      have HJV := Lib.hid (HOF.out _ (List.mem_of_getElem? hmk))
      have hvl : r.v.length ≤ 192 := Um.out _ (List.mem_of_getElem? hmk)
      have HVC := Lib.hid hf.vec
      obtain ⟨id, Ar, cr, v⟩ := r
      simp only at e0 e1 hvl HVC HJV
      have hl1 := Ux.out.of id
      have hl2 := Uy.out.of id
      clear hmk hf
      subst e
      obtain ⟨vx, hvx⟩ : ∃ vx, mOf x id = vx := ⟨_, rfl⟩
      obtain ⟨vy, hvy⟩ : ∃ vy, mOf y id = vy := ⟨_, rfl⟩
      rw [hvx] at HJV hl1
      rw [hvy] at HJV hl2
      have HVX := Lib.hid hvx
      have HVY := Lib.hid hvy
      clear hvx hvy
      generalize hL : v.length = L at *
      go_upto_region 6 with fail
      refine wp_region_held_drew (S := fun w' => w'.cell? ⟨blk, off + k * 2, none⟩ = some (.string id) ∧ w'.cell? ⟨blk, off + k * 2 + 1, none⟩ = some (.slice Ar L cr)) (by kernel_rfl) ⟨e0, e1⟩ (fun hHeld => ?_)
      refine wpAnyH_take (i := 0) (oi := { dst := some 30, op := Go.Op.move (Go.Operand.tmp 10), type := 29, pos := "law.go:96", after := #[], guard := none }) (v := ?_) rfl (by kernel_rfl) (by kernel_rfl) (by kernel_rfl) (fun _ _ _ h => h) (Or.inl ⟨rfl, ?_⟩) (by assumption) ?_
      rotate_left
      · intro wz hSw; (try dsimp only at hSw); go_simp; try (with_reducible rfl)
      try simp only [Act.put, List.setIfInBounds_toArray, List.set_cons_zero, List.set_cons_succ]
      refine wpAnyH_take (i := 1) (oi := { dst := some 31, op := Go.Op.move (Go.Operand.tmp 11), type := 3, pos := "law.go:96", after := #[], guard := none }) (v := ?_) rfl (by kernel_rfl) (by kernel_rfl) (by kernel_rfl) (fun _ _ _ h => h) (Or.inl ⟨rfl, ?_⟩) (by assumption) ?_
      rotate_left
      · intro wz hSw; (try dsimp only at hSw); go_simp; try (with_reducible rfl)
      try simp only [Act.put, List.setIfInBounds_toArray, List.set_cons_zero, List.set_cons_succ]
      refine wpAnyH_take (i := 2) (oi := { dst := some 32, op := Go.Op.indexAddr 29 (Go.Operand.tmp 30) (Go.Operand.tmp 31), type := 0, pos := "law.go:96", after := #[{ on := 0, ground := Go.Ground.data }, { on := 1, ground := Go.Ground.data }], guard := none }) (v := ?_) rfl (by kernel_rfl) (by kernel_rfl) (by kernel_rfl) (fun _ _ _ h => h) (Or.inl ⟨rfl, ?_⟩) (by assumption) ?_
      rotate_left
      · intro wz hSw; (try dsimp only at hSw); go_simp; try (with_reducible rfl)
      try simp only [Act.put, List.setIfInBounds_toArray, List.set_cons_zero, List.set_cons_succ]
      refine wpAnyH_take (i := 3) (oi := { dst := some 33, op := Go.Op.fieldAddr 63 (Go.Operand.tmp 32) 1, type := 0, pos := "law.go:96", after := #[{ on := 2, ground := Go.Ground.data }], guard := none }) (v := ?_) rfl (by kernel_rfl) (by kernel_rfl) (by kernel_rfl) (fun _ _ _ h => h) (Or.inl ⟨rfl, ?_⟩) (by assumption) ?_
      rotate_left
      · intro wz hSw; (try dsimp only at hSw); go_simp; try (with_reducible rfl)
      try simp only [Act.put, List.setIfInBounds_toArray, List.set_cons_zero, List.set_cons_succ]
      refine wpAnyH_take (i := 4) (oi := { dst := some 34, op := Go.Op.load 37 (Go.Operand.tmp 33), type := 37, pos := "law.go:96", after := #[{ on := 3, ground := Go.Ground.data }], guard := none }) (v := ?_) rfl (by kernel_rfl) (by kernel_rfl) (by kernel_rfl) (fun _ _ _ h => h) (Or.inl ⟨rfl, ?_⟩) (by assumption) ?_
      rotate_left
      · intro wz hSw; (try dsimp only at hSw); go_simp; try (with_reducible rfl)
      try simp only [Act.put, List.setIfInBounds_toArray, List.set_cons_zero, List.set_cons_succ]
      refine wpAnyH_take (i := 5) (oi := { dst := some 35, op := Go.Op.move (Go.Operand.tmp 7), type := 29, pos := "law.go:96", after := #[], guard := none }) (v := ?_) rfl (by kernel_rfl) (by kernel_rfl) (by kernel_rfl) (fun _ _ _ h => h) (Or.inl ⟨rfl, ?_⟩) (by assumption) ?_
      rotate_left
      · intro wz hSw; (try dsimp only at hSw); go_simp; try (with_reducible rfl)
      try simp only [Act.put, List.setIfInBounds_toArray, List.set_cons_zero, List.set_cons_succ]
      refine wpAnyH_take (i := 6) (oi := { dst := some 36, op := Go.Op.move (Go.Operand.tmp 10), type := 29, pos := "law.go:96", after := #[], guard := none }) (v := ?_) rfl (by kernel_rfl) (by kernel_rfl) (by kernel_rfl) (fun _ _ _ h => h) (Or.inl ⟨rfl, ?_⟩) (by assumption) ?_
      rotate_left
      · intro wz hSw; (try dsimp only at hSw); go_simp; try (with_reducible rfl)
      try simp only [Act.put, List.setIfInBounds_toArray, List.set_cons_zero, List.set_cons_succ]
      refine wpAnyH_take (i := 7) (oi := { dst := some 37, op := Go.Op.move (Go.Operand.tmp 11), type := 3, pos := "law.go:96", after := #[], guard := none }) (v := ?_) rfl (by kernel_rfl) (by kernel_rfl) (by kernel_rfl) (fun _ _ _ h => h) (Or.inl ⟨rfl, ?_⟩) (by assumption) ?_
      rotate_left
      · intro wz hSw; (try dsimp only at hSw); go_simp; try (with_reducible rfl)
      try simp only [Act.put, List.setIfInBounds_toArray, List.set_cons_zero, List.set_cons_succ]
      refine wpAnyH_take (i := 8) (oi := { dst := some 38, op := Go.Op.indexAddr 29 (Go.Operand.tmp 36) (Go.Operand.tmp 37), type := 0, pos := "law.go:96", after := #[{ on := 6, ground := Go.Ground.data }, { on := 7, ground := Go.Ground.data }], guard := none }) (v := ?_) rfl (by kernel_rfl) (by kernel_rfl) (by kernel_rfl) (fun _ _ _ h => h) (Or.inl ⟨rfl, ?_⟩) (by assumption) ?_
      rotate_left
      · intro wz hSw; (try dsimp only at hSw); go_simp; try (with_reducible rfl)
      try simp only [Act.put, List.setIfInBounds_toArray, List.set_cons_zero, List.set_cons_succ]
      refine wpAnyH_take (i := 9) (oi := { dst := some 39, op := Go.Op.fieldAddr 63 (Go.Operand.tmp 38) 0, type := 0, pos := "law.go:96", after := #[{ on := 8, ground := Go.Ground.data }], guard := none }) (v := ?_) rfl (by kernel_rfl) (by kernel_rfl) (by kernel_rfl) (fun _ _ _ h => h) (Or.inl ⟨rfl, ?_⟩) (by assumption) ?_
      rotate_left
      · intro wz hSw; (try dsimp only at hSw); go_simp; try (with_reducible rfl)
      try simp only [Act.put, List.setIfInBounds_toArray, List.set_cons_zero, List.set_cons_succ]
      refine wpAnyH_take (i := 10) (oi := { dst := some 40, op := Go.Op.load 35 (Go.Operand.tmp 39), type := 35, pos := "law.go:96", after := #[{ on := 9, ground := Go.Ground.data }], guard := none }) (v := ?_) rfl (by kernel_rfl) (by kernel_rfl) (by kernel_rfl) (fun _ _ _ h => h) (Or.inl ⟨rfl, ?_⟩) (by assumption) ?_
      rotate_left
      · intro wz hSw; (try dsimp only at hSw); go_simp; try (with_reducible rfl)
      try simp only [Act.put, List.setIfInBounds_toArray, List.set_cons_zero, List.set_cons_succ]
      refine wpAnyH_take (i := 12) (oi := { dst := some 42, op := Go.Op.move (Go.Operand.tmp 8), type := 29, pos := "law.go:96", after := #[], guard := none }) (v := ?_) rfl (by kernel_rfl) (by kernel_rfl) (by kernel_rfl) (fun _ _ _ h => h) (Or.inl ⟨rfl, ?_⟩) (by assumption) ?_
      rotate_left
      · intro wz hSw; (try dsimp only at hSw); go_simp; try (with_reducible rfl)
      try simp only [Act.put, List.setIfInBounds_toArray, List.set_cons_zero, List.set_cons_succ]
      refine wpAnyH_take (i := 13) (oi := { dst := some 43, op := Go.Op.move (Go.Operand.tmp 10), type := 29, pos := "law.go:96", after := #[], guard := none }) (v := ?_) rfl (by kernel_rfl) (by kernel_rfl) (by kernel_rfl) (fun _ _ _ h => h) (Or.inl ⟨rfl, ?_⟩) (by assumption) ?_
      rotate_left
      · intro wz hSw; (try dsimp only at hSw); go_simp; try (with_reducible rfl)
      try simp only [Act.put, List.setIfInBounds_toArray, List.set_cons_zero, List.set_cons_succ]
      refine wpAnyH_take (i := 14) (oi := { dst := some 44, op := Go.Op.move (Go.Operand.tmp 11), type := 3, pos := "law.go:96", after := #[], guard := none }) (v := ?_) rfl (by kernel_rfl) (by kernel_rfl) (by kernel_rfl) (fun _ _ _ h => h) (Or.inl ⟨rfl, ?_⟩) (by assumption) ?_
      rotate_left
      · intro wz hSw; (try dsimp only at hSw); go_simp; try (with_reducible rfl)
      try simp only [Act.put, List.setIfInBounds_toArray, List.set_cons_zero, List.set_cons_succ]
      refine wpAnyH_take (i := 15) (oi := { dst := some 45, op := Go.Op.indexAddr 29 (Go.Operand.tmp 43) (Go.Operand.tmp 44), type := 0, pos := "law.go:96", after := #[{ on := 13, ground := Go.Ground.data }, { on := 14, ground := Go.Ground.data }], guard := none }) (v := ?_) rfl (by kernel_rfl) (by kernel_rfl) (by kernel_rfl) (fun _ _ _ h => h) (Or.inl ⟨rfl, ?_⟩) (by assumption) ?_
      rotate_left
      · intro wz hSw; (try dsimp only at hSw); go_simp; try (with_reducible rfl)
      try simp only [Act.put, List.setIfInBounds_toArray, List.set_cons_zero, List.set_cons_succ]
      refine wpAnyH_take (i := 16) (oi := { dst := some 46, op := Go.Op.fieldAddr 63 (Go.Operand.tmp 45) 0, type := 0, pos := "law.go:96", after := #[{ on := 15, ground := Go.Ground.data }], guard := none }) (v := ?_) rfl (by kernel_rfl) (by kernel_rfl) (by kernel_rfl) (fun _ _ _ h => h) (Or.inl ⟨rfl, ?_⟩) (by assumption) ?_
      rotate_left
      · intro wz hSw; (try dsimp only at hSw); go_simp; try (with_reducible rfl)
      try simp only [Act.put, List.setIfInBounds_toArray, List.set_cons_zero, List.set_cons_succ]
      refine wpAnyH_take (i := 17) (oi := { dst := some 47, op := Go.Op.load 35 (Go.Operand.tmp 46), type := 35, pos := "law.go:96", after := #[{ on := 16, ground := Go.Ground.data }], guard := none }) (v := ?_) rfl (by kernel_rfl) (by kernel_rfl) (by kernel_rfl) (fun _ _ _ h => h) (Or.inl ⟨rfl, ?_⟩) (by assumption) ?_
      rotate_left
      · intro wz hSw; (try dsimp only at hSw); go_simp; try (with_reducible rfl)
      try simp only [Act.put, List.setIfInBounds_toArray, List.set_cons_zero, List.set_cons_succ]
      refine wpAnyH_ready (rs := [11]) (by kernel_rfl) (by simp) ?_
      refine (AllReadyH.cons (o := { dst := some 41, op := Go.Op.call { callee := Go.Callee.value (Go.Operand.func 23), args := #[Go.Operand.tmp 35, Go.Operand.tmp 40], argTypes := #[29, 35] }, type := 37, pos := "law.go:96", after := #[{ on := 5, ground := Go.Ground.data }, { on := 10, ground := Go.Ground.data }], guard := none }) rfl (fun K hK => ?_) AllReadyH.nil)
      go_simp
      go_at_call 23
      have HMD : Hid (Ms wr.drew [(some ⟨blk, off, none⟩, m), (Az, z), (Bz, z), (Ay, y), (By, y), (Ax, x), (Bx, x)]) := HMS.out.keep (drew_below _ _)
      refine (ofM_any Ax (List.length x) cx x id wr.drew.heap.size wr.drew (Nat.le_refl _) (HMD.out.get (by simp)) (by omega) Gx.out.1 (by rw [HVX.out]; omega)).mono ?_
      rw [HVX.out]
      rintro e u1 ⟨A5, c5, rfl, hc5, ho, hb0⟩
      have HV5 := Lib.hid (own_vec ho)
      have hb : Below wr.heap.size wr u1 := (drew_below _ _).trans hb0
      replace e0 := (hb.cell (p := ⟨blk, off + k * 2, none⟩) hbB).trans e0
      replace e1 := (hb.cell (p := ⟨blk, off + k * 2 + 1, none⟩) hbB).trans e1
      replace HMS := Lib.hid (HMS.out.keep hb)
      replace HVC := Lib.hid ((HVC.out.keep hb).more hb.size)
      replace HB := Lib.hid (HB.out.trans (hb.mono HB.out.size))
      replace hbB := Nat.lt_of_lt_of_le hbB hb.size
      clear ho hb hb0 HMD
      refine hK.out _ _ ⟨e0, e1⟩ (fun hHeld => ?_)
      clear hK K
      try simp only [Act.put, List.setIfInBounds_toArray, List.set_cons_zero, List.set_cons_succ]
      refine wpAnyH_ready (rs := [18]) (by kernel_rfl) (by simp) ?_
      refine (AllReadyH.cons (o := { dst := some 48, op := Go.Op.call { callee := Go.Callee.value (Go.Operand.func 23), args := #[Go.Operand.tmp 42, Go.Operand.tmp 47], argTypes := #[29, 35] }, type := 37, pos := "law.go:96", after := #[{ on := 12, ground := Go.Ground.data }, { on := 17, ground := Go.Ground.data }, { on := 11, ground := Go.Ground.chain }], guard := none }) rfl (fun K hK => ?_) AllReadyH.nil)
      go_simp
      go_at_call 23
      refine (ofM_any Ay (List.length y) cy y id u1.heap.size u1 (Nat.le_refl _) (HMS.out.get (by simp)) (by omega) Gy.out.1 (by rw [HVY.out]; omega)).mono ?_
      rw [HVY.out]
      rintro e u2 ⟨A6, c6, rfl, hc6, ho, hb⟩
      have HV6 := Lib.hid (own_vec ho)
      replace e0 := (hb.cell (p := ⟨blk, off + k * 2, none⟩) hbB).trans e0
      replace e1 := (hb.cell (p := ⟨blk, off + k * 2 + 1, none⟩) hbB).trans e1
      replace HMS := Lib.hid (HMS.out.keep hb)
      replace HVC := Lib.hid ((HVC.out.keep hb).more hb.size)
      replace HV5 := Lib.hid ((HV5.out.keep hb).more hb.size)
      replace HB := Lib.hid (HB.out.trans (hb.mono HB.out.size))
      replace hbB := Nat.lt_of_lt_of_le hbB hb.size
      clear ho hb
      refine hK.out _ _ ⟨e0, e1⟩ (fun hHeld => ?_)
      clear hK K
      try simp only [Act.put, List.setIfInBounds_toArray, List.set_cons_zero, List.set_cons_succ]
      refine wpAnyH_ready (rs := [19]) (by kernel_rfl) (by simp) ?_
      refine (AllReadyH.cons (o := { dst := some 49, op := Go.Op.call { callee := Go.Callee.value (Go.Operand.func 35), args := #[Go.Operand.tmp 41, Go.Operand.tmp 48], argTypes := #[37, 37] }, type := 37, pos := "law.go:96", after := #[{ on := 11, ground := Go.Ground.data }, { on := 18, ground := Go.Ground.data }, { on := 18, ground := Go.Ground.chain }], guard := none }) rfl (fun K hK => ?_) AllReadyH.nil)
      go_simp
      go_at_call 35
      refine (join_any A5 vx.length c5 vx A6 vy.length c6 vy u2.heap.size u2 (Nat.le_refl _) HV5.out HV6.out hc5 hc6 (by omega) (by omega)).mono ?_
      rw [HJV.out]
      unfold OwnVec
      rw [hL]
      rintro e u3 ⟨A7, c7, rfl, hc7, ho, hb⟩
      skip
      have HV7 : Hid (VecAt u3 u3.heap.size A7 L v) := own_vec ho
      replace e0 := (hb.cell (p := ⟨blk, off + k * 2, none⟩) hbB).trans e0
      replace e1 := (hb.cell (p := ⟨blk, off + k * 2 + 1, none⟩) hbB).trans e1
      replace HMS := Lib.hid (HMS.out.keep hb)
      replace HVC := Lib.hid ((HVC.out.keep hb).more hb.size)
      replace HB := Lib.hid (HB.out.trans (hb.mono HB.out.size))
      replace hbB := Nat.lt_of_lt_of_le hbB hb.size
      clear ho hb HV5 HV6
      refine hK.out _ _ ⟨e0, e1⟩ (fun hHeld => ?_)
      clear hK K
      try simp only [Act.put, List.setIfInBounds_toArray, List.set_cons_zero, List.set_cons_succ]
      refine wpAnyH_ready (rs := [20]) (by kernel_rfl) (by simp) ?_
      refine (AllReadyH.cons (o := { dst := some 50, op := Go.Op.call { callee := Go.Callee.value (Go.Operand.func 34), args := #[Go.Operand.tmp 34, Go.Operand.tmp 49], argTypes := #[37, 37] }, type := 4, pos := "law.go:96", after := #[{ on := 4, ground := Go.Ground.data }, { on := 19, ground := Go.Ground.data }, { on := 19, ground := Go.Ground.chain }], guard := none }) rfl (fun K hK => ?_) AllReadyH.nil)
      go_simp
      go_at_call 34
      refine (same_any Ar L cr v A7 L c7 v u3.heap.size u3 HVC.out HV7.out (by omega) (by omega)).mono ?_
      rw [same_self]
      rintro e u4 ⟨rfl, hd⟩
      have hb := drawn_below hd.out u3.heap.size
      replace e0 := (hb.cell (p := ⟨blk, off + k * 2, none⟩) hbB).trans e0
      replace e1 := (hb.cell (p := ⟨blk, off + k * 2 + 1, none⟩) hbB).trans e1
      replace HMS := Lib.hid (HMS.out.keep hb)
      replace HVC := Lib.hid ((HVC.out.keep hb).more hb.size)
      replace HB := Lib.hid (HB.out.trans (hb.mono HB.out.size))
      replace hbB := Nat.lt_of_lt_of_le hbB hb.size
      clear hd hb
      refine hK.out _ _ ⟨e0, e1⟩ (fun hHeld => ?_)
      clear hK K
      try simp only [Act.put, List.setIfInBounds_toArray, List.set_cons_zero, List.set_cons_succ]
      refine wpAnyH_take (i := 21) (oi := { dst := some 51, op := Go.Op.unOp Go.UnOp.not 4 (Go.Operand.tmp 50), type := 4, pos := "law.go:96", after := #[{ on := 20, ground := Go.Ground.data }], guard := none }) (v := ?_) rfl (by kernel_rfl) (by kernel_rfl) (by kernel_rfl) (fun _ _ _ h => h) (Or.inl ⟨rfl, ?_⟩) (by assumption) ?_
      rotate_left
      · intro wz hSw; (try dsimp only at hSw); go_simp; try (with_reducible rfl)
      try simp only [Act.put, List.setIfInBounds_toArray, List.set_cons_zero, List.set_cons_succ]
      refine wpAnyH_done (by kernel_rfl) ?_ _
      clear hHeld e0 e1 HVC HV7
      go_wp2_with fail
      go_roundw
      case rel => exact ⟨k + 1, by omega, by go_num, HMS, HB⟩
      case measure => simp [intOf]; omega
    · skip
      go_wp2_with fail
      refine (mtold_any _).mono ?_
      rintro e w9 ⟨rfl, hb⟩
      have HM9 : Hid (Ms w9 [(Am, m), (Az, z), (Bz, z), (Ay, y), (By, y), (Ax, x), (Bx, x)]) := HMS.out.keep hb
      clear HMS
      have HB9 : Hid (Below w.heap.size w w9) := HB.out.trans (hb.mono HB.out.size)
      clear HB
      clear hb
      go_wp2_with fail
      refine (mergeM_any Am (List.length m) cm m Az (List.length z) cz z w9.heap.size _ (Nat.le_refl _) (HM9.out.get (by simp)) (HM9.out.get (by simp)) hcm hcz (by omega) (fun x hx => by have := Um.out x hx; omega) (fun x hx => by have := Uz.out x hx; omega)).mono ?_
      rw [HT0.out]
      rintro e w10 ⟨At, ct, rfl, ho, hb⟩
      have hct := ho.cap
      have HM10 : Hid (Ms w10 [(At, t), (Am, m), (Az, z), (Bz, z), (Ay, y), (By, y), (Ax, x), (Bx, x)]) := HM9.out.ownM ho hb
      clear HM9
      have HB10 : Hid (Below w.heap.size w w10) := HB9.out.trans (hb.mono HB9.out.size)
      clear HB9
      clear hb ho
      go_wp2_with fail
      refine (mergeM_any Ay (List.length y) cy y Az (List.length z) cz z w10.heap.size _ (Nat.le_refl _) (HM10.out.get (by simp)) (HM10.out.get (by simp)) hcy hcz (by omega) (fun x hx => by have := Uy.out x hx; omega) (fun x hx => by have := Uz.out x hx; omega)).mono ?_
      rw [HQ0.out]
      rintro e w11 ⟨Aq, cq, rfl, ho, hb⟩
      have hcq := ho.cap
      have HM11 : Hid (Ms w11 [(Aq, q), (At, t), (Am, m), (Az, z), (Bz, z), (Ay, y), (By, y), (Ax, x), (Bx, x)]) := HM10.out.ownM ho hb
      clear HM10
      have HB11 : Hid (Below w.heap.size w w11) := HB10.out.trans (hb.mono HB10.out.size)
      clear HB10
      clear hb ho
      go_wp2_with fail
      refine (mergeM_any Ax (List.length x) cx x Aq (List.length q) cq q w11.heap.size _ (Nat.le_refl _) (HM11.out.get (by simp)) (HM11.out.get (by simp)) hcx hcq (by omega) (fun x hx => by have := Ux.out x hx; omega) (fun x hx => by have := Uq.out x hx; omega)).mono ?_
      rw [HTT.out]
      rintro e w12 ⟨Av, cv, rfl, ho, hb⟩
      have hcv := ho.cap
      have HM12 : Hid (Ms w12 [(Av, t), (Aq, q), (At, t), (Am, m), (Az, z), (Bz, z), (Ay, y), (By, y), (Ax, x), (Bx, x)]) := HM11.out.ownM ho hb
      clear HM11
      have HB12 : Hid (Below w.heap.size w w12) := HB11.out.trans (hb.mono HB11.out.size)
      clear HB11
      clear hb ho
      go_wp2_with fail
      refine (sameM_any At (List.length t) ct t Av (List.length t) cv t w12.heap.size _ (Nat.le_refl _) (HM12.out.get (by simp)) (HM12.out.get (by simp)) (by omega) (fun x hx => by have := Ut.out x hx; omega) (fun x hx => by have := Ut.out x hx; omega)).mono ?_
      rw [sameM_self]
      rintro e w13 ⟨rfl, hb⟩
      have HM13 : Hid (Ms w13 [(Av, t), (Aq, q), (At, t), (Am, m), (Az, z), (Bz, z), (Ay, y), (By, y), (Ax, x), (Bx, x)]) := HM12.out.keep hb
      clear HM12
      have HB13 : Hid (Below w.heap.size w w13) := HB12.out.trans (hb.mono HB12.out.size)
      clear HB12
      clear hb
      go_wp2_with fail
      refine (mergeM_any Am (List.length m) cm m Ay (List.length y) cy y w13.heap.size _ (Nat.le_refl _) (HM13.out.get (by simp)) (HM13.out.get (by simp)) hcm hcy (by omega) (fun x hx => by have := Um.out x hx; omega) (fun x hx => by have := Uy.out x hx; omega)).mono ?_
      rw [HMT.out]
      rintro e w14 ⟨Ap, cp, rfl, ho, hb⟩
      have hcp := ho.cap
      have HM14 : Hid (Ms w14 [(Ap, m), (Av, t), (Aq, q), (At, t), (Am, m), (Az, z), (Bz, z), (Ay, y), (By, y), (Ax, x), (Bx, x)]) := HM13.out.ownM ho hb
      clear HM13
      have HB14 : Hid (Below w.heap.size w w14) := HB13.out.trans (hb.mono HB13.out.size)
      clear HB13
      clear hb ho
      go_wp2_with fail
      refine (sameM_any Ap (List.length m) cp m Am (List.length m) cm m w14.heap.size _ (Nat.le_refl _) (HM14.out.get (by simp)) (HM14.out.get (by simp)) (by omega) (fun x hx => by have := Um.out x hx; omega) (fun x hx => by have := Um.out x hx; omega)).mono ?_
      rw [sameM_self]
      rintro e w15 ⟨rfl, hb⟩
      have HM15 : Hid (Ms w15 [(Ap, m), (Av, t), (Aq, q), (At, t), (Am, m), (Az, z), (Bz, z), (Ay, y), (By, y), (Ax, x), (Bx, x)]) := HM14.out.keep hb
      clear HM14
      have HB15 : Hid (Below w.heap.size w w15) := HB14.out.trans (hb.mono HB14.out.size)
      clear HB14
      clear hb
      go_wp2_with fail
      refine (rightM_any Am (List.length m) cm m w15.heap.size _ (Nat.le_refl _) (HM15.out.get (by simp)) (by omega) (fun x hx => by have := Um.out x hx; omega)).mono ?_
      rw [HRM.out]
      rintro e w16 ⟨rfl, hb⟩
      have HM16 : Hid (Ms w16 [(Ap, m), (Av, t), (Aq, q), (At, t), (Am, m), (Az, z), (Bz, z), (Ay, y), (By, y), (Ax, x), (Bx, x)]) := HM15.out.keep hb
      clear HM15
      have HB16 : Hid (Below w.heap.size w w16) := HB15.out.trans (hb.mono HB15.out.size)
      clear HB15
      clear hb
      go_wp2
      go_ret
      exact ⟨rfl, HB16.out⟩
end Go.Proofs.Ytbbcifcdimfdgaa
