/- The law ZoneHas. -/
import Derived.Test.YtkklikkmpmlnbaaDoorZo
import Derived.Test.YtkklikkmpmlnbaaDoorZp
import Derived.Test.YtkklikkmpmlnbaaDoorZl
import Derived.Test.YtkklikkmpmlnbaaDoorZj
namespace Go.Proofs.YtkklikkmpmlnbaaDoor
open Go.RowKit

theorem fix_len (rs : List RSt) : (fixZ rs).length ≤ 32 ∧ 0 < (fixZ rs).length := by
  have h := right_fold (fix_right rs)
  refine ⟨h.1, ?_⟩
  rcases Nat.eq_zero_or_pos (fixZ rs).length with h0 | h0
  · rw [List.eq_nil_of_length_eq_zero h0] at h
    cases h.2
  · exact h0
theorem right_small {rs : List RSt} (h : rightZ rs = true) : ∀ r ∈ rs, SmallR r := fun r hr => by
  obtain ⟨k, hk⟩ := List.getElem?_of_mem hr
  exact fits_small (run_step 0 0 h hk).1
theorem to_right {rs : List RSt} (h : rightZ rs = true) : LikeL (rs.map toS) rs := to_like fun r hr => small_64 (right_small h r hr)
set_option maxRecDepth 100000 in
set_option maxHeartbeats 60000000 in
theorem zoneHas_walk (A : Option Addr) (n c : Nat) (rs : List RSt) (px py : Int) (raw : Bool) (w : World) (hz : RowAt cellsR 4 w w.heap.size A n rs) (hn : n ≤ 9223372036854775807) (hg : Glob w) :
    Calls Tryd.prog 4 #[.slice A n c, .agg #[.int .i64 px, .int .i64 py], .bool raw] w fun e w' => e = .returned (.bool true) ∧ Below w.heap.size w w' := by
  have HG := Lib.hid hg
  have HFR := Lib.hid (fix_right rs)
  have hb0 : Below w.heap.size w (w.alloc (.cells #[.int .i64 px, .int .i64 py] 37)) := (Below.refl _ _).alloc (Nat.le_refl _) _
  have HFX := Lib.hid (fix_any A n c rs w.heap.size (w.alloc (.cells #[.int .i64 px, .int .i64 py] 37)) hb0.size (hz.keep hb0) hn)
  have hfl := fix_len rs
  generalize fixZ rs = qs at *
  clear hz hg
  go_enter Tryd.func4, Tryd.ntmps4
  go_upto_region 1 with fail
  have p0 : (w.alloc (.cells #[.int .i64 px, .int .i64 py] 37)).cell? ⟨w.heap.size, 0, none⟩ = some (.int .i64 px) := by simp [go_sem]
  have pf0 : (w.alloc (.cells #[.int .i64 px, .int .i64 py] 37)).frozen? ⟨w.heap.size, 0, none⟩ = false := by simp [go_sem]
  have p1 : (w.alloc (.cells #[.int .i64 px, .int .i64 py] 37)).cell? ⟨w.heap.size, 1, none⟩ = some (.int .i64 py) := by simp [go_sem]
  have pf1 : (w.alloc (.cells #[.int .i64 px, .int .i64 py] 37)).frozen? ⟨w.heap.size, 1, none⟩ = false := by simp [go_sem]
  have pz : w.heap.size < (w.alloc (.cells #[.int .i64 px, .int .i64 py] 37)).heap.size := by simp
  have HB := Lib.hid hb0
  clear hb0
  generalize (w.alloc (.cells #[.int .i64 px, .int .i64 py] 37)) = W0 at *
  generalize hP : w.heap.size = P at *
  go_wp2_with fail
  refine (HFX.out).mono ?_
  rintro e u1 ⟨A1, c1, rfl, ho, hb⟩
  have HO1 := Lib.hid ho
  have HNP : Hid (∀ g, Value.ownBlock (.slice A1 qs.length c1) = some g → P < g) := fun g e => by have := (ho.lt g e).1; omega
  clear ho HFX
  replace p0 := (hb.cell (p := ⟨P, 0, none⟩) pz).trans p0
  replace pf0 := (hb.frozen (p := ⟨P, 0, none⟩) pz).trans pf0
  replace p1 := (hb.cell (p := ⟨P, 1, none⟩) pz).trans p1
  replace pf1 := (hb.frozen (p := ⟨P, 1, none⟩) pz).trans pf1
  replace pz := Nat.lt_of_lt_of_le pz hb.size
  replace HB := Lib.hid (HB.out.trans (hb.mono (by have := HB.out.size; omega)))
  clear hb
  cases raw
  · skip
    go_upto_region 3 with fail
    go_wp2_with fail
    refine (refSpot_any px py _).mono ?_
    rintro e u5 ⟨rfl, hb⟩
    have hb5 := hb
    replace p0 := (hb.cell (p := ⟨P, 0, none⟩) pz).trans p0
    replace pf0 := (hb.frozen (p := ⟨P, 0, none⟩) pz).trans pf0
    replace p1 := (hb.cell (p := ⟨P, 1, none⟩) pz).trans p1
    replace pf1 := (hb.frozen (p := ⟨P, 1, none⟩) pz).trans pf1
    replace pz := Nat.lt_of_lt_of_le pz hb.size
    replace HB := Lib.hid (HB.out.trans (hb.mono (by have := HB.out.size; omega)))
    clear hb
    replace HO1 := Lib.hid (rown_below HO1.out hb5)
    clear hb5
    go_upto_region 4 with fail
    replace p0 : ((u5.setCell ⟨P, 0, none⟩ (.int .i64 (spotF px))).setCell ⟨P, 1, none⟩ (.int .i64 (spotF py))).cell? ⟨P, 0, none⟩ = some (.int .i64 (spotF px)) := by simp [go_sem, p0]
    replace p1 : ((u5.setCell ⟨P, 0, none⟩ (.int .i64 (spotF px))).setCell ⟨P, 1, none⟩ (.int .i64 (spotF py))).cell? ⟨P, 1, none⟩ = some (.int .i64 (spotF py)) := by simp [go_sem, p1]
    replace pf0 : ((u5.setCell ⟨P, 0, none⟩ (.int .i64 (spotF px))).setCell ⟨P, 1, none⟩ (.int .i64 (spotF py))).frozen? ⟨P, 0, none⟩ = false := by simp [go_sem, pf0]
    replace pf1 : ((u5.setCell ⟨P, 0, none⟩ (.int .i64 (spotF px))).setCell ⟨P, 1, none⟩ (.int .i64 (spotF py))).frozen? ⟨P, 1, none⟩ = false := by simp [go_sem, pf1]
    replace pz : P < ((u5.setCell ⟨P, 0, none⟩ (.int .i64 (spotF px))).setCell ⟨P, 1, none⟩ (.int .i64 (spotF py))).heap.size := by simpa using pz
    replace HB : Hid (Below P w ((u5.setCell ⟨P, 0, none⟩ (.int .i64 (spotF px))).setCell ⟨P, 1, none⟩ (.int .i64 (spotF py)))) := (HB.out.setCell (by simp) _).setCell (by simp) _
    have HR1 : Hid (RowAt cellsR 4 ((u5.setCell ⟨P, 0, none⟩ (.int .i64 (spotF px))).setCell ⟨P, 1, none⟩ (.int .i64 (spotF py))) ((u5.setCell ⟨P, 0, none⟩ (.int .i64 (spotF px))).setCell ⟨P, 1, none⟩ (.int .i64 (spotF py))).heap.size A1 qs.length qs) := own_row rowR (rown_grown (rown_grown HO1.out (grown_set (p := ⟨P, 0, none⟩) (.int .i64 (spotF px))) (Or.inr fun e => by have := HNP.out P e; omega)) (grown_set (p := ⟨P, 1, none⟩) (.int .i64 (spotF py))) (Or.inr fun e => by have := HNP.out P e; omega))
    clear HO1 HNP
    generalize ((u5.setCell ⟨P, 0, none⟩ (.int .i64 (spotF px))).setCell ⟨P, 1, none⟩ (.int .i64 (spotF py))) = W5 at *
    generalize spotF px = sx at *
    generalize spotF py = sy at *
    by_cases hcc0 : 1099511627776 < sx
    · skip
      go_wp2_with fail
      refine (told_any _ (HG.out.keep HB.out (by rw [← hP]; exact HG.out.big))).mono ?_
      rintro e u9 ⟨rfl, hb⟩
      have HB9 : Hid (Below w.heap.size w u9) := by show Below _ _ _; rw [hP]; exact HB.out.trans (hb.mono (by have := HB.out.size; omega))
      clear hb
      go_wp2
      go_ret
      exact ⟨rfl, HB9.out⟩
    by_cases hcc1 : sx < -1099511627776
    · skip
      go_wp2_with fail
      refine (told_any _ (HG.out.keep HB.out (by rw [← hP]; exact HG.out.big))).mono ?_
      rintro e u9 ⟨rfl, hb⟩
      have HB9 : Hid (Below w.heap.size w u9) := by show Below _ _ _; rw [hP]; exact HB.out.trans (hb.mono (by have := HB.out.size; omega))
      clear hb
      go_wp2
      go_ret
      exact ⟨rfl, HB9.out⟩
    by_cases hcc2 : 1099511627776 < sy
    · skip
      go_wp2_with fail
      refine (told_any _ (HG.out.keep HB.out (by rw [← hP]; exact HG.out.big))).mono ?_
      rintro e u9 ⟨rfl, hb⟩
      have HB9 : Hid (Below w.heap.size w u9) := by show Below _ _ _; rw [hP]; exact HB.out.trans (hb.mono (by have := HB.out.size; omega))
      clear hb
      go_wp2
      go_ret
      exact ⟨rfl, HB9.out⟩
    by_cases hcc3 : sy < -1099511627776
    · skip
      go_wp2_with fail
      refine (told_any _ (HG.out.keep HB.out (by rw [← hP]; exact HG.out.big))).mono ?_
      rintro e u9 ⟨rfl, hb⟩
      have HB9 : Hid (Below w.heap.size w u9) := by show Below _ _ _; rw [hP]; exact HB.out.trans (hb.mono (by have := HB.out.size; omega))
      clear hb
      go_wp2
      go_ret
      exact ⟨rfl, HB9.out⟩
    go_upto_region 6 with fail
    go_wp2_with fail
    refine (to_any A1 qs.length c1 qs _ _ (Nat.le_refl _) HR1.out (by omega)).mono ?_
    rintro e u2 ⟨A2, c2, rfl, ho, hb⟩
    have HR2 : Hid (RowAt cellsZ 3 u2 u2.heap.size A2 qs.length (qs.map toS)) := by have h := own_row rowZ ho; rw [List.length_map] at h; exact h
    replace HR1 := Lib.hid ((HR1.out.keep hb).more hb.size)
    replace p0 := (hb.cell (p := ⟨P, 0, none⟩) pz).trans p0
    replace pf0 := (hb.frozen (p := ⟨P, 0, none⟩) pz).trans pf0
    replace p1 := (hb.cell (p := ⟨P, 1, none⟩) pz).trans p1
    replace pf1 := (hb.frozen (p := ⟨P, 1, none⟩) pz).trans pf1
    replace pz := Nat.lt_of_lt_of_le pz hb.size
    replace HB := Lib.hid (HB.out.trans (hb.mono (by have := HB.out.size; omega)))
    clear hb
    rw [List.length_map]
    clear ho
    have HLK := Lib.hid (to_right HFR.out)
    have hx53 : (sx).natAbs < 2 ^ 53 := by omega
    have hy53 : (sy).natAbs < 2 ^ 53 := by omega
    have HNX := Lib.hid (num_fl (sx) hx53)
    have HNY := Lib.hid (num_fl (sy) hy53)
    have HSPO := Lib.hid (lawSpot_any (sx) (sy))
    have HWH := Lib.hid (whole_any (fl (sx)) (fl (sy)))
    rw [whole_num HNX.out hx53 HNY.out hy53] at HWH
    have HRW := Lib.hid (rwhole_any (sx) (sy))
    generalize hfx : fl (sx) = fx at *
    generalize hfy : fl (sy) = fy at *
    generalize wholeF (sx) (sy) = bw at *
    go_upto_region 7 with fail
    refine wp_region_held_drew (S := fun w' => w'.cell? ⟨P, 0, none⟩ = some (.int .i64 sx) ∧ w'.cell? ⟨P, 1, none⟩ = some (.int .i64 sy)) (by kernel_rfl) ⟨p0, p1⟩ (fun hHeld => ?_)
    refine wpAnyH_ready (rs := [0]) (by kernel_rfl) (by simp) ?_
    refine (AllReadyH.cons (o := { dst := some 35, op := Go.Op.call { callee := Go.Callee.value (Go.Operand.func 11), args := #[], argTypes := #[] }, type := 4, pos := "law.go:71", after := #[], guard := none }) rfl (fun K hK => ?_) AllReadyH.nil)
    go_simp
    refine (told_any _ (HG.out.keep (below_drewz HB.out) (by rw [← hP]; exact HG.out.big))).mono ?_
    rintro e v0 ⟨rfl, hb⟩
    have hbv := below_via (Below.refl u2.heap.size u2) hb (Nat.le_refl _) ⟨rfl, rfl, rfl, rfl⟩
    replace HR1 := Lib.hid ((HR1.out.keep hbv).more hbv.size)
    replace HR2 := Lib.hid ((HR2.out.keep hbv).more hbv.size)
    replace p0 := (hbv.cell (p := ⟨P, 0, none⟩) pz).trans p0
    replace pf0 := (hbv.frozen (p := ⟨P, 0, none⟩) pz).trans pf0
    replace p1 := (hbv.cell (p := ⟨P, 1, none⟩) pz).trans p1
    replace pf1 := (hbv.frozen (p := ⟨P, 1, none⟩) pz).trans pf1
    replace pz := Nat.lt_of_lt_of_le pz hbv.size
    replace HB := Lib.hid (HB.out.trans (hbv.mono (by have := HB.out.size; omega)))
    clear hb hbv
    refine hK.out _ _ ⟨p0, p1⟩ (fun hHeld => ?_)
    clear hK K
    try simp only [Act.put, List.setIfInBounds_toArray, List.set_cons_zero, List.set_cons_succ]
    refine wpAnyH_take (i := 1) (oi := { dst := some 36, op := Go.Op.move (Go.Operand.tmp 35), type := 4, pos := "law.go:71", after := #[{ on := 0, ground := Go.Ground.data }, { on := 0, ground := Go.Ground.chain }], guard := none }) (v := ?_) rfl (by kernel_rfl) (by kernel_rfl) (by kernel_rfl) (fun _ _ _ h => h) (Or.inl ⟨rfl, ?_⟩) (by assumption) ?_
    rotate_left
    · intro wz hSw; (try dsimp only at hSw); go_simp; try (with_reducible rfl)
    try simp only [Act.put, List.setIfInBounds_toArray, List.set_cons_zero, List.set_cons_succ]
    refine wpAnyH_take (i := 2) (oi := { dst := some 37, op := Go.Op.move (Go.Operand.tmp 7), type := 26, pos := "law.go:71", after := #[{ on := 1, ground := Go.Ground.guard }], guard := some (1, true) }) (v := ?_) rfl (by kernel_rfl) (by kernel_rfl) (by kernel_rfl) (fun _ _ _ h => h) (Or.inl ⟨rfl, ?_⟩) (by assumption) ?_
    rotate_left
    · intro wz hSw; (try dsimp only at hSw); go_simp; try (with_reducible rfl)
    try simp only [Act.put, List.setIfInBounds_toArray, List.set_cons_zero, List.set_cons_succ]
    refine wpAnyH_ready (rs := [3]) (by kernel_rfl) (by simp) ?_
    refine (AllReadyH.cons (o := { dst := some 38, op := Go.Op.call { callee := Go.Callee.value (Go.Operand.func 16), args := #[Go.Operand.tmp 37], argTypes := #[26] }, type := 4, pos := "law.go:71", after := #[{ on := 2, ground := Go.Ground.data }, { on := 1, ground := Go.Ground.chain }, { on := 1, ground := Go.Ground.guard }], guard := some (1, true) }) rfl (fun K hK => ?_) AllReadyH.nil)
    go_simp
    refine (rightZ_any A2 qs.length c2 (qs.map toS) qs _ _ (Nat.le_refl _) HR2.out HLK.out).mono ?_
    rw [HFR.out]
    rintro e v3 ⟨rfl, hb⟩
    have hbv := hb
    replace HR1 := Lib.hid ((HR1.out.keep hbv).more hbv.size)
    replace HR2 := Lib.hid ((HR2.out.keep hbv).more hbv.size)
    replace p0 := (hbv.cell (p := ⟨P, 0, none⟩) pz).trans p0
    replace pf0 := (hbv.frozen (p := ⟨P, 0, none⟩) pz).trans pf0
    replace p1 := (hbv.cell (p := ⟨P, 1, none⟩) pz).trans p1
    replace pf1 := (hbv.frozen (p := ⟨P, 1, none⟩) pz).trans pf1
    replace pz := Nat.lt_of_lt_of_le pz hbv.size
    replace HB := Lib.hid (HB.out.trans (hbv.mono (by have := HB.out.size; omega)))
    clear hb hbv
    refine hK.out _ _ ⟨p0, p1⟩ (fun hHeld => ?_)
    clear hK K
    try simp only [Act.put, List.setIfInBounds_toArray, List.set_cons_zero, List.set_cons_succ]
    refine wpAnyH_take (i := 4) (oi := { dst := some 39, op := Go.Op.pick (Go.Operand.tmp 36) (Go.Operand.tmp 38) (Go.Operand.const (Go.Value.bool false)), type := 4, pos := "law.go:71", after := #[{ on := 1, ground := Go.Ground.data }, { on := 3, ground := Go.Ground.data }], guard := none }) (v := ?_) rfl (by kernel_rfl) (by kernel_rfl) (by kernel_rfl) (fun _ _ _ h => h) (Or.inl ⟨rfl, ?_⟩) (by assumption) ?_
    rotate_left
    · intro wz hSw; (try dsimp only at hSw); go_simp; try (with_reducible rfl)
    try simp only [Act.put, List.setIfInBounds_toArray, List.set_cons_zero, List.set_cons_succ]
    refine wpAnyH_take (i := 5) (oi := { dst := some 40, op := Go.Op.move (Go.Operand.tmp 39), type := 4, pos := "law.go:71", after := #[{ on := 4, ground := Go.Ground.data }, { on := 3, ground := Go.Ground.chain }], guard := none }) (v := ?_) rfl (by kernel_rfl) (by kernel_rfl) (by kernel_rfl) (fun _ _ _ h => h) (Or.inl ⟨rfl, ?_⟩) (by assumption) ?_
    rotate_left
    · intro wz hSw; (try dsimp only at hSw); go_simp; try (with_reducible rfl)
    try simp only [Act.put, List.setIfInBounds_toArray, List.set_cons_zero, List.set_cons_succ]
    refine wpAnyH_take (i := 6) (oi := { dst := some 41, op := Go.Op.move (Go.Operand.tmp 7), type := 26, pos := "law.go:71", after := #[{ on := 5, ground := Go.Ground.guard }], guard := some (5, true) }) (v := ?_) rfl (by kernel_rfl) (by kernel_rfl) (by kernel_rfl) (fun _ _ _ h => h) (Or.inl ⟨rfl, ?_⟩) (by assumption) ?_
    rotate_left
    · intro wz hSw; (try dsimp only at hSw); go_simp; try (with_reducible rfl)
    try simp only [Act.put, List.setIfInBounds_toArray, List.set_cons_zero, List.set_cons_succ]
    refine wpAnyH_take (i := 7) (oi := { dst := some 42, op := Go.Op.load 37 (Go.Operand.tmp 4), type := 37, pos := "law.go:71", after := #[{ on := 5, ground := Go.Ground.guard }], guard := some (5, true) }) (v := ?_) rfl (by kernel_rfl) (by kernel_rfl) (by kernel_rfl) (fun _ _ _ h => h) (Or.inl ⟨rfl, ?_⟩) (by assumption) ?_
    rotate_left
    · intro wz hSw; (try dsimp only at hSw); go_simp; try (with_reducible rfl)
    try simp only [Act.put, List.setIfInBounds_toArray, List.set_cons_zero, List.set_cons_succ]
    refine wpAnyH_take (i := 10) (oi := { dst := some 45, op := Go.Op.move (Go.Operand.tmp 0), type := 22, pos := "law.go:71", after := #[{ on := 5, ground := Go.Ground.guard }], guard := some (5, true) }) (v := ?_) rfl (by kernel_rfl) (by kernel_rfl) (by kernel_rfl) (fun _ _ _ h => h) (Or.inl ⟨rfl, ?_⟩) (by assumption) ?_
    rotate_left
    · intro wz hSw; (try dsimp only at hSw); go_simp; try (with_reducible rfl)
    try simp only [Act.put, List.setIfInBounds_toArray, List.set_cons_zero, List.set_cons_succ]
    refine wpAnyH_take (i := 11) (oi := { dst := some 46, op := Go.Op.load 37 (Go.Operand.tmp 4), type := 37, pos := "law.go:71", after := #[{ on := 5, ground := Go.Ground.guard }], guard := some (5, true) }) (v := ?_) rfl (by kernel_rfl) (by kernel_rfl) (by kernel_rfl) (fun _ _ _ h => h) (Or.inl ⟨rfl, ?_⟩) (by assumption) ?_
    rotate_left
    · intro wz hSw; (try dsimp only at hSw); go_simp; try (with_reducible rfl)
    try simp only [Act.put, List.setIfInBounds_toArray, List.set_cons_zero, List.set_cons_succ]
    refine wpAnyH_ready (rs := [8]) (by kernel_rfl) (by simp) ?_
    refine (AllReadyH.cons (o := { dst := some 43, op := Go.Op.call { callee := Go.Callee.value (Go.Operand.func 24), args := #[Go.Operand.tmp 42], argTypes := #[37] }, type := 41, pos := "law.go:71", after := #[{ on := 7, ground := Go.Ground.data }, { on := 5, ground := Go.Ground.chain }, { on := 5, ground := Go.Ground.guard }], guard := some (5, true) }) rfl (fun K hK => ?_) AllReadyH.nil)
    go_simp
    refine (HSPO.out _).mono ?_
    rintro e v8 ⟨rfl, hb⟩
    have hbv := hb
    replace HR1 := Lib.hid ((HR1.out.keep hbv).more hbv.size)
    replace HR2 := Lib.hid ((HR2.out.keep hbv).more hbv.size)
    replace p0 := (hbv.cell (p := ⟨P, 0, none⟩) pz).trans p0
    replace pf0 := (hbv.frozen (p := ⟨P, 0, none⟩) pz).trans pf0
    replace p1 := (hbv.cell (p := ⟨P, 1, none⟩) pz).trans p1
    replace pf1 := (hbv.frozen (p := ⟨P, 1, none⟩) pz).trans pf1
    replace pz := Nat.lt_of_lt_of_le pz hbv.size
    replace HB := Lib.hid (HB.out.trans (hbv.mono (by have := HB.out.size; omega)))
    clear hb hbv
    refine hK.out _ _ ⟨p0, p1⟩ (fun hHeld => ?_)
    clear hK K
    try simp only [Act.put, List.setIfInBounds_toArray, List.set_cons_zero, List.set_cons_succ]
    refine wpAnyH_ready (rs := [9]) (by kernel_rfl) (by simp) ?_
    refine (AllReadyH.cons (o := { dst := some 44, op := Go.Op.call { callee := Go.Callee.value (Go.Operand.func 23), args := #[Go.Operand.tmp 41, Go.Operand.tmp 43], argTypes := #[26, 41] }, type := 4, pos := "law.go:71", after := #[{ on := 6, ground := Go.Ground.data }, { on := 8, ground := Go.Ground.data }, { on := 8, ground := Go.Ground.chain }, { on := 5, ground := Go.Ground.guard }], guard := some (5, true) }) rfl (fun K hK => ?_) AllReadyH.nil)
    go_simp
    refine (has_any A2 qs.length c2 (qs.map toS) qs fx fy (sx) (sy) HNX.out HNY.out hx53 hy53 _ _ (Nat.le_refl _) HR2.out HLK.out).mono ?_
    generalize hbh : hasZ qs (sx) (sy) = bh at *
    rintro e v9 ⟨rfl, hb⟩
    have hbv := hb
    replace HR1 := Lib.hid ((HR1.out.keep hbv).more hbv.size)
    replace HR2 := Lib.hid ((HR2.out.keep hbv).more hbv.size)
    replace p0 := (hbv.cell (p := ⟨P, 0, none⟩) pz).trans p0
    replace pf0 := (hbv.frozen (p := ⟨P, 0, none⟩) pz).trans pf0
    replace p1 := (hbv.cell (p := ⟨P, 1, none⟩) pz).trans p1
    replace pf1 := (hbv.frozen (p := ⟨P, 1, none⟩) pz).trans pf1
    replace pz := Nat.lt_of_lt_of_le pz hbv.size
    replace HB := Lib.hid (HB.out.trans (hbv.mono (by have := HB.out.size; omega)))
    clear hb hbv
    refine hK.out _ _ ⟨p0, p1⟩ (fun hHeld => ?_)
    clear hK K
    try simp only [Act.put, List.setIfInBounds_toArray, List.set_cons_zero, List.set_cons_succ]
    refine wpAnyH_ready (rs := [12]) (by kernel_rfl) (by simp) ?_
    refine (AllReadyH.cons (o := { dst := some 47, op := Go.Op.call { callee := Go.Callee.value (Go.Operand.func 25), args := #[Go.Operand.tmp 45, Go.Operand.tmp 46], argTypes := #[22, 37] }, type := 4, pos := "law.go:71", after := #[{ on := 10, ground := Go.Ground.data }, { on := 11, ground := Go.Ground.data }, { on := 9, ground := Go.Ground.chain }, { on := 5, ground := Go.Ground.guard }], guard := some (5, true) }) rfl (fun K hK => ?_) AllReadyH.nil)
    go_simp
    have HRH := rhas_any A1 qs.length c1 qs (sx) (sy) _ v9 (Nat.le_refl _) HR1.out (by omega)
    rw [hbh] at HRH
    refine HRH.mono ?_
    clear HRH
    rintro e v12 ⟨rfl, hb⟩
    have hbv := hb
    replace HR1 := Lib.hid ((HR1.out.keep hbv).more hbv.size)
    replace HR2 := Lib.hid ((HR2.out.keep hbv).more hbv.size)
    replace p0 := (hbv.cell (p := ⟨P, 0, none⟩) pz).trans p0
    replace pf0 := (hbv.frozen (p := ⟨P, 0, none⟩) pz).trans pf0
    replace p1 := (hbv.cell (p := ⟨P, 1, none⟩) pz).trans p1
    replace pf1 := (hbv.frozen (p := ⟨P, 1, none⟩) pz).trans pf1
    replace pz := Nat.lt_of_lt_of_le pz hbv.size
    replace HB := Lib.hid (HB.out.trans (hbv.mono (by have := HB.out.size; omega)))
    clear hb hbv
    refine hK.out _ _ ⟨p0, p1⟩ (fun hHeld => ?_)
    clear hK K
    try simp only [Act.put, List.setIfInBounds_toArray, List.set_cons_zero, List.set_cons_succ]
    refine wpAnyH_take (i := 13) (oi := { dst := some 48, op := Go.Op.binOp Go.BinOp.eql 4 (Go.Operand.tmp 44) (Go.Operand.tmp 47) 4, type := 4, pos := "law.go:71", after := #[{ on := 9, ground := Go.Ground.data }, { on := 12, ground := Go.Ground.data }, { on := 5, ground := Go.Ground.guard }], guard := some (5, true) }) (v := ?_) rfl (by kernel_rfl) (by kernel_rfl) (by kernel_rfl) (fun _ _ _ h => h) (Or.inl ⟨rfl, ?_⟩) (by assumption) ?_
    rotate_left
    · intro wz hSw; (try dsimp only at hSw); go_simp; try (with_reducible rfl)
    try simp only [Act.put, List.setIfInBounds_toArray, List.set_cons_zero, List.set_cons_succ]
    refine wpAnyH_take (i := 14) (oi := { dst := some 49, op := Go.Op.pick (Go.Operand.tmp 40) (Go.Operand.tmp 48) (Go.Operand.const (Go.Value.bool false)), type := 4, pos := "law.go:71", after := #[{ on := 5, ground := Go.Ground.data }, { on := 13, ground := Go.Ground.data }], guard := none }) (v := ?_) rfl (by kernel_rfl) (by kernel_rfl) (by kernel_rfl) (fun _ _ _ h => h) (Or.inl ⟨rfl, ?_⟩) (by assumption) ?_
    rotate_left
    · intro wz hSw; (try dsimp only at hSw); go_simp; try (with_reducible rfl)
    try simp only [Act.put, List.setIfInBounds_toArray, List.set_cons_zero, List.set_cons_succ]
    refine wpAnyH_take (i := 15) (oi := { dst := some 50, op := Go.Op.move (Go.Operand.tmp 49), type := 4, pos := "law.go:71", after := #[{ on := 14, ground := Go.Ground.data }, { on := 12, ground := Go.Ground.chain }], guard := none }) (v := ?_) rfl (by kernel_rfl) (by kernel_rfl) (by kernel_rfl) (fun _ _ _ h => h) (Or.inl ⟨rfl, ?_⟩) (by assumption) ?_
    rotate_left
    · intro wz hSw; (try dsimp only at hSw); go_simp; try (with_reducible rfl)
    try simp only [Act.put, List.setIfInBounds_toArray, List.set_cons_zero, List.set_cons_succ]
    refine wpAnyH_take (i := 16) (oi := { dst := some 51, op := Go.Op.load 37 (Go.Operand.tmp 4), type := 37, pos := "law.go:71", after := #[{ on := 15, ground := Go.Ground.guard }], guard := some (15, true) }) (v := ?_) rfl (by kernel_rfl) (by kernel_rfl) (by kernel_rfl) (fun _ _ _ h => h) (Or.inl ⟨rfl, ?_⟩) (by assumption) ?_
    rotate_left
    · intro wz hSw; (try dsimp only at hSw); go_simp; try (with_reducible rfl)
    try simp only [Act.put, List.setIfInBounds_toArray, List.set_cons_zero, List.set_cons_succ]
    refine wpAnyH_take (i := 19) (oi := { dst := some 54, op := Go.Op.load 37 (Go.Operand.tmp 4), type := 37, pos := "law.go:71", after := #[{ on := 15, ground := Go.Ground.guard }], guard := some (15, true) }) (v := ?_) rfl (by kernel_rfl) (by kernel_rfl) (by kernel_rfl) (fun _ _ _ h => h) (Or.inl ⟨rfl, ?_⟩) (by assumption) ?_
    rotate_left
    · intro wz hSw; (try dsimp only at hSw); go_simp; try (with_reducible rfl)
    try simp only [Act.put, List.setIfInBounds_toArray, List.set_cons_zero, List.set_cons_succ]
    refine wpAnyH_ready (rs := [17]) (by kernel_rfl) (by simp) ?_
    refine (AllReadyH.cons (o := { dst := some 52, op := Go.Op.call { callee := Go.Callee.value (Go.Operand.func 24), args := #[Go.Operand.tmp 51], argTypes := #[37] }, type := 41, pos := "law.go:71", after := #[{ on := 16, ground := Go.Ground.data }, { on := 15, ground := Go.Ground.chain }, { on := 15, ground := Go.Ground.guard }], guard := some (15, true) }) rfl (fun K hK => ?_) AllReadyH.nil)
    go_simp
    refine (HSPO.out _).mono ?_
    rintro e v17 ⟨rfl, hb⟩
    have hbv := hb
    replace HR1 := Lib.hid ((HR1.out.keep hbv).more hbv.size)
    replace HR2 := Lib.hid ((HR2.out.keep hbv).more hbv.size)
    replace p0 := (hbv.cell (p := ⟨P, 0, none⟩) pz).trans p0
    replace pf0 := (hbv.frozen (p := ⟨P, 0, none⟩) pz).trans pf0
    replace p1 := (hbv.cell (p := ⟨P, 1, none⟩) pz).trans p1
    replace pf1 := (hbv.frozen (p := ⟨P, 1, none⟩) pz).trans pf1
    replace pz := Nat.lt_of_lt_of_le pz hbv.size
    replace HB := Lib.hid (HB.out.trans (hbv.mono (by have := HB.out.size; omega)))
    clear hb hbv
    refine hK.out _ _ ⟨p0, p1⟩ (fun hHeld => ?_)
    clear hK K
    try simp only [Act.put, List.setIfInBounds_toArray, List.set_cons_zero, List.set_cons_succ]
    refine wpAnyH_ready (rs := [18]) (by kernel_rfl) (by simp) ?_
    refine (AllReadyH.cons (o := { dst := some 53, op := Go.Op.call { callee := Go.Callee.value (Go.Operand.func 26), args := #[Go.Operand.tmp 52], argTypes := #[41] }, type := 4, pos := "law.go:71", after := #[{ on := 17, ground := Go.Ground.data }, { on := 17, ground := Go.Ground.chain }, { on := 15, ground := Go.Ground.guard }], guard := some (15, true) }) rfl (fun K hK => ?_) AllReadyH.nil)
    go_simp
    refine (HWH.out _).mono ?_
    rintro e v18 ⟨rfl, rfl⟩
    refine hK.out _ _ ⟨p0, p1⟩ (fun hHeld => ?_)
    clear hK K
    try simp only [Act.put, List.setIfInBounds_toArray, List.set_cons_zero, List.set_cons_succ]
    refine wpAnyH_ready (rs := [20]) (by kernel_rfl) (by simp) ?_
    refine (AllReadyH.cons (o := { dst := some 55, op := Go.Op.call { callee := Go.Callee.value (Go.Operand.func 27), args := #[Go.Operand.tmp 54], argTypes := #[37] }, type := 4, pos := "law.go:71", after := #[{ on := 19, ground := Go.Ground.data }, { on := 18, ground := Go.Ground.chain }, { on := 15, ground := Go.Ground.guard }], guard := some (15, true) }) rfl (fun K hK => ?_) AllReadyH.nil)
    go_simp
    refine (HRW.out _).mono ?_
    rintro e v20 ⟨rfl, hb⟩
    have hbv := hb
    replace HR1 := Lib.hid ((HR1.out.keep hbv).more hbv.size)
    replace HR2 := Lib.hid ((HR2.out.keep hbv).more hbv.size)
    replace p0 := (hbv.cell (p := ⟨P, 0, none⟩) pz).trans p0
    replace pf0 := (hbv.frozen (p := ⟨P, 0, none⟩) pz).trans pf0
    replace p1 := (hbv.cell (p := ⟨P, 1, none⟩) pz).trans p1
    replace pf1 := (hbv.frozen (p := ⟨P, 1, none⟩) pz).trans pf1
    replace pz := Nat.lt_of_lt_of_le pz hbv.size
    replace HB := Lib.hid (HB.out.trans (hbv.mono (by have := HB.out.size; omega)))
    clear hb hbv
    refine hK.out _ _ ⟨p0, p1⟩ (fun hHeld => ?_)
    clear hK K
    try simp only [Act.put, List.setIfInBounds_toArray, List.set_cons_zero, List.set_cons_succ]
    refine wpAnyH_take (i := 21) (oi := { dst := some 56, op := Go.Op.binOp Go.BinOp.eql 4 (Go.Operand.tmp 53) (Go.Operand.tmp 55) 4, type := 4, pos := "law.go:71", after := #[{ on := 18, ground := Go.Ground.data }, { on := 20, ground := Go.Ground.data }, { on := 15, ground := Go.Ground.guard }], guard := some (15, true) }) (v := ?_) rfl (by kernel_rfl) (by kernel_rfl) (by kernel_rfl) (fun _ _ _ h => h) (Or.inl ⟨rfl, ?_⟩) (by assumption) ?_
    rotate_left
    · intro wz hSw; (try dsimp only at hSw); go_simp; try (with_reducible rfl)
    try simp only [Act.put, List.setIfInBounds_toArray, List.set_cons_zero, List.set_cons_succ]
    refine wpAnyH_take (i := 22) (oi := { dst := some 57, op := Go.Op.pick (Go.Operand.tmp 50) (Go.Operand.tmp 56) (Go.Operand.const (Go.Value.bool false)), type := 4, pos := "law.go:71", after := #[{ on := 15, ground := Go.Ground.data }, { on := 21, ground := Go.Ground.data }], guard := none }) (v := ?_) rfl (by kernel_rfl) (by kernel_rfl) (by kernel_rfl) (fun _ _ _ h => h) (Or.inl ⟨rfl, ?_⟩) (by assumption) ?_
    rotate_left
    · intro wz hSw; (try dsimp only at hSw); go_simp; try (with_reducible rfl)
    try simp only [Act.put, List.setIfInBounds_toArray, List.set_cons_zero, List.set_cons_succ]
    refine wpAnyH_take (i := 23) (oi := { dst := some 58, op := Go.Op.move (Go.Operand.tmp 57), type := 4, pos := "law.go:71", after := #[{ on := 22, ground := Go.Ground.data }, { on := 20, ground := Go.Ground.chain }], guard := none }) (v := ?_) rfl (by kernel_rfl) (by kernel_rfl) (by kernel_rfl) (fun _ _ _ h => h) (Or.inl ⟨rfl, ?_⟩) (by assumption) ?_
    rotate_left
    · intro wz hSw; (try dsimp only at hSw); go_simp; try (with_reducible rfl)
    try simp only [Act.put, List.setIfInBounds_toArray, List.set_cons_zero, List.set_cons_succ]
    refine wpAnyH_take (i := 24) (oi := { dst := some 59, op := Go.Op.move (Go.Operand.tmp 7), type := 26, pos := "law.go:71", after := #[{ on := 23, ground := Go.Ground.guard }], guard := some (23, true) }) (v := ?_) rfl (by kernel_rfl) (by kernel_rfl) (by kernel_rfl) (fun _ _ _ h => h) (Or.inl ⟨rfl, ?_⟩) (by assumption) ?_
    rotate_left
    · intro wz hSw; (try dsimp only at hSw); go_simp; try (with_reducible rfl)
    try simp only [Act.put, List.setIfInBounds_toArray, List.set_cons_zero, List.set_cons_succ]
    refine wpAnyH_take (i := 26) (oi := { dst := some 61, op := Go.Op.move (Go.Operand.tmp 0), type := 22, pos := "law.go:71", after := #[{ on := 23, ground := Go.Ground.guard }], guard := some (23, true) }) (v := ?_) rfl (by kernel_rfl) (by kernel_rfl) (by kernel_rfl) (fun _ _ _ h => h) (Or.inl ⟨rfl, ?_⟩) (by assumption) ?_
    rotate_left
    · intro wz hSw; (try dsimp only at hSw); go_simp; try (with_reducible rfl)
    try simp only [Act.put, List.setIfInBounds_toArray, List.set_cons_zero, List.set_cons_succ]
    refine wpAnyH_ready (rs := [25]) (by kernel_rfl) (by simp) ?_
    refine (AllReadyH.cons (o := { dst := some 60, op := Go.Op.call { callee := Go.Callee.value (Go.Operand.func 20), args := #[Go.Operand.tmp 59], argTypes := #[26] }, type := 22, pos := "law.go:71", after := #[{ on := 24, ground := Go.Ground.data }, { on := 23, ground := Go.Ground.chain }, { on := 23, ground := Go.Ground.guard }], guard := some (23, true) }) rfl (fun K hK => ?_) AllReadyH.nil)
    go_simp
    refine (from_any A2 qs.length c2 (qs.map toS) qs _ _ (Nat.le_refl _) HR2.out HLK.out (right_small HFR.out) (by omega)).mono ?_
    rintro e v25 ⟨A3, c3, rfl, ho, hb⟩
    have HR3 : Hid (RowAt cellsR 4 v25 v25.heap.size A3 qs.length qs) := own_row rowR ho
    clear ho
    have hbv := hb
    replace HR1 := Lib.hid ((HR1.out.keep hbv).more hbv.size)
    replace HR2 := Lib.hid ((HR2.out.keep hbv).more hbv.size)
    replace p0 := (hbv.cell (p := ⟨P, 0, none⟩) pz).trans p0
    replace pf0 := (hbv.frozen (p := ⟨P, 0, none⟩) pz).trans pf0
    replace p1 := (hbv.cell (p := ⟨P, 1, none⟩) pz).trans p1
    replace pf1 := (hbv.frozen (p := ⟨P, 1, none⟩) pz).trans pf1
    replace pz := Nat.lt_of_lt_of_le pz hbv.size
    replace HB := Lib.hid (HB.out.trans (hbv.mono (by have := HB.out.size; omega)))
    clear hb hbv
    refine hK.out _ _ ⟨p0, p1⟩ (fun hHeld => ?_)
    clear hK K
    try simp only [Act.put, List.setIfInBounds_toArray, List.set_cons_zero, List.set_cons_succ]
    refine wpAnyH_ready (rs := [27]) (by kernel_rfl) (by simp) ?_
    refine (AllReadyH.cons (o := { dst := some 62, op := Go.Op.call { callee := Go.Callee.value (Go.Operand.func 19), args := #[Go.Operand.tmp 60, Go.Operand.tmp 61], argTypes := #[22, 22] }, type := 4, pos := "law.go:71", after := #[{ on := 25, ground := Go.Ground.data }, { on := 26, ground := Go.Ground.data }, { on := 25, ground := Go.Ground.chain }, { on := 23, ground := Go.Ground.guard }], guard := some (23, true) }) rfl (fun K hK => ?_) AllReadyH.nil)
    go_simp
    refine (rsame_any A3 qs.length c3 qs A1 qs.length c1 qs _ _ HR3.out HR1.out (by omega)).mono ?_
    rw [decide_eq_true (rfl : qs = qs)]
    rintro e v27 ⟨rfl, qd, rfl⟩
    replace p0 : (v25.drewN qd).cell? ⟨P, 0, none⟩ = _ := p0
    replace p1 : (v25.drewN qd).cell? ⟨P, 1, none⟩ = _ := p1
    replace HB := Lib.hid (below_dN HB.out qd)
    refine hK.out _ _ ⟨p0, p1⟩ (fun hHeld => ?_)
    clear hK K
    try simp only [Act.put, List.setIfInBounds_toArray, List.set_cons_zero, List.set_cons_succ]
    refine wpAnyH_take (i := 28) (oi := { dst := some 63, op := Go.Op.pick (Go.Operand.tmp 58) (Go.Operand.tmp 62) (Go.Operand.const (Go.Value.bool false)), type := 4, pos := "law.go:71", after := #[{ on := 23, ground := Go.Ground.data }, { on := 27, ground := Go.Ground.data }], guard := none }) (v := ?_) rfl (by kernel_rfl) (by kernel_rfl) (by kernel_rfl) (fun _ _ _ h => h) (Or.inl ⟨rfl, ?_⟩) (by assumption) ?_
    rotate_left
    · intro wz hSw; (try dsimp only at hSw); go_simp; try (with_reducible rfl)
    try simp only [Act.put, List.setIfInBounds_toArray, List.set_cons_zero, List.set_cons_succ]
    refine wpAnyH_take (i := 29) (oi := { dst := some 6, op := Go.Op.assign (Go.Operand.tmp 63), type := 4, pos := "law.go:71", after := #[{ on := 28, ground := Go.Ground.data }, { on := 27, ground := Go.Ground.chain }, { on := 0, ground := Go.Ground.phase }, { on := 1, ground := Go.Ground.phase }, { on := 2, ground := Go.Ground.phase }, { on := 3, ground := Go.Ground.phase }, { on := 4, ground := Go.Ground.phase }, { on := 5, ground := Go.Ground.phase }, { on := 6, ground := Go.Ground.phase }, { on := 7, ground := Go.Ground.phase }, { on := 8, ground := Go.Ground.phase }, { on := 9, ground := Go.Ground.phase }, { on := 10, ground := Go.Ground.phase }, { on := 11, ground := Go.Ground.phase }, { on := 12, ground := Go.Ground.phase }, { on := 13, ground := Go.Ground.phase }, { on := 14, ground := Go.Ground.phase }, { on := 15, ground := Go.Ground.phase }, { on := 16, ground := Go.Ground.phase }, { on := 17, ground := Go.Ground.phase }, { on := 18, ground := Go.Ground.phase }, { on := 19, ground := Go.Ground.phase }, { on := 20, ground := Go.Ground.phase }, { on := 21, ground := Go.Ground.phase }, { on := 22, ground := Go.Ground.phase }, { on := 23, ground := Go.Ground.phase }, { on := 24, ground := Go.Ground.phase }, { on := 25, ground := Go.Ground.phase }, { on := 26, ground := Go.Ground.phase }, { on := 27, ground := Go.Ground.phase }, { on := 28, ground := Go.Ground.phase }], guard := none }) (v := ?_) rfl (by kernel_rfl) (by kernel_rfl) (by kernel_rfl) (fun _ _ _ h => h) (Or.inl ⟨rfl, ?_⟩) (by assumption) ?_
    rotate_left
    · intro wz hSw; (try dsimp only at hSw); go_simp; try (with_reducible rfl)
    try simp only [Act.put, List.setIfInBounds_toArray, List.set_cons_zero, List.set_cons_succ]
    refine wpAnyH_done (by kernel_rfl) ?_ _
    have HB9 : Hid (∀ u, Below P w u → Below w.heap.size w u) := fun u h => by rw [hP]; exact h
    go_wp2
    go_ret
    exact ⟨rfl, HB9.out _ HB.out⟩
  · skip
    have HR1 : Hid (RowAt cellsR 4 u1 u1.heap.size A1 qs.length qs) := own_row rowR HO1.out
    clear HO1 HNP
    go_upto_region 4 with fail
    by_cases hcc0 : 1099511627776 < px
    · skip
      go_wp2_with fail
      refine (told_any _ (HG.out.keep HB.out (by rw [← hP]; exact HG.out.big))).mono ?_
      rintro e u9 ⟨rfl, hb⟩
      have HB9 : Hid (Below w.heap.size w u9) := by show Below _ _ _; rw [hP]; exact HB.out.trans (hb.mono (by have := HB.out.size; omega))
      clear hb
      go_wp2
      go_ret
      exact ⟨rfl, HB9.out⟩
    by_cases hcc1 : px < -1099511627776
    · skip
      go_wp2_with fail
      refine (told_any _ (HG.out.keep HB.out (by rw [← hP]; exact HG.out.big))).mono ?_
      rintro e u9 ⟨rfl, hb⟩
      have HB9 : Hid (Below w.heap.size w u9) := by show Below _ _ _; rw [hP]; exact HB.out.trans (hb.mono (by have := HB.out.size; omega))
      clear hb
      go_wp2
      go_ret
      exact ⟨rfl, HB9.out⟩
    by_cases hcc2 : 1099511627776 < py
    · skip
      go_wp2_with fail
      refine (told_any _ (HG.out.keep HB.out (by rw [← hP]; exact HG.out.big))).mono ?_
      rintro e u9 ⟨rfl, hb⟩
      have HB9 : Hid (Below w.heap.size w u9) := by show Below _ _ _; rw [hP]; exact HB.out.trans (hb.mono (by have := HB.out.size; omega))
      clear hb
      go_wp2
      go_ret
      exact ⟨rfl, HB9.out⟩
    by_cases hcc3 : py < -1099511627776
    · skip
      go_wp2_with fail
      refine (told_any _ (HG.out.keep HB.out (by rw [← hP]; exact HG.out.big))).mono ?_
      rintro e u9 ⟨rfl, hb⟩
      have HB9 : Hid (Below w.heap.size w u9) := by show Below _ _ _; rw [hP]; exact HB.out.trans (hb.mono (by have := HB.out.size; omega))
      clear hb
      go_wp2
      go_ret
      exact ⟨rfl, HB9.out⟩
    go_upto_region 6 with fail
    go_wp2_with fail
    refine (to_any A1 qs.length c1 qs _ _ (Nat.le_refl _) HR1.out (by omega)).mono ?_
    rintro e u2 ⟨A2, c2, rfl, ho, hb⟩
    have HR2 : Hid (RowAt cellsZ 3 u2 u2.heap.size A2 qs.length (qs.map toS)) := by have h := own_row rowZ ho; rw [List.length_map] at h; exact h
    replace HR1 := Lib.hid ((HR1.out.keep hb).more hb.size)
    replace p0 := (hb.cell (p := ⟨P, 0, none⟩) pz).trans p0
    replace pf0 := (hb.frozen (p := ⟨P, 0, none⟩) pz).trans pf0
    replace p1 := (hb.cell (p := ⟨P, 1, none⟩) pz).trans p1
    replace pf1 := (hb.frozen (p := ⟨P, 1, none⟩) pz).trans pf1
    replace pz := Nat.lt_of_lt_of_le pz hb.size
    replace HB := Lib.hid (HB.out.trans (hb.mono (by have := HB.out.size; omega)))
    clear hb
    rw [List.length_map]
    clear ho
    have HLK := Lib.hid (to_right HFR.out)
    have hx53 : (px).natAbs < 2 ^ 53 := by omega
    have hy53 : (py).natAbs < 2 ^ 53 := by omega
    have HNX := Lib.hid (num_fl (px) hx53)
    have HNY := Lib.hid (num_fl (py) hy53)
    have HSPO := Lib.hid (lawSpot_any (px) (py))
    have HWH := Lib.hid (whole_any (fl (px)) (fl (py)))
    rw [whole_num HNX.out hx53 HNY.out hy53] at HWH
    have HRW := Lib.hid (rwhole_any (px) (py))
    generalize hfx : fl (px) = fx at *
    generalize hfy : fl (py) = fy at *
    generalize wholeF (px) (py) = bw at *
    go_upto_region 7 with fail
    refine wp_region_held_drew (S := fun w' => w'.cell? ⟨P, 0, none⟩ = some (.int .i64 px) ∧ w'.cell? ⟨P, 1, none⟩ = some (.int .i64 py)) (by kernel_rfl) ⟨p0, p1⟩ (fun hHeld => ?_)
    refine wpAnyH_ready (rs := [0]) (by kernel_rfl) (by simp) ?_
    refine (AllReadyH.cons (o := { dst := some 35, op := Go.Op.call { callee := Go.Callee.value (Go.Operand.func 11), args := #[], argTypes := #[] }, type := 4, pos := "law.go:71", after := #[], guard := none }) rfl (fun K hK => ?_) AllReadyH.nil)
    go_simp
    refine (told_any _ (HG.out.keep (below_drewz HB.out) (by rw [← hP]; exact HG.out.big))).mono ?_
    rintro e v0 ⟨rfl, hb⟩
    have hbv := below_via (Below.refl u2.heap.size u2) hb (Nat.le_refl _) ⟨rfl, rfl, rfl, rfl⟩
    replace HR1 := Lib.hid ((HR1.out.keep hbv).more hbv.size)
    replace HR2 := Lib.hid ((HR2.out.keep hbv).more hbv.size)
    replace p0 := (hbv.cell (p := ⟨P, 0, none⟩) pz).trans p0
    replace pf0 := (hbv.frozen (p := ⟨P, 0, none⟩) pz).trans pf0
    replace p1 := (hbv.cell (p := ⟨P, 1, none⟩) pz).trans p1
    replace pf1 := (hbv.frozen (p := ⟨P, 1, none⟩) pz).trans pf1
    replace pz := Nat.lt_of_lt_of_le pz hbv.size
    replace HB := Lib.hid (HB.out.trans (hbv.mono (by have := HB.out.size; omega)))
    clear hb hbv
    refine hK.out _ _ ⟨p0, p1⟩ (fun hHeld => ?_)
    clear hK K
    try simp only [Act.put, List.setIfInBounds_toArray, List.set_cons_zero, List.set_cons_succ]
    refine wpAnyH_take (i := 1) (oi := { dst := some 36, op := Go.Op.move (Go.Operand.tmp 35), type := 4, pos := "law.go:71", after := #[{ on := 0, ground := Go.Ground.data }, { on := 0, ground := Go.Ground.chain }], guard := none }) (v := ?_) rfl (by kernel_rfl) (by kernel_rfl) (by kernel_rfl) (fun _ _ _ h => h) (Or.inl ⟨rfl, ?_⟩) (by assumption) ?_
    rotate_left
    · intro wz hSw; (try dsimp only at hSw); go_simp; try (with_reducible rfl)
    try simp only [Act.put, List.setIfInBounds_toArray, List.set_cons_zero, List.set_cons_succ]
    refine wpAnyH_take (i := 2) (oi := { dst := some 37, op := Go.Op.move (Go.Operand.tmp 7), type := 26, pos := "law.go:71", after := #[{ on := 1, ground := Go.Ground.guard }], guard := some (1, true) }) (v := ?_) rfl (by kernel_rfl) (by kernel_rfl) (by kernel_rfl) (fun _ _ _ h => h) (Or.inl ⟨rfl, ?_⟩) (by assumption) ?_
    rotate_left
    · intro wz hSw; (try dsimp only at hSw); go_simp; try (with_reducible rfl)
    try simp only [Act.put, List.setIfInBounds_toArray, List.set_cons_zero, List.set_cons_succ]
    refine wpAnyH_ready (rs := [3]) (by kernel_rfl) (by simp) ?_
    refine (AllReadyH.cons (o := { dst := some 38, op := Go.Op.call { callee := Go.Callee.value (Go.Operand.func 16), args := #[Go.Operand.tmp 37], argTypes := #[26] }, type := 4, pos := "law.go:71", after := #[{ on := 2, ground := Go.Ground.data }, { on := 1, ground := Go.Ground.chain }, { on := 1, ground := Go.Ground.guard }], guard := some (1, true) }) rfl (fun K hK => ?_) AllReadyH.nil)
    go_simp
    refine (rightZ_any A2 qs.length c2 (qs.map toS) qs _ _ (Nat.le_refl _) HR2.out HLK.out).mono ?_
    rw [HFR.out]
    rintro e v3 ⟨rfl, hb⟩
    have hbv := hb
    replace HR1 := Lib.hid ((HR1.out.keep hbv).more hbv.size)
    replace HR2 := Lib.hid ((HR2.out.keep hbv).more hbv.size)
    replace p0 := (hbv.cell (p := ⟨P, 0, none⟩) pz).trans p0
    replace pf0 := (hbv.frozen (p := ⟨P, 0, none⟩) pz).trans pf0
    replace p1 := (hbv.cell (p := ⟨P, 1, none⟩) pz).trans p1
    replace pf1 := (hbv.frozen (p := ⟨P, 1, none⟩) pz).trans pf1
    replace pz := Nat.lt_of_lt_of_le pz hbv.size
    replace HB := Lib.hid (HB.out.trans (hbv.mono (by have := HB.out.size; omega)))
    clear hb hbv
    refine hK.out _ _ ⟨p0, p1⟩ (fun hHeld => ?_)
    clear hK K
    try simp only [Act.put, List.setIfInBounds_toArray, List.set_cons_zero, List.set_cons_succ]
    refine wpAnyH_take (i := 4) (oi := { dst := some 39, op := Go.Op.pick (Go.Operand.tmp 36) (Go.Operand.tmp 38) (Go.Operand.const (Go.Value.bool false)), type := 4, pos := "law.go:71", after := #[{ on := 1, ground := Go.Ground.data }, { on := 3, ground := Go.Ground.data }], guard := none }) (v := ?_) rfl (by kernel_rfl) (by kernel_rfl) (by kernel_rfl) (fun _ _ _ h => h) (Or.inl ⟨rfl, ?_⟩) (by assumption) ?_
    rotate_left
    · intro wz hSw; (try dsimp only at hSw); go_simp; try (with_reducible rfl)
    try simp only [Act.put, List.setIfInBounds_toArray, List.set_cons_zero, List.set_cons_succ]
    refine wpAnyH_take (i := 5) (oi := { dst := some 40, op := Go.Op.move (Go.Operand.tmp 39), type := 4, pos := "law.go:71", after := #[{ on := 4, ground := Go.Ground.data }, { on := 3, ground := Go.Ground.chain }], guard := none }) (v := ?_) rfl (by kernel_rfl) (by kernel_rfl) (by kernel_rfl) (fun _ _ _ h => h) (Or.inl ⟨rfl, ?_⟩) (by assumption) ?_
    rotate_left
    · intro wz hSw; (try dsimp only at hSw); go_simp; try (with_reducible rfl)
    try simp only [Act.put, List.setIfInBounds_toArray, List.set_cons_zero, List.set_cons_succ]
    refine wpAnyH_take (i := 6) (oi := { dst := some 41, op := Go.Op.move (Go.Operand.tmp 7), type := 26, pos := "law.go:71", after := #[{ on := 5, ground := Go.Ground.guard }], guard := some (5, true) }) (v := ?_) rfl (by kernel_rfl) (by kernel_rfl) (by kernel_rfl) (fun _ _ _ h => h) (Or.inl ⟨rfl, ?_⟩) (by assumption) ?_
    rotate_left
    · intro wz hSw; (try dsimp only at hSw); go_simp; try (with_reducible rfl)
    try simp only [Act.put, List.setIfInBounds_toArray, List.set_cons_zero, List.set_cons_succ]
    refine wpAnyH_take (i := 7) (oi := { dst := some 42, op := Go.Op.load 37 (Go.Operand.tmp 4), type := 37, pos := "law.go:71", after := #[{ on := 5, ground := Go.Ground.guard }], guard := some (5, true) }) (v := ?_) rfl (by kernel_rfl) (by kernel_rfl) (by kernel_rfl) (fun _ _ _ h => h) (Or.inl ⟨rfl, ?_⟩) (by assumption) ?_
    rotate_left
    · intro wz hSw; (try dsimp only at hSw); go_simp; try (with_reducible rfl)
    try simp only [Act.put, List.setIfInBounds_toArray, List.set_cons_zero, List.set_cons_succ]
    refine wpAnyH_take (i := 10) (oi := { dst := some 45, op := Go.Op.move (Go.Operand.tmp 0), type := 22, pos := "law.go:71", after := #[{ on := 5, ground := Go.Ground.guard }], guard := some (5, true) }) (v := ?_) rfl (by kernel_rfl) (by kernel_rfl) (by kernel_rfl) (fun _ _ _ h => h) (Or.inl ⟨rfl, ?_⟩) (by assumption) ?_
    rotate_left
    · intro wz hSw; (try dsimp only at hSw); go_simp; try (with_reducible rfl)
    try simp only [Act.put, List.setIfInBounds_toArray, List.set_cons_zero, List.set_cons_succ]
    refine wpAnyH_take (i := 11) (oi := { dst := some 46, op := Go.Op.load 37 (Go.Operand.tmp 4), type := 37, pos := "law.go:71", after := #[{ on := 5, ground := Go.Ground.guard }], guard := some (5, true) }) (v := ?_) rfl (by kernel_rfl) (by kernel_rfl) (by kernel_rfl) (fun _ _ _ h => h) (Or.inl ⟨rfl, ?_⟩) (by assumption) ?_
    rotate_left
    · intro wz hSw; (try dsimp only at hSw); go_simp; try (with_reducible rfl)
    try simp only [Act.put, List.setIfInBounds_toArray, List.set_cons_zero, List.set_cons_succ]
    refine wpAnyH_ready (rs := [8]) (by kernel_rfl) (by simp) ?_
    refine (AllReadyH.cons (o := { dst := some 43, op := Go.Op.call { callee := Go.Callee.value (Go.Operand.func 24), args := #[Go.Operand.tmp 42], argTypes := #[37] }, type := 41, pos := "law.go:71", after := #[{ on := 7, ground := Go.Ground.data }, { on := 5, ground := Go.Ground.chain }, { on := 5, ground := Go.Ground.guard }], guard := some (5, true) }) rfl (fun K hK => ?_) AllReadyH.nil)
    go_simp
    refine (HSPO.out _).mono ?_
    rintro e v8 ⟨rfl, hb⟩
    have hbv := hb
    replace HR1 := Lib.hid ((HR1.out.keep hbv).more hbv.size)
    replace HR2 := Lib.hid ((HR2.out.keep hbv).more hbv.size)
    replace p0 := (hbv.cell (p := ⟨P, 0, none⟩) pz).trans p0
    replace pf0 := (hbv.frozen (p := ⟨P, 0, none⟩) pz).trans pf0
    replace p1 := (hbv.cell (p := ⟨P, 1, none⟩) pz).trans p1
    replace pf1 := (hbv.frozen (p := ⟨P, 1, none⟩) pz).trans pf1
    replace pz := Nat.lt_of_lt_of_le pz hbv.size
    replace HB := Lib.hid (HB.out.trans (hbv.mono (by have := HB.out.size; omega)))
    clear hb hbv
    refine hK.out _ _ ⟨p0, p1⟩ (fun hHeld => ?_)
    clear hK K
    try simp only [Act.put, List.setIfInBounds_toArray, List.set_cons_zero, List.set_cons_succ]
    refine wpAnyH_ready (rs := [9]) (by kernel_rfl) (by simp) ?_
    refine (AllReadyH.cons (o := { dst := some 44, op := Go.Op.call { callee := Go.Callee.value (Go.Operand.func 23), args := #[Go.Operand.tmp 41, Go.Operand.tmp 43], argTypes := #[26, 41] }, type := 4, pos := "law.go:71", after := #[{ on := 6, ground := Go.Ground.data }, { on := 8, ground := Go.Ground.data }, { on := 8, ground := Go.Ground.chain }, { on := 5, ground := Go.Ground.guard }], guard := some (5, true) }) rfl (fun K hK => ?_) AllReadyH.nil)
    go_simp
    refine (has_any A2 qs.length c2 (qs.map toS) qs fx fy (px) (py) HNX.out HNY.out hx53 hy53 _ _ (Nat.le_refl _) HR2.out HLK.out).mono ?_
    generalize hbh : hasZ qs (px) (py) = bh at *
    rintro e v9 ⟨rfl, hb⟩
    have hbv := hb
    replace HR1 := Lib.hid ((HR1.out.keep hbv).more hbv.size)
    replace HR2 := Lib.hid ((HR2.out.keep hbv).more hbv.size)
    replace p0 := (hbv.cell (p := ⟨P, 0, none⟩) pz).trans p0
    replace pf0 := (hbv.frozen (p := ⟨P, 0, none⟩) pz).trans pf0
    replace p1 := (hbv.cell (p := ⟨P, 1, none⟩) pz).trans p1
    replace pf1 := (hbv.frozen (p := ⟨P, 1, none⟩) pz).trans pf1
    replace pz := Nat.lt_of_lt_of_le pz hbv.size
    replace HB := Lib.hid (HB.out.trans (hbv.mono (by have := HB.out.size; omega)))
    clear hb hbv
    refine hK.out _ _ ⟨p0, p1⟩ (fun hHeld => ?_)
    clear hK K
    try simp only [Act.put, List.setIfInBounds_toArray, List.set_cons_zero, List.set_cons_succ]
    refine wpAnyH_ready (rs := [12]) (by kernel_rfl) (by simp) ?_
    refine (AllReadyH.cons (o := { dst := some 47, op := Go.Op.call { callee := Go.Callee.value (Go.Operand.func 25), args := #[Go.Operand.tmp 45, Go.Operand.tmp 46], argTypes := #[22, 37] }, type := 4, pos := "law.go:71", after := #[{ on := 10, ground := Go.Ground.data }, { on := 11, ground := Go.Ground.data }, { on := 9, ground := Go.Ground.chain }, { on := 5, ground := Go.Ground.guard }], guard := some (5, true) }) rfl (fun K hK => ?_) AllReadyH.nil)
    go_simp
    have HRH := rhas_any A1 qs.length c1 qs (px) (py) _ v9 (Nat.le_refl _) HR1.out (by omega)
    rw [hbh] at HRH
    refine HRH.mono ?_
    clear HRH
    rintro e v12 ⟨rfl, hb⟩
    have hbv := hb
    replace HR1 := Lib.hid ((HR1.out.keep hbv).more hbv.size)
    replace HR2 := Lib.hid ((HR2.out.keep hbv).more hbv.size)
    replace p0 := (hbv.cell (p := ⟨P, 0, none⟩) pz).trans p0
    replace pf0 := (hbv.frozen (p := ⟨P, 0, none⟩) pz).trans pf0
    replace p1 := (hbv.cell (p := ⟨P, 1, none⟩) pz).trans p1
    replace pf1 := (hbv.frozen (p := ⟨P, 1, none⟩) pz).trans pf1
    replace pz := Nat.lt_of_lt_of_le pz hbv.size
    replace HB := Lib.hid (HB.out.trans (hbv.mono (by have := HB.out.size; omega)))
    clear hb hbv
    refine hK.out _ _ ⟨p0, p1⟩ (fun hHeld => ?_)
    clear hK K
    try simp only [Act.put, List.setIfInBounds_toArray, List.set_cons_zero, List.set_cons_succ]
    refine wpAnyH_take (i := 13) (oi := { dst := some 48, op := Go.Op.binOp Go.BinOp.eql 4 (Go.Operand.tmp 44) (Go.Operand.tmp 47) 4, type := 4, pos := "law.go:71", after := #[{ on := 9, ground := Go.Ground.data }, { on := 12, ground := Go.Ground.data }, { on := 5, ground := Go.Ground.guard }], guard := some (5, true) }) (v := ?_) rfl (by kernel_rfl) (by kernel_rfl) (by kernel_rfl) (fun _ _ _ h => h) (Or.inl ⟨rfl, ?_⟩) (by assumption) ?_
    rotate_left
    · intro wz hSw; (try dsimp only at hSw); go_simp; try (with_reducible rfl)
    try simp only [Act.put, List.setIfInBounds_toArray, List.set_cons_zero, List.set_cons_succ]
    refine wpAnyH_take (i := 14) (oi := { dst := some 49, op := Go.Op.pick (Go.Operand.tmp 40) (Go.Operand.tmp 48) (Go.Operand.const (Go.Value.bool false)), type := 4, pos := "law.go:71", after := #[{ on := 5, ground := Go.Ground.data }, { on := 13, ground := Go.Ground.data }], guard := none }) (v := ?_) rfl (by kernel_rfl) (by kernel_rfl) (by kernel_rfl) (fun _ _ _ h => h) (Or.inl ⟨rfl, ?_⟩) (by assumption) ?_
    rotate_left
    · intro wz hSw; (try dsimp only at hSw); go_simp; try (with_reducible rfl)
    try simp only [Act.put, List.setIfInBounds_toArray, List.set_cons_zero, List.set_cons_succ]
    refine wpAnyH_take (i := 15) (oi := { dst := some 50, op := Go.Op.move (Go.Operand.tmp 49), type := 4, pos := "law.go:71", after := #[{ on := 14, ground := Go.Ground.data }, { on := 12, ground := Go.Ground.chain }], guard := none }) (v := ?_) rfl (by kernel_rfl) (by kernel_rfl) (by kernel_rfl) (fun _ _ _ h => h) (Or.inl ⟨rfl, ?_⟩) (by assumption) ?_
    rotate_left
    · intro wz hSw; (try dsimp only at hSw); go_simp; try (with_reducible rfl)
    try simp only [Act.put, List.setIfInBounds_toArray, List.set_cons_zero, List.set_cons_succ]
    refine wpAnyH_take (i := 16) (oi := { dst := some 51, op := Go.Op.load 37 (Go.Operand.tmp 4), type := 37, pos := "law.go:71", after := #[{ on := 15, ground := Go.Ground.guard }], guard := some (15, true) }) (v := ?_) rfl (by kernel_rfl) (by kernel_rfl) (by kernel_rfl) (fun _ _ _ h => h) (Or.inl ⟨rfl, ?_⟩) (by assumption) ?_
    rotate_left
    · intro wz hSw; (try dsimp only at hSw); go_simp; try (with_reducible rfl)
    try simp only [Act.put, List.setIfInBounds_toArray, List.set_cons_zero, List.set_cons_succ]
    refine wpAnyH_take (i := 19) (oi := { dst := some 54, op := Go.Op.load 37 (Go.Operand.tmp 4), type := 37, pos := "law.go:71", after := #[{ on := 15, ground := Go.Ground.guard }], guard := some (15, true) }) (v := ?_) rfl (by kernel_rfl) (by kernel_rfl) (by kernel_rfl) (fun _ _ _ h => h) (Or.inl ⟨rfl, ?_⟩) (by assumption) ?_
    rotate_left
    · intro wz hSw; (try dsimp only at hSw); go_simp; try (with_reducible rfl)
    try simp only [Act.put, List.setIfInBounds_toArray, List.set_cons_zero, List.set_cons_succ]
    refine wpAnyH_ready (rs := [17]) (by kernel_rfl) (by simp) ?_
    refine (AllReadyH.cons (o := { dst := some 52, op := Go.Op.call { callee := Go.Callee.value (Go.Operand.func 24), args := #[Go.Operand.tmp 51], argTypes := #[37] }, type := 41, pos := "law.go:71", after := #[{ on := 16, ground := Go.Ground.data }, { on := 15, ground := Go.Ground.chain }, { on := 15, ground := Go.Ground.guard }], guard := some (15, true) }) rfl (fun K hK => ?_) AllReadyH.nil)
    go_simp
    refine (HSPO.out _).mono ?_
    rintro e v17 ⟨rfl, hb⟩
    have hbv := hb
    replace HR1 := Lib.hid ((HR1.out.keep hbv).more hbv.size)
    replace HR2 := Lib.hid ((HR2.out.keep hbv).more hbv.size)
    replace p0 := (hbv.cell (p := ⟨P, 0, none⟩) pz).trans p0
    replace pf0 := (hbv.frozen (p := ⟨P, 0, none⟩) pz).trans pf0
    replace p1 := (hbv.cell (p := ⟨P, 1, none⟩) pz).trans p1
    replace pf1 := (hbv.frozen (p := ⟨P, 1, none⟩) pz).trans pf1
    replace pz := Nat.lt_of_lt_of_le pz hbv.size
    replace HB := Lib.hid (HB.out.trans (hbv.mono (by have := HB.out.size; omega)))
    clear hb hbv
    refine hK.out _ _ ⟨p0, p1⟩ (fun hHeld => ?_)
    clear hK K
    try simp only [Act.put, List.setIfInBounds_toArray, List.set_cons_zero, List.set_cons_succ]
    refine wpAnyH_ready (rs := [18]) (by kernel_rfl) (by simp) ?_
    refine (AllReadyH.cons (o := { dst := some 53, op := Go.Op.call { callee := Go.Callee.value (Go.Operand.func 26), args := #[Go.Operand.tmp 52], argTypes := #[41] }, type := 4, pos := "law.go:71", after := #[{ on := 17, ground := Go.Ground.data }, { on := 17, ground := Go.Ground.chain }, { on := 15, ground := Go.Ground.guard }], guard := some (15, true) }) rfl (fun K hK => ?_) AllReadyH.nil)
    go_simp
    refine (HWH.out _).mono ?_
    rintro e v18 ⟨rfl, rfl⟩
    refine hK.out _ _ ⟨p0, p1⟩ (fun hHeld => ?_)
    clear hK K
    try simp only [Act.put, List.setIfInBounds_toArray, List.set_cons_zero, List.set_cons_succ]
    refine wpAnyH_ready (rs := [20]) (by kernel_rfl) (by simp) ?_
    refine (AllReadyH.cons (o := { dst := some 55, op := Go.Op.call { callee := Go.Callee.value (Go.Operand.func 27), args := #[Go.Operand.tmp 54], argTypes := #[37] }, type := 4, pos := "law.go:71", after := #[{ on := 19, ground := Go.Ground.data }, { on := 18, ground := Go.Ground.chain }, { on := 15, ground := Go.Ground.guard }], guard := some (15, true) }) rfl (fun K hK => ?_) AllReadyH.nil)
    go_simp
    refine (HRW.out _).mono ?_
    rintro e v20 ⟨rfl, hb⟩
    have hbv := hb
    replace HR1 := Lib.hid ((HR1.out.keep hbv).more hbv.size)
    replace HR2 := Lib.hid ((HR2.out.keep hbv).more hbv.size)
    replace p0 := (hbv.cell (p := ⟨P, 0, none⟩) pz).trans p0
    replace pf0 := (hbv.frozen (p := ⟨P, 0, none⟩) pz).trans pf0
    replace p1 := (hbv.cell (p := ⟨P, 1, none⟩) pz).trans p1
    replace pf1 := (hbv.frozen (p := ⟨P, 1, none⟩) pz).trans pf1
    replace pz := Nat.lt_of_lt_of_le pz hbv.size
    replace HB := Lib.hid (HB.out.trans (hbv.mono (by have := HB.out.size; omega)))
    clear hb hbv
    refine hK.out _ _ ⟨p0, p1⟩ (fun hHeld => ?_)
    clear hK K
    try simp only [Act.put, List.setIfInBounds_toArray, List.set_cons_zero, List.set_cons_succ]
    refine wpAnyH_take (i := 21) (oi := { dst := some 56, op := Go.Op.binOp Go.BinOp.eql 4 (Go.Operand.tmp 53) (Go.Operand.tmp 55) 4, type := 4, pos := "law.go:71", after := #[{ on := 18, ground := Go.Ground.data }, { on := 20, ground := Go.Ground.data }, { on := 15, ground := Go.Ground.guard }], guard := some (15, true) }) (v := ?_) rfl (by kernel_rfl) (by kernel_rfl) (by kernel_rfl) (fun _ _ _ h => h) (Or.inl ⟨rfl, ?_⟩) (by assumption) ?_
    rotate_left
    · intro wz hSw; (try dsimp only at hSw); go_simp; try (with_reducible rfl)
    try simp only [Act.put, List.setIfInBounds_toArray, List.set_cons_zero, List.set_cons_succ]
    refine wpAnyH_take (i := 22) (oi := { dst := some 57, op := Go.Op.pick (Go.Operand.tmp 50) (Go.Operand.tmp 56) (Go.Operand.const (Go.Value.bool false)), type := 4, pos := "law.go:71", after := #[{ on := 15, ground := Go.Ground.data }, { on := 21, ground := Go.Ground.data }], guard := none }) (v := ?_) rfl (by kernel_rfl) (by kernel_rfl) (by kernel_rfl) (fun _ _ _ h => h) (Or.inl ⟨rfl, ?_⟩) (by assumption) ?_
    rotate_left
    · intro wz hSw; (try dsimp only at hSw); go_simp; try (with_reducible rfl)
    try simp only [Act.put, List.setIfInBounds_toArray, List.set_cons_zero, List.set_cons_succ]
    refine wpAnyH_take (i := 23) (oi := { dst := some 58, op := Go.Op.move (Go.Operand.tmp 57), type := 4, pos := "law.go:71", after := #[{ on := 22, ground := Go.Ground.data }, { on := 20, ground := Go.Ground.chain }], guard := none }) (v := ?_) rfl (by kernel_rfl) (by kernel_rfl) (by kernel_rfl) (fun _ _ _ h => h) (Or.inl ⟨rfl, ?_⟩) (by assumption) ?_
    rotate_left
    · intro wz hSw; (try dsimp only at hSw); go_simp; try (with_reducible rfl)
    try simp only [Act.put, List.setIfInBounds_toArray, List.set_cons_zero, List.set_cons_succ]
    refine wpAnyH_take (i := 24) (oi := { dst := some 59, op := Go.Op.move (Go.Operand.tmp 7), type := 26, pos := "law.go:71", after := #[{ on := 23, ground := Go.Ground.guard }], guard := some (23, true) }) (v := ?_) rfl (by kernel_rfl) (by kernel_rfl) (by kernel_rfl) (fun _ _ _ h => h) (Or.inl ⟨rfl, ?_⟩) (by assumption) ?_
    rotate_left
    · intro wz hSw; (try dsimp only at hSw); go_simp; try (with_reducible rfl)
    try simp only [Act.put, List.setIfInBounds_toArray, List.set_cons_zero, List.set_cons_succ]
    refine wpAnyH_take (i := 26) (oi := { dst := some 61, op := Go.Op.move (Go.Operand.tmp 0), type := 22, pos := "law.go:71", after := #[{ on := 23, ground := Go.Ground.guard }], guard := some (23, true) }) (v := ?_) rfl (by kernel_rfl) (by kernel_rfl) (by kernel_rfl) (fun _ _ _ h => h) (Or.inl ⟨rfl, ?_⟩) (by assumption) ?_
    rotate_left
    · intro wz hSw; (try dsimp only at hSw); go_simp; try (with_reducible rfl)
    try simp only [Act.put, List.setIfInBounds_toArray, List.set_cons_zero, List.set_cons_succ]
    refine wpAnyH_ready (rs := [25]) (by kernel_rfl) (by simp) ?_
    refine (AllReadyH.cons (o := { dst := some 60, op := Go.Op.call { callee := Go.Callee.value (Go.Operand.func 20), args := #[Go.Operand.tmp 59], argTypes := #[26] }, type := 22, pos := "law.go:71", after := #[{ on := 24, ground := Go.Ground.data }, { on := 23, ground := Go.Ground.chain }, { on := 23, ground := Go.Ground.guard }], guard := some (23, true) }) rfl (fun K hK => ?_) AllReadyH.nil)
    go_simp
    refine (from_any A2 qs.length c2 (qs.map toS) qs _ _ (Nat.le_refl _) HR2.out HLK.out (right_small HFR.out) (by omega)).mono ?_
    rintro e v25 ⟨A3, c3, rfl, ho, hb⟩
    have HR3 : Hid (RowAt cellsR 4 v25 v25.heap.size A3 qs.length qs) := own_row rowR ho
    clear ho
    have hbv := hb
    replace HR1 := Lib.hid ((HR1.out.keep hbv).more hbv.size)
    replace HR2 := Lib.hid ((HR2.out.keep hbv).more hbv.size)
    replace p0 := (hbv.cell (p := ⟨P, 0, none⟩) pz).trans p0
    replace pf0 := (hbv.frozen (p := ⟨P, 0, none⟩) pz).trans pf0
    replace p1 := (hbv.cell (p := ⟨P, 1, none⟩) pz).trans p1
    replace pf1 := (hbv.frozen (p := ⟨P, 1, none⟩) pz).trans pf1
    replace pz := Nat.lt_of_lt_of_le pz hbv.size
    replace HB := Lib.hid (HB.out.trans (hbv.mono (by have := HB.out.size; omega)))
    clear hb hbv
    refine hK.out _ _ ⟨p0, p1⟩ (fun hHeld => ?_)
    clear hK K
    try simp only [Act.put, List.setIfInBounds_toArray, List.set_cons_zero, List.set_cons_succ]
    refine wpAnyH_ready (rs := [27]) (by kernel_rfl) (by simp) ?_
    refine (AllReadyH.cons (o := { dst := some 62, op := Go.Op.call { callee := Go.Callee.value (Go.Operand.func 19), args := #[Go.Operand.tmp 60, Go.Operand.tmp 61], argTypes := #[22, 22] }, type := 4, pos := "law.go:71", after := #[{ on := 25, ground := Go.Ground.data }, { on := 26, ground := Go.Ground.data }, { on := 25, ground := Go.Ground.chain }, { on := 23, ground := Go.Ground.guard }], guard := some (23, true) }) rfl (fun K hK => ?_) AllReadyH.nil)
    go_simp
    refine (rsame_any A3 qs.length c3 qs A1 qs.length c1 qs _ _ HR3.out HR1.out (by omega)).mono ?_
    rw [decide_eq_true (rfl : qs = qs)]
    rintro e v27 ⟨rfl, qd, rfl⟩
    replace p0 : (v25.drewN qd).cell? ⟨P, 0, none⟩ = _ := p0
    replace p1 : (v25.drewN qd).cell? ⟨P, 1, none⟩ = _ := p1
    replace HB := Lib.hid (below_dN HB.out qd)
    refine hK.out _ _ ⟨p0, p1⟩ (fun hHeld => ?_)
    clear hK K
    try simp only [Act.put, List.setIfInBounds_toArray, List.set_cons_zero, List.set_cons_succ]
    refine wpAnyH_take (i := 28) (oi := { dst := some 63, op := Go.Op.pick (Go.Operand.tmp 58) (Go.Operand.tmp 62) (Go.Operand.const (Go.Value.bool false)), type := 4, pos := "law.go:71", after := #[{ on := 23, ground := Go.Ground.data }, { on := 27, ground := Go.Ground.data }], guard := none }) (v := ?_) rfl (by kernel_rfl) (by kernel_rfl) (by kernel_rfl) (fun _ _ _ h => h) (Or.inl ⟨rfl, ?_⟩) (by assumption) ?_
    rotate_left
    · intro wz hSw; (try dsimp only at hSw); go_simp; try (with_reducible rfl)
    try simp only [Act.put, List.setIfInBounds_toArray, List.set_cons_zero, List.set_cons_succ]
    refine wpAnyH_take (i := 29) (oi := { dst := some 6, op := Go.Op.assign (Go.Operand.tmp 63), type := 4, pos := "law.go:71", after := #[{ on := 28, ground := Go.Ground.data }, { on := 27, ground := Go.Ground.chain }, { on := 0, ground := Go.Ground.phase }, { on := 1, ground := Go.Ground.phase }, { on := 2, ground := Go.Ground.phase }, { on := 3, ground := Go.Ground.phase }, { on := 4, ground := Go.Ground.phase }, { on := 5, ground := Go.Ground.phase }, { on := 6, ground := Go.Ground.phase }, { on := 7, ground := Go.Ground.phase }, { on := 8, ground := Go.Ground.phase }, { on := 9, ground := Go.Ground.phase }, { on := 10, ground := Go.Ground.phase }, { on := 11, ground := Go.Ground.phase }, { on := 12, ground := Go.Ground.phase }, { on := 13, ground := Go.Ground.phase }, { on := 14, ground := Go.Ground.phase }, { on := 15, ground := Go.Ground.phase }, { on := 16, ground := Go.Ground.phase }, { on := 17, ground := Go.Ground.phase }, { on := 18, ground := Go.Ground.phase }, { on := 19, ground := Go.Ground.phase }, { on := 20, ground := Go.Ground.phase }, { on := 21, ground := Go.Ground.phase }, { on := 22, ground := Go.Ground.phase }, { on := 23, ground := Go.Ground.phase }, { on := 24, ground := Go.Ground.phase }, { on := 25, ground := Go.Ground.phase }, { on := 26, ground := Go.Ground.phase }, { on := 27, ground := Go.Ground.phase }, { on := 28, ground := Go.Ground.phase }], guard := none }) (v := ?_) rfl (by kernel_rfl) (by kernel_rfl) (by kernel_rfl) (fun _ _ _ h => h) (Or.inl ⟨rfl, ?_⟩) (by assumption) ?_
    rotate_left
    · intro wz hSw; (try dsimp only at hSw); go_simp; try (with_reducible rfl)
    try simp only [Act.put, List.setIfInBounds_toArray, List.set_cons_zero, List.set_cons_succ]
    refine wpAnyH_done (by kernel_rfl) ?_ _
    have HB9 : Hid (∀ u, Below P w u → Below w.heap.size w u) := fun u h => by rw [hP]; exact h
    go_wp2
    go_ret
    exact ⟨rfl, HB9.out _ HB.out⟩
end Go.Proofs.YtkklikkmpmlnbaaDoor
