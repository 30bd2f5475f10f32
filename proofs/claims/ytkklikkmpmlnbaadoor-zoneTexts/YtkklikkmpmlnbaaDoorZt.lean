/- The law ZoneTurns. -/
import Derived.Test.YtkklikkmpmlnbaaDoorZs
import Derived.Test.YtkklikkmpmlnbaaDoorZo
import Derived.Test.YtkklikkmpmlnbaaDoorZp
import Derived.Test.YtkklikkmpmlnbaaDoorZj
import Derived.Test.YtkklikkmpmlnbaaDoorRt
namespace Go.Proofs.YtkklikkmpmlnbaaDoor
open Go.RowKit

theorem calledR {f : FuncId} {args : Array Value} {w : World} {zs : List RSt} {m : Nat} (h : zs.length = m) (hc : Calls Tryd.prog f args w (OwnRow cellsR 4 59 zs w)) :
    Calls Tryd.prog f args w fun e w' => ∃ A c, e = .returned (.slice A m c) ∧ RowAt cellsR 4 w' w'.heap.size A m zs ∧ Below w.heap.size w w' := hc.mono (by rintro e w' ⟨A, c, rfl, ho, hb⟩; subst h; exact ⟨A, c, rfl, own_row rowR ho, hb⟩)
theorem calledZ {f : FuncId} {args : Array Value} {w : World} {zs : List Stp} {m : Nat} (h : zs.length = m) (hc : Calls Tryd.prog f args w (OwnRow cellsZ 3 54 zs w)) :
    Calls Tryd.prog f args w fun e w' => ∃ A c, e = .returned (.slice A m c) ∧ RowAt cellsZ 3 w' w'.heap.size A m zs ∧ Below w.heap.size w w' := hc.mono (by rintro e w' ⟨A, c, rfl, ho, hb⟩; subst h; exact ⟨A, c, rfl, own_row rowZ ho, hb⟩)
theorem num_one : Num 4607182418800017408 1 := by
  have := num_fl 1 (by decide)
  rwa [show fl 1 = 4607182418800017408 by decide] at this
/-- Times i. -/
theorem turn_num {a b : Nat} {p q : Int} (ha : Num a p) (hb : Num b q) (h1 : p.natAbs < 2 ^ 22) (h2 : q.natAbs < 2 ^ 22) : ∃ re im, cMulBits a b 0 4607182418800017408 = some (re, im) ∧ Num re (-q) ∧ Num im p := by
  obtain ⟨ac, e1, n1⟩ := num_mul ha num_zero (by omega)
  obtain ⟨bd, e2, n2⟩ := num_mul hb num_one (by omega)
  obtain ⟨re, e3, n3⟩ := num_sub n1 n2 (by omega)
  obtain ⟨ad, e4, n4⟩ := num_mul ha num_one (by omega)
  obtain ⟨bc, e5, n5⟩ := num_mul hb num_zero (by omega)
  obtain ⟨im, e6, n6⟩ := num_add n4 n5 (by omega)
  refine ⟨re, im, ?_, ?_, ?_⟩
  · unfold cMulBits
    simp [e1, e2, e3, e4, e5, e6]
  · have : p * 0 - q * 1 = -q := by omega
    rwa [this] at n3
  · have : p * 1 + q * 0 = p := by omega
    rwa [this] at n6
theorem right_small' {rs : List RSt} (h : rightZ rs = true) : ∀ r ∈ rs, SmallR r := fun r hr => by
  obtain ⟨k, hk⟩ := List.getElem?_of_mem hr
  exact fits_small (run_step 0 0 h hk).1
theorem right_pos {rs : List RSt} (h : rightZ rs = true) : rs.length ≤ 32 ∧ 0 < rs.length := by
  have h' := right_fold h
  refine ⟨h'.1, ?_⟩
  rcases Nat.eq_zero_or_pos rs.length with h0 | h0
  · rw [List.eq_nil_of_length_eq_zero h0] at h'
    cases h'.2
  · exact h0
set_option maxRecDepth 100000 in
set_option maxHeartbeats 8000000 in
theorem zoneTurns_walk (A : Option Addr) (n c : Nat) (rs : List RSt) (px py : Int) (w : World) (hz : RowAt cellsR 4 w w.heap.size A n rs) (hn : n ≤ 9223372036854775807) (hg : Glob w) :
    Calls Tryd.prog 8 #[.slice A n c, .agg #[.int .i64 px, .int .i64 py]] w fun e w' => e = .returned (.bool true) ∧ Below w.heap.size w w' := by
  have HG := Lib.hid hg
  have hr1 := fix_right rs
  have hfl := right_pos hr1
  have HFX : Hid (∀ u, Below w.heap.size w u → Calls Tryd.prog 21 #[.slice A n c] u (OwnRow cellsR 4 59 (fixZ rs) u)) := fun u hb => fix_any A n c rs w.heap.size u hb.size (hz.keep hb) hn
  have HP := Lib.hid (refSpot_any px py)
  generalize fixZ rs = qs at *
  have hs1 := right_small' hr1
  have hr2 : rightZ (qs.map tR) = true := by rw [right_turn]; exact hr1
  have hs2 : ∀ r ∈ qs.map tR, SmallR r := right_small' hr2
  have hs3 : ∀ r ∈ (qs.map tR).map tR, SmallR r := right_small' (by rw [right_turn]; exact hr2)
  have hs4 : ∀ r ∈ ((qs.map tR).map tR).map tR, SmallR r := right_small' (by rw [right_turn, right_turn]; exact hr2)
  have hf4 := turn_four qs
  have hl2 : (qs.map tR).length = qs.length := List.length_map ..
  have hl3 : ((qs.map tR).map tR).length = qs.length := by rw [List.length_map]; exact hl2
  have hl4 : (((qs.map tR).map tR).map tR).length = qs.length := by rw [List.length_map]; exact hl3
  have hl5 : ((((qs.map tR).map tR).map tR).map tR).length = qs.length := by rw [List.length_map]; exact hl4
  have HTH := Lib.hid (has_turn qs)
  have HR2 := Lib.hid hr2
  have HS1 := Lib.hid hs1
  have HS2 := Lib.hid hs2
  have HS3 := Lib.hid hs3
  have HS4 := Lib.hid hs4
  have HF4 := Lib.hid hf4
  have HL2 := Lib.hid hl2
  have HL3 := Lib.hid hl3
  have HL4 := Lib.hid hl4
  have HL5 := Lib.hid hl5
  have hp1 := spotF_in px
  have hp2 := spotF_in py
  clear hz hg hr1 hr2 hs1 hs2 hs3 hs4 hf4 hl2 hl3 hl4 hl5
  generalize spotF px = sx at *
  generalize spotF py = sy at *
  go_enter Tryd.func8, Tryd.ntmps8
  go_upto_region 1 with fail
  have p0 : (w.alloc (.cells #[.int .i64 px, .int .i64 py] 37)).cell? ⟨w.heap.size, 0, none⟩ = some (.int .i64 px) := by simp [go_sem]
  have pf0 : (w.alloc (.cells #[.int .i64 px, .int .i64 py] 37)).frozen? ⟨w.heap.size, 0, none⟩ = false := by simp [go_sem]
  have p1 : (w.alloc (.cells #[.int .i64 px, .int .i64 py] 37)).cell? ⟨w.heap.size, 1, none⟩ = some (.int .i64 py) := by simp [go_sem]
  have pf1 : (w.alloc (.cells #[.int .i64 px, .int .i64 py] 37)).frozen? ⟨w.heap.size, 1, none⟩ = false := by simp [go_sem]
  have pz : w.heap.size < (w.alloc (.cells #[.int .i64 px, .int .i64 py] 37)).heap.size := by simp
  have HB : Hid (Below w.heap.size w (w.alloc (.cells #[.int .i64 px, .int .i64 py] 37))) := (Below.refl _ _).alloc (Nat.le_refl _) _
  have HBW : Hid (∀ u, Below w.heap.size (w.alloc (.cells #[.int .i64 px, .int .i64 py] 37)) u → Below w.heap.size w u) := fun u h => HB.out.trans h
  generalize (w.alloc (.cells #[.int .i64 px, .int .i64 py] 37)) = W0 at *
  generalize hPP : w.heap.size = P at *
  refine tail_begin (S := fun w' => w'.cell? ⟨P, 0, none⟩ = some (.int .i64 px) ∧ w'.cell? ⟨P, 1, none⟩ = some (.int .i64 py)) 4 (by kernel_rfl) ⟨p0, p1⟩ (fun hHeld => ?_)
  refine tail_take (i := 0) (oi := { dst := some 7, op := Go.Op.move (Go.Operand.tmp 0), type := 22, pos := "law.go:119", after := #[], guard := none }) (v := ?_) rfl (by kernel_rfl) (by kernel_rfl) (by kernel_rfl) (by kernel_rfl) (fun _ _ _ h => h) (Or.inl ⟨rfl, ?_⟩) (by assumption) ?_
  rotate_left
  · intro wz hSw; (try dsimp only at hSw); go_simp; try (with_reducible rfl)
  try simp only [Act.put, List.setIfInBounds_toArray, List.set_cons_zero, List.set_cons_succ]
  refine tail_take (i := 2) (oi := { dst := some 9, op := Go.Op.load 37 (Go.Operand.tmp 3), type := 37, pos := "law.go:119", after := #[], guard := none }) (v := ?_) rfl (by kernel_rfl) (by kernel_rfl) (by kernel_rfl) (by kernel_rfl) (fun _ _ _ h => h) (Or.inl ⟨rfl, ?_⟩) (by assumption) ?_
  rotate_left
  · intro wz hSw; (try dsimp only at hSw); go_simp; try (with_reducible rfl)
  try simp only [Act.put, List.setIfInBounds_toArray, List.set_cons_zero, List.set_cons_succ]
  refine tail_call (i := 1) (o := { dst := some 8, op := Go.Op.call { callee := Go.Callee.value (Go.Operand.func 21), args := #[Go.Operand.tmp 7], argTypes := #[22] }, type := 22, pos := "law.go:119", after := #[{ on := 0, ground := Go.Ground.data }], guard := none }) (by kernel_rfl) (by kernel_rfl) rfl (fun K hK => ?_)
  go_simp
  refine (HFX.out _ (below_drewz HB.out)).mono ?_
  rintro e u1 ⟨A1, c1, rfl, ho, hb⟩
  have hbv := below_via (Below.refl W0.heap.size W0) hb (Nat.le_refl _) ⟨rfl, rfl, rfl, rfl⟩
  have HO1 : Hid (u1.ownsRow W0.heap.size 59 4 (.slice A1 qs.length c1) qs.length (rowCells cellsR qs)) := ho
  have HNP : Hid (∀ g, Value.ownBlock (.slice A1 qs.length c1) = some g → P < g) := fun g e => by have := (ho.lt g e).1; have : P < W0.heap.size := pz; have h3 : W0.heap.size ≤ g := (HO1.out.lt g e).1; omega
  replace p0 := (hbv.cell (p := ⟨P, 0, none⟩) pz).trans p0
  replace pf0 := (hbv.frozen (p := ⟨P, 0, none⟩) pz).trans pf0
  replace p1 := (hbv.cell (p := ⟨P, 1, none⟩) pz).trans p1
  replace pf1 := (hbv.frozen (p := ⟨P, 1, none⟩) pz).trans pf1
  replace pz := Nat.lt_of_lt_of_le pz hbv.size
  replace HB := Lib.hid (HB.out.trans (hbv.mono (by have := HB.out.size; omega)))
  clear hb hbv ho
  refine hK.out _ _ ⟨p0, p1⟩ (fun hHeld => ?_)
  clear hK K
  try simp only [Act.put, List.setIfInBounds_toArray, List.set_cons_zero, List.set_cons_succ]
  refine tail_call (i := 3) (o := { dst := some 10, op := Go.Op.call { callee := Go.Callee.value (Go.Operand.func 22), args := #[Go.Operand.tmp 9], argTypes := #[37] }, type := 37, pos := "law.go:119", after := #[{ on := 2, ground := Go.Ground.data }, { on := 1, ground := Go.Ground.chain }], guard := none }) (by kernel_rfl) (by kernel_rfl) rfl (fun K hK => ?_)
  go_simp
  refine (HP.out _).mono ?_
  rintro e u2 ⟨rfl, hb⟩
  have hbv := hb
  replace HO1 := Lib.hid (rown_below HO1.out hbv)
  replace p0 := (hbv.cell (p := ⟨P, 0, none⟩) pz).trans p0
  replace pf0 := (hbv.frozen (p := ⟨P, 0, none⟩) pz).trans pf0
  replace p1 := (hbv.cell (p := ⟨P, 1, none⟩) pz).trans p1
  replace pf1 := (hbv.frozen (p := ⟨P, 1, none⟩) pz).trans pf1
  replace pz := Nat.lt_of_lt_of_le pz hbv.size
  replace HB := Lib.hid (HB.out.trans (hbv.mono (by have := HB.out.size; omega)))
  clear hb hbv
  refine hK.out _ _ ⟨p0, p1⟩ (fun hHeld => ?_)
  clear hK K
  try simp only [Act.put, List.setIfInBounds_toArray, List.set_cons_zero, List.set_cons_succ]
  refine tail_enter ?_
  refine rest_step (k := 4) (o := { dst := some 0, op := Go.Op.assign (Go.Operand.tmp 8), type := 22, pos := "law.go:119", after := #[{ on := 1, ground := Go.Ground.data }, { on := 3, ground := Go.Ground.chain }, { on := 0, ground := Go.Ground.phase }, { on := 1, ground := Go.Ground.phase }, { on := 2, ground := Go.Ground.textOnly Go.Departure.lateStores }, { on := 3, ground := Go.Ground.textOnly Go.Departure.lateStoresUnsure }], guard := none }) (by kernel_rfl) (by kernel_rfl) rfl (fun K hK => ?_)
  go_simp
  refine hK.out _ _ ?_
  clear hK K
  try simp only [Act.put, List.setIfInBounds_toArray, List.set_cons_zero, List.set_cons_succ]
  refine rest_step (k := 5) (o := { dst := none, op := Go.Op.store 37 (Go.Operand.tmp 3) (Go.Operand.tmp 10), type := 0, pos := "law.go:119", after := #[{ on := 3, ground := Go.Ground.data }, { on := 4, ground := Go.Ground.chain }, { on := 0, ground := Go.Ground.phase }, { on := 1, ground := Go.Ground.phase }, { on := 2, ground := Go.Ground.phase }, { on := 3, ground := Go.Ground.phase }, { on := 4, ground := Go.Ground.phase }], guard := none }) (by kernel_rfl) (by kernel_rfl) rfl (fun K hK => ?_)
  go_simp
  try clear hHeld
  replace p0 : ((u2.setCell ⟨P, 0, none⟩ (.int .i64 sx)).setCell ⟨P, 1, none⟩ (.int .i64 sy)).cell? ⟨P, 0, none⟩ = some (.int .i64 sx) := by simp [go_sem, p0]
  replace pf0 : ((u2.setCell ⟨P, 0, none⟩ (.int .i64 sx)).setCell ⟨P, 1, none⟩ (.int .i64 sy)).frozen? ⟨P, 0, none⟩ = false := by simp [go_sem, pf0]
  replace p1 : ((u2.setCell ⟨P, 0, none⟩ (.int .i64 sx)).setCell ⟨P, 1, none⟩ (.int .i64 sy)).cell? ⟨P, 1, none⟩ = some (.int .i64 sy) := by simp [go_sem, p1]
  replace pf1 : ((u2.setCell ⟨P, 0, none⟩ (.int .i64 sx)).setCell ⟨P, 1, none⟩ (.int .i64 sy)).frozen? ⟨P, 1, none⟩ = false := by simp [go_sem, pf1]
  replace pz : P < ((u2.setCell ⟨P, 0, none⟩ (.int .i64 sx)).setCell ⟨P, 1, none⟩ (.int .i64 sy)).heap.size := by simpa using pz
  replace HB : Hid (Below P w ((u2.setCell ⟨P, 0, none⟩ (.int .i64 sx)).setCell ⟨P, 1, none⟩ (.int .i64 sy))) := (HB.out.setCell (by simp) _).setCell (by simp) _
  have HR1 : Hid (RowAt cellsR 4 ((u2.setCell ⟨P, 0, none⟩ (.int .i64 sx)).setCell ⟨P, 1, none⟩ (.int .i64 sy)) ((u2.setCell ⟨P, 0, none⟩ (.int .i64 sx)).setCell ⟨P, 1, none⟩ (.int .i64 sy)).heap.size A1 qs.length qs) := own_row rowR (rown_grown (rown_grown HO1.out (grown_set (p := ⟨P, 0, none⟩) (.int .i64 sx)) (Or.inr fun e => by have := HNP.out P e; omega)) (grown_set (p := ⟨P, 1, none⟩) (.int .i64 sy)) (Or.inr fun e => by have := HNP.out P e; omega))
  clear HO1 HNP HFX HP HBW
  generalize ((u2.setCell ⟨P, 0, none⟩ (.int .i64 sx)).setCell ⟨P, 1, none⟩ (.int .i64 sy)) = W5 at *
  refine hK.out _ _ ?_
  clear hK K
  try simp only [Act.put, List.setIfInBounds_toArray, List.set_cons_zero, List.set_cons_succ]
  refine rest_done (by kernel_rfl) ?_
  have HSPO := Lib.hid (lawSpot_any sx sy)
  have hx53 : sx.natAbs < 2 ^ 53 := by omega
  have hy53 : sy.natAbs < 2 ^ 53 := by omega
  have hy53' : (-sy).natAbs < 2 ^ 53 := by omega
  have HNX := Lib.hid (num_fl sx hx53)
  have HNY := Lib.hid (num_fl sy hy53)
  obtain ⟨tre, tim, hmu, nre, nim⟩ := turn_num HNX.out HNY.out (by omega) (by omega)
  have hmul := fun w => run_complex_mul (P := Tryd.prog) w 41 (fl sx) (fl sy) 0 4607182418800017408 tre tim hmu
  have HRE := Lib.hid nre
  have HIM := Lib.hid nim
  clear hmu nre nim
  generalize fl sx = fx at *
  generalize fl sy = fy at *
  go_wp2_with fail
  refine (HSPO.out _).mono ?_
  rintro e u3 ⟨rfl, hb⟩
  replace HR1 := Lib.hid ((HR1.out.keep hb).more hb.size)
  replace p0 := (hb.cell (p := ⟨P, 0, none⟩) pz).trans p0
  replace pf0 := (hb.frozen (p := ⟨P, 0, none⟩) pz).trans pf0
  replace p1 := (hb.cell (p := ⟨P, 1, none⟩) pz).trans p1
  replace pf1 := (hb.frozen (p := ⟨P, 1, none⟩) pz).trans pf1
  replace pz := Nat.lt_of_lt_of_le pz hb.size
  replace HB := Lib.hid (HB.out.trans (hb.mono (by have := HB.out.size; omega)))
  clear hb
  clear p0 p1 pf0 pf1 pz
  go_wp2_with fail
  refine (calledR (m := qs.length) HL2.out (turned_any A1 qs.length c1 qs _ _ (Nat.le_refl _) HR1.out HS1.out (by omega))).mono ?_
  rintro e u4 ⟨A2, c2, rfl, hr, hb⟩
  have HM := Lib.hid hr
  clear hr
  replace HR1 := Lib.hid ((HR1.out.keep hb).more hb.size)
  replace HB := Lib.hid (HB.out.trans (hb.mono (by have := HB.out.size; omega)))
  clear hb
  go_wp2_with fail
  refine (told_any _ (HG.out.keep HB.out (by rw [← hPP]; exact HG.out.big))).mono ?_
  rintro e u5 ⟨rfl, hb⟩
  replace HR1 := Lib.hid ((HR1.out.keep hb).more hb.size)
  replace HM := Lib.hid ((HM.out.keep hb).more hb.size)
  replace HB := Lib.hid (HB.out.trans (hb.mono (by have := HB.out.size; omega)))
  clear hb
  go_wp2_with fail
  refine (calledZ (m := qs.length) (by rw [List.length_map]; exact HL2.out) (to_any A2 qs.length c2 (qs.map tR) _ _ (Nat.le_refl _) HM.out (by omega))).mono ?_
  rintro e u6 ⟨A3, c3, rfl, hr, hb⟩
  have HX := Lib.hid hr
  clear hr
  replace HR1 := Lib.hid ((HR1.out.keep hb).more hb.size)
  replace HM := Lib.hid ((HM.out.keep hb).more hb.size)
  replace HB := Lib.hid (HB.out.trans (hb.mono (by have := HB.out.size; omega)))
  clear hb
  have LX : Hid (LikeL ((qs.map tR).map toS) (qs.map tR)) := to_like fun r hr => small_64 (HS2.out r hr)
  have LY : Hid (LikeL (qs.map toS) qs) := to_like fun r hr => small_64 (HS1.out r hr)
  have HHX := Lib.hid (fun (u : World) h => has_any A3 qs.length c3 ((qs.map tR).map toS) (qs.map tR) tre tim (-sy) sx HRE.out HIM.out hy53' hx53 u.heap.size u (Nat.le_refl _) h LX.out)
  rw [HTH.out] at HHX
  have HHY := Lib.hid (fun (A4 : Option Addr) (c4 : Nat) (u : World) h => has_any A4 qs.length c4 (qs.map toS) qs fx fy sx sy HNX.out HNY.out hx53 hy53 u.heap.size u (Nat.le_refl _) h LY.out)
  clear HTH
  generalize hasZ qs sx sy = bh at *
  go_wp2_with fail
  refine (HHX.out _ HX.out).mono ?_
  rintro e u7 ⟨rfl, hb⟩
  replace HR1 := Lib.hid ((HR1.out.keep hb).more hb.size)
  replace HM := Lib.hid ((HM.out.keep hb).more hb.size)
  replace HX := Lib.hid ((HX.out.keep hb).more hb.size)
  replace HB := Lib.hid (HB.out.trans (hb.mono (by have := HB.out.size; omega)))
  clear hb
  go_wp2_with fail
  refine (calledZ (m := qs.length) (List.length_map ..) (to_any A1 qs.length c1 qs _ _ (Nat.le_refl _) HR1.out (by omega))).mono ?_
  rintro e u8 ⟨A4, c4, rfl, hr, hb⟩
  have HY := Lib.hid hr
  clear hr
  replace HR1 := Lib.hid ((HR1.out.keep hb).more hb.size)
  replace HM := Lib.hid ((HM.out.keep hb).more hb.size)
  replace HX := Lib.hid ((HX.out.keep hb).more hb.size)
  replace HB := Lib.hid (HB.out.trans (hb.mono (by have := HB.out.size; omega)))
  clear hb
  go_wp2_with fail
  refine (HHY.out A4 c4 _ HY.out).mono ?_
  rintro e u9 ⟨rfl, hb⟩
  replace HR1 := Lib.hid ((HR1.out.keep hb).more hb.size)
  replace HM := Lib.hid ((HM.out.keep hb).more hb.size)
  replace HX := Lib.hid ((HX.out.keep hb).more hb.size)
  replace HY := Lib.hid ((HY.out.keep hb).more hb.size)
  replace HB := Lib.hid (HB.out.trans (hb.mono (by have := HB.out.size; omega)))
  clear hb
  clear HHX HHY hmul
  clear HX HY
  go_wp2_with fail
  refine (calledR (m := qs.length) HL3.out (turned_any A2 qs.length c2 (qs.map tR) _ _ (Nat.le_refl _) HM.out HS2.out (by omega))).mono ?_
  rintro e v1 ⟨B1, d1, rfl, hr, hb⟩
  have HM2 := Lib.hid hr
  clear hr
  replace HR1 := Lib.hid ((HR1.out.keep hb).more hb.size)
  replace HM := Lib.hid ((HM.out.keep hb).more hb.size)
  replace HB := Lib.hid (HB.out.trans (hb.mono (by have := HB.out.size; omega)))
  clear hb
  go_wp2_with fail
  refine (calledR (m := qs.length) HL4.out (turned_any B1 qs.length d1 ((qs.map tR).map tR) _ _ (Nat.le_refl _) HM2.out HS3.out (by omega))).mono ?_
  rintro e v2 ⟨B2, d2, rfl, hr, hb⟩
  have HM3 := Lib.hid hr
  clear hr
  replace HR1 := Lib.hid ((HR1.out.keep hb).more hb.size)
  replace HM := Lib.hid ((HM.out.keep hb).more hb.size)
  replace HM2 := Lib.hid ((HM2.out.keep hb).more hb.size)
  replace HB := Lib.hid (HB.out.trans (hb.mono (by have := HB.out.size; omega)))
  clear hb
  go_wp2_with fail
  refine (calledR (m := qs.length) HL5.out (turned_any B2 qs.length d2 (((qs.map tR).map tR).map tR) _ _ (Nat.le_refl _) HM3.out HS4.out (by omega))).mono ?_
  rintro e v3 ⟨B3, d3, rfl, hr, hb⟩
  have HM4 := Lib.hid hr
  clear hr
  replace HR1 := Lib.hid ((HR1.out.keep hb).more hb.size)
  replace HM := Lib.hid ((HM.out.keep hb).more hb.size)
  replace HM2 := Lib.hid ((HM2.out.keep hb).more hb.size)
  replace HM3 := Lib.hid ((HM3.out.keep hb).more hb.size)
  replace HB := Lib.hid (HB.out.trans (hb.mono (by have := HB.out.size; omega)))
  clear hb
  rw [HF4.out] at HM4
  clear HM2 HM3
  go_wp2_with fail
  refine (calledZ (m := qs.length) (List.length_map ..) (to_any B3 qs.length d3 qs _ _ (Nat.le_refl _) HM4.out (by omega))).mono ?_
  rintro e v4 ⟨B4, d4, rfl, hr, hb⟩
  have HZ1 := Lib.hid hr
  clear hr
  replace HR1 := Lib.hid ((HR1.out.keep hb).more hb.size)
  replace HM := Lib.hid ((HM.out.keep hb).more hb.size)
  replace HM4 := Lib.hid ((HM4.out.keep hb).more hb.size)
  replace HB := Lib.hid (HB.out.trans (hb.mono (by have := HB.out.size; omega)))
  clear hb
  go_wp2_with fail
  refine (calledZ (m := qs.length) (List.length_map ..) (to_any A1 qs.length c1 qs _ _ (Nat.le_refl _) HR1.out (by omega))).mono ?_
  rintro e v5 ⟨B5, d5, rfl, hr, hb⟩
  have HZ2 := Lib.hid hr
  clear hr
  replace HR1 := Lib.hid ((HR1.out.keep hb).more hb.size)
  replace HM := Lib.hid ((HM.out.keep hb).more hb.size)
  replace HM4 := Lib.hid ((HM4.out.keep hb).more hb.size)
  replace HZ1 := Lib.hid ((HZ1.out.keep hb).more hb.size)
  replace HB := Lib.hid (HB.out.trans (hb.mono (by have := HB.out.size; omega)))
  clear hb
  obtain ⟨b4, o4, rfl, -⟩ := HZ1.out.2 (by omega)
  obtain ⟨b5, o5, rfl, -⟩ := HZ2.out.2 (by omega)
  have HSS := zsame_any b4 o4 qs.length d4 b5 o5 qs.length d5 (qs.map toS) (qs.map toS) qs qs _ _ HZ1.out HZ2.out hfl.2 hfl.2 (by omega) (by omega) LY.out LY.out HS1.out HS1.out
  rw [decide_eq_true (rfl : qs = qs)] at HSS
  have HSSH := Lib.hid HSS
  clear HSS
  go_wp2_with fail
  refine HSSH.out.mono ?_
  rintro e v6 ⟨rfl, qd, rfl⟩
  clear HSSH
  replace HM : Hid (RowAt cellsR 4 (v5.drewN qd) (v5.drewN qd).heap.size A2 qs.length (qs.map tR)) := HM.out
  replace HB := Lib.hid (below_dN HB.out qd)
  clear HZ1 HZ2 HM4 HR1
  go_wp2_with fail
  refine (calledZ (m := qs.length) (by rw [List.length_map]; exact HL2.out) (to_any A2 qs.length c2 (qs.map tR) _ _ (Nat.le_refl _) HM.out (by omega))).mono ?_
  rintro e v7 ⟨A3, c3, rfl, hr, hb⟩
  have HX := Lib.hid hr
  clear hr
  replace HM := Lib.hid ((HM.out.keep hb).more hb.size)
  replace HB := Lib.hid (HB.out.trans (hb.mono (by have := HB.out.size; omega)))
  clear hb
  go_wp2_with fail
  refine (rightZ_any A3 qs.length c3 ((qs.map tR).map toS) (qs.map tR) _ _ (Nat.le_refl _) HX.out LX.out).mono ?_
  rintro e v8 ⟨rfl, hb⟩
  replace HM := Lib.hid ((HM.out.keep hb).more hb.size)
  replace HX := Lib.hid ((HX.out.keep hb).more hb.size)
  replace HB := Lib.hid (HB.out.trans (hb.mono (by have := HB.out.size; omega)))
  clear hb
  rw [HR2.out]
  have HB9 : Hid (∀ u, Below P w u → Below w.heap.size w u) := fun u h => by rw [hPP]; exact h
  go_wp2
  go_ret
  exact ⟨rfl, HB9.out _ HB.out⟩
end Go.Proofs.YtkklikkmpmlnbaaDoor
