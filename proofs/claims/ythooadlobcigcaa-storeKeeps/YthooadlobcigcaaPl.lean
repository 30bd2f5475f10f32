/- StoreKeeps, walked. -/
import Derived.Test.YthooadlobcigcaaPk
namespace Go.Proofs.Ythooadlobcigcaa
open Go.RowKit

/-- An item by its cells: what '==' tells of two that Get answered. -/
theorem get_small {zs : List Itm} (h : ∀ z ∈ zs, rightI z = true) (k : Int) : ((getF zs k).getD zeroIt).x.natAbs < 2 ^ 53 ∧ ((getF zs k).getD zeroIt).y.natAbs < 2 ^ 53 := by
  rcases e : getF zs k with _ | z
  · exact ⟨by decide, by decide⟩
  · exact right_small (h z (getF_mem e).1)
set_option maxRecDepth 100000 in
set_option maxHeartbeats 8000000 in
theorem storeKeeps_core (A : Option Addr) (n c : Nat) (zs : List Itm) (i : Itm) (kk : Int) (w : World) (hz : RowAt cellsI 9 w w.heap.size A n zs) :
    Calls Try.prog 7 #[.slice A n c, refV i, .int .i64 kk] w fun e w' => e = .returned (.bool true) ∧ Below w.heap.size w w' := by
  have HG := Lib.hid (fixS_good zs)
  have HRF : Hid (∀ w', Below w.heap.size w w' → Calls Try.prog 9 #[.slice A n c] w' (OwnRow cellsI 9 28 (fixS zs) w')) := fun w' h => rfix_any A n c zs w' ((hz.keep h).more h.size)
  have HX := Lib.hid (fixRef_any i)
  have HXR := Lib.hid (fix_right i)
  have hkk := key_wrap kk
  clear hz
  generalize fixS zs = ys at *
  generalize fixI i = xx at *
  generalize keyF kk = k at *
  have hyl := HG.out.len
  have HKY := Lib.hid HG.out.keys
  have HSM : Hid (∀ z ∈ ys, z.x.natAbs < 2 ^ 53 ∧ z.y.natAbs < 2 ^ 53) := fun z hz => right_small (HG.out.right z hz)
  have HT := Lib.hid (to_any xx)
  have HRT : Hid (∀ (w : World) (A : Option Addr) (c B : Nat), w.ownsRow B 28 9 (.slice A ys.length c) ys.length (rowCells cellsI ys) → Calls Try.prog 11 #[.slice A ys.length c] w (OwnRow cellsP 8 46 ys w)) := fun w A c B h => rowTo_any A ys.length c ys w.heap.size w (Nat.le_refl _) (own_row rowI h) (by omega)
  have HPT : Hid (∀ (w : World) (A : Option Addr) (c B : Nat), w.ownsRow B 46 8 (.slice A ys.length c) ys.length (rowCells cellsP ys) → Calls Try.prog 16 #[.slice A ys.length c, itmV xx] w (RowFlag (putF ys xx).1 (putF ys xx).1.length (putF ys xx).2 w)) := fun w A c B h => putS_any A ys.length c ys xx w.heap.size w (Nat.le_refl _) (own_row rowS h) (rown_cap h) (by omega) HKY.out
  have HDR : Hid (∀ (w : World) (A : Option Addr) (c B : Nat), w.ownsRow B 46 8 (.slice A ys.length c) ys.length (rowCells cellsP ys) → Calls Try.prog 23 #[.slice A ys.length c, .int .i64 xx.key] w (OwnRow cellsP 8 46 (dropF ys xx.key) w)) := fun w A c B h => dropS_any A ys.length c ys xx.key w.heap.size w (Nat.le_refl _) (own_row rowS h) (rown_cap h) (by omega) HKY.out
  have hpl : (putF ys xx).1.length ≤ 13 := (put_good HG.out HXR.out).len
  have hdl : (dropF ys xx.key).length ≤ ys.length := drop_le ys xx.key
  have hpg : ys.length ≤ (putF ys xx).1.length := put_ge HKY.out
  have HGT : Hid (∀ (l : List Itm), Keys l → l.length ≤ 13 → ∀ (w : World) (A : Option Addr) (c B : Nat), w.ownsRow B 46 8 (.slice A l.length c) l.length (rowCells cellsP l) → Calls Try.prog 19 #[.slice A l.length c, .int .i64 k] w fun e w' => e = .returned (GetV (getF l k)) ∧ Below w.heap.size w w') := fun l h1 h2 w A c B h => getS_any A l.length c l k w.heap.size w (Nat.le_refl _) (own_row rowS h) (by omega) h1
  have HG1 := Lib.hid (HGT.out ys HKY.out (by omega))
  have HG2 := Lib.hid (HGT.out (putF ys xx).1 (put_keys HKY.out) hpl)
  have HG3 := Lib.hid (HGT.out (dropF ys xx.key) (drop_keys HKY.out) (by omega))
  have HOT : Hid (k ≠ xx.key → getF (putF ys xx).1 k = getF ys k ∧ getF (dropF ys xx.key) k = getF ys k) := fun h => ⟨put_other HKY.out h, drop_other HKY.out h⟩
  have HOW : Hid (k = xx.key → (getF (putF ys xx).1 k).isSome = true ∧ getF (dropF ys xx.key) k = none) := fun h => by subst h; exact ⟨put_own HKY.out, drop_own _ _⟩
  have HEQ : Hid (∀ w, (binOp .eql 46 (itmV ((getF ys k).getD zeroIt)) (itmV ((getF ys k).getD zeroIt))).run Try.prog w = .ok (.bool true) w) := fun w => by
    have hs := get_small HG.out.right k
    have := eql_item ((getF ys k).getD zeroIt) ((getF ys k).getD zeroIt) hs.1 hs.2 hs.1 hs.2 w
    rwa [eqI_same] at this
  have HGV : Hid (∀ o, GetV o = .tuple #[itmV (o.getD zeroIt), .bool o.isSome]) := fun _ => rfl
  rw [HGV.out] at HG1 HG2 HG3
  generalize (putF ys xx).2 = pb at *
  generalize (putF ys xx).1 = ps at *
  generalize dropF ys xx.key = ds at *
  generalize getF ps k = g2 at *
  generalize getF ds k = g3 at *
  generalize getF ys k = g1 at *
  have HXI := Lib.hid (show refV xx = .agg #[.int .i64 xx.key, .string xx.ver.id, .int .i64 xx.ver.seq, .int .i64 xx.ver.stamp, .bool xx.dead, .int .i64 xx.x, .int .i64 xx.y, .string xx.text, .bool xx.held] from rfl)
  have HXP := Lib.hid (show itmV xx = .agg #[.int .i64 xx.key, .string xx.ver.id, .int .i64 xx.ver.seq, .int .i64 xx.ver.stamp, .bool xx.dead, .complex .f64 (fl xx.x) (fl xx.y), .string xx.text, .bool xx.held] from rfl)
  rw [HXI.out] at HX HT
  rw [HXP.out] at HT HPT
  obtain ⟨key, ⟨d, a, s⟩, dead, x, y, text, held⟩ := i
  unfold refV at *
  simp only at HX ⊢
  clear HXI HXP HGT HGV HXR HSM HG
  generalize xx.key = key2 at *
  generalize xx.ver.id = d2 at *
  generalize xx.ver.seq = a2 at *
  generalize xx.ver.stamp = s2 at *
  generalize xx.dead = dead2 at *
  generalize fl xx.x = fx at *
  generalize fl xx.y = fy at *
  generalize xx.x = x2 at *
  generalize xx.y = y2 at *
  generalize xx.text = text2 at *
  generalize xx.held = held2 at *
  have hst := store_complex
  go_enter Try.func7, Try.ntmps7
  go_upto_region 1 with fail
  have k0 : (w.alloc (.cells #[.int .i64 key, .string d, .int .i64 a, .int .i64 s, .bool dead, .int .i64 x, .int .i64 y, .string text, .bool held] 28)).cell? ⟨w.heap.size, 0, none⟩ = some (.int .i64 key) := by simp [go_sem]
  have kf0 : (w.alloc (.cells #[.int .i64 key, .string d, .int .i64 a, .int .i64 s, .bool dead, .int .i64 x, .int .i64 y, .string text, .bool held] 28)).frozen? ⟨w.heap.size, 0, none⟩ = false := by simp [go_sem]
  have k1 : (w.alloc (.cells #[.int .i64 key, .string d, .int .i64 a, .int .i64 s, .bool dead, .int .i64 x, .int .i64 y, .string text, .bool held] 28)).cell? ⟨w.heap.size, 1, none⟩ = some (.string d) := by simp [go_sem]
  have kf1 : (w.alloc (.cells #[.int .i64 key, .string d, .int .i64 a, .int .i64 s, .bool dead, .int .i64 x, .int .i64 y, .string text, .bool held] 28)).frozen? ⟨w.heap.size, 1, none⟩ = false := by simp [go_sem]
  have k2 : (w.alloc (.cells #[.int .i64 key, .string d, .int .i64 a, .int .i64 s, .bool dead, .int .i64 x, .int .i64 y, .string text, .bool held] 28)).cell? ⟨w.heap.size, 2, none⟩ = some (.int .i64 a) := by simp [go_sem]
  have kf2 : (w.alloc (.cells #[.int .i64 key, .string d, .int .i64 a, .int .i64 s, .bool dead, .int .i64 x, .int .i64 y, .string text, .bool held] 28)).frozen? ⟨w.heap.size, 2, none⟩ = false := by simp [go_sem]
  have k3 : (w.alloc (.cells #[.int .i64 key, .string d, .int .i64 a, .int .i64 s, .bool dead, .int .i64 x, .int .i64 y, .string text, .bool held] 28)).cell? ⟨w.heap.size, 3, none⟩ = some (.int .i64 s) := by simp [go_sem]
  have kf3 : (w.alloc (.cells #[.int .i64 key, .string d, .int .i64 a, .int .i64 s, .bool dead, .int .i64 x, .int .i64 y, .string text, .bool held] 28)).frozen? ⟨w.heap.size, 3, none⟩ = false := by simp [go_sem]
  have k4 : (w.alloc (.cells #[.int .i64 key, .string d, .int .i64 a, .int .i64 s, .bool dead, .int .i64 x, .int .i64 y, .string text, .bool held] 28)).cell? ⟨w.heap.size, 4, none⟩ = some (.bool dead) := by simp [go_sem]
  have kf4 : (w.alloc (.cells #[.int .i64 key, .string d, .int .i64 a, .int .i64 s, .bool dead, .int .i64 x, .int .i64 y, .string text, .bool held] 28)).frozen? ⟨w.heap.size, 4, none⟩ = false := by simp [go_sem]
  have k5 : (w.alloc (.cells #[.int .i64 key, .string d, .int .i64 a, .int .i64 s, .bool dead, .int .i64 x, .int .i64 y, .string text, .bool held] 28)).cell? ⟨w.heap.size, 5, none⟩ = some (.int .i64 x) := by simp [go_sem]
  have kf5 : (w.alloc (.cells #[.int .i64 key, .string d, .int .i64 a, .int .i64 s, .bool dead, .int .i64 x, .int .i64 y, .string text, .bool held] 28)).frozen? ⟨w.heap.size, 5, none⟩ = false := by simp [go_sem]
  have k6 : (w.alloc (.cells #[.int .i64 key, .string d, .int .i64 a, .int .i64 s, .bool dead, .int .i64 x, .int .i64 y, .string text, .bool held] 28)).cell? ⟨w.heap.size, 6, none⟩ = some (.int .i64 y) := by simp [go_sem]
  have kf6 : (w.alloc (.cells #[.int .i64 key, .string d, .int .i64 a, .int .i64 s, .bool dead, .int .i64 x, .int .i64 y, .string text, .bool held] 28)).frozen? ⟨w.heap.size, 6, none⟩ = false := by simp [go_sem]
  have k7 : (w.alloc (.cells #[.int .i64 key, .string d, .int .i64 a, .int .i64 s, .bool dead, .int .i64 x, .int .i64 y, .string text, .bool held] 28)).cell? ⟨w.heap.size, 7, none⟩ = some (.string text) := by simp [go_sem]
  have kf7 : (w.alloc (.cells #[.int .i64 key, .string d, .int .i64 a, .int .i64 s, .bool dead, .int .i64 x, .int .i64 y, .string text, .bool held] 28)).frozen? ⟨w.heap.size, 7, none⟩ = false := by simp [go_sem]
  have k8 : (w.alloc (.cells #[.int .i64 key, .string d, .int .i64 a, .int .i64 s, .bool dead, .int .i64 x, .int .i64 y, .string text, .bool held] 28)).cell? ⟨w.heap.size, 8, none⟩ = some (.bool held) := by simp [go_sem]
  have kf8 : (w.alloc (.cells #[.int .i64 key, .string d, .int .i64 a, .int .i64 s, .bool dead, .int .i64 x, .int .i64 y, .string text, .bool held] 28)).frozen? ⟨w.heap.size, 8, none⟩ = false := by simp [go_sem]
  have kz : w.heap.size < (w.alloc (.cells #[.int .i64 key, .string d, .int .i64 a, .int .i64 s, .bool dead, .int .i64 x, .int .i64 y, .string text, .bool held] 28)).heap.size := by simp <;> omega
  have HB : Hid (Below w.heap.size w (w.alloc (.cells #[.int .i64 key, .string d, .int .i64 a, .int .i64 s, .bool dead, .int .i64 x, .int .i64 y, .string text, .bool held] 28))) := (Below.refl _ _).alloc (Nat.le_refl _) _
  generalize (w.alloc (.cells #[.int .i64 key, .string d, .int .i64 a, .int .i64 s, .bool dead, .int .i64 x, .int .i64 y, .string text, .bool held] 28)) = W at *
  refine tail_begin (S := fun w' => w'.cell? ⟨w.heap.size, 0, none⟩ = some (.int .i64 key) ∧ w'.cell? ⟨w.heap.size, 1, none⟩ = some (.string d) ∧ w'.cell? ⟨w.heap.size, 2, none⟩ = some (.int .i64 a) ∧ w'.cell? ⟨w.heap.size, 3, none⟩ = some (.int .i64 s) ∧ w'.cell? ⟨w.heap.size, 4, none⟩ = some (.bool dead) ∧ w'.cell? ⟨w.heap.size, 5, none⟩ = some (.int .i64 x) ∧ w'.cell? ⟨w.heap.size, 6, none⟩ = some (.int .i64 y) ∧ w'.cell? ⟨w.heap.size, 7, none⟩ = some (.string text) ∧ w'.cell? ⟨w.heap.size, 8, none⟩ = some (.bool held)) 5 (by kernel_rfl) ⟨k0, k1, k2, k3, k4, k5, k6, k7, k8⟩ (fun hHeld => ?_)
  refine tail_take (i := 0) (oi := { dst := some 17, op := Go.Op.move (Go.Operand.tmp 0), type := 22, pos := "law.go:120", after := #[], guard := none }) (v := ?_) rfl (by kernel_rfl) (by kernel_rfl) (by kernel_rfl) (by kernel_rfl) (fun _ _ _ h => h) (Or.inl ⟨rfl, ?_⟩) (by assumption) ?_
  rotate_left
  · intro wz hSw; (try dsimp only at hSw); go_simp; try (with_reducible rfl)
  try simp only [Act.put, List.setIfInBounds_toArray, List.set_cons_zero, List.set_cons_succ]
  refine tail_take (i := 2) (oi := { dst := some 19, op := Go.Op.load 28 (Go.Operand.tmp 4), type := 28, pos := "law.go:120", after := #[], guard := none }) (v := ?_) rfl (by kernel_rfl) (by kernel_rfl) (by kernel_rfl) (by kernel_rfl) (fun _ _ _ h => h) (Or.inl ⟨rfl, ?_⟩) (by assumption) ?_
  rotate_left
  · intro wz hSw; (try dsimp only at hSw); go_simp; try (with_reducible rfl)
  try simp only [Act.put, List.setIfInBounds_toArray, List.set_cons_zero, List.set_cons_succ]
  refine tail_call (i := 1) (o := { dst := some 18, op := Go.Op.call { callee := Go.Callee.value (Go.Operand.func 9), args := #[Go.Operand.tmp 17], argTypes := #[22] }, type := 22, pos := "law.go:120", after := #[{ on := 0, ground := Go.Ground.data }], guard := none }) (by kernel_rfl) (by kernel_rfl) rfl (fun K hK => ?_)
  go_simp
  go_at_call 9
  have HBd : Hid (Below w.heap.size w W.drew) := HB.out.trans ⟨rfl, rfl, rfl, Nat.le_refl _, fun _ _ => rfl⟩
  refine (HRF.out _ (by exact HBd.out)).mono ?_
  rintro e w1 ⟨Ay, cy, rfl, ho, hb⟩
  have HO : Hid (w1.ownsRow (w.heap.size + 1) 28 9 (.slice Ay ys.length cy) ys.length (rowCells cellsI ys)) := rown_base ho (by exact kz)
  clear ho HBd
  replace k0 := (hb.cell (p := ⟨w.heap.size, 0, none⟩) kz).trans k0
  replace kf0 := (hb.frozen (p := ⟨w.heap.size, 0, none⟩) kz).trans kf0
  replace k1 := (hb.cell (p := ⟨w.heap.size, 1, none⟩) kz).trans k1
  replace kf1 := (hb.frozen (p := ⟨w.heap.size, 1, none⟩) kz).trans kf1
  replace k2 := (hb.cell (p := ⟨w.heap.size, 2, none⟩) kz).trans k2
  replace kf2 := (hb.frozen (p := ⟨w.heap.size, 2, none⟩) kz).trans kf2
  replace k3 := (hb.cell (p := ⟨w.heap.size, 3, none⟩) kz).trans k3
  replace kf3 := (hb.frozen (p := ⟨w.heap.size, 3, none⟩) kz).trans kf3
  replace k4 := (hb.cell (p := ⟨w.heap.size, 4, none⟩) kz).trans k4
  replace kf4 := (hb.frozen (p := ⟨w.heap.size, 4, none⟩) kz).trans kf4
  replace k5 := (hb.cell (p := ⟨w.heap.size, 5, none⟩) kz).trans k5
  replace kf5 := (hb.frozen (p := ⟨w.heap.size, 5, none⟩) kz).trans kf5
  replace k6 := (hb.cell (p := ⟨w.heap.size, 6, none⟩) kz).trans k6
  replace kf6 := (hb.frozen (p := ⟨w.heap.size, 6, none⟩) kz).trans kf6
  replace k7 := (hb.cell (p := ⟨w.heap.size, 7, none⟩) kz).trans k7
  replace kf7 := (hb.frozen (p := ⟨w.heap.size, 7, none⟩) kz).trans kf7
  replace k8 := (hb.cell (p := ⟨w.heap.size, 8, none⟩) kz).trans k8
  replace kf8 := (hb.frozen (p := ⟨w.heap.size, 8, none⟩) kz).trans kf8
  replace kz := Nat.lt_of_lt_of_le kz hb.size
  replace HB := Lib.hid (below_via HB.out hb HB.out.size ⟨rfl, rfl, rfl, rfl⟩)
  clear hb
  refine hK.out _ _ ⟨k0, k1, k2, k3, k4, k5, k6, k7, k8⟩ (fun hHeld => ?_)
  clear hK K
  try simp only [Act.put, List.setIfInBounds_toArray, List.set_cons_zero, List.set_cons_succ]
  refine tail_call (i := 3) (o := { dst := some 20, op := Go.Op.call { callee := Go.Callee.value (Go.Operand.func 15), args := #[Go.Operand.tmp 19], argTypes := #[28] }, type := 28, pos := "law.go:120", after := #[{ on := 2, ground := Go.Ground.data }, { on := 1, ground := Go.Ground.chain }], guard := none }) (by kernel_rfl) (by kernel_rfl) rfl (fun K hK => ?_)
  go_simp
  go_at_call 15
  refine (HX.out _).mono ?_
  rintro e w2 ⟨rfl, hb⟩
  replace k0 := (hb.cell (p := ⟨w.heap.size, 0, none⟩) kz).trans k0
  replace kf0 := (hb.frozen (p := ⟨w.heap.size, 0, none⟩) kz).trans kf0
  replace k1 := (hb.cell (p := ⟨w.heap.size, 1, none⟩) kz).trans k1
  replace kf1 := (hb.frozen (p := ⟨w.heap.size, 1, none⟩) kz).trans kf1
  replace k2 := (hb.cell (p := ⟨w.heap.size, 2, none⟩) kz).trans k2
  replace kf2 := (hb.frozen (p := ⟨w.heap.size, 2, none⟩) kz).trans kf2
  replace k3 := (hb.cell (p := ⟨w.heap.size, 3, none⟩) kz).trans k3
  replace kf3 := (hb.frozen (p := ⟨w.heap.size, 3, none⟩) kz).trans kf3
  replace k4 := (hb.cell (p := ⟨w.heap.size, 4, none⟩) kz).trans k4
  replace kf4 := (hb.frozen (p := ⟨w.heap.size, 4, none⟩) kz).trans kf4
  replace k5 := (hb.cell (p := ⟨w.heap.size, 5, none⟩) kz).trans k5
  replace kf5 := (hb.frozen (p := ⟨w.heap.size, 5, none⟩) kz).trans kf5
  replace k6 := (hb.cell (p := ⟨w.heap.size, 6, none⟩) kz).trans k6
  replace kf6 := (hb.frozen (p := ⟨w.heap.size, 6, none⟩) kz).trans kf6
  replace k7 := (hb.cell (p := ⟨w.heap.size, 7, none⟩) kz).trans k7
  replace kf7 := (hb.frozen (p := ⟨w.heap.size, 7, none⟩) kz).trans kf7
  replace k8 := (hb.cell (p := ⟨w.heap.size, 8, none⟩) kz).trans k8
  replace kf8 := (hb.frozen (p := ⟨w.heap.size, 8, none⟩) kz).trans kf8
  replace kz := Nat.lt_of_lt_of_le kz hb.size
  replace HO := Lib.hid (rown_below HO.out (below_via (Below.refl _ _) hb (Nat.le_refl _) ⟨rfl, rfl, rfl, rfl⟩))
  replace HB := Lib.hid (below_via HB.out hb HB.out.size ⟨rfl, rfl, rfl, rfl⟩)
  clear hb
  refine hK.out _ _ ⟨k0, k1, k2, k3, k4, k5, k6, k7, k8⟩ (fun hHeld => ?_)
  clear hK K
  try simp only [Act.put, List.setIfInBounds_toArray, List.set_cons_zero, List.set_cons_succ]
  refine tail_take (i := 4) (oi := { dst := some 0, op := Go.Op.assign (Go.Operand.tmp 18), type := 22, pos := "law.go:120", after := #[{ on := 1, ground := Go.Ground.data }, { on := 3, ground := Go.Ground.chain }, { on := 0, ground := Go.Ground.phase }, { on := 1, ground := Go.Ground.phase }, { on := 2, ground := Go.Ground.textOnly Go.Departure.lateStores }, { on := 3, ground := Go.Ground.textOnly Go.Departure.lateStoresUnsure }], guard := none }) (v := ?_) rfl (by kernel_rfl) (by kernel_rfl) (by kernel_rfl) (by kernel_rfl) (fun _ _ _ h => h) (Or.inl ⟨rfl, ?_⟩) (by assumption) ?_
  rotate_left
  · intro wz hSw; (try dsimp only at hSw); go_simp; try (with_reducible rfl)
  try simp only [Act.put, List.setIfInBounds_toArray, List.set_cons_zero]
  refine tail_last (o := { dst := none, op := Go.Op.store 28 (Go.Operand.tmp 4) (Go.Operand.tmp 20), type := 0, pos := "law.go:120", after := #[{ on := 3, ground := Go.Ground.data }, { on := 4, ground := Go.Ground.chain }, { on := 0, ground := Go.Ground.phase }, { on := 1, ground := Go.Ground.phase }, { on := 2, ground := Go.Ground.phase }, { on := 3, ground := Go.Ground.phase }, { on := 4, ground := Go.Ground.phase }], guard := none }) (by kernel_rfl) (by kernel_rfl) rfl (fun K hK => ?_)
  go_simp
  clear hHeld
  replace k0 : (((((((((w2.setCell ⟨w.heap.size, 0, none⟩ (.int .i64 key2)).setCell ⟨w.heap.size, 1, none⟩ (.string d2)).setCell ⟨w.heap.size, 2, none⟩ (.int .i64 a2)).setCell ⟨w.heap.size, 3, none⟩ (.int .i64 s2)).setCell ⟨w.heap.size, 4, none⟩ (.bool dead2)).setCell ⟨w.heap.size, 5, none⟩ (.int .i64 x2)).setCell ⟨w.heap.size, 6, none⟩ (.int .i64 y2)).setCell ⟨w.heap.size, 7, none⟩ (.string text2)).setCell ⟨w.heap.size, 8, none⟩ (.bool held2)).cell? ⟨w.heap.size, 0, none⟩ = some (.int .i64 key2) := by simp [go_sem, k0]
  replace kf0 : (((((((((w2.setCell ⟨w.heap.size, 0, none⟩ (.int .i64 key2)).setCell ⟨w.heap.size, 1, none⟩ (.string d2)).setCell ⟨w.heap.size, 2, none⟩ (.int .i64 a2)).setCell ⟨w.heap.size, 3, none⟩ (.int .i64 s2)).setCell ⟨w.heap.size, 4, none⟩ (.bool dead2)).setCell ⟨w.heap.size, 5, none⟩ (.int .i64 x2)).setCell ⟨w.heap.size, 6, none⟩ (.int .i64 y2)).setCell ⟨w.heap.size, 7, none⟩ (.string text2)).setCell ⟨w.heap.size, 8, none⟩ (.bool held2)).frozen? ⟨w.heap.size, 0, none⟩ = false := by simp [go_sem, kf0]
  replace k1 : (((((((((w2.setCell ⟨w.heap.size, 0, none⟩ (.int .i64 key2)).setCell ⟨w.heap.size, 1, none⟩ (.string d2)).setCell ⟨w.heap.size, 2, none⟩ (.int .i64 a2)).setCell ⟨w.heap.size, 3, none⟩ (.int .i64 s2)).setCell ⟨w.heap.size, 4, none⟩ (.bool dead2)).setCell ⟨w.heap.size, 5, none⟩ (.int .i64 x2)).setCell ⟨w.heap.size, 6, none⟩ (.int .i64 y2)).setCell ⟨w.heap.size, 7, none⟩ (.string text2)).setCell ⟨w.heap.size, 8, none⟩ (.bool held2)).cell? ⟨w.heap.size, 1, none⟩ = some (.string d2) := by simp [go_sem, k1]
  replace kf1 : (((((((((w2.setCell ⟨w.heap.size, 0, none⟩ (.int .i64 key2)).setCell ⟨w.heap.size, 1, none⟩ (.string d2)).setCell ⟨w.heap.size, 2, none⟩ (.int .i64 a2)).setCell ⟨w.heap.size, 3, none⟩ (.int .i64 s2)).setCell ⟨w.heap.size, 4, none⟩ (.bool dead2)).setCell ⟨w.heap.size, 5, none⟩ (.int .i64 x2)).setCell ⟨w.heap.size, 6, none⟩ (.int .i64 y2)).setCell ⟨w.heap.size, 7, none⟩ (.string text2)).setCell ⟨w.heap.size, 8, none⟩ (.bool held2)).frozen? ⟨w.heap.size, 1, none⟩ = false := by simp [go_sem, kf1]
  replace k2 : (((((((((w2.setCell ⟨w.heap.size, 0, none⟩ (.int .i64 key2)).setCell ⟨w.heap.size, 1, none⟩ (.string d2)).setCell ⟨w.heap.size, 2, none⟩ (.int .i64 a2)).setCell ⟨w.heap.size, 3, none⟩ (.int .i64 s2)).setCell ⟨w.heap.size, 4, none⟩ (.bool dead2)).setCell ⟨w.heap.size, 5, none⟩ (.int .i64 x2)).setCell ⟨w.heap.size, 6, none⟩ (.int .i64 y2)).setCell ⟨w.heap.size, 7, none⟩ (.string text2)).setCell ⟨w.heap.size, 8, none⟩ (.bool held2)).cell? ⟨w.heap.size, 2, none⟩ = some (.int .i64 a2) := by simp [go_sem, k2]
  replace kf2 : (((((((((w2.setCell ⟨w.heap.size, 0, none⟩ (.int .i64 key2)).setCell ⟨w.heap.size, 1, none⟩ (.string d2)).setCell ⟨w.heap.size, 2, none⟩ (.int .i64 a2)).setCell ⟨w.heap.size, 3, none⟩ (.int .i64 s2)).setCell ⟨w.heap.size, 4, none⟩ (.bool dead2)).setCell ⟨w.heap.size, 5, none⟩ (.int .i64 x2)).setCell ⟨w.heap.size, 6, none⟩ (.int .i64 y2)).setCell ⟨w.heap.size, 7, none⟩ (.string text2)).setCell ⟨w.heap.size, 8, none⟩ (.bool held2)).frozen? ⟨w.heap.size, 2, none⟩ = false := by simp [go_sem, kf2]
  replace k3 : (((((((((w2.setCell ⟨w.heap.size, 0, none⟩ (.int .i64 key2)).setCell ⟨w.heap.size, 1, none⟩ (.string d2)).setCell ⟨w.heap.size, 2, none⟩ (.int .i64 a2)).setCell ⟨w.heap.size, 3, none⟩ (.int .i64 s2)).setCell ⟨w.heap.size, 4, none⟩ (.bool dead2)).setCell ⟨w.heap.size, 5, none⟩ (.int .i64 x2)).setCell ⟨w.heap.size, 6, none⟩ (.int .i64 y2)).setCell ⟨w.heap.size, 7, none⟩ (.string text2)).setCell ⟨w.heap.size, 8, none⟩ (.bool held2)).cell? ⟨w.heap.size, 3, none⟩ = some (.int .i64 s2) := by simp [go_sem, k3]
  replace kf3 : (((((((((w2.setCell ⟨w.heap.size, 0, none⟩ (.int .i64 key2)).setCell ⟨w.heap.size, 1, none⟩ (.string d2)).setCell ⟨w.heap.size, 2, none⟩ (.int .i64 a2)).setCell ⟨w.heap.size, 3, none⟩ (.int .i64 s2)).setCell ⟨w.heap.size, 4, none⟩ (.bool dead2)).setCell ⟨w.heap.size, 5, none⟩ (.int .i64 x2)).setCell ⟨w.heap.size, 6, none⟩ (.int .i64 y2)).setCell ⟨w.heap.size, 7, none⟩ (.string text2)).setCell ⟨w.heap.size, 8, none⟩ (.bool held2)).frozen? ⟨w.heap.size, 3, none⟩ = false := by simp [go_sem, kf3]
  replace k4 : (((((((((w2.setCell ⟨w.heap.size, 0, none⟩ (.int .i64 key2)).setCell ⟨w.heap.size, 1, none⟩ (.string d2)).setCell ⟨w.heap.size, 2, none⟩ (.int .i64 a2)).setCell ⟨w.heap.size, 3, none⟩ (.int .i64 s2)).setCell ⟨w.heap.size, 4, none⟩ (.bool dead2)).setCell ⟨w.heap.size, 5, none⟩ (.int .i64 x2)).setCell ⟨w.heap.size, 6, none⟩ (.int .i64 y2)).setCell ⟨w.heap.size, 7, none⟩ (.string text2)).setCell ⟨w.heap.size, 8, none⟩ (.bool held2)).cell? ⟨w.heap.size, 4, none⟩ = some (.bool dead2) := by simp [go_sem, k4]
  replace kf4 : (((((((((w2.setCell ⟨w.heap.size, 0, none⟩ (.int .i64 key2)).setCell ⟨w.heap.size, 1, none⟩ (.string d2)).setCell ⟨w.heap.size, 2, none⟩ (.int .i64 a2)).setCell ⟨w.heap.size, 3, none⟩ (.int .i64 s2)).setCell ⟨w.heap.size, 4, none⟩ (.bool dead2)).setCell ⟨w.heap.size, 5, none⟩ (.int .i64 x2)).setCell ⟨w.heap.size, 6, none⟩ (.int .i64 y2)).setCell ⟨w.heap.size, 7, none⟩ (.string text2)).setCell ⟨w.heap.size, 8, none⟩ (.bool held2)).frozen? ⟨w.heap.size, 4, none⟩ = false := by simp [go_sem, kf4]
  replace k5 : (((((((((w2.setCell ⟨w.heap.size, 0, none⟩ (.int .i64 key2)).setCell ⟨w.heap.size, 1, none⟩ (.string d2)).setCell ⟨w.heap.size, 2, none⟩ (.int .i64 a2)).setCell ⟨w.heap.size, 3, none⟩ (.int .i64 s2)).setCell ⟨w.heap.size, 4, none⟩ (.bool dead2)).setCell ⟨w.heap.size, 5, none⟩ (.int .i64 x2)).setCell ⟨w.heap.size, 6, none⟩ (.int .i64 y2)).setCell ⟨w.heap.size, 7, none⟩ (.string text2)).setCell ⟨w.heap.size, 8, none⟩ (.bool held2)).cell? ⟨w.heap.size, 5, none⟩ = some (.int .i64 x2) := by simp [go_sem, k5]
  replace kf5 : (((((((((w2.setCell ⟨w.heap.size, 0, none⟩ (.int .i64 key2)).setCell ⟨w.heap.size, 1, none⟩ (.string d2)).setCell ⟨w.heap.size, 2, none⟩ (.int .i64 a2)).setCell ⟨w.heap.size, 3, none⟩ (.int .i64 s2)).setCell ⟨w.heap.size, 4, none⟩ (.bool dead2)).setCell ⟨w.heap.size, 5, none⟩ (.int .i64 x2)).setCell ⟨w.heap.size, 6, none⟩ (.int .i64 y2)).setCell ⟨w.heap.size, 7, none⟩ (.string text2)).setCell ⟨w.heap.size, 8, none⟩ (.bool held2)).frozen? ⟨w.heap.size, 5, none⟩ = false := by simp [go_sem, kf5]
  replace k6 : (((((((((w2.setCell ⟨w.heap.size, 0, none⟩ (.int .i64 key2)).setCell ⟨w.heap.size, 1, none⟩ (.string d2)).setCell ⟨w.heap.size, 2, none⟩ (.int .i64 a2)).setCell ⟨w.heap.size, 3, none⟩ (.int .i64 s2)).setCell ⟨w.heap.size, 4, none⟩ (.bool dead2)).setCell ⟨w.heap.size, 5, none⟩ (.int .i64 x2)).setCell ⟨w.heap.size, 6, none⟩ (.int .i64 y2)).setCell ⟨w.heap.size, 7, none⟩ (.string text2)).setCell ⟨w.heap.size, 8, none⟩ (.bool held2)).cell? ⟨w.heap.size, 6, none⟩ = some (.int .i64 y2) := by simp [go_sem, k6]
  replace kf6 : (((((((((w2.setCell ⟨w.heap.size, 0, none⟩ (.int .i64 key2)).setCell ⟨w.heap.size, 1, none⟩ (.string d2)).setCell ⟨w.heap.size, 2, none⟩ (.int .i64 a2)).setCell ⟨w.heap.size, 3, none⟩ (.int .i64 s2)).setCell ⟨w.heap.size, 4, none⟩ (.bool dead2)).setCell ⟨w.heap.size, 5, none⟩ (.int .i64 x2)).setCell ⟨w.heap.size, 6, none⟩ (.int .i64 y2)).setCell ⟨w.heap.size, 7, none⟩ (.string text2)).setCell ⟨w.heap.size, 8, none⟩ (.bool held2)).frozen? ⟨w.heap.size, 6, none⟩ = false := by simp [go_sem, kf6]
  replace k7 : (((((((((w2.setCell ⟨w.heap.size, 0, none⟩ (.int .i64 key2)).setCell ⟨w.heap.size, 1, none⟩ (.string d2)).setCell ⟨w.heap.size, 2, none⟩ (.int .i64 a2)).setCell ⟨w.heap.size, 3, none⟩ (.int .i64 s2)).setCell ⟨w.heap.size, 4, none⟩ (.bool dead2)).setCell ⟨w.heap.size, 5, none⟩ (.int .i64 x2)).setCell ⟨w.heap.size, 6, none⟩ (.int .i64 y2)).setCell ⟨w.heap.size, 7, none⟩ (.string text2)).setCell ⟨w.heap.size, 8, none⟩ (.bool held2)).cell? ⟨w.heap.size, 7, none⟩ = some (.string text2) := by simp [go_sem, k7]
  replace kf7 : (((((((((w2.setCell ⟨w.heap.size, 0, none⟩ (.int .i64 key2)).setCell ⟨w.heap.size, 1, none⟩ (.string d2)).setCell ⟨w.heap.size, 2, none⟩ (.int .i64 a2)).setCell ⟨w.heap.size, 3, none⟩ (.int .i64 s2)).setCell ⟨w.heap.size, 4, none⟩ (.bool dead2)).setCell ⟨w.heap.size, 5, none⟩ (.int .i64 x2)).setCell ⟨w.heap.size, 6, none⟩ (.int .i64 y2)).setCell ⟨w.heap.size, 7, none⟩ (.string text2)).setCell ⟨w.heap.size, 8, none⟩ (.bool held2)).frozen? ⟨w.heap.size, 7, none⟩ = false := by simp [go_sem, kf7]
  replace k8 : (((((((((w2.setCell ⟨w.heap.size, 0, none⟩ (.int .i64 key2)).setCell ⟨w.heap.size, 1, none⟩ (.string d2)).setCell ⟨w.heap.size, 2, none⟩ (.int .i64 a2)).setCell ⟨w.heap.size, 3, none⟩ (.int .i64 s2)).setCell ⟨w.heap.size, 4, none⟩ (.bool dead2)).setCell ⟨w.heap.size, 5, none⟩ (.int .i64 x2)).setCell ⟨w.heap.size, 6, none⟩ (.int .i64 y2)).setCell ⟨w.heap.size, 7, none⟩ (.string text2)).setCell ⟨w.heap.size, 8, none⟩ (.bool held2)).cell? ⟨w.heap.size, 8, none⟩ = some (.bool held2) := by simp [go_sem, k8]
  replace kf8 : (((((((((w2.setCell ⟨w.heap.size, 0, none⟩ (.int .i64 key2)).setCell ⟨w.heap.size, 1, none⟩ (.string d2)).setCell ⟨w.heap.size, 2, none⟩ (.int .i64 a2)).setCell ⟨w.heap.size, 3, none⟩ (.int .i64 s2)).setCell ⟨w.heap.size, 4, none⟩ (.bool dead2)).setCell ⟨w.heap.size, 5, none⟩ (.int .i64 x2)).setCell ⟨w.heap.size, 6, none⟩ (.int .i64 y2)).setCell ⟨w.heap.size, 7, none⟩ (.string text2)).setCell ⟨w.heap.size, 8, none⟩ (.bool held2)).frozen? ⟨w.heap.size, 8, none⟩ = false := by simp [go_sem, kf8]
  replace kz : w.heap.size < (((((((((w2.setCell ⟨w.heap.size, 0, none⟩ (.int .i64 key2)).setCell ⟨w.heap.size, 1, none⟩ (.string d2)).setCell ⟨w.heap.size, 2, none⟩ (.int .i64 a2)).setCell ⟨w.heap.size, 3, none⟩ (.int .i64 s2)).setCell ⟨w.heap.size, 4, none⟩ (.bool dead2)).setCell ⟨w.heap.size, 5, none⟩ (.int .i64 x2)).setCell ⟨w.heap.size, 6, none⟩ (.int .i64 y2)).setCell ⟨w.heap.size, 7, none⟩ (.string text2)).setCell ⟨w.heap.size, 8, none⟩ (.bool held2)).heap.size := by simp <;> omega
  replace HB : Hid (Below w.heap.size w (((((((((w2.setCell ⟨w.heap.size, 0, none⟩ (.int .i64 key2)).setCell ⟨w.heap.size, 1, none⟩ (.string d2)).setCell ⟨w.heap.size, 2, none⟩ (.int .i64 a2)).setCell ⟨w.heap.size, 3, none⟩ (.int .i64 s2)).setCell ⟨w.heap.size, 4, none⟩ (.bool dead2)).setCell ⟨w.heap.size, 5, none⟩ (.int .i64 x2)).setCell ⟨w.heap.size, 6, none⟩ (.int .i64 y2)).setCell ⟨w.heap.size, 7, none⟩ (.string text2)).setCell ⟨w.heap.size, 8, none⟩ (.bool held2))) := (((((((((HB.out.setCell (by simp) _).setCell (by simp) _).setCell (by simp) _).setCell (by simp) _).setCell (by simp) _).setCell (by simp) _).setCell (by simp) _).setCell (by simp) _).setCell (by simp) _)
  replace HO : Hid ((((((((((w2.setCell ⟨w.heap.size, 0, none⟩ (.int .i64 key2)).setCell ⟨w.heap.size, 1, none⟩ (.string d2)).setCell ⟨w.heap.size, 2, none⟩ (.int .i64 a2)).setCell ⟨w.heap.size, 3, none⟩ (.int .i64 s2)).setCell ⟨w.heap.size, 4, none⟩ (.bool dead2)).setCell ⟨w.heap.size, 5, none⟩ (.int .i64 x2)).setCell ⟨w.heap.size, 6, none⟩ (.int .i64 y2)).setCell ⟨w.heap.size, 7, none⟩ (.string text2)).setCell ⟨w.heap.size, 8, none⟩ (.bool held2)).ownsRow (w.heap.size + 1) 28 9 (.slice Ay ys.length cy) ys.length (rowCells cellsI ys)) := (Go.RowKit.ownsRow_setCell_below (Go.RowKit.ownsRow_setCell_below (Go.RowKit.ownsRow_setCell_below (Go.RowKit.ownsRow_setCell_below (Go.RowKit.ownsRow_setCell_below (Go.RowKit.ownsRow_setCell_below (Go.RowKit.ownsRow_setCell_below (Go.RowKit.ownsRow_setCell_below (Go.RowKit.ownsRow_setCell_below HO.out (by simp) _) (by simp) _) (by simp) _) (by simp) _) (by simp) _) (by simp) _) (by simp) _) (by simp) _) (by simp) _)
  generalize (((((((((w2.setCell ⟨w.heap.size, 0, none⟩ (.int .i64 key2)).setCell ⟨w.heap.size, 1, none⟩ (.string d2)).setCell ⟨w.heap.size, 2, none⟩ (.int .i64 a2)).setCell ⟨w.heap.size, 3, none⟩ (.int .i64 s2)).setCell ⟨w.heap.size, 4, none⟩ (.bool dead2)).setCell ⟨w.heap.size, 5, none⟩ (.int .i64 x2)).setCell ⟨w.heap.size, 6, none⟩ (.int .i64 y2)).setCell ⟨w.heap.size, 7, none⟩ (.string text2)).setCell ⟨w.heap.size, 8, none⟩ (.bool held2)) = W2 at *
  refine hK.out _ _ ?_
  clear hK K
  try simp only [Act.put, List.setIfInBounds_toArray, List.set_cons_zero, List.set_cons_succ]
  clear HRF HX
  go_upto_region 3 with fail
  simp only [hkk]
  refine wp_region_held_drew (S := fun w' => w'.cell? ⟨w.heap.size, 0, none⟩ = some (.int .i64 key2) ∧ w'.cell? ⟨w.heap.size, 1, none⟩ = some (.string d2) ∧ w'.cell? ⟨w.heap.size, 2, none⟩ = some (.int .i64 a2) ∧ w'.cell? ⟨w.heap.size, 3, none⟩ = some (.int .i64 s2) ∧ w'.cell? ⟨w.heap.size, 4, none⟩ = some (.bool dead2) ∧ w'.cell? ⟨w.heap.size, 5, none⟩ = some (.int .i64 x2) ∧ w'.cell? ⟨w.heap.size, 6, none⟩ = some (.int .i64 y2) ∧ w'.cell? ⟨w.heap.size, 7, none⟩ = some (.string text2) ∧ w'.cell? ⟨w.heap.size, 8, none⟩ = some (.bool held2)) (by kernel_rfl) ⟨k0, k1, k2, k3, k4, k5, k6, k7, k8⟩ (fun hHeld => ?_)
  refine wpAnyH_take (i := 0) (oi := { dst := some 26, op := Go.Op.move (Go.Operand.tmp 0), type := 22, pos := "law.go:122", after := #[], guard := none }) (v := ?_) rfl (by kernel_rfl) (by kernel_rfl) (by kernel_rfl) (fun _ _ _ h => h) (Or.inl ⟨rfl, ?_⟩) (by assumption) ?_
  rotate_left
  · intro wz hSw; (try dsimp only at hSw); go_simp; try (with_reducible rfl)
  try simp only [Act.put, List.setIfInBounds_toArray, List.set_cons_zero, List.set_cons_succ]
  refine wpAnyH_take (i := 2) (oi := { dst := some 28, op := Go.Op.load 28 (Go.Operand.tmp 4), type := 28, pos := "law.go:122", after := #[], guard := none }) (v := ?_) rfl (by kernel_rfl) (by kernel_rfl) (by kernel_rfl) (fun _ _ _ h => h) (Or.inl ⟨rfl, ?_⟩) (by assumption) ?_
  rotate_left
  · intro wz hSw; (try dsimp only at hSw); go_simp; try (with_reducible rfl)
  try simp only [Act.put, List.setIfInBounds_toArray, List.set_cons_zero, List.set_cons_succ]
  refine wpAnyH_ready (rs := [1]) (by kernel_rfl) (by simp) ?_
  refine AllReadyH.cons (o := { dst := some 27, op := Go.Op.call { callee := Go.Callee.value (Go.Operand.func 11), args := #[Go.Operand.tmp 26], argTypes := #[22] }, type := 32, pos := "law.go:122", after := #[{ on := 0, ground := Go.Ground.data }], guard := none }) rfl (fun K hK => ?_) AllReadyH.nil
  go_simp
  go_at_call 11
  refine (HRT.out _ Ay cy (w.heap.size + 1) (by exact HO.out)).mono ?_
  rintro e v ⟨Ap, cp, rfl, ho, hb⟩
  have HOp := Lib.hid ho
  clear ho
  replace k0 := (hb.cell (p := ⟨w.heap.size, 0, none⟩) kz).trans k0
  replace kf0 := (hb.frozen (p := ⟨w.heap.size, 0, none⟩) kz).trans kf0
  replace k1 := (hb.cell (p := ⟨w.heap.size, 1, none⟩) kz).trans k1
  replace kf1 := (hb.frozen (p := ⟨w.heap.size, 1, none⟩) kz).trans kf1
  replace k2 := (hb.cell (p := ⟨w.heap.size, 2, none⟩) kz).trans k2
  replace kf2 := (hb.frozen (p := ⟨w.heap.size, 2, none⟩) kz).trans kf2
  replace k3 := (hb.cell (p := ⟨w.heap.size, 3, none⟩) kz).trans k3
  replace kf3 := (hb.frozen (p := ⟨w.heap.size, 3, none⟩) kz).trans kf3
  replace k4 := (hb.cell (p := ⟨w.heap.size, 4, none⟩) kz).trans k4
  replace kf4 := (hb.frozen (p := ⟨w.heap.size, 4, none⟩) kz).trans kf4
  replace k5 := (hb.cell (p := ⟨w.heap.size, 5, none⟩) kz).trans k5
  replace kf5 := (hb.frozen (p := ⟨w.heap.size, 5, none⟩) kz).trans kf5
  replace k6 := (hb.cell (p := ⟨w.heap.size, 6, none⟩) kz).trans k6
  replace kf6 := (hb.frozen (p := ⟨w.heap.size, 6, none⟩) kz).trans kf6
  replace k7 := (hb.cell (p := ⟨w.heap.size, 7, none⟩) kz).trans k7
  replace kf7 := (hb.frozen (p := ⟨w.heap.size, 7, none⟩) kz).trans kf7
  replace k8 := (hb.cell (p := ⟨w.heap.size, 8, none⟩) kz).trans k8
  replace kf8 := (hb.frozen (p := ⟨w.heap.size, 8, none⟩) kz).trans kf8
  replace kz := Nat.lt_of_lt_of_le kz hb.size
  replace HO := Lib.hid (rown_below HO.out (below_via (Below.refl _ _) hb (Nat.le_refl _) ⟨rfl, rfl, rfl, rfl⟩))
  replace HB := Lib.hid (below_via HB.out hb HB.out.size ⟨rfl, rfl, rfl, rfl⟩)
  clear hb
  refine hK.out _ _ ⟨k0, k1, k2, k3, k4, k5, k6, k7, k8⟩ (fun hHeld => ?_)
  clear hK K
  try simp only [Act.put, List.setIfInBounds_toArray, List.set_cons_zero, List.set_cons_succ]
  refine wpAnyH_ready (rs := [3]) (by kernel_rfl) (by simp) ?_
  refine AllReadyH.cons (o := { dst := some 29, op := Go.Op.call { callee := Go.Callee.value (Go.Operand.func 17), args := #[Go.Operand.tmp 28], argTypes := #[28] }, type := 46, pos := "law.go:122", after := #[{ on := 2, ground := Go.Ground.data }, { on := 1, ground := Go.Ground.chain }], guard := none }) rfl (fun K hK => ?_) AllReadyH.nil
  go_simp
  go_at_call 17
  refine (HT.out _).mono ?_
  rintro e v ⟨rfl, hb⟩
  replace k0 := (hb.cell (p := ⟨w.heap.size, 0, none⟩) kz).trans k0
  replace kf0 := (hb.frozen (p := ⟨w.heap.size, 0, none⟩) kz).trans kf0
  replace k1 := (hb.cell (p := ⟨w.heap.size, 1, none⟩) kz).trans k1
  replace kf1 := (hb.frozen (p := ⟨w.heap.size, 1, none⟩) kz).trans kf1
  replace k2 := (hb.cell (p := ⟨w.heap.size, 2, none⟩) kz).trans k2
  replace kf2 := (hb.frozen (p := ⟨w.heap.size, 2, none⟩) kz).trans kf2
  replace k3 := (hb.cell (p := ⟨w.heap.size, 3, none⟩) kz).trans k3
  replace kf3 := (hb.frozen (p := ⟨w.heap.size, 3, none⟩) kz).trans kf3
  replace k4 := (hb.cell (p := ⟨w.heap.size, 4, none⟩) kz).trans k4
  replace kf4 := (hb.frozen (p := ⟨w.heap.size, 4, none⟩) kz).trans kf4
  replace k5 := (hb.cell (p := ⟨w.heap.size, 5, none⟩) kz).trans k5
  replace kf5 := (hb.frozen (p := ⟨w.heap.size, 5, none⟩) kz).trans kf5
  replace k6 := (hb.cell (p := ⟨w.heap.size, 6, none⟩) kz).trans k6
  replace kf6 := (hb.frozen (p := ⟨w.heap.size, 6, none⟩) kz).trans kf6
  replace k7 := (hb.cell (p := ⟨w.heap.size, 7, none⟩) kz).trans k7
  replace kf7 := (hb.frozen (p := ⟨w.heap.size, 7, none⟩) kz).trans kf7
  replace k8 := (hb.cell (p := ⟨w.heap.size, 8, none⟩) kz).trans k8
  replace kf8 := (hb.frozen (p := ⟨w.heap.size, 8, none⟩) kz).trans kf8
  replace kz := Nat.lt_of_lt_of_le kz hb.size
  replace HO := Lib.hid (rown_below HO.out (below_via (Below.refl _ _) hb (Nat.le_refl _) ⟨rfl, rfl, rfl, rfl⟩))
  replace HOp := Lib.hid (rown_below HOp.out (below_via (Below.refl _ _) hb (Nat.le_refl _) ⟨rfl, rfl, rfl, rfl⟩))
  replace HB := Lib.hid (below_via HB.out hb HB.out.size ⟨rfl, rfl, rfl, rfl⟩)
  clear hb
  refine hK.out _ _ ⟨k0, k1, k2, k3, k4, k5, k6, k7, k8⟩ (fun hHeld => ?_)
  clear hK K
  try simp only [Act.put, List.setIfInBounds_toArray, List.set_cons_zero, List.set_cons_succ]
  refine wpAnyH_ready (rs := [4]) (by kernel_rfl) (by simp) ?_
  refine AllReadyH.cons (o := { dst := some 30, op := Go.Op.call { callee := Go.Callee.value (Go.Operand.func 16), args := #[Go.Operand.tmp 27, Go.Operand.tmp 29], argTypes := #[38, 46] }, type := 39, pos := "law.go:122", after := #[{ on := 1, ground := Go.Ground.data }, { on := 3, ground := Go.Ground.data }, { on := 3, ground := Go.Ground.chain }], guard := none }) rfl (fun K hK => ?_) AllReadyH.nil
  go_simp
  go_at_call 16
  refine (HPT.out _ Ap cp _ HOp.out).mono ?_
  rintro e v ⟨Aq, cq, rfl, ho, hb⟩
  have HPS := Lib.hid ho
  clear ho
  replace k0 := (hb.cell (p := ⟨w.heap.size, 0, none⟩) kz).trans k0
  replace kf0 := (hb.frozen (p := ⟨w.heap.size, 0, none⟩) kz).trans kf0
  replace k1 := (hb.cell (p := ⟨w.heap.size, 1, none⟩) kz).trans k1
  replace kf1 := (hb.frozen (p := ⟨w.heap.size, 1, none⟩) kz).trans kf1
  replace k2 := (hb.cell (p := ⟨w.heap.size, 2, none⟩) kz).trans k2
  replace kf2 := (hb.frozen (p := ⟨w.heap.size, 2, none⟩) kz).trans kf2
  replace k3 := (hb.cell (p := ⟨w.heap.size, 3, none⟩) kz).trans k3
  replace kf3 := (hb.frozen (p := ⟨w.heap.size, 3, none⟩) kz).trans kf3
  replace k4 := (hb.cell (p := ⟨w.heap.size, 4, none⟩) kz).trans k4
  replace kf4 := (hb.frozen (p := ⟨w.heap.size, 4, none⟩) kz).trans kf4
  replace k5 := (hb.cell (p := ⟨w.heap.size, 5, none⟩) kz).trans k5
  replace kf5 := (hb.frozen (p := ⟨w.heap.size, 5, none⟩) kz).trans kf5
  replace k6 := (hb.cell (p := ⟨w.heap.size, 6, none⟩) kz).trans k6
  replace kf6 := (hb.frozen (p := ⟨w.heap.size, 6, none⟩) kz).trans kf6
  replace k7 := (hb.cell (p := ⟨w.heap.size, 7, none⟩) kz).trans k7
  replace kf7 := (hb.frozen (p := ⟨w.heap.size, 7, none⟩) kz).trans kf7
  replace k8 := (hb.cell (p := ⟨w.heap.size, 8, none⟩) kz).trans k8
  replace kf8 := (hb.frozen (p := ⟨w.heap.size, 8, none⟩) kz).trans kf8
  replace kz := Nat.lt_of_lt_of_le kz hb.size
  replace HO := Lib.hid (rown_below HO.out (below_via (Below.refl _ _) hb (Nat.le_refl _) ⟨rfl, rfl, rfl, rfl⟩))
  replace HB := Lib.hid (below_via HB.out hb HB.out.size ⟨rfl, rfl, rfl, rfl⟩)
  clear hb
  clear HOp
  refine hK.out _ _ ⟨k0, k1, k2, k3, k4, k5, k6, k7, k8⟩ (fun hHeld => ?_)
  clear hK K
  try simp only [Act.put, List.setIfInBounds_toArray, List.set_cons_zero, List.set_cons_succ]
  refine wpAnyH_take (i := 5) (oi := { dst := some 25, op := Go.Op.move (Go.Operand.tmp 30), type := 39, pos := "law.go:122", after := #[{ on := 4, ground := Go.Ground.data }], guard := none }) (v := ?_) rfl (by kernel_rfl) (by kernel_rfl) (by kernel_rfl) (fun _ _ _ h => h) (Or.inl ⟨rfl, ?_⟩) (by assumption) ?_
  rotate_left
  · intro wz hSw; (try dsimp only at hSw); go_simp; try (with_reducible rfl)
  try simp only [Act.put, List.setIfInBounds_toArray, List.set_cons_zero, List.set_cons_succ]
  refine wpAnyH_take (i := 6) (oi := { dst := some 31, op := Go.Op.extract (Go.Operand.tmp 25) 0, type := 38, pos := "law.go:122", after := #[{ on := 5, ground := Go.Ground.data }], guard := none }) (v := ?_) rfl (by kernel_rfl) (by kernel_rfl) (by kernel_rfl) (fun _ _ _ h => h) (Or.inl ⟨rfl, ?_⟩) (by assumption) ?_
  rotate_left
  · intro wz hSw; (try dsimp only at hSw); go_simp; try (with_reducible rfl)
  try simp only [Act.put, List.setIfInBounds_toArray, List.set_cons_zero, List.set_cons_succ]
  refine wpAnyH_take (i := 8) (oi := { dst := some 8, op := Go.Op.assign (Go.Operand.tmp 31), type := 38, pos := "law.go:122", after := #[{ on := 6, ground := Go.Ground.data }, { on := 4, ground := Go.Ground.chain }, { on := 0, ground := Go.Ground.phase }, { on := 1, ground := Go.Ground.phase }, { on := 2, ground := Go.Ground.phase }, { on := 3, ground := Go.Ground.phase }, { on := 4, ground := Go.Ground.phase }, { on := 5, ground := Go.Ground.phase }, { on := 6, ground := Go.Ground.phase }, { on := 7, ground := Go.Ground.textOnly Go.Departure.lateStores }], guard := none }) (v := ?_) rfl (by kernel_rfl) (by kernel_rfl) (by kernel_rfl) (fun _ _ _ h => h) (Or.inl ⟨rfl, ?_⟩) (by assumption) ?_
  rotate_left
  · intro wz hSw; (try dsimp only at hSw); go_simp; try (with_reducible rfl)
  try simp only [Act.put, List.setIfInBounds_toArray, List.set_cons_zero, List.set_cons_succ]
  refine wpAnyH_take (i := 7) (oi := { dst := some 32, op := Go.Op.extract (Go.Operand.tmp 25) 1, type := 4, pos := "law.go:122", after := #[{ on := 5, ground := Go.Ground.data }, { on := 8, ground := Go.Ground.gcOnly Go.Departure.lateStores }], guard := none }) (v := ?_) rfl (by kernel_rfl) (by kernel_rfl) (by kernel_rfl) (fun _ _ _ h => h) (Or.inl ⟨rfl, ?_⟩) (by assumption) ?_
  rotate_left
  · intro wz hSw; (try dsimp only at hSw); go_simp; try (with_reducible rfl)
  try simp only [Act.put, List.setIfInBounds_toArray, List.set_cons_zero, List.set_cons_succ]
  refine wpAnyH_take (i := 9) (oi := { dst := some 9, op := Go.Op.assign (Go.Operand.tmp 32), type := 4, pos := "law.go:122", after := #[{ on := 7, ground := Go.Ground.data }, { on := 8, ground := Go.Ground.chain }, { on := 0, ground := Go.Ground.phase }, { on := 1, ground := Go.Ground.phase }, { on := 2, ground := Go.Ground.phase }, { on := 3, ground := Go.Ground.phase }, { on := 4, ground := Go.Ground.phase }, { on := 5, ground := Go.Ground.phase }, { on := 6, ground := Go.Ground.phase }, { on := 7, ground := Go.Ground.phase }, { on := 8, ground := Go.Ground.phase }], guard := none }) (v := ?_) rfl (by kernel_rfl) (by kernel_rfl) (by kernel_rfl) (fun _ _ _ h => h) (Or.inl ⟨rfl, ?_⟩) (by assumption) ?_
  rotate_left
  · intro wz hSw; (try dsimp only at hSw); go_simp; try (with_reducible rfl)
  try simp only [Act.put, List.setIfInBounds_toArray, List.set_cons_zero, List.set_cons_succ]
  refine wpAnyH_done (by kernel_rfl) ?_ _
  clear HT HPT
  go_upto_region 4 with fail
  refine wp_region_held_drew (S := fun w' => w'.cell? ⟨w.heap.size, 0, none⟩ = some (.int .i64 key2) ∧ w'.cell? ⟨w.heap.size, 1, none⟩ = some (.string d2) ∧ w'.cell? ⟨w.heap.size, 2, none⟩ = some (.int .i64 a2) ∧ w'.cell? ⟨w.heap.size, 3, none⟩ = some (.int .i64 s2) ∧ w'.cell? ⟨w.heap.size, 4, none⟩ = some (.bool dead2) ∧ w'.cell? ⟨w.heap.size, 5, none⟩ = some (.int .i64 x2) ∧ w'.cell? ⟨w.heap.size, 6, none⟩ = some (.int .i64 y2) ∧ w'.cell? ⟨w.heap.size, 7, none⟩ = some (.string text2) ∧ w'.cell? ⟨w.heap.size, 8, none⟩ = some (.bool held2)) (by kernel_rfl) ⟨k0, k1, k2, k3, k4, k5, k6, k7, k8⟩ (fun hHeld => ?_)
  refine wpAnyH_take (i := 0) (oi := { dst := some 33, op := Go.Op.move (Go.Operand.tmp 0), type := 22, pos := "law.go:123", after := #[], guard := none }) (v := ?_) rfl (by kernel_rfl) (by kernel_rfl) (by kernel_rfl) (fun _ _ _ h => h) (Or.inl ⟨rfl, ?_⟩) (by assumption) ?_
  rotate_left
  · intro wz hSw; (try dsimp only at hSw); go_simp; try (with_reducible rfl)
  try simp only [Act.put, List.setIfInBounds_toArray, List.set_cons_zero, List.set_cons_succ]
  refine wpAnyH_take (i := 2) (oi := { dst := some 35, op := Go.Op.fieldAddr 28 (Go.Operand.tmp 4) 0, type := 0, pos := "law.go:123", after := #[], guard := none }) (v := ?_) rfl (by kernel_rfl) (by kernel_rfl) (by kernel_rfl) (fun _ _ _ h => h) (Or.inl ⟨rfl, ?_⟩) (by assumption) ?_
  rotate_left
  · intro wz hSw; (try dsimp only at hSw); go_simp; try (with_reducible rfl)
  try simp only [Act.put, List.setIfInBounds_toArray, List.set_cons_zero, List.set_cons_succ]
  refine wpAnyH_take (i := 3) (oi := { dst := some 36, op := Go.Op.load 3 (Go.Operand.tmp 35), type := 3, pos := "law.go:123", after := #[{ on := 2, ground := Go.Ground.data }], guard := none }) (v := ?_) rfl (by kernel_rfl) (by kernel_rfl) (by kernel_rfl) (fun _ _ _ h => h) (Or.inl ⟨rfl, ?_⟩) (by assumption) ?_
  rotate_left
  · intro wz hSw; (try dsimp only at hSw); go_simp; try (with_reducible rfl)
  try simp only [Act.put, List.setIfInBounds_toArray, List.set_cons_zero, List.set_cons_succ]
  refine wpAnyH_ready (rs := [1]) (by kernel_rfl) (by simp) ?_
  refine AllReadyH.cons (o := { dst := some 34, op := Go.Op.call { callee := Go.Callee.value (Go.Operand.func 11), args := #[Go.Operand.tmp 33], argTypes := #[22] }, type := 32, pos := "law.go:123", after := #[{ on := 0, ground := Go.Ground.data }], guard := none }) rfl (fun K hK => ?_) AllReadyH.nil
  go_simp
  go_at_call 11
  refine (HRT.out _ Ay cy (w.heap.size + 1) (by exact HO.out)).mono ?_
  rintro e v ⟨Ap, cp, rfl, ho, hb⟩
  have HOp := Lib.hid ho
  clear ho
  replace k0 := (hb.cell (p := ⟨w.heap.size, 0, none⟩) kz).trans k0
  replace kf0 := (hb.frozen (p := ⟨w.heap.size, 0, none⟩) kz).trans kf0
  replace k1 := (hb.cell (p := ⟨w.heap.size, 1, none⟩) kz).trans k1
  replace kf1 := (hb.frozen (p := ⟨w.heap.size, 1, none⟩) kz).trans kf1
  replace k2 := (hb.cell (p := ⟨w.heap.size, 2, none⟩) kz).trans k2
  replace kf2 := (hb.frozen (p := ⟨w.heap.size, 2, none⟩) kz).trans kf2
  replace k3 := (hb.cell (p := ⟨w.heap.size, 3, none⟩) kz).trans k3
  replace kf3 := (hb.frozen (p := ⟨w.heap.size, 3, none⟩) kz).trans kf3
  replace k4 := (hb.cell (p := ⟨w.heap.size, 4, none⟩) kz).trans k4
  replace kf4 := (hb.frozen (p := ⟨w.heap.size, 4, none⟩) kz).trans kf4
  replace k5 := (hb.cell (p := ⟨w.heap.size, 5, none⟩) kz).trans k5
  replace kf5 := (hb.frozen (p := ⟨w.heap.size, 5, none⟩) kz).trans kf5
  replace k6 := (hb.cell (p := ⟨w.heap.size, 6, none⟩) kz).trans k6
  replace kf6 := (hb.frozen (p := ⟨w.heap.size, 6, none⟩) kz).trans kf6
  replace k7 := (hb.cell (p := ⟨w.heap.size, 7, none⟩) kz).trans k7
  replace kf7 := (hb.frozen (p := ⟨w.heap.size, 7, none⟩) kz).trans kf7
  replace k8 := (hb.cell (p := ⟨w.heap.size, 8, none⟩) kz).trans k8
  replace kf8 := (hb.frozen (p := ⟨w.heap.size, 8, none⟩) kz).trans kf8
  replace kz := Nat.lt_of_lt_of_le kz hb.size
  replace HO := Lib.hid (rown_below HO.out (below_via (Below.refl _ _) hb (Nat.le_refl _) ⟨rfl, rfl, rfl, rfl⟩))
  replace HPS := Lib.hid (rown_below HPS.out (below_via (Below.refl _ _) hb (Nat.le_refl _) ⟨rfl, rfl, rfl, rfl⟩))
  replace HB := Lib.hid (below_via HB.out hb HB.out.size ⟨rfl, rfl, rfl, rfl⟩)
  clear hb
  refine hK.out _ _ ⟨k0, k1, k2, k3, k4, k5, k6, k7, k8⟩ (fun hHeld => ?_)
  clear hK K
  try simp only [Act.put, List.setIfInBounds_toArray, List.set_cons_zero, List.set_cons_succ]
  refine wpAnyH_ready (rs := [4]) (by kernel_rfl) (by simp) ?_
  refine AllReadyH.cons (o := { dst := some 37, op := Go.Op.call { callee := Go.Callee.value (Go.Operand.func 23), args := #[Go.Operand.tmp 34, Go.Operand.tmp 36], argTypes := #[38, 3] }, type := 38, pos := "law.go:123", after := #[{ on := 1, ground := Go.Ground.data }, { on := 3, ground := Go.Ground.data }, { on := 1, ground := Go.Ground.chain }], guard := none }) rfl (fun K hK => ?_) AllReadyH.nil
  go_simp
  go_at_call 23
  refine (HDR.out _ Ap cp _ HOp.out).mono ?_
  rintro e v ⟨Ar, cr, rfl, ho, hb⟩
  have HDS := Lib.hid ho
  clear ho
  replace k0 := (hb.cell (p := ⟨w.heap.size, 0, none⟩) kz).trans k0
  replace kf0 := (hb.frozen (p := ⟨w.heap.size, 0, none⟩) kz).trans kf0
  replace k1 := (hb.cell (p := ⟨w.heap.size, 1, none⟩) kz).trans k1
  replace kf1 := (hb.frozen (p := ⟨w.heap.size, 1, none⟩) kz).trans kf1
  replace k2 := (hb.cell (p := ⟨w.heap.size, 2, none⟩) kz).trans k2
  replace kf2 := (hb.frozen (p := ⟨w.heap.size, 2, none⟩) kz).trans kf2
  replace k3 := (hb.cell (p := ⟨w.heap.size, 3, none⟩) kz).trans k3
  replace kf3 := (hb.frozen (p := ⟨w.heap.size, 3, none⟩) kz).trans kf3
  replace k4 := (hb.cell (p := ⟨w.heap.size, 4, none⟩) kz).trans k4
  replace kf4 := (hb.frozen (p := ⟨w.heap.size, 4, none⟩) kz).trans kf4
  replace k5 := (hb.cell (p := ⟨w.heap.size, 5, none⟩) kz).trans k5
  replace kf5 := (hb.frozen (p := ⟨w.heap.size, 5, none⟩) kz).trans kf5
  replace k6 := (hb.cell (p := ⟨w.heap.size, 6, none⟩) kz).trans k6
  replace kf6 := (hb.frozen (p := ⟨w.heap.size, 6, none⟩) kz).trans kf6
  replace k7 := (hb.cell (p := ⟨w.heap.size, 7, none⟩) kz).trans k7
  replace kf7 := (hb.frozen (p := ⟨w.heap.size, 7, none⟩) kz).trans kf7
  replace k8 := (hb.cell (p := ⟨w.heap.size, 8, none⟩) kz).trans k8
  replace kf8 := (hb.frozen (p := ⟨w.heap.size, 8, none⟩) kz).trans kf8
  replace kz := Nat.lt_of_lt_of_le kz hb.size
  replace HO := Lib.hid (rown_below HO.out (below_via (Below.refl _ _) hb (Nat.le_refl _) ⟨rfl, rfl, rfl, rfl⟩))
  replace HPS := Lib.hid (rown_below HPS.out (below_via (Below.refl _ _) hb (Nat.le_refl _) ⟨rfl, rfl, rfl, rfl⟩))
  replace HB := Lib.hid (below_via HB.out hb HB.out.size ⟨rfl, rfl, rfl, rfl⟩)
  clear hb
  clear HOp
  refine hK.out _ _ ⟨k0, k1, k2, k3, k4, k5, k6, k7, k8⟩ (fun hHeld => ?_)
  clear hK K
  try simp only [Act.put, List.setIfInBounds_toArray, List.set_cons_zero, List.set_cons_succ]
  refine wpAnyH_take (i := 5) (oi := { dst := some 10, op := Go.Op.assign (Go.Operand.tmp 37), type := 38, pos := "law.go:123", after := #[{ on := 4, ground := Go.Ground.data }, { on := 4, ground := Go.Ground.chain }, { on := 0, ground := Go.Ground.phase }, { on := 1, ground := Go.Ground.phase }, { on := 2, ground := Go.Ground.phase }, { on := 3, ground := Go.Ground.phase }, { on := 4, ground := Go.Ground.phase }], guard := none }) (v := ?_) rfl (by kernel_rfl) (by kernel_rfl) (by kernel_rfl) (fun _ _ _ h => h) (Or.inl ⟨rfl, ?_⟩) (by assumption) ?_
  rotate_left
  · intro wz hSw; (try dsimp only at hSw); go_simp; try (with_reducible rfl)
  try simp only [Act.put, List.setIfInBounds_toArray, List.set_cons_zero, List.set_cons_succ]
  refine wpAnyH_done (by kernel_rfl) ?_ _
  clear HDR hHeld
  go_upto_region 5 with fail
  by_cases hkk2 : k = key2
  · obtain ⟨hs2, hs3⟩ := HOW.out hkk2
    have hn' : (k != key2) = false := by simpa using hkk2
    subst hs3
    rw [hs2] at HG2
    rw [show (none : Option Itm).isSome = false from rfl] at HG3
    have hdl' : (ds.length : Int) ≤ ys.length := by omega
    have hpg' : (ys.length : Int) ≤ ps.length := by omega
    clear hs2 hkk2 HOT HOW HEQ
    generalize g1.getD zeroIt = z1 at *
    generalize g2.getD zeroIt = z2 at *
    generalize (none : Option Itm).getD zeroIt = z3 at *
    generalize g1.isSome = b1 at *
    unfold itmV at HG1 HG2 HG3
    generalize z1.key = gk1 at *
    generalize z1.ver.id = gd1 at *
    generalize z1.ver.seq = ga1 at *
    generalize z1.ver.stamp = gs1 at *
    generalize z1.dead = ge1 at *
    generalize fl z1.x = gx1 at *
    generalize fl z1.y = gy1 at *
    generalize z1.text = gt1 at *
    generalize z1.held = gh1 at *
    generalize z2.key = gk2 at *
    generalize z2.ver.id = gd2 at *
    generalize z2.ver.seq = ga2 at *
    generalize z2.ver.stamp = gs2 at *
    generalize z2.dead = ge2 at *
    generalize fl z2.x = gx2 at *
    generalize fl z2.y = gy2 at *
    generalize z2.text = gt2 at *
    generalize z2.held = gh2 at *
    generalize z3.key = gk3 at *
    generalize z3.ver.id = gd3 at *
    generalize z3.ver.seq = ga3 at *
    generalize z3.ver.stamp = gs3 at *
    generalize z3.dead = ge3 at *
    generalize fl z3.x = gx3 at *
    generalize fl z3.y = gy3 at *
    generalize z3.text = gt3 at *
    generalize z3.held = gh3 at *
    go_wp2_with fail
    refine (HRT.out _ Ay cy _ HO.out).mono ?_
    rintro e v1 ⟨Ap, cp, rfl, ho, hb⟩
    have HOp := Lib.hid ho
    clear ho
    replace k0 := (hb.cell (p := ⟨w.heap.size, 0, none⟩) kz).trans k0
    replace kf0 := (hb.frozen (p := ⟨w.heap.size, 0, none⟩) kz).trans kf0
    replace k1 := (hb.cell (p := ⟨w.heap.size, 1, none⟩) kz).trans k1
    replace kf1 := (hb.frozen (p := ⟨w.heap.size, 1, none⟩) kz).trans kf1
    replace k2 := (hb.cell (p := ⟨w.heap.size, 2, none⟩) kz).trans k2
    replace kf2 := (hb.frozen (p := ⟨w.heap.size, 2, none⟩) kz).trans kf2
    replace k3 := (hb.cell (p := ⟨w.heap.size, 3, none⟩) kz).trans k3
    replace kf3 := (hb.frozen (p := ⟨w.heap.size, 3, none⟩) kz).trans kf3
    replace k4 := (hb.cell (p := ⟨w.heap.size, 4, none⟩) kz).trans k4
    replace kf4 := (hb.frozen (p := ⟨w.heap.size, 4, none⟩) kz).trans kf4
    replace k5 := (hb.cell (p := ⟨w.heap.size, 5, none⟩) kz).trans k5
    replace kf5 := (hb.frozen (p := ⟨w.heap.size, 5, none⟩) kz).trans kf5
    replace k6 := (hb.cell (p := ⟨w.heap.size, 6, none⟩) kz).trans k6
    replace kf6 := (hb.frozen (p := ⟨w.heap.size, 6, none⟩) kz).trans kf6
    replace k7 := (hb.cell (p := ⟨w.heap.size, 7, none⟩) kz).trans k7
    replace kf7 := (hb.frozen (p := ⟨w.heap.size, 7, none⟩) kz).trans kf7
    replace k8 := (hb.cell (p := ⟨w.heap.size, 8, none⟩) kz).trans k8
    replace kf8 := (hb.frozen (p := ⟨w.heap.size, 8, none⟩) kz).trans kf8
    replace kz := Nat.lt_of_lt_of_le kz hb.size
    replace HO := Lib.hid (rown_below HO.out hb)
    replace HPS := Lib.hid (rown_below HPS.out hb)
    replace HDS := Lib.hid (rown_below HDS.out hb)
    replace HB := Lib.hid (HB.out.trans (hb.mono HB.out.size))
    clear hb
    go_wp2_with fail
    refine (HG1.out _ Ap cp _ HOp.out).mono ?_
    rintro e v2 ⟨rfl, hb⟩
    clear HOp
    replace k0 := (hb.cell (p := ⟨w.heap.size, 0, none⟩) kz).trans k0
    replace kf0 := (hb.frozen (p := ⟨w.heap.size, 0, none⟩) kz).trans kf0
    replace k1 := (hb.cell (p := ⟨w.heap.size, 1, none⟩) kz).trans k1
    replace kf1 := (hb.frozen (p := ⟨w.heap.size, 1, none⟩) kz).trans kf1
    replace k2 := (hb.cell (p := ⟨w.heap.size, 2, none⟩) kz).trans k2
    replace kf2 := (hb.frozen (p := ⟨w.heap.size, 2, none⟩) kz).trans kf2
    replace k3 := (hb.cell (p := ⟨w.heap.size, 3, none⟩) kz).trans k3
    replace kf3 := (hb.frozen (p := ⟨w.heap.size, 3, none⟩) kz).trans kf3
    replace k4 := (hb.cell (p := ⟨w.heap.size, 4, none⟩) kz).trans k4
    replace kf4 := (hb.frozen (p := ⟨w.heap.size, 4, none⟩) kz).trans kf4
    replace k5 := (hb.cell (p := ⟨w.heap.size, 5, none⟩) kz).trans k5
    replace kf5 := (hb.frozen (p := ⟨w.heap.size, 5, none⟩) kz).trans kf5
    replace k6 := (hb.cell (p := ⟨w.heap.size, 6, none⟩) kz).trans k6
    replace kf6 := (hb.frozen (p := ⟨w.heap.size, 6, none⟩) kz).trans kf6
    replace k7 := (hb.cell (p := ⟨w.heap.size, 7, none⟩) kz).trans k7
    replace kf7 := (hb.frozen (p := ⟨w.heap.size, 7, none⟩) kz).trans kf7
    replace k8 := (hb.cell (p := ⟨w.heap.size, 8, none⟩) kz).trans k8
    replace kf8 := (hb.frozen (p := ⟨w.heap.size, 8, none⟩) kz).trans kf8
    replace kz := Nat.lt_of_lt_of_le kz hb.size
    replace HO := Lib.hid (rown_below HO.out hb)
    replace HPS := Lib.hid (rown_below HPS.out hb)
    replace HDS := Lib.hid (rown_below HDS.out hb)
    replace HB := Lib.hid (HB.out.trans (hb.mono HB.out.size))
    clear hb
    go_upto_region 6 with fail
    replace k0 : (v2.alloc (.cells #[.int .i64 gk1, .string gd1, .int .i64 ga1, .int .i64 gs1, .bool ge1, .complex .f64 gx1 gy1, .string gt1, .bool gh1] 46)).cell? ⟨w.heap.size, 0, none⟩ = some (.int .i64 key2) := by simp [go_sem, k0, kz]
    replace kf0 : (v2.alloc (.cells #[.int .i64 gk1, .string gd1, .int .i64 ga1, .int .i64 gs1, .bool ge1, .complex .f64 gx1 gy1, .string gt1, .bool gh1] 46)).frozen? ⟨w.heap.size, 0, none⟩ = false := by simp [go_sem, kf0, kz]
    replace k1 : (v2.alloc (.cells #[.int .i64 gk1, .string gd1, .int .i64 ga1, .int .i64 gs1, .bool ge1, .complex .f64 gx1 gy1, .string gt1, .bool gh1] 46)).cell? ⟨w.heap.size, 1, none⟩ = some (.string d2) := by simp [go_sem, k1, kz]
    replace kf1 : (v2.alloc (.cells #[.int .i64 gk1, .string gd1, .int .i64 ga1, .int .i64 gs1, .bool ge1, .complex .f64 gx1 gy1, .string gt1, .bool gh1] 46)).frozen? ⟨w.heap.size, 1, none⟩ = false := by simp [go_sem, kf1, kz]
    replace k2 : (v2.alloc (.cells #[.int .i64 gk1, .string gd1, .int .i64 ga1, .int .i64 gs1, .bool ge1, .complex .f64 gx1 gy1, .string gt1, .bool gh1] 46)).cell? ⟨w.heap.size, 2, none⟩ = some (.int .i64 a2) := by simp [go_sem, k2, kz]
    replace kf2 : (v2.alloc (.cells #[.int .i64 gk1, .string gd1, .int .i64 ga1, .int .i64 gs1, .bool ge1, .complex .f64 gx1 gy1, .string gt1, .bool gh1] 46)).frozen? ⟨w.heap.size, 2, none⟩ = false := by simp [go_sem, kf2, kz]
    replace k3 : (v2.alloc (.cells #[.int .i64 gk1, .string gd1, .int .i64 ga1, .int .i64 gs1, .bool ge1, .complex .f64 gx1 gy1, .string gt1, .bool gh1] 46)).cell? ⟨w.heap.size, 3, none⟩ = some (.int .i64 s2) := by simp [go_sem, k3, kz]
    replace kf3 : (v2.alloc (.cells #[.int .i64 gk1, .string gd1, .int .i64 ga1, .int .i64 gs1, .bool ge1, .complex .f64 gx1 gy1, .string gt1, .bool gh1] 46)).frozen? ⟨w.heap.size, 3, none⟩ = false := by simp [go_sem, kf3, kz]
    replace k4 : (v2.alloc (.cells #[.int .i64 gk1, .string gd1, .int .i64 ga1, .int .i64 gs1, .bool ge1, .complex .f64 gx1 gy1, .string gt1, .bool gh1] 46)).cell? ⟨w.heap.size, 4, none⟩ = some (.bool dead2) := by simp [go_sem, k4, kz]
    replace kf4 : (v2.alloc (.cells #[.int .i64 gk1, .string gd1, .int .i64 ga1, .int .i64 gs1, .bool ge1, .complex .f64 gx1 gy1, .string gt1, .bool gh1] 46)).frozen? ⟨w.heap.size, 4, none⟩ = false := by simp [go_sem, kf4, kz]
    replace k5 : (v2.alloc (.cells #[.int .i64 gk1, .string gd1, .int .i64 ga1, .int .i64 gs1, .bool ge1, .complex .f64 gx1 gy1, .string gt1, .bool gh1] 46)).cell? ⟨w.heap.size, 5, none⟩ = some (.int .i64 x2) := by simp [go_sem, k5, kz]
    replace kf5 : (v2.alloc (.cells #[.int .i64 gk1, .string gd1, .int .i64 ga1, .int .i64 gs1, .bool ge1, .complex .f64 gx1 gy1, .string gt1, .bool gh1] 46)).frozen? ⟨w.heap.size, 5, none⟩ = false := by simp [go_sem, kf5, kz]
    replace k6 : (v2.alloc (.cells #[.int .i64 gk1, .string gd1, .int .i64 ga1, .int .i64 gs1, .bool ge1, .complex .f64 gx1 gy1, .string gt1, .bool gh1] 46)).cell? ⟨w.heap.size, 6, none⟩ = some (.int .i64 y2) := by simp [go_sem, k6, kz]
    replace kf6 : (v2.alloc (.cells #[.int .i64 gk1, .string gd1, .int .i64 ga1, .int .i64 gs1, .bool ge1, .complex .f64 gx1 gy1, .string gt1, .bool gh1] 46)).frozen? ⟨w.heap.size, 6, none⟩ = false := by simp [go_sem, kf6, kz]
    replace k7 : (v2.alloc (.cells #[.int .i64 gk1, .string gd1, .int .i64 ga1, .int .i64 gs1, .bool ge1, .complex .f64 gx1 gy1, .string gt1, .bool gh1] 46)).cell? ⟨w.heap.size, 7, none⟩ = some (.string text2) := by simp [go_sem, k7, kz]
    replace kf7 : (v2.alloc (.cells #[.int .i64 gk1, .string gd1, .int .i64 ga1, .int .i64 gs1, .bool ge1, .complex .f64 gx1 gy1, .string gt1, .bool gh1] 46)).frozen? ⟨w.heap.size, 7, none⟩ = false := by simp [go_sem, kf7, kz]
    replace k8 : (v2.alloc (.cells #[.int .i64 gk1, .string gd1, .int .i64 ga1, .int .i64 gs1, .bool ge1, .complex .f64 gx1 gy1, .string gt1, .bool gh1] 46)).cell? ⟨w.heap.size, 8, none⟩ = some (.bool held2) := by simp [go_sem, k8, kz]
    replace kf8 : (v2.alloc (.cells #[.int .i64 gk1, .string gd1, .int .i64 ga1, .int .i64 gs1, .bool ge1, .complex .f64 gx1 gy1, .string gt1, .bool gh1] 46)).frozen? ⟨w.heap.size, 8, none⟩ = false := by simp [go_sem, kf8, kz]
    replace kz : w.heap.size < (v2.alloc (.cells #[.int .i64 gk1, .string gd1, .int .i64 ga1, .int .i64 gs1, .bool ge1, .complex .f64 gx1 gy1, .string gt1, .bool gh1] 46)).heap.size := by simp <;> omega
    have p0_0 : (v2.alloc (.cells #[.int .i64 gk1, .string gd1, .int .i64 ga1, .int .i64 gs1, .bool ge1, .complex .f64 gx1 gy1, .string gt1, .bool gh1] 46)).cell? ⟨v2.heap.size, 0, none⟩ = some (.int .i64 gk1) := by simp [go_sem]
    have p0_f0 : (v2.alloc (.cells #[.int .i64 gk1, .string gd1, .int .i64 ga1, .int .i64 gs1, .bool ge1, .complex .f64 gx1 gy1, .string gt1, .bool gh1] 46)).frozen? ⟨v2.heap.size, 0, none⟩ = false := by simp [go_sem]
    have p0_1 : (v2.alloc (.cells #[.int .i64 gk1, .string gd1, .int .i64 ga1, .int .i64 gs1, .bool ge1, .complex .f64 gx1 gy1, .string gt1, .bool gh1] 46)).cell? ⟨v2.heap.size, 1, none⟩ = some (.string gd1) := by simp [go_sem]
    have p0_f1 : (v2.alloc (.cells #[.int .i64 gk1, .string gd1, .int .i64 ga1, .int .i64 gs1, .bool ge1, .complex .f64 gx1 gy1, .string gt1, .bool gh1] 46)).frozen? ⟨v2.heap.size, 1, none⟩ = false := by simp [go_sem]
    have p0_2 : (v2.alloc (.cells #[.int .i64 gk1, .string gd1, .int .i64 ga1, .int .i64 gs1, .bool ge1, .complex .f64 gx1 gy1, .string gt1, .bool gh1] 46)).cell? ⟨v2.heap.size, 2, none⟩ = some (.int .i64 ga1) := by simp [go_sem]
    have p0_f2 : (v2.alloc (.cells #[.int .i64 gk1, .string gd1, .int .i64 ga1, .int .i64 gs1, .bool ge1, .complex .f64 gx1 gy1, .string gt1, .bool gh1] 46)).frozen? ⟨v2.heap.size, 2, none⟩ = false := by simp [go_sem]
    have p0_3 : (v2.alloc (.cells #[.int .i64 gk1, .string gd1, .int .i64 ga1, .int .i64 gs1, .bool ge1, .complex .f64 gx1 gy1, .string gt1, .bool gh1] 46)).cell? ⟨v2.heap.size, 3, none⟩ = some (.int .i64 gs1) := by simp [go_sem]
    have p0_f3 : (v2.alloc (.cells #[.int .i64 gk1, .string gd1, .int .i64 ga1, .int .i64 gs1, .bool ge1, .complex .f64 gx1 gy1, .string gt1, .bool gh1] 46)).frozen? ⟨v2.heap.size, 3, none⟩ = false := by simp [go_sem]
    have p0_4 : (v2.alloc (.cells #[.int .i64 gk1, .string gd1, .int .i64 ga1, .int .i64 gs1, .bool ge1, .complex .f64 gx1 gy1, .string gt1, .bool gh1] 46)).cell? ⟨v2.heap.size, 4, none⟩ = some (.bool ge1) := by simp [go_sem]
    have p0_f4 : (v2.alloc (.cells #[.int .i64 gk1, .string gd1, .int .i64 ga1, .int .i64 gs1, .bool ge1, .complex .f64 gx1 gy1, .string gt1, .bool gh1] 46)).frozen? ⟨v2.heap.size, 4, none⟩ = false := by simp [go_sem]
    have p0_5 : (v2.alloc (.cells #[.int .i64 gk1, .string gd1, .int .i64 ga1, .int .i64 gs1, .bool ge1, .complex .f64 gx1 gy1, .string gt1, .bool gh1] 46)).cell? ⟨v2.heap.size, 5, none⟩ = some (.complex .f64 gx1 gy1) := by simp [go_sem]
    have p0_f5 : (v2.alloc (.cells #[.int .i64 gk1, .string gd1, .int .i64 ga1, .int .i64 gs1, .bool ge1, .complex .f64 gx1 gy1, .string gt1, .bool gh1] 46)).frozen? ⟨v2.heap.size, 5, none⟩ = false := by simp [go_sem]
    have p0_6 : (v2.alloc (.cells #[.int .i64 gk1, .string gd1, .int .i64 ga1, .int .i64 gs1, .bool ge1, .complex .f64 gx1 gy1, .string gt1, .bool gh1] 46)).cell? ⟨v2.heap.size, 6, none⟩ = some (.string gt1) := by simp [go_sem]
    have p0_f6 : (v2.alloc (.cells #[.int .i64 gk1, .string gd1, .int .i64 ga1, .int .i64 gs1, .bool ge1, .complex .f64 gx1 gy1, .string gt1, .bool gh1] 46)).frozen? ⟨v2.heap.size, 6, none⟩ = false := by simp [go_sem]
    have p0_7 : (v2.alloc (.cells #[.int .i64 gk1, .string gd1, .int .i64 ga1, .int .i64 gs1, .bool ge1, .complex .f64 gx1 gy1, .string gt1, .bool gh1] 46)).cell? ⟨v2.heap.size, 7, none⟩ = some (.bool gh1) := by simp [go_sem]
    have p0_f7 : (v2.alloc (.cells #[.int .i64 gk1, .string gd1, .int .i64 ga1, .int .i64 gs1, .bool ge1, .complex .f64 gx1 gy1, .string gt1, .bool gh1] 46)).frozen? ⟨v2.heap.size, 7, none⟩ = false := by simp [go_sem]
    have p0_z : v2.heap.size < (v2.alloc (.cells #[.int .i64 gk1, .string gd1, .int .i64 ga1, .int .i64 gs1, .bool ge1, .complex .f64 gx1 gy1, .string gt1, .bool gh1] 46)).heap.size := by simp <;> omega
    have hb : Below v2.heap.size v2 (v2.alloc (.cells #[.int .i64 gk1, .string gd1, .int .i64 ga1, .int .i64 gs1, .bool ge1, .complex .f64 gx1 gy1, .string gt1, .bool gh1] 46)) := (Below.refl _ _).alloc (Nat.le_refl _) _
    replace HO := Lib.hid (rown_below HO.out hb)
    replace HPS := Lib.hid (rown_below HPS.out hb)
    replace HDS := Lib.hid (rown_below HDS.out hb)
    replace HB := Lib.hid (HB.out.trans (hb.mono HB.out.size))
    clear hb
    generalize (v2.alloc (.cells #[.int .i64 gk1, .string gd1, .int .i64 ga1, .int .i64 gs1, .bool ge1, .complex .f64 gx1 gy1, .string gt1, .bool gh1] 46)) = V0 at *
    generalize v2.heap.size = P0 at *
    go_wp2_with fail
    refine (HG2.out _ Aq cq _ HPS.out).mono ?_
    rintro e v3 ⟨rfl, hb⟩
    clear HPS
    replace k0 := (hb.cell (p := ⟨w.heap.size, 0, none⟩) kz).trans k0
    replace kf0 := (hb.frozen (p := ⟨w.heap.size, 0, none⟩) kz).trans kf0
    replace k1 := (hb.cell (p := ⟨w.heap.size, 1, none⟩) kz).trans k1
    replace kf1 := (hb.frozen (p := ⟨w.heap.size, 1, none⟩) kz).trans kf1
    replace k2 := (hb.cell (p := ⟨w.heap.size, 2, none⟩) kz).trans k2
    replace kf2 := (hb.frozen (p := ⟨w.heap.size, 2, none⟩) kz).trans kf2
    replace k3 := (hb.cell (p := ⟨w.heap.size, 3, none⟩) kz).trans k3
    replace kf3 := (hb.frozen (p := ⟨w.heap.size, 3, none⟩) kz).trans kf3
    replace k4 := (hb.cell (p := ⟨w.heap.size, 4, none⟩) kz).trans k4
    replace kf4 := (hb.frozen (p := ⟨w.heap.size, 4, none⟩) kz).trans kf4
    replace k5 := (hb.cell (p := ⟨w.heap.size, 5, none⟩) kz).trans k5
    replace kf5 := (hb.frozen (p := ⟨w.heap.size, 5, none⟩) kz).trans kf5
    replace k6 := (hb.cell (p := ⟨w.heap.size, 6, none⟩) kz).trans k6
    replace kf6 := (hb.frozen (p := ⟨w.heap.size, 6, none⟩) kz).trans kf6
    replace k7 := (hb.cell (p := ⟨w.heap.size, 7, none⟩) kz).trans k7
    replace kf7 := (hb.frozen (p := ⟨w.heap.size, 7, none⟩) kz).trans kf7
    replace k8 := (hb.cell (p := ⟨w.heap.size, 8, none⟩) kz).trans k8
    replace kf8 := (hb.frozen (p := ⟨w.heap.size, 8, none⟩) kz).trans kf8
    replace kz := Nat.lt_of_lt_of_le kz hb.size
    replace p0_0 := (hb.cell (p := ⟨P0, 0, none⟩) p0_z).trans p0_0
    replace p0_f0 := (hb.frozen (p := ⟨P0, 0, none⟩) p0_z).trans p0_f0
    replace p0_1 := (hb.cell (p := ⟨P0, 1, none⟩) p0_z).trans p0_1
    replace p0_f1 := (hb.frozen (p := ⟨P0, 1, none⟩) p0_z).trans p0_f1
    replace p0_2 := (hb.cell (p := ⟨P0, 2, none⟩) p0_z).trans p0_2
    replace p0_f2 := (hb.frozen (p := ⟨P0, 2, none⟩) p0_z).trans p0_f2
    replace p0_3 := (hb.cell (p := ⟨P0, 3, none⟩) p0_z).trans p0_3
    replace p0_f3 := (hb.frozen (p := ⟨P0, 3, none⟩) p0_z).trans p0_f3
    replace p0_4 := (hb.cell (p := ⟨P0, 4, none⟩) p0_z).trans p0_4
    replace p0_f4 := (hb.frozen (p := ⟨P0, 4, none⟩) p0_z).trans p0_f4
    replace p0_5 := (hb.cell (p := ⟨P0, 5, none⟩) p0_z).trans p0_5
    replace p0_f5 := (hb.frozen (p := ⟨P0, 5, none⟩) p0_z).trans p0_f5
    replace p0_6 := (hb.cell (p := ⟨P0, 6, none⟩) p0_z).trans p0_6
    replace p0_f6 := (hb.frozen (p := ⟨P0, 6, none⟩) p0_z).trans p0_f6
    replace p0_7 := (hb.cell (p := ⟨P0, 7, none⟩) p0_z).trans p0_7
    replace p0_f7 := (hb.frozen (p := ⟨P0, 7, none⟩) p0_z).trans p0_f7
    replace p0_z := Nat.lt_of_lt_of_le p0_z hb.size
    replace HO := Lib.hid (rown_below HO.out hb)
    replace HDS := Lib.hid (rown_below HDS.out hb)
    replace HB := Lib.hid (HB.out.trans (hb.mono HB.out.size))
    clear hb
    go_upto_region 7 with fail
    replace k0 : (v3.alloc (.cells #[.int .i64 gk2, .string gd2, .int .i64 ga2, .int .i64 gs2, .bool ge2, .complex .f64 gx2 gy2, .string gt2, .bool gh2] 46)).cell? ⟨w.heap.size, 0, none⟩ = some (.int .i64 key2) := by simp [go_sem, k0, kz]
    replace kf0 : (v3.alloc (.cells #[.int .i64 gk2, .string gd2, .int .i64 ga2, .int .i64 gs2, .bool ge2, .complex .f64 gx2 gy2, .string gt2, .bool gh2] 46)).frozen? ⟨w.heap.size, 0, none⟩ = false := by simp [go_sem, kf0, kz]
    replace k1 : (v3.alloc (.cells #[.int .i64 gk2, .string gd2, .int .i64 ga2, .int .i64 gs2, .bool ge2, .complex .f64 gx2 gy2, .string gt2, .bool gh2] 46)).cell? ⟨w.heap.size, 1, none⟩ = some (.string d2) := by simp [go_sem, k1, kz]
    replace kf1 : (v3.alloc (.cells #[.int .i64 gk2, .string gd2, .int .i64 ga2, .int .i64 gs2, .bool ge2, .complex .f64 gx2 gy2, .string gt2, .bool gh2] 46)).frozen? ⟨w.heap.size, 1, none⟩ = false := by simp [go_sem, kf1, kz]
    replace k2 : (v3.alloc (.cells #[.int .i64 gk2, .string gd2, .int .i64 ga2, .int .i64 gs2, .bool ge2, .complex .f64 gx2 gy2, .string gt2, .bool gh2] 46)).cell? ⟨w.heap.size, 2, none⟩ = some (.int .i64 a2) := by simp [go_sem, k2, kz]
    replace kf2 : (v3.alloc (.cells #[.int .i64 gk2, .string gd2, .int .i64 ga2, .int .i64 gs2, .bool ge2, .complex .f64 gx2 gy2, .string gt2, .bool gh2] 46)).frozen? ⟨w.heap.size, 2, none⟩ = false := by simp [go_sem, kf2, kz]
    replace k3 : (v3.alloc (.cells #[.int .i64 gk2, .string gd2, .int .i64 ga2, .int .i64 gs2, .bool ge2, .complex .f64 gx2 gy2, .string gt2, .bool gh2] 46)).cell? ⟨w.heap.size, 3, none⟩ = some (.int .i64 s2) := by simp [go_sem, k3, kz]
    replace kf3 : (v3.alloc (.cells #[.int .i64 gk2, .string gd2, .int .i64 ga2, .int .i64 gs2, .bool ge2, .complex .f64 gx2 gy2, .string gt2, .bool gh2] 46)).frozen? ⟨w.heap.size, 3, none⟩ = false := by simp [go_sem, kf3, kz]
    replace k4 : (v3.alloc (.cells #[.int .i64 gk2, .string gd2, .int .i64 ga2, .int .i64 gs2, .bool ge2, .complex .f64 gx2 gy2, .string gt2, .bool gh2] 46)).cell? ⟨w.heap.size, 4, none⟩ = some (.bool dead2) := by simp [go_sem, k4, kz]
    replace kf4 : (v3.alloc (.cells #[.int .i64 gk2, .string gd2, .int .i64 ga2, .int .i64 gs2, .bool ge2, .complex .f64 gx2 gy2, .string gt2, .bool gh2] 46)).frozen? ⟨w.heap.size, 4, none⟩ = false := by simp [go_sem, kf4, kz]
    replace k5 : (v3.alloc (.cells #[.int .i64 gk2, .string gd2, .int .i64 ga2, .int .i64 gs2, .bool ge2, .complex .f64 gx2 gy2, .string gt2, .bool gh2] 46)).cell? ⟨w.heap.size, 5, none⟩ = some (.int .i64 x2) := by simp [go_sem, k5, kz]
    replace kf5 : (v3.alloc (.cells #[.int .i64 gk2, .string gd2, .int .i64 ga2, .int .i64 gs2, .bool ge2, .complex .f64 gx2 gy2, .string gt2, .bool gh2] 46)).frozen? ⟨w.heap.size, 5, none⟩ = false := by simp [go_sem, kf5, kz]
    replace k6 : (v3.alloc (.cells #[.int .i64 gk2, .string gd2, .int .i64 ga2, .int .i64 gs2, .bool ge2, .complex .f64 gx2 gy2, .string gt2, .bool gh2] 46)).cell? ⟨w.heap.size, 6, none⟩ = some (.int .i64 y2) := by simp [go_sem, k6, kz]
    replace kf6 : (v3.alloc (.cells #[.int .i64 gk2, .string gd2, .int .i64 ga2, .int .i64 gs2, .bool ge2, .complex .f64 gx2 gy2, .string gt2, .bool gh2] 46)).frozen? ⟨w.heap.size, 6, none⟩ = false := by simp [go_sem, kf6, kz]
    replace k7 : (v3.alloc (.cells #[.int .i64 gk2, .string gd2, .int .i64 ga2, .int .i64 gs2, .bool ge2, .complex .f64 gx2 gy2, .string gt2, .bool gh2] 46)).cell? ⟨w.heap.size, 7, none⟩ = some (.string text2) := by simp [go_sem, k7, kz]
    replace kf7 : (v3.alloc (.cells #[.int .i64 gk2, .string gd2, .int .i64 ga2, .int .i64 gs2, .bool ge2, .complex .f64 gx2 gy2, .string gt2, .bool gh2] 46)).frozen? ⟨w.heap.size, 7, none⟩ = false := by simp [go_sem, kf7, kz]
    replace k8 : (v3.alloc (.cells #[.int .i64 gk2, .string gd2, .int .i64 ga2, .int .i64 gs2, .bool ge2, .complex .f64 gx2 gy2, .string gt2, .bool gh2] 46)).cell? ⟨w.heap.size, 8, none⟩ = some (.bool held2) := by simp [go_sem, k8, kz]
    replace kf8 : (v3.alloc (.cells #[.int .i64 gk2, .string gd2, .int .i64 ga2, .int .i64 gs2, .bool ge2, .complex .f64 gx2 gy2, .string gt2, .bool gh2] 46)).frozen? ⟨w.heap.size, 8, none⟩ = false := by simp [go_sem, kf8, kz]
    replace kz : w.heap.size < (v3.alloc (.cells #[.int .i64 gk2, .string gd2, .int .i64 ga2, .int .i64 gs2, .bool ge2, .complex .f64 gx2 gy2, .string gt2, .bool gh2] 46)).heap.size := by simp <;> omega
    replace p0_0 : (v3.alloc (.cells #[.int .i64 gk2, .string gd2, .int .i64 ga2, .int .i64 gs2, .bool ge2, .complex .f64 gx2 gy2, .string gt2, .bool gh2] 46)).cell? ⟨P0, 0, none⟩ = some (.int .i64 gk1) := by simp [go_sem, p0_0, p0_z]
    replace p0_f0 : (v3.alloc (.cells #[.int .i64 gk2, .string gd2, .int .i64 ga2, .int .i64 gs2, .bool ge2, .complex .f64 gx2 gy2, .string gt2, .bool gh2] 46)).frozen? ⟨P0, 0, none⟩ = false := by simp [go_sem, p0_f0, p0_z]
    replace p0_1 : (v3.alloc (.cells #[.int .i64 gk2, .string gd2, .int .i64 ga2, .int .i64 gs2, .bool ge2, .complex .f64 gx2 gy2, .string gt2, .bool gh2] 46)).cell? ⟨P0, 1, none⟩ = some (.string gd1) := by simp [go_sem, p0_1, p0_z]
    replace p0_f1 : (v3.alloc (.cells #[.int .i64 gk2, .string gd2, .int .i64 ga2, .int .i64 gs2, .bool ge2, .complex .f64 gx2 gy2, .string gt2, .bool gh2] 46)).frozen? ⟨P0, 1, none⟩ = false := by simp [go_sem, p0_f1, p0_z]
    replace p0_2 : (v3.alloc (.cells #[.int .i64 gk2, .string gd2, .int .i64 ga2, .int .i64 gs2, .bool ge2, .complex .f64 gx2 gy2, .string gt2, .bool gh2] 46)).cell? ⟨P0, 2, none⟩ = some (.int .i64 ga1) := by simp [go_sem, p0_2, p0_z]
    replace p0_f2 : (v3.alloc (.cells #[.int .i64 gk2, .string gd2, .int .i64 ga2, .int .i64 gs2, .bool ge2, .complex .f64 gx2 gy2, .string gt2, .bool gh2] 46)).frozen? ⟨P0, 2, none⟩ = false := by simp [go_sem, p0_f2, p0_z]
    replace p0_3 : (v3.alloc (.cells #[.int .i64 gk2, .string gd2, .int .i64 ga2, .int .i64 gs2, .bool ge2, .complex .f64 gx2 gy2, .string gt2, .bool gh2] 46)).cell? ⟨P0, 3, none⟩ = some (.int .i64 gs1) := by simp [go_sem, p0_3, p0_z]
    replace p0_f3 : (v3.alloc (.cells #[.int .i64 gk2, .string gd2, .int .i64 ga2, .int .i64 gs2, .bool ge2, .complex .f64 gx2 gy2, .string gt2, .bool gh2] 46)).frozen? ⟨P0, 3, none⟩ = false := by simp [go_sem, p0_f3, p0_z]
    replace p0_4 : (v3.alloc (.cells #[.int .i64 gk2, .string gd2, .int .i64 ga2, .int .i64 gs2, .bool ge2, .complex .f64 gx2 gy2, .string gt2, .bool gh2] 46)).cell? ⟨P0, 4, none⟩ = some (.bool ge1) := by simp [go_sem, p0_4, p0_z]
    replace p0_f4 : (v3.alloc (.cells #[.int .i64 gk2, .string gd2, .int .i64 ga2, .int .i64 gs2, .bool ge2, .complex .f64 gx2 gy2, .string gt2, .bool gh2] 46)).frozen? ⟨P0, 4, none⟩ = false := by simp [go_sem, p0_f4, p0_z]
    replace p0_5 : (v3.alloc (.cells #[.int .i64 gk2, .string gd2, .int .i64 ga2, .int .i64 gs2, .bool ge2, .complex .f64 gx2 gy2, .string gt2, .bool gh2] 46)).cell? ⟨P0, 5, none⟩ = some (.complex .f64 gx1 gy1) := by simp [go_sem, p0_5, p0_z]
    replace p0_f5 : (v3.alloc (.cells #[.int .i64 gk2, .string gd2, .int .i64 ga2, .int .i64 gs2, .bool ge2, .complex .f64 gx2 gy2, .string gt2, .bool gh2] 46)).frozen? ⟨P0, 5, none⟩ = false := by simp [go_sem, p0_f5, p0_z]
    replace p0_6 : (v3.alloc (.cells #[.int .i64 gk2, .string gd2, .int .i64 ga2, .int .i64 gs2, .bool ge2, .complex .f64 gx2 gy2, .string gt2, .bool gh2] 46)).cell? ⟨P0, 6, none⟩ = some (.string gt1) := by simp [go_sem, p0_6, p0_z]
    replace p0_f6 : (v3.alloc (.cells #[.int .i64 gk2, .string gd2, .int .i64 ga2, .int .i64 gs2, .bool ge2, .complex .f64 gx2 gy2, .string gt2, .bool gh2] 46)).frozen? ⟨P0, 6, none⟩ = false := by simp [go_sem, p0_f6, p0_z]
    replace p0_7 : (v3.alloc (.cells #[.int .i64 gk2, .string gd2, .int .i64 ga2, .int .i64 gs2, .bool ge2, .complex .f64 gx2 gy2, .string gt2, .bool gh2] 46)).cell? ⟨P0, 7, none⟩ = some (.bool gh1) := by simp [go_sem, p0_7, p0_z]
    replace p0_f7 : (v3.alloc (.cells #[.int .i64 gk2, .string gd2, .int .i64 ga2, .int .i64 gs2, .bool ge2, .complex .f64 gx2 gy2, .string gt2, .bool gh2] 46)).frozen? ⟨P0, 7, none⟩ = false := by simp [go_sem, p0_f7, p0_z]
    replace p0_z : P0 < (v3.alloc (.cells #[.int .i64 gk2, .string gd2, .int .i64 ga2, .int .i64 gs2, .bool ge2, .complex .f64 gx2 gy2, .string gt2, .bool gh2] 46)).heap.size := by simp <;> omega
    have p1_0 : (v3.alloc (.cells #[.int .i64 gk2, .string gd2, .int .i64 ga2, .int .i64 gs2, .bool ge2, .complex .f64 gx2 gy2, .string gt2, .bool gh2] 46)).cell? ⟨v3.heap.size, 0, none⟩ = some (.int .i64 gk2) := by simp [go_sem]
    have p1_f0 : (v3.alloc (.cells #[.int .i64 gk2, .string gd2, .int .i64 ga2, .int .i64 gs2, .bool ge2, .complex .f64 gx2 gy2, .string gt2, .bool gh2] 46)).frozen? ⟨v3.heap.size, 0, none⟩ = false := by simp [go_sem]
    have p1_1 : (v3.alloc (.cells #[.int .i64 gk2, .string gd2, .int .i64 ga2, .int .i64 gs2, .bool ge2, .complex .f64 gx2 gy2, .string gt2, .bool gh2] 46)).cell? ⟨v3.heap.size, 1, none⟩ = some (.string gd2) := by simp [go_sem]
    have p1_f1 : (v3.alloc (.cells #[.int .i64 gk2, .string gd2, .int .i64 ga2, .int .i64 gs2, .bool ge2, .complex .f64 gx2 gy2, .string gt2, .bool gh2] 46)).frozen? ⟨v3.heap.size, 1, none⟩ = false := by simp [go_sem]
    have p1_2 : (v3.alloc (.cells #[.int .i64 gk2, .string gd2, .int .i64 ga2, .int .i64 gs2, .bool ge2, .complex .f64 gx2 gy2, .string gt2, .bool gh2] 46)).cell? ⟨v3.heap.size, 2, none⟩ = some (.int .i64 ga2) := by simp [go_sem]
    have p1_f2 : (v3.alloc (.cells #[.int .i64 gk2, .string gd2, .int .i64 ga2, .int .i64 gs2, .bool ge2, .complex .f64 gx2 gy2, .string gt2, .bool gh2] 46)).frozen? ⟨v3.heap.size, 2, none⟩ = false := by simp [go_sem]
    have p1_3 : (v3.alloc (.cells #[.int .i64 gk2, .string gd2, .int .i64 ga2, .int .i64 gs2, .bool ge2, .complex .f64 gx2 gy2, .string gt2, .bool gh2] 46)).cell? ⟨v3.heap.size, 3, none⟩ = some (.int .i64 gs2) := by simp [go_sem]
    have p1_f3 : (v3.alloc (.cells #[.int .i64 gk2, .string gd2, .int .i64 ga2, .int .i64 gs2, .bool ge2, .complex .f64 gx2 gy2, .string gt2, .bool gh2] 46)).frozen? ⟨v3.heap.size, 3, none⟩ = false := by simp [go_sem]
    have p1_4 : (v3.alloc (.cells #[.int .i64 gk2, .string gd2, .int .i64 ga2, .int .i64 gs2, .bool ge2, .complex .f64 gx2 gy2, .string gt2, .bool gh2] 46)).cell? ⟨v3.heap.size, 4, none⟩ = some (.bool ge2) := by simp [go_sem]
    have p1_f4 : (v3.alloc (.cells #[.int .i64 gk2, .string gd2, .int .i64 ga2, .int .i64 gs2, .bool ge2, .complex .f64 gx2 gy2, .string gt2, .bool gh2] 46)).frozen? ⟨v3.heap.size, 4, none⟩ = false := by simp [go_sem]
    have p1_5 : (v3.alloc (.cells #[.int .i64 gk2, .string gd2, .int .i64 ga2, .int .i64 gs2, .bool ge2, .complex .f64 gx2 gy2, .string gt2, .bool gh2] 46)).cell? ⟨v3.heap.size, 5, none⟩ = some (.complex .f64 gx2 gy2) := by simp [go_sem]
    have p1_f5 : (v3.alloc (.cells #[.int .i64 gk2, .string gd2, .int .i64 ga2, .int .i64 gs2, .bool ge2, .complex .f64 gx2 gy2, .string gt2, .bool gh2] 46)).frozen? ⟨v3.heap.size, 5, none⟩ = false := by simp [go_sem]
    have p1_6 : (v3.alloc (.cells #[.int .i64 gk2, .string gd2, .int .i64 ga2, .int .i64 gs2, .bool ge2, .complex .f64 gx2 gy2, .string gt2, .bool gh2] 46)).cell? ⟨v3.heap.size, 6, none⟩ = some (.string gt2) := by simp [go_sem]
    have p1_f6 : (v3.alloc (.cells #[.int .i64 gk2, .string gd2, .int .i64 ga2, .int .i64 gs2, .bool ge2, .complex .f64 gx2 gy2, .string gt2, .bool gh2] 46)).frozen? ⟨v3.heap.size, 6, none⟩ = false := by simp [go_sem]
    have p1_7 : (v3.alloc (.cells #[.int .i64 gk2, .string gd2, .int .i64 ga2, .int .i64 gs2, .bool ge2, .complex .f64 gx2 gy2, .string gt2, .bool gh2] 46)).cell? ⟨v3.heap.size, 7, none⟩ = some (.bool gh2) := by simp [go_sem]
    have p1_f7 : (v3.alloc (.cells #[.int .i64 gk2, .string gd2, .int .i64 ga2, .int .i64 gs2, .bool ge2, .complex .f64 gx2 gy2, .string gt2, .bool gh2] 46)).frozen? ⟨v3.heap.size, 7, none⟩ = false := by simp [go_sem]
    have p1_z : v3.heap.size < (v3.alloc (.cells #[.int .i64 gk2, .string gd2, .int .i64 ga2, .int .i64 gs2, .bool ge2, .complex .f64 gx2 gy2, .string gt2, .bool gh2] 46)).heap.size := by simp <;> omega
    have hb : Below v3.heap.size v3 (v3.alloc (.cells #[.int .i64 gk2, .string gd2, .int .i64 ga2, .int .i64 gs2, .bool ge2, .complex .f64 gx2 gy2, .string gt2, .bool gh2] 46)) := (Below.refl _ _).alloc (Nat.le_refl _) _
    replace HO := Lib.hid (rown_below HO.out hb)
    replace HDS := Lib.hid (rown_below HDS.out hb)
    replace HB := Lib.hid (HB.out.trans (hb.mono HB.out.size))
    clear hb
    generalize (v3.alloc (.cells #[.int .i64 gk2, .string gd2, .int .i64 ga2, .int .i64 gs2, .bool ge2, .complex .f64 gx2 gy2, .string gt2, .bool gh2] 46)) = V1 at *
    generalize v3.heap.size = P1 at *
    go_wp2_with fail
    refine (HG3.out _ Ar cr _ HDS.out).mono ?_
    rintro e v4 ⟨rfl, hb⟩
    clear HDS
    replace k0 := (hb.cell (p := ⟨w.heap.size, 0, none⟩) kz).trans k0
    replace kf0 := (hb.frozen (p := ⟨w.heap.size, 0, none⟩) kz).trans kf0
    replace k1 := (hb.cell (p := ⟨w.heap.size, 1, none⟩) kz).trans k1
    replace kf1 := (hb.frozen (p := ⟨w.heap.size, 1, none⟩) kz).trans kf1
    replace k2 := (hb.cell (p := ⟨w.heap.size, 2, none⟩) kz).trans k2
    replace kf2 := (hb.frozen (p := ⟨w.heap.size, 2, none⟩) kz).trans kf2
    replace k3 := (hb.cell (p := ⟨w.heap.size, 3, none⟩) kz).trans k3
    replace kf3 := (hb.frozen (p := ⟨w.heap.size, 3, none⟩) kz).trans kf3
    replace k4 := (hb.cell (p := ⟨w.heap.size, 4, none⟩) kz).trans k4
    replace kf4 := (hb.frozen (p := ⟨w.heap.size, 4, none⟩) kz).trans kf4
    replace k5 := (hb.cell (p := ⟨w.heap.size, 5, none⟩) kz).trans k5
    replace kf5 := (hb.frozen (p := ⟨w.heap.size, 5, none⟩) kz).trans kf5
    replace k6 := (hb.cell (p := ⟨w.heap.size, 6, none⟩) kz).trans k6
    replace kf6 := (hb.frozen (p := ⟨w.heap.size, 6, none⟩) kz).trans kf6
    replace k7 := (hb.cell (p := ⟨w.heap.size, 7, none⟩) kz).trans k7
    replace kf7 := (hb.frozen (p := ⟨w.heap.size, 7, none⟩) kz).trans kf7
    replace k8 := (hb.cell (p := ⟨w.heap.size, 8, none⟩) kz).trans k8
    replace kf8 := (hb.frozen (p := ⟨w.heap.size, 8, none⟩) kz).trans kf8
    replace kz := Nat.lt_of_lt_of_le kz hb.size
    replace p0_0 := (hb.cell (p := ⟨P0, 0, none⟩) p0_z).trans p0_0
    replace p0_f0 := (hb.frozen (p := ⟨P0, 0, none⟩) p0_z).trans p0_f0
    replace p0_1 := (hb.cell (p := ⟨P0, 1, none⟩) p0_z).trans p0_1
    replace p0_f1 := (hb.frozen (p := ⟨P0, 1, none⟩) p0_z).trans p0_f1
    replace p0_2 := (hb.cell (p := ⟨P0, 2, none⟩) p0_z).trans p0_2
    replace p0_f2 := (hb.frozen (p := ⟨P0, 2, none⟩) p0_z).trans p0_f2
    replace p0_3 := (hb.cell (p := ⟨P0, 3, none⟩) p0_z).trans p0_3
    replace p0_f3 := (hb.frozen (p := ⟨P0, 3, none⟩) p0_z).trans p0_f3
    replace p0_4 := (hb.cell (p := ⟨P0, 4, none⟩) p0_z).trans p0_4
    replace p0_f4 := (hb.frozen (p := ⟨P0, 4, none⟩) p0_z).trans p0_f4
    replace p0_5 := (hb.cell (p := ⟨P0, 5, none⟩) p0_z).trans p0_5
    replace p0_f5 := (hb.frozen (p := ⟨P0, 5, none⟩) p0_z).trans p0_f5
    replace p0_6 := (hb.cell (p := ⟨P0, 6, none⟩) p0_z).trans p0_6
    replace p0_f6 := (hb.frozen (p := ⟨P0, 6, none⟩) p0_z).trans p0_f6
    replace p0_7 := (hb.cell (p := ⟨P0, 7, none⟩) p0_z).trans p0_7
    replace p0_f7 := (hb.frozen (p := ⟨P0, 7, none⟩) p0_z).trans p0_f7
    replace p0_z := Nat.lt_of_lt_of_le p0_z hb.size
    replace p1_0 := (hb.cell (p := ⟨P1, 0, none⟩) p1_z).trans p1_0
    replace p1_f0 := (hb.frozen (p := ⟨P1, 0, none⟩) p1_z).trans p1_f0
    replace p1_1 := (hb.cell (p := ⟨P1, 1, none⟩) p1_z).trans p1_1
    replace p1_f1 := (hb.frozen (p := ⟨P1, 1, none⟩) p1_z).trans p1_f1
    replace p1_2 := (hb.cell (p := ⟨P1, 2, none⟩) p1_z).trans p1_2
    replace p1_f2 := (hb.frozen (p := ⟨P1, 2, none⟩) p1_z).trans p1_f2
    replace p1_3 := (hb.cell (p := ⟨P1, 3, none⟩) p1_z).trans p1_3
    replace p1_f3 := (hb.frozen (p := ⟨P1, 3, none⟩) p1_z).trans p1_f3
    replace p1_4 := (hb.cell (p := ⟨P1, 4, none⟩) p1_z).trans p1_4
    replace p1_f4 := (hb.frozen (p := ⟨P1, 4, none⟩) p1_z).trans p1_f4
    replace p1_5 := (hb.cell (p := ⟨P1, 5, none⟩) p1_z).trans p1_5
    replace p1_f5 := (hb.frozen (p := ⟨P1, 5, none⟩) p1_z).trans p1_f5
    replace p1_6 := (hb.cell (p := ⟨P1, 6, none⟩) p1_z).trans p1_6
    replace p1_f6 := (hb.frozen (p := ⟨P1, 6, none⟩) p1_z).trans p1_f6
    replace p1_7 := (hb.cell (p := ⟨P1, 7, none⟩) p1_z).trans p1_7
    replace p1_f7 := (hb.frozen (p := ⟨P1, 7, none⟩) p1_z).trans p1_f7
    replace p1_z := Nat.lt_of_lt_of_le p1_z hb.size
    replace HO := Lib.hid (rown_below HO.out hb)
    replace HB := Lib.hid (HB.out.trans (hb.mono HB.out.size))
    clear hb
    go_upto_region 8 with fail
    replace k0 : (v4.alloc (.cells #[.int .i64 gk3, .string gd3, .int .i64 ga3, .int .i64 gs3, .bool ge3, .complex .f64 gx3 gy3, .string gt3, .bool gh3] 46)).cell? ⟨w.heap.size, 0, none⟩ = some (.int .i64 key2) := by simp [go_sem, k0, kz]
    replace kf0 : (v4.alloc (.cells #[.int .i64 gk3, .string gd3, .int .i64 ga3, .int .i64 gs3, .bool ge3, .complex .f64 gx3 gy3, .string gt3, .bool gh3] 46)).frozen? ⟨w.heap.size, 0, none⟩ = false := by simp [go_sem, kf0, kz]
    replace k1 : (v4.alloc (.cells #[.int .i64 gk3, .string gd3, .int .i64 ga3, .int .i64 gs3, .bool ge3, .complex .f64 gx3 gy3, .string gt3, .bool gh3] 46)).cell? ⟨w.heap.size, 1, none⟩ = some (.string d2) := by simp [go_sem, k1, kz]
    replace kf1 : (v4.alloc (.cells #[.int .i64 gk3, .string gd3, .int .i64 ga3, .int .i64 gs3, .bool ge3, .complex .f64 gx3 gy3, .string gt3, .bool gh3] 46)).frozen? ⟨w.heap.size, 1, none⟩ = false := by simp [go_sem, kf1, kz]
    replace k2 : (v4.alloc (.cells #[.int .i64 gk3, .string gd3, .int .i64 ga3, .int .i64 gs3, .bool ge3, .complex .f64 gx3 gy3, .string gt3, .bool gh3] 46)).cell? ⟨w.heap.size, 2, none⟩ = some (.int .i64 a2) := by simp [go_sem, k2, kz]
    replace kf2 : (v4.alloc (.cells #[.int .i64 gk3, .string gd3, .int .i64 ga3, .int .i64 gs3, .bool ge3, .complex .f64 gx3 gy3, .string gt3, .bool gh3] 46)).frozen? ⟨w.heap.size, 2, none⟩ = false := by simp [go_sem, kf2, kz]
    replace k3 : (v4.alloc (.cells #[.int .i64 gk3, .string gd3, .int .i64 ga3, .int .i64 gs3, .bool ge3, .complex .f64 gx3 gy3, .string gt3, .bool gh3] 46)).cell? ⟨w.heap.size, 3, none⟩ = some (.int .i64 s2) := by simp [go_sem, k3, kz]
    replace kf3 : (v4.alloc (.cells #[.int .i64 gk3, .string gd3, .int .i64 ga3, .int .i64 gs3, .bool ge3, .complex .f64 gx3 gy3, .string gt3, .bool gh3] 46)).frozen? ⟨w.heap.size, 3, none⟩ = false := by simp [go_sem, kf3, kz]
    replace k4 : (v4.alloc (.cells #[.int .i64 gk3, .string gd3, .int .i64 ga3, .int .i64 gs3, .bool ge3, .complex .f64 gx3 gy3, .string gt3, .bool gh3] 46)).cell? ⟨w.heap.size, 4, none⟩ = some (.bool dead2) := by simp [go_sem, k4, kz]
    replace kf4 : (v4.alloc (.cells #[.int .i64 gk3, .string gd3, .int .i64 ga3, .int .i64 gs3, .bool ge3, .complex .f64 gx3 gy3, .string gt3, .bool gh3] 46)).frozen? ⟨w.heap.size, 4, none⟩ = false := by simp [go_sem, kf4, kz]
    replace k5 : (v4.alloc (.cells #[.int .i64 gk3, .string gd3, .int .i64 ga3, .int .i64 gs3, .bool ge3, .complex .f64 gx3 gy3, .string gt3, .bool gh3] 46)).cell? ⟨w.heap.size, 5, none⟩ = some (.int .i64 x2) := by simp [go_sem, k5, kz]
    replace kf5 : (v4.alloc (.cells #[.int .i64 gk3, .string gd3, .int .i64 ga3, .int .i64 gs3, .bool ge3, .complex .f64 gx3 gy3, .string gt3, .bool gh3] 46)).frozen? ⟨w.heap.size, 5, none⟩ = false := by simp [go_sem, kf5, kz]
    replace k6 : (v4.alloc (.cells #[.int .i64 gk3, .string gd3, .int .i64 ga3, .int .i64 gs3, .bool ge3, .complex .f64 gx3 gy3, .string gt3, .bool gh3] 46)).cell? ⟨w.heap.size, 6, none⟩ = some (.int .i64 y2) := by simp [go_sem, k6, kz]
    replace kf6 : (v4.alloc (.cells #[.int .i64 gk3, .string gd3, .int .i64 ga3, .int .i64 gs3, .bool ge3, .complex .f64 gx3 gy3, .string gt3, .bool gh3] 46)).frozen? ⟨w.heap.size, 6, none⟩ = false := by simp [go_sem, kf6, kz]
    replace k7 : (v4.alloc (.cells #[.int .i64 gk3, .string gd3, .int .i64 ga3, .int .i64 gs3, .bool ge3, .complex .f64 gx3 gy3, .string gt3, .bool gh3] 46)).cell? ⟨w.heap.size, 7, none⟩ = some (.string text2) := by simp [go_sem, k7, kz]
    replace kf7 : (v4.alloc (.cells #[.int .i64 gk3, .string gd3, .int .i64 ga3, .int .i64 gs3, .bool ge3, .complex .f64 gx3 gy3, .string gt3, .bool gh3] 46)).frozen? ⟨w.heap.size, 7, none⟩ = false := by simp [go_sem, kf7, kz]
    replace k8 : (v4.alloc (.cells #[.int .i64 gk3, .string gd3, .int .i64 ga3, .int .i64 gs3, .bool ge3, .complex .f64 gx3 gy3, .string gt3, .bool gh3] 46)).cell? ⟨w.heap.size, 8, none⟩ = some (.bool held2) := by simp [go_sem, k8, kz]
    replace kf8 : (v4.alloc (.cells #[.int .i64 gk3, .string gd3, .int .i64 ga3, .int .i64 gs3, .bool ge3, .complex .f64 gx3 gy3, .string gt3, .bool gh3] 46)).frozen? ⟨w.heap.size, 8, none⟩ = false := by simp [go_sem, kf8, kz]
    replace kz : w.heap.size < (v4.alloc (.cells #[.int .i64 gk3, .string gd3, .int .i64 ga3, .int .i64 gs3, .bool ge3, .complex .f64 gx3 gy3, .string gt3, .bool gh3] 46)).heap.size := by simp <;> omega
    replace p0_0 : (v4.alloc (.cells #[.int .i64 gk3, .string gd3, .int .i64 ga3, .int .i64 gs3, .bool ge3, .complex .f64 gx3 gy3, .string gt3, .bool gh3] 46)).cell? ⟨P0, 0, none⟩ = some (.int .i64 gk1) := by simp [go_sem, p0_0, p0_z]
    replace p0_f0 : (v4.alloc (.cells #[.int .i64 gk3, .string gd3, .int .i64 ga3, .int .i64 gs3, .bool ge3, .complex .f64 gx3 gy3, .string gt3, .bool gh3] 46)).frozen? ⟨P0, 0, none⟩ = false := by simp [go_sem, p0_f0, p0_z]
    replace p0_1 : (v4.alloc (.cells #[.int .i64 gk3, .string gd3, .int .i64 ga3, .int .i64 gs3, .bool ge3, .complex .f64 gx3 gy3, .string gt3, .bool gh3] 46)).cell? ⟨P0, 1, none⟩ = some (.string gd1) := by simp [go_sem, p0_1, p0_z]
    replace p0_f1 : (v4.alloc (.cells #[.int .i64 gk3, .string gd3, .int .i64 ga3, .int .i64 gs3, .bool ge3, .complex .f64 gx3 gy3, .string gt3, .bool gh3] 46)).frozen? ⟨P0, 1, none⟩ = false := by simp [go_sem, p0_f1, p0_z]
    replace p0_2 : (v4.alloc (.cells #[.int .i64 gk3, .string gd3, .int .i64 ga3, .int .i64 gs3, .bool ge3, .complex .f64 gx3 gy3, .string gt3, .bool gh3] 46)).cell? ⟨P0, 2, none⟩ = some (.int .i64 ga1) := by simp [go_sem, p0_2, p0_z]
    replace p0_f2 : (v4.alloc (.cells #[.int .i64 gk3, .string gd3, .int .i64 ga3, .int .i64 gs3, .bool ge3, .complex .f64 gx3 gy3, .string gt3, .bool gh3] 46)).frozen? ⟨P0, 2, none⟩ = false := by simp [go_sem, p0_f2, p0_z]
    replace p0_3 : (v4.alloc (.cells #[.int .i64 gk3, .string gd3, .int .i64 ga3, .int .i64 gs3, .bool ge3, .complex .f64 gx3 gy3, .string gt3, .bool gh3] 46)).cell? ⟨P0, 3, none⟩ = some (.int .i64 gs1) := by simp [go_sem, p0_3, p0_z]
    replace p0_f3 : (v4.alloc (.cells #[.int .i64 gk3, .string gd3, .int .i64 ga3, .int .i64 gs3, .bool ge3, .complex .f64 gx3 gy3, .string gt3, .bool gh3] 46)).frozen? ⟨P0, 3, none⟩ = false := by simp [go_sem, p0_f3, p0_z]
    replace p0_4 : (v4.alloc (.cells #[.int .i64 gk3, .string gd3, .int .i64 ga3, .int .i64 gs3, .bool ge3, .complex .f64 gx3 gy3, .string gt3, .bool gh3] 46)).cell? ⟨P0, 4, none⟩ = some (.bool ge1) := by simp [go_sem, p0_4, p0_z]
    replace p0_f4 : (v4.alloc (.cells #[.int .i64 gk3, .string gd3, .int .i64 ga3, .int .i64 gs3, .bool ge3, .complex .f64 gx3 gy3, .string gt3, .bool gh3] 46)).frozen? ⟨P0, 4, none⟩ = false := by simp [go_sem, p0_f4, p0_z]
    replace p0_5 : (v4.alloc (.cells #[.int .i64 gk3, .string gd3, .int .i64 ga3, .int .i64 gs3, .bool ge3, .complex .f64 gx3 gy3, .string gt3, .bool gh3] 46)).cell? ⟨P0, 5, none⟩ = some (.complex .f64 gx1 gy1) := by simp [go_sem, p0_5, p0_z]
    replace p0_f5 : (v4.alloc (.cells #[.int .i64 gk3, .string gd3, .int .i64 ga3, .int .i64 gs3, .bool ge3, .complex .f64 gx3 gy3, .string gt3, .bool gh3] 46)).frozen? ⟨P0, 5, none⟩ = false := by simp [go_sem, p0_f5, p0_z]
    replace p0_6 : (v4.alloc (.cells #[.int .i64 gk3, .string gd3, .int .i64 ga3, .int .i64 gs3, .bool ge3, .complex .f64 gx3 gy3, .string gt3, .bool gh3] 46)).cell? ⟨P0, 6, none⟩ = some (.string gt1) := by simp [go_sem, p0_6, p0_z]
    replace p0_f6 : (v4.alloc (.cells #[.int .i64 gk3, .string gd3, .int .i64 ga3, .int .i64 gs3, .bool ge3, .complex .f64 gx3 gy3, .string gt3, .bool gh3] 46)).frozen? ⟨P0, 6, none⟩ = false := by simp [go_sem, p0_f6, p0_z]
    replace p0_7 : (v4.alloc (.cells #[.int .i64 gk3, .string gd3, .int .i64 ga3, .int .i64 gs3, .bool ge3, .complex .f64 gx3 gy3, .string gt3, .bool gh3] 46)).cell? ⟨P0, 7, none⟩ = some (.bool gh1) := by simp [go_sem, p0_7, p0_z]
    replace p0_f7 : (v4.alloc (.cells #[.int .i64 gk3, .string gd3, .int .i64 ga3, .int .i64 gs3, .bool ge3, .complex .f64 gx3 gy3, .string gt3, .bool gh3] 46)).frozen? ⟨P0, 7, none⟩ = false := by simp [go_sem, p0_f7, p0_z]
    replace p0_z : P0 < (v4.alloc (.cells #[.int .i64 gk3, .string gd3, .int .i64 ga3, .int .i64 gs3, .bool ge3, .complex .f64 gx3 gy3, .string gt3, .bool gh3] 46)).heap.size := by simp <;> omega
    replace p1_0 : (v4.alloc (.cells #[.int .i64 gk3, .string gd3, .int .i64 ga3, .int .i64 gs3, .bool ge3, .complex .f64 gx3 gy3, .string gt3, .bool gh3] 46)).cell? ⟨P1, 0, none⟩ = some (.int .i64 gk2) := by simp [go_sem, p1_0, p1_z]
    replace p1_f0 : (v4.alloc (.cells #[.int .i64 gk3, .string gd3, .int .i64 ga3, .int .i64 gs3, .bool ge3, .complex .f64 gx3 gy3, .string gt3, .bool gh3] 46)).frozen? ⟨P1, 0, none⟩ = false := by simp [go_sem, p1_f0, p1_z]
    replace p1_1 : (v4.alloc (.cells #[.int .i64 gk3, .string gd3, .int .i64 ga3, .int .i64 gs3, .bool ge3, .complex .f64 gx3 gy3, .string gt3, .bool gh3] 46)).cell? ⟨P1, 1, none⟩ = some (.string gd2) := by simp [go_sem, p1_1, p1_z]
    replace p1_f1 : (v4.alloc (.cells #[.int .i64 gk3, .string gd3, .int .i64 ga3, .int .i64 gs3, .bool ge3, .complex .f64 gx3 gy3, .string gt3, .bool gh3] 46)).frozen? ⟨P1, 1, none⟩ = false := by simp [go_sem, p1_f1, p1_z]
    replace p1_2 : (v4.alloc (.cells #[.int .i64 gk3, .string gd3, .int .i64 ga3, .int .i64 gs3, .bool ge3, .complex .f64 gx3 gy3, .string gt3, .bool gh3] 46)).cell? ⟨P1, 2, none⟩ = some (.int .i64 ga2) := by simp [go_sem, p1_2, p1_z]
    replace p1_f2 : (v4.alloc (.cells #[.int .i64 gk3, .string gd3, .int .i64 ga3, .int .i64 gs3, .bool ge3, .complex .f64 gx3 gy3, .string gt3, .bool gh3] 46)).frozen? ⟨P1, 2, none⟩ = false := by simp [go_sem, p1_f2, p1_z]
    replace p1_3 : (v4.alloc (.cells #[.int .i64 gk3, .string gd3, .int .i64 ga3, .int .i64 gs3, .bool ge3, .complex .f64 gx3 gy3, .string gt3, .bool gh3] 46)).cell? ⟨P1, 3, none⟩ = some (.int .i64 gs2) := by simp [go_sem, p1_3, p1_z]
    replace p1_f3 : (v4.alloc (.cells #[.int .i64 gk3, .string gd3, .int .i64 ga3, .int .i64 gs3, .bool ge3, .complex .f64 gx3 gy3, .string gt3, .bool gh3] 46)).frozen? ⟨P1, 3, none⟩ = false := by simp [go_sem, p1_f3, p1_z]
    replace p1_4 : (v4.alloc (.cells #[.int .i64 gk3, .string gd3, .int .i64 ga3, .int .i64 gs3, .bool ge3, .complex .f64 gx3 gy3, .string gt3, .bool gh3] 46)).cell? ⟨P1, 4, none⟩ = some (.bool ge2) := by simp [go_sem, p1_4, p1_z]
    replace p1_f4 : (v4.alloc (.cells #[.int .i64 gk3, .string gd3, .int .i64 ga3, .int .i64 gs3, .bool ge3, .complex .f64 gx3 gy3, .string gt3, .bool gh3] 46)).frozen? ⟨P1, 4, none⟩ = false := by simp [go_sem, p1_f4, p1_z]
    replace p1_5 : (v4.alloc (.cells #[.int .i64 gk3, .string gd3, .int .i64 ga3, .int .i64 gs3, .bool ge3, .complex .f64 gx3 gy3, .string gt3, .bool gh3] 46)).cell? ⟨P1, 5, none⟩ = some (.complex .f64 gx2 gy2) := by simp [go_sem, p1_5, p1_z]
    replace p1_f5 : (v4.alloc (.cells #[.int .i64 gk3, .string gd3, .int .i64 ga3, .int .i64 gs3, .bool ge3, .complex .f64 gx3 gy3, .string gt3, .bool gh3] 46)).frozen? ⟨P1, 5, none⟩ = false := by simp [go_sem, p1_f5, p1_z]
    replace p1_6 : (v4.alloc (.cells #[.int .i64 gk3, .string gd3, .int .i64 ga3, .int .i64 gs3, .bool ge3, .complex .f64 gx3 gy3, .string gt3, .bool gh3] 46)).cell? ⟨P1, 6, none⟩ = some (.string gt2) := by simp [go_sem, p1_6, p1_z]
    replace p1_f6 : (v4.alloc (.cells #[.int .i64 gk3, .string gd3, .int .i64 ga3, .int .i64 gs3, .bool ge3, .complex .f64 gx3 gy3, .string gt3, .bool gh3] 46)).frozen? ⟨P1, 6, none⟩ = false := by simp [go_sem, p1_f6, p1_z]
    replace p1_7 : (v4.alloc (.cells #[.int .i64 gk3, .string gd3, .int .i64 ga3, .int .i64 gs3, .bool ge3, .complex .f64 gx3 gy3, .string gt3, .bool gh3] 46)).cell? ⟨P1, 7, none⟩ = some (.bool gh2) := by simp [go_sem, p1_7, p1_z]
    replace p1_f7 : (v4.alloc (.cells #[.int .i64 gk3, .string gd3, .int .i64 ga3, .int .i64 gs3, .bool ge3, .complex .f64 gx3 gy3, .string gt3, .bool gh3] 46)).frozen? ⟨P1, 7, none⟩ = false := by simp [go_sem, p1_f7, p1_z]
    replace p1_z : P1 < (v4.alloc (.cells #[.int .i64 gk3, .string gd3, .int .i64 ga3, .int .i64 gs3, .bool ge3, .complex .f64 gx3 gy3, .string gt3, .bool gh3] 46)).heap.size := by simp <;> omega
    have p2_0 : (v4.alloc (.cells #[.int .i64 gk3, .string gd3, .int .i64 ga3, .int .i64 gs3, .bool ge3, .complex .f64 gx3 gy3, .string gt3, .bool gh3] 46)).cell? ⟨v4.heap.size, 0, none⟩ = some (.int .i64 gk3) := by simp [go_sem]
    have p2_f0 : (v4.alloc (.cells #[.int .i64 gk3, .string gd3, .int .i64 ga3, .int .i64 gs3, .bool ge3, .complex .f64 gx3 gy3, .string gt3, .bool gh3] 46)).frozen? ⟨v4.heap.size, 0, none⟩ = false := by simp [go_sem]
    have p2_1 : (v4.alloc (.cells #[.int .i64 gk3, .string gd3, .int .i64 ga3, .int .i64 gs3, .bool ge3, .complex .f64 gx3 gy3, .string gt3, .bool gh3] 46)).cell? ⟨v4.heap.size, 1, none⟩ = some (.string gd3) := by simp [go_sem]
    have p2_f1 : (v4.alloc (.cells #[.int .i64 gk3, .string gd3, .int .i64 ga3, .int .i64 gs3, .bool ge3, .complex .f64 gx3 gy3, .string gt3, .bool gh3] 46)).frozen? ⟨v4.heap.size, 1, none⟩ = false := by simp [go_sem]
    have p2_2 : (v4.alloc (.cells #[.int .i64 gk3, .string gd3, .int .i64 ga3, .int .i64 gs3, .bool ge3, .complex .f64 gx3 gy3, .string gt3, .bool gh3] 46)).cell? ⟨v4.heap.size, 2, none⟩ = some (.int .i64 ga3) := by simp [go_sem]
    have p2_f2 : (v4.alloc (.cells #[.int .i64 gk3, .string gd3, .int .i64 ga3, .int .i64 gs3, .bool ge3, .complex .f64 gx3 gy3, .string gt3, .bool gh3] 46)).frozen? ⟨v4.heap.size, 2, none⟩ = false := by simp [go_sem]
    have p2_3 : (v4.alloc (.cells #[.int .i64 gk3, .string gd3, .int .i64 ga3, .int .i64 gs3, .bool ge3, .complex .f64 gx3 gy3, .string gt3, .bool gh3] 46)).cell? ⟨v4.heap.size, 3, none⟩ = some (.int .i64 gs3) := by simp [go_sem]
    have p2_f3 : (v4.alloc (.cells #[.int .i64 gk3, .string gd3, .int .i64 ga3, .int .i64 gs3, .bool ge3, .complex .f64 gx3 gy3, .string gt3, .bool gh3] 46)).frozen? ⟨v4.heap.size, 3, none⟩ = false := by simp [go_sem]
    have p2_4 : (v4.alloc (.cells #[.int .i64 gk3, .string gd3, .int .i64 ga3, .int .i64 gs3, .bool ge3, .complex .f64 gx3 gy3, .string gt3, .bool gh3] 46)).cell? ⟨v4.heap.size, 4, none⟩ = some (.bool ge3) := by simp [go_sem]
    have p2_f4 : (v4.alloc (.cells #[.int .i64 gk3, .string gd3, .int .i64 ga3, .int .i64 gs3, .bool ge3, .complex .f64 gx3 gy3, .string gt3, .bool gh3] 46)).frozen? ⟨v4.heap.size, 4, none⟩ = false := by simp [go_sem]
    have p2_5 : (v4.alloc (.cells #[.int .i64 gk3, .string gd3, .int .i64 ga3, .int .i64 gs3, .bool ge3, .complex .f64 gx3 gy3, .string gt3, .bool gh3] 46)).cell? ⟨v4.heap.size, 5, none⟩ = some (.complex .f64 gx3 gy3) := by simp [go_sem]
    have p2_f5 : (v4.alloc (.cells #[.int .i64 gk3, .string gd3, .int .i64 ga3, .int .i64 gs3, .bool ge3, .complex .f64 gx3 gy3, .string gt3, .bool gh3] 46)).frozen? ⟨v4.heap.size, 5, none⟩ = false := by simp [go_sem]
    have p2_6 : (v4.alloc (.cells #[.int .i64 gk3, .string gd3, .int .i64 ga3, .int .i64 gs3, .bool ge3, .complex .f64 gx3 gy3, .string gt3, .bool gh3] 46)).cell? ⟨v4.heap.size, 6, none⟩ = some (.string gt3) := by simp [go_sem]
    have p2_f6 : (v4.alloc (.cells #[.int .i64 gk3, .string gd3, .int .i64 ga3, .int .i64 gs3, .bool ge3, .complex .f64 gx3 gy3, .string gt3, .bool gh3] 46)).frozen? ⟨v4.heap.size, 6, none⟩ = false := by simp [go_sem]
    have p2_7 : (v4.alloc (.cells #[.int .i64 gk3, .string gd3, .int .i64 ga3, .int .i64 gs3, .bool ge3, .complex .f64 gx3 gy3, .string gt3, .bool gh3] 46)).cell? ⟨v4.heap.size, 7, none⟩ = some (.bool gh3) := by simp [go_sem]
    have p2_f7 : (v4.alloc (.cells #[.int .i64 gk3, .string gd3, .int .i64 ga3, .int .i64 gs3, .bool ge3, .complex .f64 gx3 gy3, .string gt3, .bool gh3] 46)).frozen? ⟨v4.heap.size, 7, none⟩ = false := by simp [go_sem]
    have p2_z : v4.heap.size < (v4.alloc (.cells #[.int .i64 gk3, .string gd3, .int .i64 ga3, .int .i64 gs3, .bool ge3, .complex .f64 gx3 gy3, .string gt3, .bool gh3] 46)).heap.size := by simp <;> omega
    have hb : Below v4.heap.size v4 (v4.alloc (.cells #[.int .i64 gk3, .string gd3, .int .i64 ga3, .int .i64 gs3, .bool ge3, .complex .f64 gx3 gy3, .string gt3, .bool gh3] 46)) := (Below.refl _ _).alloc (Nat.le_refl _) _
    replace HO := Lib.hid (rown_below HO.out hb)
    replace HB := Lib.hid (HB.out.trans (hb.mono HB.out.size))
    clear hb
    generalize (v4.alloc (.cells #[.int .i64 gk3, .string gd3, .int .i64 ga3, .int .i64 gs3, .bool ge3, .complex .f64 gx3 gy3, .string gt3, .bool gh3] 46)) = V2 at *
    generalize v4.heap.size = P2 at *
    go_wp2_with fail
    refine (told_any _).mono ?_
    rintro e v5 ⟨rfl, hb⟩
    replace k0 := (hb.cell (p := ⟨w.heap.size, 0, none⟩) kz).trans k0
    replace kf0 := (hb.frozen (p := ⟨w.heap.size, 0, none⟩) kz).trans kf0
    replace k1 := (hb.cell (p := ⟨w.heap.size, 1, none⟩) kz).trans k1
    replace kf1 := (hb.frozen (p := ⟨w.heap.size, 1, none⟩) kz).trans kf1
    replace k2 := (hb.cell (p := ⟨w.heap.size, 2, none⟩) kz).trans k2
    replace kf2 := (hb.frozen (p := ⟨w.heap.size, 2, none⟩) kz).trans kf2
    replace k3 := (hb.cell (p := ⟨w.heap.size, 3, none⟩) kz).trans k3
    replace kf3 := (hb.frozen (p := ⟨w.heap.size, 3, none⟩) kz).trans kf3
    replace k4 := (hb.cell (p := ⟨w.heap.size, 4, none⟩) kz).trans k4
    replace kf4 := (hb.frozen (p := ⟨w.heap.size, 4, none⟩) kz).trans kf4
    replace k5 := (hb.cell (p := ⟨w.heap.size, 5, none⟩) kz).trans k5
    replace kf5 := (hb.frozen (p := ⟨w.heap.size, 5, none⟩) kz).trans kf5
    replace k6 := (hb.cell (p := ⟨w.heap.size, 6, none⟩) kz).trans k6
    replace kf6 := (hb.frozen (p := ⟨w.heap.size, 6, none⟩) kz).trans kf6
    replace k7 := (hb.cell (p := ⟨w.heap.size, 7, none⟩) kz).trans k7
    replace kf7 := (hb.frozen (p := ⟨w.heap.size, 7, none⟩) kz).trans kf7
    replace k8 := (hb.cell (p := ⟨w.heap.size, 8, none⟩) kz).trans k8
    replace kf8 := (hb.frozen (p := ⟨w.heap.size, 8, none⟩) kz).trans kf8
    replace kz := Nat.lt_of_lt_of_le kz hb.size
    replace p0_0 := (hb.cell (p := ⟨P0, 0, none⟩) p0_z).trans p0_0
    replace p0_f0 := (hb.frozen (p := ⟨P0, 0, none⟩) p0_z).trans p0_f0
    replace p0_1 := (hb.cell (p := ⟨P0, 1, none⟩) p0_z).trans p0_1
    replace p0_f1 := (hb.frozen (p := ⟨P0, 1, none⟩) p0_z).trans p0_f1
    replace p0_2 := (hb.cell (p := ⟨P0, 2, none⟩) p0_z).trans p0_2
    replace p0_f2 := (hb.frozen (p := ⟨P0, 2, none⟩) p0_z).trans p0_f2
    replace p0_3 := (hb.cell (p := ⟨P0, 3, none⟩) p0_z).trans p0_3
    replace p0_f3 := (hb.frozen (p := ⟨P0, 3, none⟩) p0_z).trans p0_f3
    replace p0_4 := (hb.cell (p := ⟨P0, 4, none⟩) p0_z).trans p0_4
    replace p0_f4 := (hb.frozen (p := ⟨P0, 4, none⟩) p0_z).trans p0_f4
    replace p0_5 := (hb.cell (p := ⟨P0, 5, none⟩) p0_z).trans p0_5
    replace p0_f5 := (hb.frozen (p := ⟨P0, 5, none⟩) p0_z).trans p0_f5
    replace p0_6 := (hb.cell (p := ⟨P0, 6, none⟩) p0_z).trans p0_6
    replace p0_f6 := (hb.frozen (p := ⟨P0, 6, none⟩) p0_z).trans p0_f6
    replace p0_7 := (hb.cell (p := ⟨P0, 7, none⟩) p0_z).trans p0_7
    replace p0_f7 := (hb.frozen (p := ⟨P0, 7, none⟩) p0_z).trans p0_f7
    replace p0_z := Nat.lt_of_lt_of_le p0_z hb.size
    replace p1_0 := (hb.cell (p := ⟨P1, 0, none⟩) p1_z).trans p1_0
    replace p1_f0 := (hb.frozen (p := ⟨P1, 0, none⟩) p1_z).trans p1_f0
    replace p1_1 := (hb.cell (p := ⟨P1, 1, none⟩) p1_z).trans p1_1
    replace p1_f1 := (hb.frozen (p := ⟨P1, 1, none⟩) p1_z).trans p1_f1
    replace p1_2 := (hb.cell (p := ⟨P1, 2, none⟩) p1_z).trans p1_2
    replace p1_f2 := (hb.frozen (p := ⟨P1, 2, none⟩) p1_z).trans p1_f2
    replace p1_3 := (hb.cell (p := ⟨P1, 3, none⟩) p1_z).trans p1_3
    replace p1_f3 := (hb.frozen (p := ⟨P1, 3, none⟩) p1_z).trans p1_f3
    replace p1_4 := (hb.cell (p := ⟨P1, 4, none⟩) p1_z).trans p1_4
    replace p1_f4 := (hb.frozen (p := ⟨P1, 4, none⟩) p1_z).trans p1_f4
    replace p1_5 := (hb.cell (p := ⟨P1, 5, none⟩) p1_z).trans p1_5
    replace p1_f5 := (hb.frozen (p := ⟨P1, 5, none⟩) p1_z).trans p1_f5
    replace p1_6 := (hb.cell (p := ⟨P1, 6, none⟩) p1_z).trans p1_6
    replace p1_f6 := (hb.frozen (p := ⟨P1, 6, none⟩) p1_z).trans p1_f6
    replace p1_7 := (hb.cell (p := ⟨P1, 7, none⟩) p1_z).trans p1_7
    replace p1_f7 := (hb.frozen (p := ⟨P1, 7, none⟩) p1_z).trans p1_f7
    replace p1_z := Nat.lt_of_lt_of_le p1_z hb.size
    replace p2_0 := (hb.cell (p := ⟨P2, 0, none⟩) p2_z).trans p2_0
    replace p2_f0 := (hb.frozen (p := ⟨P2, 0, none⟩) p2_z).trans p2_f0
    replace p2_1 := (hb.cell (p := ⟨P2, 1, none⟩) p2_z).trans p2_1
    replace p2_f1 := (hb.frozen (p := ⟨P2, 1, none⟩) p2_z).trans p2_f1
    replace p2_2 := (hb.cell (p := ⟨P2, 2, none⟩) p2_z).trans p2_2
    replace p2_f2 := (hb.frozen (p := ⟨P2, 2, none⟩) p2_z).trans p2_f2
    replace p2_3 := (hb.cell (p := ⟨P2, 3, none⟩) p2_z).trans p2_3
    replace p2_f3 := (hb.frozen (p := ⟨P2, 3, none⟩) p2_z).trans p2_f3
    replace p2_4 := (hb.cell (p := ⟨P2, 4, none⟩) p2_z).trans p2_4
    replace p2_f4 := (hb.frozen (p := ⟨P2, 4, none⟩) p2_z).trans p2_f4
    replace p2_5 := (hb.cell (p := ⟨P2, 5, none⟩) p2_z).trans p2_5
    replace p2_f5 := (hb.frozen (p := ⟨P2, 5, none⟩) p2_z).trans p2_f5
    replace p2_6 := (hb.cell (p := ⟨P2, 6, none⟩) p2_z).trans p2_6
    replace p2_f6 := (hb.frozen (p := ⟨P2, 6, none⟩) p2_z).trans p2_f6
    replace p2_7 := (hb.cell (p := ⟨P2, 7, none⟩) p2_z).trans p2_7
    replace p2_f7 := (hb.frozen (p := ⟨P2, 7, none⟩) p2_z).trans p2_f7
    replace p2_z := Nat.lt_of_lt_of_le p2_z hb.size
    replace HB := Lib.hid (HB.out.trans (hb.mono HB.out.size))
    clear hb
    go_wp2
    go_ret
    exact ⟨rfl, HB.out⟩
  · obtain ⟨hs2, hs3⟩ := HOT.out hkk2
    rw [hs2] at HG2
    rw [hs3] at HG3
    clear hs2 hs3
    have hn' : (k != key2) = true := by simpa using hkk2
    clear hkk2 HOT HOW
    have heq := HEQ.out
    clear HEQ
    generalize g1.getD zeroIt = z1 at *
    generalize g1.isSome = b1 at *
    unfold itmV at HG1 HG2 HG3 heq
    generalize z1.key = gk1 at *
    generalize z1.ver.id = gd1 at *
    generalize z1.ver.seq = ga1 at *
    generalize z1.ver.stamp = gs1 at *
    generalize z1.dead = ge1 at *
    generalize fl z1.x = gx1 at *
    generalize fl z1.y = gy1 at *
    generalize z1.text = gt1 at *
    generalize z1.held = gh1 at *
    go_wp2_with fail
    refine (HRT.out _ Ay cy _ HO.out).mono ?_
    rintro e v1 ⟨Ap, cp, rfl, ho, hb⟩
    have HOp := Lib.hid ho
    clear ho
    replace k0 := (hb.cell (p := ⟨w.heap.size, 0, none⟩) kz).trans k0
    replace kf0 := (hb.frozen (p := ⟨w.heap.size, 0, none⟩) kz).trans kf0
    replace k1 := (hb.cell (p := ⟨w.heap.size, 1, none⟩) kz).trans k1
    replace kf1 := (hb.frozen (p := ⟨w.heap.size, 1, none⟩) kz).trans kf1
    replace k2 := (hb.cell (p := ⟨w.heap.size, 2, none⟩) kz).trans k2
    replace kf2 := (hb.frozen (p := ⟨w.heap.size, 2, none⟩) kz).trans kf2
    replace k3 := (hb.cell (p := ⟨w.heap.size, 3, none⟩) kz).trans k3
    replace kf3 := (hb.frozen (p := ⟨w.heap.size, 3, none⟩) kz).trans kf3
    replace k4 := (hb.cell (p := ⟨w.heap.size, 4, none⟩) kz).trans k4
    replace kf4 := (hb.frozen (p := ⟨w.heap.size, 4, none⟩) kz).trans kf4
    replace k5 := (hb.cell (p := ⟨w.heap.size, 5, none⟩) kz).trans k5
    replace kf5 := (hb.frozen (p := ⟨w.heap.size, 5, none⟩) kz).trans kf5
    replace k6 := (hb.cell (p := ⟨w.heap.size, 6, none⟩) kz).trans k6
    replace kf6 := (hb.frozen (p := ⟨w.heap.size, 6, none⟩) kz).trans kf6
    replace k7 := (hb.cell (p := ⟨w.heap.size, 7, none⟩) kz).trans k7
    replace kf7 := (hb.frozen (p := ⟨w.heap.size, 7, none⟩) kz).trans kf7
    replace k8 := (hb.cell (p := ⟨w.heap.size, 8, none⟩) kz).trans k8
    replace kf8 := (hb.frozen (p := ⟨w.heap.size, 8, none⟩) kz).trans kf8
    replace kz := Nat.lt_of_lt_of_le kz hb.size
    replace HO := Lib.hid (rown_below HO.out hb)
    replace HPS := Lib.hid (rown_below HPS.out hb)
    replace HDS := Lib.hid (rown_below HDS.out hb)
    replace HB := Lib.hid (HB.out.trans (hb.mono HB.out.size))
    clear hb
    go_wp2_with fail
    refine (HG1.out _ Ap cp _ HOp.out).mono ?_
    rintro e v2 ⟨rfl, hb⟩
    clear HOp
    replace k0 := (hb.cell (p := ⟨w.heap.size, 0, none⟩) kz).trans k0
    replace kf0 := (hb.frozen (p := ⟨w.heap.size, 0, none⟩) kz).trans kf0
    replace k1 := (hb.cell (p := ⟨w.heap.size, 1, none⟩) kz).trans k1
    replace kf1 := (hb.frozen (p := ⟨w.heap.size, 1, none⟩) kz).trans kf1
    replace k2 := (hb.cell (p := ⟨w.heap.size, 2, none⟩) kz).trans k2
    replace kf2 := (hb.frozen (p := ⟨w.heap.size, 2, none⟩) kz).trans kf2
    replace k3 := (hb.cell (p := ⟨w.heap.size, 3, none⟩) kz).trans k3
    replace kf3 := (hb.frozen (p := ⟨w.heap.size, 3, none⟩) kz).trans kf3
    replace k4 := (hb.cell (p := ⟨w.heap.size, 4, none⟩) kz).trans k4
    replace kf4 := (hb.frozen (p := ⟨w.heap.size, 4, none⟩) kz).trans kf4
    replace k5 := (hb.cell (p := ⟨w.heap.size, 5, none⟩) kz).trans k5
    replace kf5 := (hb.frozen (p := ⟨w.heap.size, 5, none⟩) kz).trans kf5
    replace k6 := (hb.cell (p := ⟨w.heap.size, 6, none⟩) kz).trans k6
    replace kf6 := (hb.frozen (p := ⟨w.heap.size, 6, none⟩) kz).trans kf6
    replace k7 := (hb.cell (p := ⟨w.heap.size, 7, none⟩) kz).trans k7
    replace kf7 := (hb.frozen (p := ⟨w.heap.size, 7, none⟩) kz).trans kf7
    replace k8 := (hb.cell (p := ⟨w.heap.size, 8, none⟩) kz).trans k8
    replace kf8 := (hb.frozen (p := ⟨w.heap.size, 8, none⟩) kz).trans kf8
    replace kz := Nat.lt_of_lt_of_le kz hb.size
    replace HO := Lib.hid (rown_below HO.out hb)
    replace HPS := Lib.hid (rown_below HPS.out hb)
    replace HDS := Lib.hid (rown_below HDS.out hb)
    replace HB := Lib.hid (HB.out.trans (hb.mono HB.out.size))
    clear hb
    go_upto_region 6 with fail
    replace k0 : (v2.alloc (.cells #[.int .i64 gk1, .string gd1, .int .i64 ga1, .int .i64 gs1, .bool ge1, .complex .f64 gx1 gy1, .string gt1, .bool gh1] 46)).cell? ⟨w.heap.size, 0, none⟩ = some (.int .i64 key2) := by simp [go_sem, k0, kz]
    replace kf0 : (v2.alloc (.cells #[.int .i64 gk1, .string gd1, .int .i64 ga1, .int .i64 gs1, .bool ge1, .complex .f64 gx1 gy1, .string gt1, .bool gh1] 46)).frozen? ⟨w.heap.size, 0, none⟩ = false := by simp [go_sem, kf0, kz]
    replace k1 : (v2.alloc (.cells #[.int .i64 gk1, .string gd1, .int .i64 ga1, .int .i64 gs1, .bool ge1, .complex .f64 gx1 gy1, .string gt1, .bool gh1] 46)).cell? ⟨w.heap.size, 1, none⟩ = some (.string d2) := by simp [go_sem, k1, kz]
    replace kf1 : (v2.alloc (.cells #[.int .i64 gk1, .string gd1, .int .i64 ga1, .int .i64 gs1, .bool ge1, .complex .f64 gx1 gy1, .string gt1, .bool gh1] 46)).frozen? ⟨w.heap.size, 1, none⟩ = false := by simp [go_sem, kf1, kz]
    replace k2 : (v2.alloc (.cells #[.int .i64 gk1, .string gd1, .int .i64 ga1, .int .i64 gs1, .bool ge1, .complex .f64 gx1 gy1, .string gt1, .bool gh1] 46)).cell? ⟨w.heap.size, 2, none⟩ = some (.int .i64 a2) := by simp [go_sem, k2, kz]
    replace kf2 : (v2.alloc (.cells #[.int .i64 gk1, .string gd1, .int .i64 ga1, .int .i64 gs1, .bool ge1, .complex .f64 gx1 gy1, .string gt1, .bool gh1] 46)).frozen? ⟨w.heap.size, 2, none⟩ = false := by simp [go_sem, kf2, kz]
    replace k3 : (v2.alloc (.cells #[.int .i64 gk1, .string gd1, .int .i64 ga1, .int .i64 gs1, .bool ge1, .complex .f64 gx1 gy1, .string gt1, .bool gh1] 46)).cell? ⟨w.heap.size, 3, none⟩ = some (.int .i64 s2) := by simp [go_sem, k3, kz]
    replace kf3 : (v2.alloc (.cells #[.int .i64 gk1, .string gd1, .int .i64 ga1, .int .i64 gs1, .bool ge1, .complex .f64 gx1 gy1, .string gt1, .bool gh1] 46)).frozen? ⟨w.heap.size, 3, none⟩ = false := by simp [go_sem, kf3, kz]
    replace k4 : (v2.alloc (.cells #[.int .i64 gk1, .string gd1, .int .i64 ga1, .int .i64 gs1, .bool ge1, .complex .f64 gx1 gy1, .string gt1, .bool gh1] 46)).cell? ⟨w.heap.size, 4, none⟩ = some (.bool dead2) := by simp [go_sem, k4, kz]
    replace kf4 : (v2.alloc (.cells #[.int .i64 gk1, .string gd1, .int .i64 ga1, .int .i64 gs1, .bool ge1, .complex .f64 gx1 gy1, .string gt1, .bool gh1] 46)).frozen? ⟨w.heap.size, 4, none⟩ = false := by simp [go_sem, kf4, kz]
    replace k5 : (v2.alloc (.cells #[.int .i64 gk1, .string gd1, .int .i64 ga1, .int .i64 gs1, .bool ge1, .complex .f64 gx1 gy1, .string gt1, .bool gh1] 46)).cell? ⟨w.heap.size, 5, none⟩ = some (.int .i64 x2) := by simp [go_sem, k5, kz]
    replace kf5 : (v2.alloc (.cells #[.int .i64 gk1, .string gd1, .int .i64 ga1, .int .i64 gs1, .bool ge1, .complex .f64 gx1 gy1, .string gt1, .bool gh1] 46)).frozen? ⟨w.heap.size, 5, none⟩ = false := by simp [go_sem, kf5, kz]
    replace k6 : (v2.alloc (.cells #[.int .i64 gk1, .string gd1, .int .i64 ga1, .int .i64 gs1, .bool ge1, .complex .f64 gx1 gy1, .string gt1, .bool gh1] 46)).cell? ⟨w.heap.size, 6, none⟩ = some (.int .i64 y2) := by simp [go_sem, k6, kz]
    replace kf6 : (v2.alloc (.cells #[.int .i64 gk1, .string gd1, .int .i64 ga1, .int .i64 gs1, .bool ge1, .complex .f64 gx1 gy1, .string gt1, .bool gh1] 46)).frozen? ⟨w.heap.size, 6, none⟩ = false := by simp [go_sem, kf6, kz]
    replace k7 : (v2.alloc (.cells #[.int .i64 gk1, .string gd1, .int .i64 ga1, .int .i64 gs1, .bool ge1, .complex .f64 gx1 gy1, .string gt1, .bool gh1] 46)).cell? ⟨w.heap.size, 7, none⟩ = some (.string text2) := by simp [go_sem, k7, kz]
    replace kf7 : (v2.alloc (.cells #[.int .i64 gk1, .string gd1, .int .i64 ga1, .int .i64 gs1, .bool ge1, .complex .f64 gx1 gy1, .string gt1, .bool gh1] 46)).frozen? ⟨w.heap.size, 7, none⟩ = false := by simp [go_sem, kf7, kz]
    replace k8 : (v2.alloc (.cells #[.int .i64 gk1, .string gd1, .int .i64 ga1, .int .i64 gs1, .bool ge1, .complex .f64 gx1 gy1, .string gt1, .bool gh1] 46)).cell? ⟨w.heap.size, 8, none⟩ = some (.bool held2) := by simp [go_sem, k8, kz]
    replace kf8 : (v2.alloc (.cells #[.int .i64 gk1, .string gd1, .int .i64 ga1, .int .i64 gs1, .bool ge1, .complex .f64 gx1 gy1, .string gt1, .bool gh1] 46)).frozen? ⟨w.heap.size, 8, none⟩ = false := by simp [go_sem, kf8, kz]
    replace kz : w.heap.size < (v2.alloc (.cells #[.int .i64 gk1, .string gd1, .int .i64 ga1, .int .i64 gs1, .bool ge1, .complex .f64 gx1 gy1, .string gt1, .bool gh1] 46)).heap.size := by simp <;> omega
    have p0_0 : (v2.alloc (.cells #[.int .i64 gk1, .string gd1, .int .i64 ga1, .int .i64 gs1, .bool ge1, .complex .f64 gx1 gy1, .string gt1, .bool gh1] 46)).cell? ⟨v2.heap.size, 0, none⟩ = some (.int .i64 gk1) := by simp [go_sem]
    have p0_f0 : (v2.alloc (.cells #[.int .i64 gk1, .string gd1, .int .i64 ga1, .int .i64 gs1, .bool ge1, .complex .f64 gx1 gy1, .string gt1, .bool gh1] 46)).frozen? ⟨v2.heap.size, 0, none⟩ = false := by simp [go_sem]
    have p0_1 : (v2.alloc (.cells #[.int .i64 gk1, .string gd1, .int .i64 ga1, .int .i64 gs1, .bool ge1, .complex .f64 gx1 gy1, .string gt1, .bool gh1] 46)).cell? ⟨v2.heap.size, 1, none⟩ = some (.string gd1) := by simp [go_sem]
    have p0_f1 : (v2.alloc (.cells #[.int .i64 gk1, .string gd1, .int .i64 ga1, .int .i64 gs1, .bool ge1, .complex .f64 gx1 gy1, .string gt1, .bool gh1] 46)).frozen? ⟨v2.heap.size, 1, none⟩ = false := by simp [go_sem]
    have p0_2 : (v2.alloc (.cells #[.int .i64 gk1, .string gd1, .int .i64 ga1, .int .i64 gs1, .bool ge1, .complex .f64 gx1 gy1, .string gt1, .bool gh1] 46)).cell? ⟨v2.heap.size, 2, none⟩ = some (.int .i64 ga1) := by simp [go_sem]
    have p0_f2 : (v2.alloc (.cells #[.int .i64 gk1, .string gd1, .int .i64 ga1, .int .i64 gs1, .bool ge1, .complex .f64 gx1 gy1, .string gt1, .bool gh1] 46)).frozen? ⟨v2.heap.size, 2, none⟩ = false := by simp [go_sem]
    have p0_3 : (v2.alloc (.cells #[.int .i64 gk1, .string gd1, .int .i64 ga1, .int .i64 gs1, .bool ge1, .complex .f64 gx1 gy1, .string gt1, .bool gh1] 46)).cell? ⟨v2.heap.size, 3, none⟩ = some (.int .i64 gs1) := by simp [go_sem]
    have p0_f3 : (v2.alloc (.cells #[.int .i64 gk1, .string gd1, .int .i64 ga1, .int .i64 gs1, .bool ge1, .complex .f64 gx1 gy1, .string gt1, .bool gh1] 46)).frozen? ⟨v2.heap.size, 3, none⟩ = false := by simp [go_sem]
    have p0_4 : (v2.alloc (.cells #[.int .i64 gk1, .string gd1, .int .i64 ga1, .int .i64 gs1, .bool ge1, .complex .f64 gx1 gy1, .string gt1, .bool gh1] 46)).cell? ⟨v2.heap.size, 4, none⟩ = some (.bool ge1) := by simp [go_sem]
    have p0_f4 : (v2.alloc (.cells #[.int .i64 gk1, .string gd1, .int .i64 ga1, .int .i64 gs1, .bool ge1, .complex .f64 gx1 gy1, .string gt1, .bool gh1] 46)).frozen? ⟨v2.heap.size, 4, none⟩ = false := by simp [go_sem]
    have p0_5 : (v2.alloc (.cells #[.int .i64 gk1, .string gd1, .int .i64 ga1, .int .i64 gs1, .bool ge1, .complex .f64 gx1 gy1, .string gt1, .bool gh1] 46)).cell? ⟨v2.heap.size, 5, none⟩ = some (.complex .f64 gx1 gy1) := by simp [go_sem]
    have p0_f5 : (v2.alloc (.cells #[.int .i64 gk1, .string gd1, .int .i64 ga1, .int .i64 gs1, .bool ge1, .complex .f64 gx1 gy1, .string gt1, .bool gh1] 46)).frozen? ⟨v2.heap.size, 5, none⟩ = false := by simp [go_sem]
    have p0_6 : (v2.alloc (.cells #[.int .i64 gk1, .string gd1, .int .i64 ga1, .int .i64 gs1, .bool ge1, .complex .f64 gx1 gy1, .string gt1, .bool gh1] 46)).cell? ⟨v2.heap.size, 6, none⟩ = some (.string gt1) := by simp [go_sem]
    have p0_f6 : (v2.alloc (.cells #[.int .i64 gk1, .string gd1, .int .i64 ga1, .int .i64 gs1, .bool ge1, .complex .f64 gx1 gy1, .string gt1, .bool gh1] 46)).frozen? ⟨v2.heap.size, 6, none⟩ = false := by simp [go_sem]
    have p0_7 : (v2.alloc (.cells #[.int .i64 gk1, .string gd1, .int .i64 ga1, .int .i64 gs1, .bool ge1, .complex .f64 gx1 gy1, .string gt1, .bool gh1] 46)).cell? ⟨v2.heap.size, 7, none⟩ = some (.bool gh1) := by simp [go_sem]
    have p0_f7 : (v2.alloc (.cells #[.int .i64 gk1, .string gd1, .int .i64 ga1, .int .i64 gs1, .bool ge1, .complex .f64 gx1 gy1, .string gt1, .bool gh1] 46)).frozen? ⟨v2.heap.size, 7, none⟩ = false := by simp [go_sem]
    have p0_z : v2.heap.size < (v2.alloc (.cells #[.int .i64 gk1, .string gd1, .int .i64 ga1, .int .i64 gs1, .bool ge1, .complex .f64 gx1 gy1, .string gt1, .bool gh1] 46)).heap.size := by simp <;> omega
    have hb : Below v2.heap.size v2 (v2.alloc (.cells #[.int .i64 gk1, .string gd1, .int .i64 ga1, .int .i64 gs1, .bool ge1, .complex .f64 gx1 gy1, .string gt1, .bool gh1] 46)) := (Below.refl _ _).alloc (Nat.le_refl _) _
    replace HO := Lib.hid (rown_below HO.out hb)
    replace HPS := Lib.hid (rown_below HPS.out hb)
    replace HDS := Lib.hid (rown_below HDS.out hb)
    replace HB := Lib.hid (HB.out.trans (hb.mono HB.out.size))
    clear hb
    generalize (v2.alloc (.cells #[.int .i64 gk1, .string gd1, .int .i64 ga1, .int .i64 gs1, .bool ge1, .complex .f64 gx1 gy1, .string gt1, .bool gh1] 46)) = V0 at *
    generalize v2.heap.size = P0 at *
    go_wp2_with fail
    refine (HG2.out _ Aq cq _ HPS.out).mono ?_
    rintro e v3 ⟨rfl, hb⟩
    clear HPS
    replace k0 := (hb.cell (p := ⟨w.heap.size, 0, none⟩) kz).trans k0
    replace kf0 := (hb.frozen (p := ⟨w.heap.size, 0, none⟩) kz).trans kf0
    replace k1 := (hb.cell (p := ⟨w.heap.size, 1, none⟩) kz).trans k1
    replace kf1 := (hb.frozen (p := ⟨w.heap.size, 1, none⟩) kz).trans kf1
    replace k2 := (hb.cell (p := ⟨w.heap.size, 2, none⟩) kz).trans k2
    replace kf2 := (hb.frozen (p := ⟨w.heap.size, 2, none⟩) kz).trans kf2
    replace k3 := (hb.cell (p := ⟨w.heap.size, 3, none⟩) kz).trans k3
    replace kf3 := (hb.frozen (p := ⟨w.heap.size, 3, none⟩) kz).trans kf3
    replace k4 := (hb.cell (p := ⟨w.heap.size, 4, none⟩) kz).trans k4
    replace kf4 := (hb.frozen (p := ⟨w.heap.size, 4, none⟩) kz).trans kf4
    replace k5 := (hb.cell (p := ⟨w.heap.size, 5, none⟩) kz).trans k5
    replace kf5 := (hb.frozen (p := ⟨w.heap.size, 5, none⟩) kz).trans kf5
    replace k6 := (hb.cell (p := ⟨w.heap.size, 6, none⟩) kz).trans k6
    replace kf6 := (hb.frozen (p := ⟨w.heap.size, 6, none⟩) kz).trans kf6
    replace k7 := (hb.cell (p := ⟨w.heap.size, 7, none⟩) kz).trans k7
    replace kf7 := (hb.frozen (p := ⟨w.heap.size, 7, none⟩) kz).trans kf7
    replace k8 := (hb.cell (p := ⟨w.heap.size, 8, none⟩) kz).trans k8
    replace kf8 := (hb.frozen (p := ⟨w.heap.size, 8, none⟩) kz).trans kf8
    replace kz := Nat.lt_of_lt_of_le kz hb.size
    replace p0_0 := (hb.cell (p := ⟨P0, 0, none⟩) p0_z).trans p0_0
    replace p0_f0 := (hb.frozen (p := ⟨P0, 0, none⟩) p0_z).trans p0_f0
    replace p0_1 := (hb.cell (p := ⟨P0, 1, none⟩) p0_z).trans p0_1
    replace p0_f1 := (hb.frozen (p := ⟨P0, 1, none⟩) p0_z).trans p0_f1
    replace p0_2 := (hb.cell (p := ⟨P0, 2, none⟩) p0_z).trans p0_2
    replace p0_f2 := (hb.frozen (p := ⟨P0, 2, none⟩) p0_z).trans p0_f2
    replace p0_3 := (hb.cell (p := ⟨P0, 3, none⟩) p0_z).trans p0_3
    replace p0_f3 := (hb.frozen (p := ⟨P0, 3, none⟩) p0_z).trans p0_f3
    replace p0_4 := (hb.cell (p := ⟨P0, 4, none⟩) p0_z).trans p0_4
    replace p0_f4 := (hb.frozen (p := ⟨P0, 4, none⟩) p0_z).trans p0_f4
    replace p0_5 := (hb.cell (p := ⟨P0, 5, none⟩) p0_z).trans p0_5
    replace p0_f5 := (hb.frozen (p := ⟨P0, 5, none⟩) p0_z).trans p0_f5
    replace p0_6 := (hb.cell (p := ⟨P0, 6, none⟩) p0_z).trans p0_6
    replace p0_f6 := (hb.frozen (p := ⟨P0, 6, none⟩) p0_z).trans p0_f6
    replace p0_7 := (hb.cell (p := ⟨P0, 7, none⟩) p0_z).trans p0_7
    replace p0_f7 := (hb.frozen (p := ⟨P0, 7, none⟩) p0_z).trans p0_f7
    replace p0_z := Nat.lt_of_lt_of_le p0_z hb.size
    replace HO := Lib.hid (rown_below HO.out hb)
    replace HDS := Lib.hid (rown_below HDS.out hb)
    replace HB := Lib.hid (HB.out.trans (hb.mono HB.out.size))
    clear hb
    go_upto_region 7 with fail
    replace k0 : (v3.alloc (.cells #[.int .i64 gk1, .string gd1, .int .i64 ga1, .int .i64 gs1, .bool ge1, .complex .f64 gx1 gy1, .string gt1, .bool gh1] 46)).cell? ⟨w.heap.size, 0, none⟩ = some (.int .i64 key2) := by simp [go_sem, k0, kz]
    replace kf0 : (v3.alloc (.cells #[.int .i64 gk1, .string gd1, .int .i64 ga1, .int .i64 gs1, .bool ge1, .complex .f64 gx1 gy1, .string gt1, .bool gh1] 46)).frozen? ⟨w.heap.size, 0, none⟩ = false := by simp [go_sem, kf0, kz]
    replace k1 : (v3.alloc (.cells #[.int .i64 gk1, .string gd1, .int .i64 ga1, .int .i64 gs1, .bool ge1, .complex .f64 gx1 gy1, .string gt1, .bool gh1] 46)).cell? ⟨w.heap.size, 1, none⟩ = some (.string d2) := by simp [go_sem, k1, kz]
    replace kf1 : (v3.alloc (.cells #[.int .i64 gk1, .string gd1, .int .i64 ga1, .int .i64 gs1, .bool ge1, .complex .f64 gx1 gy1, .string gt1, .bool gh1] 46)).frozen? ⟨w.heap.size, 1, none⟩ = false := by simp [go_sem, kf1, kz]
    replace k2 : (v3.alloc (.cells #[.int .i64 gk1, .string gd1, .int .i64 ga1, .int .i64 gs1, .bool ge1, .complex .f64 gx1 gy1, .string gt1, .bool gh1] 46)).cell? ⟨w.heap.size, 2, none⟩ = some (.int .i64 a2) := by simp [go_sem, k2, kz]
    replace kf2 : (v3.alloc (.cells #[.int .i64 gk1, .string gd1, .int .i64 ga1, .int .i64 gs1, .bool ge1, .complex .f64 gx1 gy1, .string gt1, .bool gh1] 46)).frozen? ⟨w.heap.size, 2, none⟩ = false := by simp [go_sem, kf2, kz]
    replace k3 : (v3.alloc (.cells #[.int .i64 gk1, .string gd1, .int .i64 ga1, .int .i64 gs1, .bool ge1, .complex .f64 gx1 gy1, .string gt1, .bool gh1] 46)).cell? ⟨w.heap.size, 3, none⟩ = some (.int .i64 s2) := by simp [go_sem, k3, kz]
    replace kf3 : (v3.alloc (.cells #[.int .i64 gk1, .string gd1, .int .i64 ga1, .int .i64 gs1, .bool ge1, .complex .f64 gx1 gy1, .string gt1, .bool gh1] 46)).frozen? ⟨w.heap.size, 3, none⟩ = false := by simp [go_sem, kf3, kz]
    replace k4 : (v3.alloc (.cells #[.int .i64 gk1, .string gd1, .int .i64 ga1, .int .i64 gs1, .bool ge1, .complex .f64 gx1 gy1, .string gt1, .bool gh1] 46)).cell? ⟨w.heap.size, 4, none⟩ = some (.bool dead2) := by simp [go_sem, k4, kz]
    replace kf4 : (v3.alloc (.cells #[.int .i64 gk1, .string gd1, .int .i64 ga1, .int .i64 gs1, .bool ge1, .complex .f64 gx1 gy1, .string gt1, .bool gh1] 46)).frozen? ⟨w.heap.size, 4, none⟩ = false := by simp [go_sem, kf4, kz]
    replace k5 : (v3.alloc (.cells #[.int .i64 gk1, .string gd1, .int .i64 ga1, .int .i64 gs1, .bool ge1, .complex .f64 gx1 gy1, .string gt1, .bool gh1] 46)).cell? ⟨w.heap.size, 5, none⟩ = some (.int .i64 x2) := by simp [go_sem, k5, kz]
    replace kf5 : (v3.alloc (.cells #[.int .i64 gk1, .string gd1, .int .i64 ga1, .int .i64 gs1, .bool ge1, .complex .f64 gx1 gy1, .string gt1, .bool gh1] 46)).frozen? ⟨w.heap.size, 5, none⟩ = false := by simp [go_sem, kf5, kz]
    replace k6 : (v3.alloc (.cells #[.int .i64 gk1, .string gd1, .int .i64 ga1, .int .i64 gs1, .bool ge1, .complex .f64 gx1 gy1, .string gt1, .bool gh1] 46)).cell? ⟨w.heap.size, 6, none⟩ = some (.int .i64 y2) := by simp [go_sem, k6, kz]
    replace kf6 : (v3.alloc (.cells #[.int .i64 gk1, .string gd1, .int .i64 ga1, .int .i64 gs1, .bool ge1, .complex .f64 gx1 gy1, .string gt1, .bool gh1] 46)).frozen? ⟨w.heap.size, 6, none⟩ = false := by simp [go_sem, kf6, kz]
    replace k7 : (v3.alloc (.cells #[.int .i64 gk1, .string gd1, .int .i64 ga1, .int .i64 gs1, .bool ge1, .complex .f64 gx1 gy1, .string gt1, .bool gh1] 46)).cell? ⟨w.heap.size, 7, none⟩ = some (.string text2) := by simp [go_sem, k7, kz]
    replace kf7 : (v3.alloc (.cells #[.int .i64 gk1, .string gd1, .int .i64 ga1, .int .i64 gs1, .bool ge1, .complex .f64 gx1 gy1, .string gt1, .bool gh1] 46)).frozen? ⟨w.heap.size, 7, none⟩ = false := by simp [go_sem, kf7, kz]
    replace k8 : (v3.alloc (.cells #[.int .i64 gk1, .string gd1, .int .i64 ga1, .int .i64 gs1, .bool ge1, .complex .f64 gx1 gy1, .string gt1, .bool gh1] 46)).cell? ⟨w.heap.size, 8, none⟩ = some (.bool held2) := by simp [go_sem, k8, kz]
    replace kf8 : (v3.alloc (.cells #[.int .i64 gk1, .string gd1, .int .i64 ga1, .int .i64 gs1, .bool ge1, .complex .f64 gx1 gy1, .string gt1, .bool gh1] 46)).frozen? ⟨w.heap.size, 8, none⟩ = false := by simp [go_sem, kf8, kz]
    replace kz : w.heap.size < (v3.alloc (.cells #[.int .i64 gk1, .string gd1, .int .i64 ga1, .int .i64 gs1, .bool ge1, .complex .f64 gx1 gy1, .string gt1, .bool gh1] 46)).heap.size := by simp <;> omega
    replace p0_0 : (v3.alloc (.cells #[.int .i64 gk1, .string gd1, .int .i64 ga1, .int .i64 gs1, .bool ge1, .complex .f64 gx1 gy1, .string gt1, .bool gh1] 46)).cell? ⟨P0, 0, none⟩ = some (.int .i64 gk1) := by simp [go_sem, p0_0, p0_z]
    replace p0_f0 : (v3.alloc (.cells #[.int .i64 gk1, .string gd1, .int .i64 ga1, .int .i64 gs1, .bool ge1, .complex .f64 gx1 gy1, .string gt1, .bool gh1] 46)).frozen? ⟨P0, 0, none⟩ = false := by simp [go_sem, p0_f0, p0_z]
    replace p0_1 : (v3.alloc (.cells #[.int .i64 gk1, .string gd1, .int .i64 ga1, .int .i64 gs1, .bool ge1, .complex .f64 gx1 gy1, .string gt1, .bool gh1] 46)).cell? ⟨P0, 1, none⟩ = some (.string gd1) := by simp [go_sem, p0_1, p0_z]
    replace p0_f1 : (v3.alloc (.cells #[.int .i64 gk1, .string gd1, .int .i64 ga1, .int .i64 gs1, .bool ge1, .complex .f64 gx1 gy1, .string gt1, .bool gh1] 46)).frozen? ⟨P0, 1, none⟩ = false := by simp [go_sem, p0_f1, p0_z]
    replace p0_2 : (v3.alloc (.cells #[.int .i64 gk1, .string gd1, .int .i64 ga1, .int .i64 gs1, .bool ge1, .complex .f64 gx1 gy1, .string gt1, .bool gh1] 46)).cell? ⟨P0, 2, none⟩ = some (.int .i64 ga1) := by simp [go_sem, p0_2, p0_z]
    replace p0_f2 : (v3.alloc (.cells #[.int .i64 gk1, .string gd1, .int .i64 ga1, .int .i64 gs1, .bool ge1, .complex .f64 gx1 gy1, .string gt1, .bool gh1] 46)).frozen? ⟨P0, 2, none⟩ = false := by simp [go_sem, p0_f2, p0_z]
    replace p0_3 : (v3.alloc (.cells #[.int .i64 gk1, .string gd1, .int .i64 ga1, .int .i64 gs1, .bool ge1, .complex .f64 gx1 gy1, .string gt1, .bool gh1] 46)).cell? ⟨P0, 3, none⟩ = some (.int .i64 gs1) := by simp [go_sem, p0_3, p0_z]
    replace p0_f3 : (v3.alloc (.cells #[.int .i64 gk1, .string gd1, .int .i64 ga1, .int .i64 gs1, .bool ge1, .complex .f64 gx1 gy1, .string gt1, .bool gh1] 46)).frozen? ⟨P0, 3, none⟩ = false := by simp [go_sem, p0_f3, p0_z]
    replace p0_4 : (v3.alloc (.cells #[.int .i64 gk1, .string gd1, .int .i64 ga1, .int .i64 gs1, .bool ge1, .complex .f64 gx1 gy1, .string gt1, .bool gh1] 46)).cell? ⟨P0, 4, none⟩ = some (.bool ge1) := by simp [go_sem, p0_4, p0_z]
    replace p0_f4 : (v3.alloc (.cells #[.int .i64 gk1, .string gd1, .int .i64 ga1, .int .i64 gs1, .bool ge1, .complex .f64 gx1 gy1, .string gt1, .bool gh1] 46)).frozen? ⟨P0, 4, none⟩ = false := by simp [go_sem, p0_f4, p0_z]
    replace p0_5 : (v3.alloc (.cells #[.int .i64 gk1, .string gd1, .int .i64 ga1, .int .i64 gs1, .bool ge1, .complex .f64 gx1 gy1, .string gt1, .bool gh1] 46)).cell? ⟨P0, 5, none⟩ = some (.complex .f64 gx1 gy1) := by simp [go_sem, p0_5, p0_z]
    replace p0_f5 : (v3.alloc (.cells #[.int .i64 gk1, .string gd1, .int .i64 ga1, .int .i64 gs1, .bool ge1, .complex .f64 gx1 gy1, .string gt1, .bool gh1] 46)).frozen? ⟨P0, 5, none⟩ = false := by simp [go_sem, p0_f5, p0_z]
    replace p0_6 : (v3.alloc (.cells #[.int .i64 gk1, .string gd1, .int .i64 ga1, .int .i64 gs1, .bool ge1, .complex .f64 gx1 gy1, .string gt1, .bool gh1] 46)).cell? ⟨P0, 6, none⟩ = some (.string gt1) := by simp [go_sem, p0_6, p0_z]
    replace p0_f6 : (v3.alloc (.cells #[.int .i64 gk1, .string gd1, .int .i64 ga1, .int .i64 gs1, .bool ge1, .complex .f64 gx1 gy1, .string gt1, .bool gh1] 46)).frozen? ⟨P0, 6, none⟩ = false := by simp [go_sem, p0_f6, p0_z]
    replace p0_7 : (v3.alloc (.cells #[.int .i64 gk1, .string gd1, .int .i64 ga1, .int .i64 gs1, .bool ge1, .complex .f64 gx1 gy1, .string gt1, .bool gh1] 46)).cell? ⟨P0, 7, none⟩ = some (.bool gh1) := by simp [go_sem, p0_7, p0_z]
    replace p0_f7 : (v3.alloc (.cells #[.int .i64 gk1, .string gd1, .int .i64 ga1, .int .i64 gs1, .bool ge1, .complex .f64 gx1 gy1, .string gt1, .bool gh1] 46)).frozen? ⟨P0, 7, none⟩ = false := by simp [go_sem, p0_f7, p0_z]
    replace p0_z : P0 < (v3.alloc (.cells #[.int .i64 gk1, .string gd1, .int .i64 ga1, .int .i64 gs1, .bool ge1, .complex .f64 gx1 gy1, .string gt1, .bool gh1] 46)).heap.size := by simp <;> omega
    have p1_0 : (v3.alloc (.cells #[.int .i64 gk1, .string gd1, .int .i64 ga1, .int .i64 gs1, .bool ge1, .complex .f64 gx1 gy1, .string gt1, .bool gh1] 46)).cell? ⟨v3.heap.size, 0, none⟩ = some (.int .i64 gk1) := by simp [go_sem]
    have p1_f0 : (v3.alloc (.cells #[.int .i64 gk1, .string gd1, .int .i64 ga1, .int .i64 gs1, .bool ge1, .complex .f64 gx1 gy1, .string gt1, .bool gh1] 46)).frozen? ⟨v3.heap.size, 0, none⟩ = false := by simp [go_sem]
    have p1_1 : (v3.alloc (.cells #[.int .i64 gk1, .string gd1, .int .i64 ga1, .int .i64 gs1, .bool ge1, .complex .f64 gx1 gy1, .string gt1, .bool gh1] 46)).cell? ⟨v3.heap.size, 1, none⟩ = some (.string gd1) := by simp [go_sem]
    have p1_f1 : (v3.alloc (.cells #[.int .i64 gk1, .string gd1, .int .i64 ga1, .int .i64 gs1, .bool ge1, .complex .f64 gx1 gy1, .string gt1, .bool gh1] 46)).frozen? ⟨v3.heap.size, 1, none⟩ = false := by simp [go_sem]
    have p1_2 : (v3.alloc (.cells #[.int .i64 gk1, .string gd1, .int .i64 ga1, .int .i64 gs1, .bool ge1, .complex .f64 gx1 gy1, .string gt1, .bool gh1] 46)).cell? ⟨v3.heap.size, 2, none⟩ = some (.int .i64 ga1) := by simp [go_sem]
    have p1_f2 : (v3.alloc (.cells #[.int .i64 gk1, .string gd1, .int .i64 ga1, .int .i64 gs1, .bool ge1, .complex .f64 gx1 gy1, .string gt1, .bool gh1] 46)).frozen? ⟨v3.heap.size, 2, none⟩ = false := by simp [go_sem]
    have p1_3 : (v3.alloc (.cells #[.int .i64 gk1, .string gd1, .int .i64 ga1, .int .i64 gs1, .bool ge1, .complex .f64 gx1 gy1, .string gt1, .bool gh1] 46)).cell? ⟨v3.heap.size, 3, none⟩ = some (.int .i64 gs1) := by simp [go_sem]
    have p1_f3 : (v3.alloc (.cells #[.int .i64 gk1, .string gd1, .int .i64 ga1, .int .i64 gs1, .bool ge1, .complex .f64 gx1 gy1, .string gt1, .bool gh1] 46)).frozen? ⟨v3.heap.size, 3, none⟩ = false := by simp [go_sem]
    have p1_4 : (v3.alloc (.cells #[.int .i64 gk1, .string gd1, .int .i64 ga1, .int .i64 gs1, .bool ge1, .complex .f64 gx1 gy1, .string gt1, .bool gh1] 46)).cell? ⟨v3.heap.size, 4, none⟩ = some (.bool ge1) := by simp [go_sem]
    have p1_f4 : (v3.alloc (.cells #[.int .i64 gk1, .string gd1, .int .i64 ga1, .int .i64 gs1, .bool ge1, .complex .f64 gx1 gy1, .string gt1, .bool gh1] 46)).frozen? ⟨v3.heap.size, 4, none⟩ = false := by simp [go_sem]
    have p1_5 : (v3.alloc (.cells #[.int .i64 gk1, .string gd1, .int .i64 ga1, .int .i64 gs1, .bool ge1, .complex .f64 gx1 gy1, .string gt1, .bool gh1] 46)).cell? ⟨v3.heap.size, 5, none⟩ = some (.complex .f64 gx1 gy1) := by simp [go_sem]
    have p1_f5 : (v3.alloc (.cells #[.int .i64 gk1, .string gd1, .int .i64 ga1, .int .i64 gs1, .bool ge1, .complex .f64 gx1 gy1, .string gt1, .bool gh1] 46)).frozen? ⟨v3.heap.size, 5, none⟩ = false := by simp [go_sem]
    have p1_6 : (v3.alloc (.cells #[.int .i64 gk1, .string gd1, .int .i64 ga1, .int .i64 gs1, .bool ge1, .complex .f64 gx1 gy1, .string gt1, .bool gh1] 46)).cell? ⟨v3.heap.size, 6, none⟩ = some (.string gt1) := by simp [go_sem]
    have p1_f6 : (v3.alloc (.cells #[.int .i64 gk1, .string gd1, .int .i64 ga1, .int .i64 gs1, .bool ge1, .complex .f64 gx1 gy1, .string gt1, .bool gh1] 46)).frozen? ⟨v3.heap.size, 6, none⟩ = false := by simp [go_sem]
    have p1_7 : (v3.alloc (.cells #[.int .i64 gk1, .string gd1, .int .i64 ga1, .int .i64 gs1, .bool ge1, .complex .f64 gx1 gy1, .string gt1, .bool gh1] 46)).cell? ⟨v3.heap.size, 7, none⟩ = some (.bool gh1) := by simp [go_sem]
    have p1_f7 : (v3.alloc (.cells #[.int .i64 gk1, .string gd1, .int .i64 ga1, .int .i64 gs1, .bool ge1, .complex .f64 gx1 gy1, .string gt1, .bool gh1] 46)).frozen? ⟨v3.heap.size, 7, none⟩ = false := by simp [go_sem]
    have p1_z : v3.heap.size < (v3.alloc (.cells #[.int .i64 gk1, .string gd1, .int .i64 ga1, .int .i64 gs1, .bool ge1, .complex .f64 gx1 gy1, .string gt1, .bool gh1] 46)).heap.size := by simp <;> omega
    have hb : Below v3.heap.size v3 (v3.alloc (.cells #[.int .i64 gk1, .string gd1, .int .i64 ga1, .int .i64 gs1, .bool ge1, .complex .f64 gx1 gy1, .string gt1, .bool gh1] 46)) := (Below.refl _ _).alloc (Nat.le_refl _) _
    replace HO := Lib.hid (rown_below HO.out hb)
    replace HDS := Lib.hid (rown_below HDS.out hb)
    replace HB := Lib.hid (HB.out.trans (hb.mono HB.out.size))
    clear hb
    generalize (v3.alloc (.cells #[.int .i64 gk1, .string gd1, .int .i64 ga1, .int .i64 gs1, .bool ge1, .complex .f64 gx1 gy1, .string gt1, .bool gh1] 46)) = V1 at *
    generalize v3.heap.size = P1 at *
    go_wp2_with fail
    refine (HG3.out _ Ar cr _ HDS.out).mono ?_
    rintro e v4 ⟨rfl, hb⟩
    clear HDS
    replace k0 := (hb.cell (p := ⟨w.heap.size, 0, none⟩) kz).trans k0
    replace kf0 := (hb.frozen (p := ⟨w.heap.size, 0, none⟩) kz).trans kf0
    replace k1 := (hb.cell (p := ⟨w.heap.size, 1, none⟩) kz).trans k1
    replace kf1 := (hb.frozen (p := ⟨w.heap.size, 1, none⟩) kz).trans kf1
    replace k2 := (hb.cell (p := ⟨w.heap.size, 2, none⟩) kz).trans k2
    replace kf2 := (hb.frozen (p := ⟨w.heap.size, 2, none⟩) kz).trans kf2
    replace k3 := (hb.cell (p := ⟨w.heap.size, 3, none⟩) kz).trans k3
    replace kf3 := (hb.frozen (p := ⟨w.heap.size, 3, none⟩) kz).trans kf3
    replace k4 := (hb.cell (p := ⟨w.heap.size, 4, none⟩) kz).trans k4
    replace kf4 := (hb.frozen (p := ⟨w.heap.size, 4, none⟩) kz).trans kf4
    replace k5 := (hb.cell (p := ⟨w.heap.size, 5, none⟩) kz).trans k5
    replace kf5 := (hb.frozen (p := ⟨w.heap.size, 5, none⟩) kz).trans kf5
    replace k6 := (hb.cell (p := ⟨w.heap.size, 6, none⟩) kz).trans k6
    replace kf6 := (hb.frozen (p := ⟨w.heap.size, 6, none⟩) kz).trans kf6
    replace k7 := (hb.cell (p := ⟨w.heap.size, 7, none⟩) kz).trans k7
    replace kf7 := (hb.frozen (p := ⟨w.heap.size, 7, none⟩) kz).trans kf7
    replace k8 := (hb.cell (p := ⟨w.heap.size, 8, none⟩) kz).trans k8
    replace kf8 := (hb.frozen (p := ⟨w.heap.size, 8, none⟩) kz).trans kf8
    replace kz := Nat.lt_of_lt_of_le kz hb.size
    replace p0_0 := (hb.cell (p := ⟨P0, 0, none⟩) p0_z).trans p0_0
    replace p0_f0 := (hb.frozen (p := ⟨P0, 0, none⟩) p0_z).trans p0_f0
    replace p0_1 := (hb.cell (p := ⟨P0, 1, none⟩) p0_z).trans p0_1
    replace p0_f1 := (hb.frozen (p := ⟨P0, 1, none⟩) p0_z).trans p0_f1
    replace p0_2 := (hb.cell (p := ⟨P0, 2, none⟩) p0_z).trans p0_2
    replace p0_f2 := (hb.frozen (p := ⟨P0, 2, none⟩) p0_z).trans p0_f2
    replace p0_3 := (hb.cell (p := ⟨P0, 3, none⟩) p0_z).trans p0_3
    replace p0_f3 := (hb.frozen (p := ⟨P0, 3, none⟩) p0_z).trans p0_f3
    replace p0_4 := (hb.cell (p := ⟨P0, 4, none⟩) p0_z).trans p0_4
    replace p0_f4 := (hb.frozen (p := ⟨P0, 4, none⟩) p0_z).trans p0_f4
    replace p0_5 := (hb.cell (p := ⟨P0, 5, none⟩) p0_z).trans p0_5
    replace p0_f5 := (hb.frozen (p := ⟨P0, 5, none⟩) p0_z).trans p0_f5
    replace p0_6 := (hb.cell (p := ⟨P0, 6, none⟩) p0_z).trans p0_6
    replace p0_f6 := (hb.frozen (p := ⟨P0, 6, none⟩) p0_z).trans p0_f6
    replace p0_7 := (hb.cell (p := ⟨P0, 7, none⟩) p0_z).trans p0_7
    replace p0_f7 := (hb.frozen (p := ⟨P0, 7, none⟩) p0_z).trans p0_f7
    replace p0_z := Nat.lt_of_lt_of_le p0_z hb.size
    replace p1_0 := (hb.cell (p := ⟨P1, 0, none⟩) p1_z).trans p1_0
    replace p1_f0 := (hb.frozen (p := ⟨P1, 0, none⟩) p1_z).trans p1_f0
    replace p1_1 := (hb.cell (p := ⟨P1, 1, none⟩) p1_z).trans p1_1
    replace p1_f1 := (hb.frozen (p := ⟨P1, 1, none⟩) p1_z).trans p1_f1
    replace p1_2 := (hb.cell (p := ⟨P1, 2, none⟩) p1_z).trans p1_2
    replace p1_f2 := (hb.frozen (p := ⟨P1, 2, none⟩) p1_z).trans p1_f2
    replace p1_3 := (hb.cell (p := ⟨P1, 3, none⟩) p1_z).trans p1_3
    replace p1_f3 := (hb.frozen (p := ⟨P1, 3, none⟩) p1_z).trans p1_f3
    replace p1_4 := (hb.cell (p := ⟨P1, 4, none⟩) p1_z).trans p1_4
    replace p1_f4 := (hb.frozen (p := ⟨P1, 4, none⟩) p1_z).trans p1_f4
    replace p1_5 := (hb.cell (p := ⟨P1, 5, none⟩) p1_z).trans p1_5
    replace p1_f5 := (hb.frozen (p := ⟨P1, 5, none⟩) p1_z).trans p1_f5
    replace p1_6 := (hb.cell (p := ⟨P1, 6, none⟩) p1_z).trans p1_6
    replace p1_f6 := (hb.frozen (p := ⟨P1, 6, none⟩) p1_z).trans p1_f6
    replace p1_7 := (hb.cell (p := ⟨P1, 7, none⟩) p1_z).trans p1_7
    replace p1_f7 := (hb.frozen (p := ⟨P1, 7, none⟩) p1_z).trans p1_f7
    replace p1_z := Nat.lt_of_lt_of_le p1_z hb.size
    replace HO := Lib.hid (rown_below HO.out hb)
    replace HB := Lib.hid (HB.out.trans (hb.mono HB.out.size))
    clear hb
    go_upto_region 8 with fail
    replace k0 : (v4.alloc (.cells #[.int .i64 gk1, .string gd1, .int .i64 ga1, .int .i64 gs1, .bool ge1, .complex .f64 gx1 gy1, .string gt1, .bool gh1] 46)).cell? ⟨w.heap.size, 0, none⟩ = some (.int .i64 key2) := by simp [go_sem, k0, kz]
    replace kf0 : (v4.alloc (.cells #[.int .i64 gk1, .string gd1, .int .i64 ga1, .int .i64 gs1, .bool ge1, .complex .f64 gx1 gy1, .string gt1, .bool gh1] 46)).frozen? ⟨w.heap.size, 0, none⟩ = false := by simp [go_sem, kf0, kz]
    replace k1 : (v4.alloc (.cells #[.int .i64 gk1, .string gd1, .int .i64 ga1, .int .i64 gs1, .bool ge1, .complex .f64 gx1 gy1, .string gt1, .bool gh1] 46)).cell? ⟨w.heap.size, 1, none⟩ = some (.string d2) := by simp [go_sem, k1, kz]
    replace kf1 : (v4.alloc (.cells #[.int .i64 gk1, .string gd1, .int .i64 ga1, .int .i64 gs1, .bool ge1, .complex .f64 gx1 gy1, .string gt1, .bool gh1] 46)).frozen? ⟨w.heap.size, 1, none⟩ = false := by simp [go_sem, kf1, kz]
    replace k2 : (v4.alloc (.cells #[.int .i64 gk1, .string gd1, .int .i64 ga1, .int .i64 gs1, .bool ge1, .complex .f64 gx1 gy1, .string gt1, .bool gh1] 46)).cell? ⟨w.heap.size, 2, none⟩ = some (.int .i64 a2) := by simp [go_sem, k2, kz]
    replace kf2 : (v4.alloc (.cells #[.int .i64 gk1, .string gd1, .int .i64 ga1, .int .i64 gs1, .bool ge1, .complex .f64 gx1 gy1, .string gt1, .bool gh1] 46)).frozen? ⟨w.heap.size, 2, none⟩ = false := by simp [go_sem, kf2, kz]
    replace k3 : (v4.alloc (.cells #[.int .i64 gk1, .string gd1, .int .i64 ga1, .int .i64 gs1, .bool ge1, .complex .f64 gx1 gy1, .string gt1, .bool gh1] 46)).cell? ⟨w.heap.size, 3, none⟩ = some (.int .i64 s2) := by simp [go_sem, k3, kz]
    replace kf3 : (v4.alloc (.cells #[.int .i64 gk1, .string gd1, .int .i64 ga1, .int .i64 gs1, .bool ge1, .complex .f64 gx1 gy1, .string gt1, .bool gh1] 46)).frozen? ⟨w.heap.size, 3, none⟩ = false := by simp [go_sem, kf3, kz]
    replace k4 : (v4.alloc (.cells #[.int .i64 gk1, .string gd1, .int .i64 ga1, .int .i64 gs1, .bool ge1, .complex .f64 gx1 gy1, .string gt1, .bool gh1] 46)).cell? ⟨w.heap.size, 4, none⟩ = some (.bool dead2) := by simp [go_sem, k4, kz]
    replace kf4 : (v4.alloc (.cells #[.int .i64 gk1, .string gd1, .int .i64 ga1, .int .i64 gs1, .bool ge1, .complex .f64 gx1 gy1, .string gt1, .bool gh1] 46)).frozen? ⟨w.heap.size, 4, none⟩ = false := by simp [go_sem, kf4, kz]
    replace k5 : (v4.alloc (.cells #[.int .i64 gk1, .string gd1, .int .i64 ga1, .int .i64 gs1, .bool ge1, .complex .f64 gx1 gy1, .string gt1, .bool gh1] 46)).cell? ⟨w.heap.size, 5, none⟩ = some (.int .i64 x2) := by simp [go_sem, k5, kz]
    replace kf5 : (v4.alloc (.cells #[.int .i64 gk1, .string gd1, .int .i64 ga1, .int .i64 gs1, .bool ge1, .complex .f64 gx1 gy1, .string gt1, .bool gh1] 46)).frozen? ⟨w.heap.size, 5, none⟩ = false := by simp [go_sem, kf5, kz]
    replace k6 : (v4.alloc (.cells #[.int .i64 gk1, .string gd1, .int .i64 ga1, .int .i64 gs1, .bool ge1, .complex .f64 gx1 gy1, .string gt1, .bool gh1] 46)).cell? ⟨w.heap.size, 6, none⟩ = some (.int .i64 y2) := by simp [go_sem, k6, kz]
    replace kf6 : (v4.alloc (.cells #[.int .i64 gk1, .string gd1, .int .i64 ga1, .int .i64 gs1, .bool ge1, .complex .f64 gx1 gy1, .string gt1, .bool gh1] 46)).frozen? ⟨w.heap.size, 6, none⟩ = false := by simp [go_sem, kf6, kz]
    replace k7 : (v4.alloc (.cells #[.int .i64 gk1, .string gd1, .int .i64 ga1, .int .i64 gs1, .bool ge1, .complex .f64 gx1 gy1, .string gt1, .bool gh1] 46)).cell? ⟨w.heap.size, 7, none⟩ = some (.string text2) := by simp [go_sem, k7, kz]
    replace kf7 : (v4.alloc (.cells #[.int .i64 gk1, .string gd1, .int .i64 ga1, .int .i64 gs1, .bool ge1, .complex .f64 gx1 gy1, .string gt1, .bool gh1] 46)).frozen? ⟨w.heap.size, 7, none⟩ = false := by simp [go_sem, kf7, kz]
    replace k8 : (v4.alloc (.cells #[.int .i64 gk1, .string gd1, .int .i64 ga1, .int .i64 gs1, .bool ge1, .complex .f64 gx1 gy1, .string gt1, .bool gh1] 46)).cell? ⟨w.heap.size, 8, none⟩ = some (.bool held2) := by simp [go_sem, k8, kz]
    replace kf8 : (v4.alloc (.cells #[.int .i64 gk1, .string gd1, .int .i64 ga1, .int .i64 gs1, .bool ge1, .complex .f64 gx1 gy1, .string gt1, .bool gh1] 46)).frozen? ⟨w.heap.size, 8, none⟩ = false := by simp [go_sem, kf8, kz]
    replace kz : w.heap.size < (v4.alloc (.cells #[.int .i64 gk1, .string gd1, .int .i64 ga1, .int .i64 gs1, .bool ge1, .complex .f64 gx1 gy1, .string gt1, .bool gh1] 46)).heap.size := by simp <;> omega
    replace p0_0 : (v4.alloc (.cells #[.int .i64 gk1, .string gd1, .int .i64 ga1, .int .i64 gs1, .bool ge1, .complex .f64 gx1 gy1, .string gt1, .bool gh1] 46)).cell? ⟨P0, 0, none⟩ = some (.int .i64 gk1) := by simp [go_sem, p0_0, p0_z]
    replace p0_f0 : (v4.alloc (.cells #[.int .i64 gk1, .string gd1, .int .i64 ga1, .int .i64 gs1, .bool ge1, .complex .f64 gx1 gy1, .string gt1, .bool gh1] 46)).frozen? ⟨P0, 0, none⟩ = false := by simp [go_sem, p0_f0, p0_z]
    replace p0_1 : (v4.alloc (.cells #[.int .i64 gk1, .string gd1, .int .i64 ga1, .int .i64 gs1, .bool ge1, .complex .f64 gx1 gy1, .string gt1, .bool gh1] 46)).cell? ⟨P0, 1, none⟩ = some (.string gd1) := by simp [go_sem, p0_1, p0_z]
    replace p0_f1 : (v4.alloc (.cells #[.int .i64 gk1, .string gd1, .int .i64 ga1, .int .i64 gs1, .bool ge1, .complex .f64 gx1 gy1, .string gt1, .bool gh1] 46)).frozen? ⟨P0, 1, none⟩ = false := by simp [go_sem, p0_f1, p0_z]
    replace p0_2 : (v4.alloc (.cells #[.int .i64 gk1, .string gd1, .int .i64 ga1, .int .i64 gs1, .bool ge1, .complex .f64 gx1 gy1, .string gt1, .bool gh1] 46)).cell? ⟨P0, 2, none⟩ = some (.int .i64 ga1) := by simp [go_sem, p0_2, p0_z]
    replace p0_f2 : (v4.alloc (.cells #[.int .i64 gk1, .string gd1, .int .i64 ga1, .int .i64 gs1, .bool ge1, .complex .f64 gx1 gy1, .string gt1, .bool gh1] 46)).frozen? ⟨P0, 2, none⟩ = false := by simp [go_sem, p0_f2, p0_z]
    replace p0_3 : (v4.alloc (.cells #[.int .i64 gk1, .string gd1, .int .i64 ga1, .int .i64 gs1, .bool ge1, .complex .f64 gx1 gy1, .string gt1, .bool gh1] 46)).cell? ⟨P0, 3, none⟩ = some (.int .i64 gs1) := by simp [go_sem, p0_3, p0_z]
    replace p0_f3 : (v4.alloc (.cells #[.int .i64 gk1, .string gd1, .int .i64 ga1, .int .i64 gs1, .bool ge1, .complex .f64 gx1 gy1, .string gt1, .bool gh1] 46)).frozen? ⟨P0, 3, none⟩ = false := by simp [go_sem, p0_f3, p0_z]
    replace p0_4 : (v4.alloc (.cells #[.int .i64 gk1, .string gd1, .int .i64 ga1, .int .i64 gs1, .bool ge1, .complex .f64 gx1 gy1, .string gt1, .bool gh1] 46)).cell? ⟨P0, 4, none⟩ = some (.bool ge1) := by simp [go_sem, p0_4, p0_z]
    replace p0_f4 : (v4.alloc (.cells #[.int .i64 gk1, .string gd1, .int .i64 ga1, .int .i64 gs1, .bool ge1, .complex .f64 gx1 gy1, .string gt1, .bool gh1] 46)).frozen? ⟨P0, 4, none⟩ = false := by simp [go_sem, p0_f4, p0_z]
    replace p0_5 : (v4.alloc (.cells #[.int .i64 gk1, .string gd1, .int .i64 ga1, .int .i64 gs1, .bool ge1, .complex .f64 gx1 gy1, .string gt1, .bool gh1] 46)).cell? ⟨P0, 5, none⟩ = some (.complex .f64 gx1 gy1) := by simp [go_sem, p0_5, p0_z]
    replace p0_f5 : (v4.alloc (.cells #[.int .i64 gk1, .string gd1, .int .i64 ga1, .int .i64 gs1, .bool ge1, .complex .f64 gx1 gy1, .string gt1, .bool gh1] 46)).frozen? ⟨P0, 5, none⟩ = false := by simp [go_sem, p0_f5, p0_z]
    replace p0_6 : (v4.alloc (.cells #[.int .i64 gk1, .string gd1, .int .i64 ga1, .int .i64 gs1, .bool ge1, .complex .f64 gx1 gy1, .string gt1, .bool gh1] 46)).cell? ⟨P0, 6, none⟩ = some (.string gt1) := by simp [go_sem, p0_6, p0_z]
    replace p0_f6 : (v4.alloc (.cells #[.int .i64 gk1, .string gd1, .int .i64 ga1, .int .i64 gs1, .bool ge1, .complex .f64 gx1 gy1, .string gt1, .bool gh1] 46)).frozen? ⟨P0, 6, none⟩ = false := by simp [go_sem, p0_f6, p0_z]
    replace p0_7 : (v4.alloc (.cells #[.int .i64 gk1, .string gd1, .int .i64 ga1, .int .i64 gs1, .bool ge1, .complex .f64 gx1 gy1, .string gt1, .bool gh1] 46)).cell? ⟨P0, 7, none⟩ = some (.bool gh1) := by simp [go_sem, p0_7, p0_z]
    replace p0_f7 : (v4.alloc (.cells #[.int .i64 gk1, .string gd1, .int .i64 ga1, .int .i64 gs1, .bool ge1, .complex .f64 gx1 gy1, .string gt1, .bool gh1] 46)).frozen? ⟨P0, 7, none⟩ = false := by simp [go_sem, p0_f7, p0_z]
    replace p0_z : P0 < (v4.alloc (.cells #[.int .i64 gk1, .string gd1, .int .i64 ga1, .int .i64 gs1, .bool ge1, .complex .f64 gx1 gy1, .string gt1, .bool gh1] 46)).heap.size := by simp <;> omega
    replace p1_0 : (v4.alloc (.cells #[.int .i64 gk1, .string gd1, .int .i64 ga1, .int .i64 gs1, .bool ge1, .complex .f64 gx1 gy1, .string gt1, .bool gh1] 46)).cell? ⟨P1, 0, none⟩ = some (.int .i64 gk1) := by simp [go_sem, p1_0, p1_z]
    replace p1_f0 : (v4.alloc (.cells #[.int .i64 gk1, .string gd1, .int .i64 ga1, .int .i64 gs1, .bool ge1, .complex .f64 gx1 gy1, .string gt1, .bool gh1] 46)).frozen? ⟨P1, 0, none⟩ = false := by simp [go_sem, p1_f0, p1_z]
    replace p1_1 : (v4.alloc (.cells #[.int .i64 gk1, .string gd1, .int .i64 ga1, .int .i64 gs1, .bool ge1, .complex .f64 gx1 gy1, .string gt1, .bool gh1] 46)).cell? ⟨P1, 1, none⟩ = some (.string gd1) := by simp [go_sem, p1_1, p1_z]
    replace p1_f1 : (v4.alloc (.cells #[.int .i64 gk1, .string gd1, .int .i64 ga1, .int .i64 gs1, .bool ge1, .complex .f64 gx1 gy1, .string gt1, .bool gh1] 46)).frozen? ⟨P1, 1, none⟩ = false := by simp [go_sem, p1_f1, p1_z]
    replace p1_2 : (v4.alloc (.cells #[.int .i64 gk1, .string gd1, .int .i64 ga1, .int .i64 gs1, .bool ge1, .complex .f64 gx1 gy1, .string gt1, .bool gh1] 46)).cell? ⟨P1, 2, none⟩ = some (.int .i64 ga1) := by simp [go_sem, p1_2, p1_z]
    replace p1_f2 : (v4.alloc (.cells #[.int .i64 gk1, .string gd1, .int .i64 ga1, .int .i64 gs1, .bool ge1, .complex .f64 gx1 gy1, .string gt1, .bool gh1] 46)).frozen? ⟨P1, 2, none⟩ = false := by simp [go_sem, p1_f2, p1_z]
    replace p1_3 : (v4.alloc (.cells #[.int .i64 gk1, .string gd1, .int .i64 ga1, .int .i64 gs1, .bool ge1, .complex .f64 gx1 gy1, .string gt1, .bool gh1] 46)).cell? ⟨P1, 3, none⟩ = some (.int .i64 gs1) := by simp [go_sem, p1_3, p1_z]
    replace p1_f3 : (v4.alloc (.cells #[.int .i64 gk1, .string gd1, .int .i64 ga1, .int .i64 gs1, .bool ge1, .complex .f64 gx1 gy1, .string gt1, .bool gh1] 46)).frozen? ⟨P1, 3, none⟩ = false := by simp [go_sem, p1_f3, p1_z]
    replace p1_4 : (v4.alloc (.cells #[.int .i64 gk1, .string gd1, .int .i64 ga1, .int .i64 gs1, .bool ge1, .complex .f64 gx1 gy1, .string gt1, .bool gh1] 46)).cell? ⟨P1, 4, none⟩ = some (.bool ge1) := by simp [go_sem, p1_4, p1_z]
    replace p1_f4 : (v4.alloc (.cells #[.int .i64 gk1, .string gd1, .int .i64 ga1, .int .i64 gs1, .bool ge1, .complex .f64 gx1 gy1, .string gt1, .bool gh1] 46)).frozen? ⟨P1, 4, none⟩ = false := by simp [go_sem, p1_f4, p1_z]
    replace p1_5 : (v4.alloc (.cells #[.int .i64 gk1, .string gd1, .int .i64 ga1, .int .i64 gs1, .bool ge1, .complex .f64 gx1 gy1, .string gt1, .bool gh1] 46)).cell? ⟨P1, 5, none⟩ = some (.complex .f64 gx1 gy1) := by simp [go_sem, p1_5, p1_z]
    replace p1_f5 : (v4.alloc (.cells #[.int .i64 gk1, .string gd1, .int .i64 ga1, .int .i64 gs1, .bool ge1, .complex .f64 gx1 gy1, .string gt1, .bool gh1] 46)).frozen? ⟨P1, 5, none⟩ = false := by simp [go_sem, p1_f5, p1_z]
    replace p1_6 : (v4.alloc (.cells #[.int .i64 gk1, .string gd1, .int .i64 ga1, .int .i64 gs1, .bool ge1, .complex .f64 gx1 gy1, .string gt1, .bool gh1] 46)).cell? ⟨P1, 6, none⟩ = some (.string gt1) := by simp [go_sem, p1_6, p1_z]
    replace p1_f6 : (v4.alloc (.cells #[.int .i64 gk1, .string gd1, .int .i64 ga1, .int .i64 gs1, .bool ge1, .complex .f64 gx1 gy1, .string gt1, .bool gh1] 46)).frozen? ⟨P1, 6, none⟩ = false := by simp [go_sem, p1_f6, p1_z]
    replace p1_7 : (v4.alloc (.cells #[.int .i64 gk1, .string gd1, .int .i64 ga1, .int .i64 gs1, .bool ge1, .complex .f64 gx1 gy1, .string gt1, .bool gh1] 46)).cell? ⟨P1, 7, none⟩ = some (.bool gh1) := by simp [go_sem, p1_7, p1_z]
    replace p1_f7 : (v4.alloc (.cells #[.int .i64 gk1, .string gd1, .int .i64 ga1, .int .i64 gs1, .bool ge1, .complex .f64 gx1 gy1, .string gt1, .bool gh1] 46)).frozen? ⟨P1, 7, none⟩ = false := by simp [go_sem, p1_f7, p1_z]
    replace p1_z : P1 < (v4.alloc (.cells #[.int .i64 gk1, .string gd1, .int .i64 ga1, .int .i64 gs1, .bool ge1, .complex .f64 gx1 gy1, .string gt1, .bool gh1] 46)).heap.size := by simp <;> omega
    have p2_0 : (v4.alloc (.cells #[.int .i64 gk1, .string gd1, .int .i64 ga1, .int .i64 gs1, .bool ge1, .complex .f64 gx1 gy1, .string gt1, .bool gh1] 46)).cell? ⟨v4.heap.size, 0, none⟩ = some (.int .i64 gk1) := by simp [go_sem]
    have p2_f0 : (v4.alloc (.cells #[.int .i64 gk1, .string gd1, .int .i64 ga1, .int .i64 gs1, .bool ge1, .complex .f64 gx1 gy1, .string gt1, .bool gh1] 46)).frozen? ⟨v4.heap.size, 0, none⟩ = false := by simp [go_sem]
    have p2_1 : (v4.alloc (.cells #[.int .i64 gk1, .string gd1, .int .i64 ga1, .int .i64 gs1, .bool ge1, .complex .f64 gx1 gy1, .string gt1, .bool gh1] 46)).cell? ⟨v4.heap.size, 1, none⟩ = some (.string gd1) := by simp [go_sem]
    have p2_f1 : (v4.alloc (.cells #[.int .i64 gk1, .string gd1, .int .i64 ga1, .int .i64 gs1, .bool ge1, .complex .f64 gx1 gy1, .string gt1, .bool gh1] 46)).frozen? ⟨v4.heap.size, 1, none⟩ = false := by simp [go_sem]
    have p2_2 : (v4.alloc (.cells #[.int .i64 gk1, .string gd1, .int .i64 ga1, .int .i64 gs1, .bool ge1, .complex .f64 gx1 gy1, .string gt1, .bool gh1] 46)).cell? ⟨v4.heap.size, 2, none⟩ = some (.int .i64 ga1) := by simp [go_sem]
    have p2_f2 : (v4.alloc (.cells #[.int .i64 gk1, .string gd1, .int .i64 ga1, .int .i64 gs1, .bool ge1, .complex .f64 gx1 gy1, .string gt1, .bool gh1] 46)).frozen? ⟨v4.heap.size, 2, none⟩ = false := by simp [go_sem]
    have p2_3 : (v4.alloc (.cells #[.int .i64 gk1, .string gd1, .int .i64 ga1, .int .i64 gs1, .bool ge1, .complex .f64 gx1 gy1, .string gt1, .bool gh1] 46)).cell? ⟨v4.heap.size, 3, none⟩ = some (.int .i64 gs1) := by simp [go_sem]
    have p2_f3 : (v4.alloc (.cells #[.int .i64 gk1, .string gd1, .int .i64 ga1, .int .i64 gs1, .bool ge1, .complex .f64 gx1 gy1, .string gt1, .bool gh1] 46)).frozen? ⟨v4.heap.size, 3, none⟩ = false := by simp [go_sem]
    have p2_4 : (v4.alloc (.cells #[.int .i64 gk1, .string gd1, .int .i64 ga1, .int .i64 gs1, .bool ge1, .complex .f64 gx1 gy1, .string gt1, .bool gh1] 46)).cell? ⟨v4.heap.size, 4, none⟩ = some (.bool ge1) := by simp [go_sem]
    have p2_f4 : (v4.alloc (.cells #[.int .i64 gk1, .string gd1, .int .i64 ga1, .int .i64 gs1, .bool ge1, .complex .f64 gx1 gy1, .string gt1, .bool gh1] 46)).frozen? ⟨v4.heap.size, 4, none⟩ = false := by simp [go_sem]
    have p2_5 : (v4.alloc (.cells #[.int .i64 gk1, .string gd1, .int .i64 ga1, .int .i64 gs1, .bool ge1, .complex .f64 gx1 gy1, .string gt1, .bool gh1] 46)).cell? ⟨v4.heap.size, 5, none⟩ = some (.complex .f64 gx1 gy1) := by simp [go_sem]
    have p2_f5 : (v4.alloc (.cells #[.int .i64 gk1, .string gd1, .int .i64 ga1, .int .i64 gs1, .bool ge1, .complex .f64 gx1 gy1, .string gt1, .bool gh1] 46)).frozen? ⟨v4.heap.size, 5, none⟩ = false := by simp [go_sem]
    have p2_6 : (v4.alloc (.cells #[.int .i64 gk1, .string gd1, .int .i64 ga1, .int .i64 gs1, .bool ge1, .complex .f64 gx1 gy1, .string gt1, .bool gh1] 46)).cell? ⟨v4.heap.size, 6, none⟩ = some (.string gt1) := by simp [go_sem]
    have p2_f6 : (v4.alloc (.cells #[.int .i64 gk1, .string gd1, .int .i64 ga1, .int .i64 gs1, .bool ge1, .complex .f64 gx1 gy1, .string gt1, .bool gh1] 46)).frozen? ⟨v4.heap.size, 6, none⟩ = false := by simp [go_sem]
    have p2_7 : (v4.alloc (.cells #[.int .i64 gk1, .string gd1, .int .i64 ga1, .int .i64 gs1, .bool ge1, .complex .f64 gx1 gy1, .string gt1, .bool gh1] 46)).cell? ⟨v4.heap.size, 7, none⟩ = some (.bool gh1) := by simp [go_sem]
    have p2_f7 : (v4.alloc (.cells #[.int .i64 gk1, .string gd1, .int .i64 ga1, .int .i64 gs1, .bool ge1, .complex .f64 gx1 gy1, .string gt1, .bool gh1] 46)).frozen? ⟨v4.heap.size, 7, none⟩ = false := by simp [go_sem]
    have p2_z : v4.heap.size < (v4.alloc (.cells #[.int .i64 gk1, .string gd1, .int .i64 ga1, .int .i64 gs1, .bool ge1, .complex .f64 gx1 gy1, .string gt1, .bool gh1] 46)).heap.size := by simp <;> omega
    have hb : Below v4.heap.size v4 (v4.alloc (.cells #[.int .i64 gk1, .string gd1, .int .i64 ga1, .int .i64 gs1, .bool ge1, .complex .f64 gx1 gy1, .string gt1, .bool gh1] 46)) := (Below.refl _ _).alloc (Nat.le_refl _) _
    replace HO := Lib.hid (rown_below HO.out hb)
    replace HB := Lib.hid (HB.out.trans (hb.mono HB.out.size))
    clear hb
    generalize (v4.alloc (.cells #[.int .i64 gk1, .string gd1, .int .i64 ga1, .int .i64 gs1, .bool ge1, .complex .f64 gx1 gy1, .string gt1, .bool gh1] 46)) = V2 at *
    generalize v4.heap.size = P2 at *
    go_wp2_with fail
    refine (told_any _).mono ?_
    rintro e v5 ⟨rfl, hb⟩
    replace k0 := (hb.cell (p := ⟨w.heap.size, 0, none⟩) kz).trans k0
    replace kf0 := (hb.frozen (p := ⟨w.heap.size, 0, none⟩) kz).trans kf0
    replace k1 := (hb.cell (p := ⟨w.heap.size, 1, none⟩) kz).trans k1
    replace kf1 := (hb.frozen (p := ⟨w.heap.size, 1, none⟩) kz).trans kf1
    replace k2 := (hb.cell (p := ⟨w.heap.size, 2, none⟩) kz).trans k2
    replace kf2 := (hb.frozen (p := ⟨w.heap.size, 2, none⟩) kz).trans kf2
    replace k3 := (hb.cell (p := ⟨w.heap.size, 3, none⟩) kz).trans k3
    replace kf3 := (hb.frozen (p := ⟨w.heap.size, 3, none⟩) kz).trans kf3
    replace k4 := (hb.cell (p := ⟨w.heap.size, 4, none⟩) kz).trans k4
    replace kf4 := (hb.frozen (p := ⟨w.heap.size, 4, none⟩) kz).trans kf4
    replace k5 := (hb.cell (p := ⟨w.heap.size, 5, none⟩) kz).trans k5
    replace kf5 := (hb.frozen (p := ⟨w.heap.size, 5, none⟩) kz).trans kf5
    replace k6 := (hb.cell (p := ⟨w.heap.size, 6, none⟩) kz).trans k6
    replace kf6 := (hb.frozen (p := ⟨w.heap.size, 6, none⟩) kz).trans kf6
    replace k7 := (hb.cell (p := ⟨w.heap.size, 7, none⟩) kz).trans k7
    replace kf7 := (hb.frozen (p := ⟨w.heap.size, 7, none⟩) kz).trans kf7
    replace k8 := (hb.cell (p := ⟨w.heap.size, 8, none⟩) kz).trans k8
    replace kf8 := (hb.frozen (p := ⟨w.heap.size, 8, none⟩) kz).trans kf8
    replace kz := Nat.lt_of_lt_of_le kz hb.size
    replace p0_0 := (hb.cell (p := ⟨P0, 0, none⟩) p0_z).trans p0_0
    replace p0_f0 := (hb.frozen (p := ⟨P0, 0, none⟩) p0_z).trans p0_f0
    replace p0_1 := (hb.cell (p := ⟨P0, 1, none⟩) p0_z).trans p0_1
    replace p0_f1 := (hb.frozen (p := ⟨P0, 1, none⟩) p0_z).trans p0_f1
    replace p0_2 := (hb.cell (p := ⟨P0, 2, none⟩) p0_z).trans p0_2
    replace p0_f2 := (hb.frozen (p := ⟨P0, 2, none⟩) p0_z).trans p0_f2
    replace p0_3 := (hb.cell (p := ⟨P0, 3, none⟩) p0_z).trans p0_3
    replace p0_f3 := (hb.frozen (p := ⟨P0, 3, none⟩) p0_z).trans p0_f3
    replace p0_4 := (hb.cell (p := ⟨P0, 4, none⟩) p0_z).trans p0_4
    replace p0_f4 := (hb.frozen (p := ⟨P0, 4, none⟩) p0_z).trans p0_f4
    replace p0_5 := (hb.cell (p := ⟨P0, 5, none⟩) p0_z).trans p0_5
    replace p0_f5 := (hb.frozen (p := ⟨P0, 5, none⟩) p0_z).trans p0_f5
    replace p0_6 := (hb.cell (p := ⟨P0, 6, none⟩) p0_z).trans p0_6
    replace p0_f6 := (hb.frozen (p := ⟨P0, 6, none⟩) p0_z).trans p0_f6
    replace p0_7 := (hb.cell (p := ⟨P0, 7, none⟩) p0_z).trans p0_7
    replace p0_f7 := (hb.frozen (p := ⟨P0, 7, none⟩) p0_z).trans p0_f7
    replace p0_z := Nat.lt_of_lt_of_le p0_z hb.size
    replace p1_0 := (hb.cell (p := ⟨P1, 0, none⟩) p1_z).trans p1_0
    replace p1_f0 := (hb.frozen (p := ⟨P1, 0, none⟩) p1_z).trans p1_f0
    replace p1_1 := (hb.cell (p := ⟨P1, 1, none⟩) p1_z).trans p1_1
    replace p1_f1 := (hb.frozen (p := ⟨P1, 1, none⟩) p1_z).trans p1_f1
    replace p1_2 := (hb.cell (p := ⟨P1, 2, none⟩) p1_z).trans p1_2
    replace p1_f2 := (hb.frozen (p := ⟨P1, 2, none⟩) p1_z).trans p1_f2
    replace p1_3 := (hb.cell (p := ⟨P1, 3, none⟩) p1_z).trans p1_3
    replace p1_f3 := (hb.frozen (p := ⟨P1, 3, none⟩) p1_z).trans p1_f3
    replace p1_4 := (hb.cell (p := ⟨P1, 4, none⟩) p1_z).trans p1_4
    replace p1_f4 := (hb.frozen (p := ⟨P1, 4, none⟩) p1_z).trans p1_f4
    replace p1_5 := (hb.cell (p := ⟨P1, 5, none⟩) p1_z).trans p1_5
    replace p1_f5 := (hb.frozen (p := ⟨P1, 5, none⟩) p1_z).trans p1_f5
    replace p1_6 := (hb.cell (p := ⟨P1, 6, none⟩) p1_z).trans p1_6
    replace p1_f6 := (hb.frozen (p := ⟨P1, 6, none⟩) p1_z).trans p1_f6
    replace p1_7 := (hb.cell (p := ⟨P1, 7, none⟩) p1_z).trans p1_7
    replace p1_f7 := (hb.frozen (p := ⟨P1, 7, none⟩) p1_z).trans p1_f7
    replace p1_z := Nat.lt_of_lt_of_le p1_z hb.size
    replace p2_0 := (hb.cell (p := ⟨P2, 0, none⟩) p2_z).trans p2_0
    replace p2_f0 := (hb.frozen (p := ⟨P2, 0, none⟩) p2_z).trans p2_f0
    replace p2_1 := (hb.cell (p := ⟨P2, 1, none⟩) p2_z).trans p2_1
    replace p2_f1 := (hb.frozen (p := ⟨P2, 1, none⟩) p2_z).trans p2_f1
    replace p2_2 := (hb.cell (p := ⟨P2, 2, none⟩) p2_z).trans p2_2
    replace p2_f2 := (hb.frozen (p := ⟨P2, 2, none⟩) p2_z).trans p2_f2
    replace p2_3 := (hb.cell (p := ⟨P2, 3, none⟩) p2_z).trans p2_3
    replace p2_f3 := (hb.frozen (p := ⟨P2, 3, none⟩) p2_z).trans p2_f3
    replace p2_4 := (hb.cell (p := ⟨P2, 4, none⟩) p2_z).trans p2_4
    replace p2_f4 := (hb.frozen (p := ⟨P2, 4, none⟩) p2_z).trans p2_f4
    replace p2_5 := (hb.cell (p := ⟨P2, 5, none⟩) p2_z).trans p2_5
    replace p2_f5 := (hb.frozen (p := ⟨P2, 5, none⟩) p2_z).trans p2_f5
    replace p2_6 := (hb.cell (p := ⟨P2, 6, none⟩) p2_z).trans p2_6
    replace p2_f6 := (hb.frozen (p := ⟨P2, 6, none⟩) p2_z).trans p2_f6
    replace p2_7 := (hb.cell (p := ⟨P2, 7, none⟩) p2_z).trans p2_7
    replace p2_f7 := (hb.frozen (p := ⟨P2, 7, none⟩) p2_z).trans p2_f7
    replace p2_z := Nat.lt_of_lt_of_le p2_z hb.size
    replace HB := Lib.hid (HB.out.trans (hb.mono HB.out.size))
    clear hb
    go_wp2
    go_ret
    exact ⟨rfl, HB.out⟩
theorem storeKeeps_walk (A : Option Addr) (n c : Nat) (zs : List Itm) (i : Itm) (kk : Int) (w : World) (hz : RowAt cellsI 9 w w.heap.size A n zs) (_hc : n ≤ c) (_hn : c ≤ 9223372036854775807) :
    Calls Try.prog 7 #[.slice A n c, refV i, .int .i64 kk] w fun e w' => e = .returned (.bool true) ∧ Below w.heap.size w w' := storeKeeps_core A n c zs i kk w hz
end Go.Proofs.Ythooadlobcigcaa
