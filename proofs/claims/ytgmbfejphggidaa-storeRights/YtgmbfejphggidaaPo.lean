/- StorePuts, walked. -/
import Derived.Test.YtgmbfejphggidaaPn
namespace Go.Proofs.Ytgmbfejphggidaa
open Go.RowKit

theorem eqI_neq (i j : Itm) (hi1 : i.x.natAbs < 2 ^ 53) (hi2 : i.y.natAbs < 2 ^ 53) (hj1 : j.x.natAbs < 2 ^ 53) (hj2 : j.y.natAbs < 2 ^ 53) (w : World) : (binOp .neq 46 (itmV i) (itmV j)).run Try.prog w = .ok (.bool (!eqI i j)) w := by
  have h := eql_item i j hi1 hi2 hj1 hj2 w
  unfold itmV at h ⊢
  simp only [binOp, Sem.run_bind, Sem.run_pure] at h ⊢
  revert h
  generalize Sem.run Try.prog (Op.equal 46 _ _) w = r
  intro h
  cases r <;> simp_all [Result.andThen]
theorem zero_V : itmV zeroIt = .agg #[.int .i64 0, .string ⟨#[]⟩, .int .i64 0, .int .i64 0, .bool false, .complex .f64 0 0, .string ⟨#[]⟩, .bool false] := by unfold itmV zeroIt; simp only [zero_fl]
theorem rdrop_is {zs : List Itm} {k : Int} (hs : Keys zs) : rdropF zs k = dropF zs k := rdrop_low_high hs
theorem drop_mem {zs : List Itm} {k : Int} {z : Itm} (hs : Keys zs) (h : z ∈ dropF zs k) : z ∈ zs := by
  rw [← rdrop_is hs] at h
  exact (List.mem_filter.mp h).1
set_option maxRecDepth 100000 in
set_option maxHeartbeats 16000000 in
theorem storePuts_core (A : Option Addr) (n c : Nat) (zs : List Itm) (i : Itm) (kk : Int) (w : World) (hz : RowAt cellsI 9 w w.heap.size A n zs) :
    Calls Try.prog 4 #[.slice A n c, refV i, .int .i64 kk] w fun e w' => e = .returned (.bool true) ∧ Below w.heap.size w w' := by
  have HG := Lib.hid (fixS_good zs)
  have HRF : Hid (∀ w', Below w.heap.size w w' → Calls Try.prog 9 #[.slice A n c] w' (OwnRow cellsI 9 28 (fixS zs) w')) := fun w' h => rfix_any A n c zs w' ((hz.keep h).more h.size)
  have HX := Lib.hid (fixRef_any i)
  have HXR := Lib.hid (fix_right i)
  clear hz
  generalize fixS zs = ys at *
  generalize fixI i = xx at *
  have hyl := HG.out.len
  have HKY := Lib.hid HG.out.keys
  have HPG := Lib.hid (put_good HG.out HXR.out)
  have hpl : (putF ys xx).1.length ≤ 13 := HPG.out.len
  have hdl : (dropF ys kk).length ≤ ys.length := drop_le ys kk
  have HT := Lib.hid (to_any xx)
  have HRT : Hid (∀ (w : World) (A : Option Addr) (c B : Nat), w.ownsRow B 28 9 (.slice A ys.length c) ys.length (rowCells cellsI ys) → Calls Try.prog 11 #[.slice A ys.length c] w (OwnRow cellsP 8 46 ys w)) := fun w A c B h => rowTo_any A ys.length c ys w.heap.size w (Nat.le_refl _) (own_row rowI h) (by omega)
  have HPT : Hid (∀ (w : World) (A : Option Addr) (c B : Nat), w.ownsRow B 46 8 (.slice A ys.length c) ys.length (rowCells cellsP ys) → Calls Try.prog 16 #[.slice A ys.length c, itmV xx] w (RowFlag (putF ys xx).1 (putF ys xx).1.length (putF ys xx).2 w)) := fun w A c B h => putS_any A ys.length c ys xx w.heap.size w (Nat.le_refl _) (own_row rowS h) (rown_cap h) (by omega) HKY.out
  have HRP : Hid (∀ (w : World) (A : Option Addr) (c B : Nat), w.ownsRow B 28 9 (.slice A ys.length c) ys.length (rowCells cellsI ys) → Calls Try.prog 18 #[.slice A ys.length c, refV xx] w (RPutRet ys xx w)) := fun w A c B h => rput_any A ys.length c ys xx w.heap.size w (Nat.le_refl _) (own_row rowI h) (by omega) HKY.out (good_id HG.out)
  have HDR : Hid (∀ (w : World) (A : Option Addr) (c B : Nat), w.ownsRow B 46 8 (.slice A ys.length c) ys.length (rowCells cellsP ys) → Calls Try.prog 23 #[.slice A ys.length c, .int .i64 kk] w (OwnRow cellsP 8 46 (dropF ys kk) w)) := fun w A c B h => dropS_any A ys.length c ys kk w.heap.size w (Nat.le_refl _) (own_row rowS h) (rown_cap h) (by omega) HKY.out
  have HRD : Hid (∀ (w : World) (A : Option Addr) (c B : Nat), w.ownsRow B 28 9 (.slice A ys.length c) ys.length (rowCells cellsI ys) → Calls Try.prog 24 #[.slice A ys.length c, .int .i64 kk] w (OwnRow cellsI 9 28 (dropF ys kk) w)) := fun w A c B h => by
    have := rdrop_any A ys.length c ys kk w.heap.size w (Nat.le_refl _) (own_row rowI h) (by omega)
    rwa [rdrop_is HKY.out] at this
  have HG1 : Hid (∀ (w : World) (A : Option Addr) (c B : Nat), w.ownsRow B 46 8 (.slice A ys.length c) ys.length (rowCells cellsP ys) → Calls Try.prog 19 #[.slice A ys.length c, .int .i64 kk] w fun e w' => e = .returned (GetV (getF ys kk)) ∧ Below w.heap.size w w') := fun w A c B h => getS_any A ys.length c ys kk w.heap.size w (Nat.le_refl _) (own_row rowS h) (by omega) HKY.out
  have HRG : Hid (∀ (w : World) (A : Option Addr) (c B : Nat), w.ownsRow B 28 9 (.slice A ys.length c) ys.length (rowCells cellsI ys) → Calls Try.prog 20 #[.slice A ys.length c, .int .i64 kk] w fun e w' => e = .returned (GetR (getF ys kk)) ∧ Below w.heap.size w w') := fun w A c B h => rget_any A ys.length c ys kk w.heap.size w (Nat.le_refl _) (own_row rowI h) (by omega)
  have HFR : Hid (∀ l, (∀ z ∈ l, rightI z = true) → l.length ≤ 13 → ∀ (w : World) (A : Option Addr) (c B : Nat), w.ownsRow B 46 8 (.slice A l.length c) l.length (rowCells cellsP l) → Calls Try.prog 21 #[.slice A l.length c] w (OwnRow cellsI 9 28 l w)) := fun l h1 h2 w A c B h => rowFrom_any A l.length c l w.heap.size w (Nat.le_refl _) (own_row rowS h) (by omega) (fun z hz => right_small (h1 z hz))
  have HSM : Hid (∀ l : List Itm, l.length ≤ 13 → ∀ (w : World) (A : Option Addr) (c B : Nat) (A' : Option Addr) (c' B' : Nat), w.ownsRow B 28 9 (.slice A l.length c) l.length (rowCells cellsI l) → w.ownsRow B' 28 9 (.slice A' l.length c') l.length (rowCells cellsI l) → Calls Try.prog 14 #[.slice A l.length c, .slice A' l.length c'] w fun e w' => e = .returned (.bool true) ∧ Below w.heap.size w w') := fun l h2 w A c B A' c' B' h h' => by
    have := rsame_any A l.length c l A' l.length c' l w.heap.size w (own_row rowI h) (own_row rowI h') (by omega)
    rw [(sameS_iff l l).mpr rfl] at this
    exact this.mono fun e w' ⟨h1, h2⟩ => ⟨h1, by obtain ⟨m, rfl⟩ := h2.out; exact ⟨rfl, rfl, rfl, Nat.le_refl _, fun _ _ => rfl⟩⟩
  have HRS : Hid (∀ (w : World) (A : Option Addr) (c B : Nat), w.ownsRow B 46 8 (.slice A (putF ys xx).1.length c) (putF ys xx).1.length (rowCells cellsP (putF ys xx).1) → Calls Try.prog 10 #[.slice A (putF ys xx).1.length c] w fun e w' => e = .returned (.bool true) ∧ Below w.heap.size w w') := fun w A c B h => by
    have := rightS_any A _ c _ w.heap.size w (Nat.le_refl _) (own_row rowS h) (by omega) (fun z hz => right_small (HPG.out.right z hz))
    rwa [show rightS (putF ys xx).1 = true from all_right HPG.out.right HPG.out.keys (fun q h => by cases h)] at this
  have HF1 := Lib.hid (HFR.out (putF ys xx).1 HPG.out.right hpl)
  have HF2 := Lib.hid (HFR.out (dropF ys kk) (fun z hz => HG.out.right z (drop_mem HKY.out hz)) (by omega))
  have HF3 := Lib.hid (HFR.out ys HG.out.right (by omega))
  have HS1 := Lib.hid (HSM.out (putF ys xx).1 hpl)
  have HS2 := Lib.hid (HSM.out (dropF ys kk) (by omega))
  have HS3 := Lib.hid (HSM.out ys (by omega))
  have HGM : Hid (∀ z, getF ys kk = some z → rightI z = true) := fun z h => HG.out.right z (getF_mem h).1
  unfold RPutRet at HRP
  generalize (putF ys xx).2 = pb at *
  generalize (putF ys xx).1 = ps at *
  generalize dropF ys kk = ds at *
  generalize getF ys kk = g at *
  have HXI := Lib.hid (show refV xx = .agg #[.int .i64 xx.key, .string xx.ver.id, .int .i64 xx.ver.seq, .int .i64 xx.ver.stamp, .bool xx.dead, .int .i64 xx.x, .int .i64 xx.y, .string xx.text, .bool xx.held] from rfl)
  have HXP := Lib.hid (show itmV xx = .agg #[.int .i64 xx.key, .string xx.ver.id, .int .i64 xx.ver.seq, .int .i64 xx.ver.stamp, .bool xx.dead, .complex .f64 (fl xx.x) (fl xx.y), .string xx.text, .bool xx.held] from rfl)
  rw [HXI.out] at HX HT HRP
  rw [HXP.out] at HT HPT
  obtain ⟨key, ⟨d, a, s⟩, dead, x, y, text, held⟩ := i
  rw [show refV ⟨key, ⟨d, a, s⟩, dead, x, y, text, held⟩ = .agg #[.int .i64 key, .string d, .int .i64 a, .int .i64 s, .bool dead, .int .i64 x, .int .i64 y, .string text, .bool held] from rfl] at HX ⊢
  clear HXI HXP HFR HSM HXR HG HKY HPG
  generalize xx.key = key2 at *
  generalize xx.ver.id = d2 at *
  generalize xx.ver.seq = a2 at *
  generalize xx.ver.stamp = s2 at *
  generalize xx.dead = dead2 at *
  generalize fl xx.x = fx at *
  generalize fl xx.y = fy at *
  generalize xx.x = x2 at *
  generalize xx.y = y2 at *
  generalize xx.text = text2 at *
  generalize xx.held = held2 at *
  have hst := store_complex
  go_enter Try.func4, Try.ntmps4
  go_upto_region 1 with fail
  have k0 : (w.alloc (.cells #[.int .i64 key, .string d, .int .i64 a, .int .i64 s, .bool dead, .int .i64 x, .int .i64 y, .string text, .bool held] 28)).cell? ⟨w.heap.size, 0, none⟩ = some (.int .i64 key) := by simp [go_sem]
  have kf0 : (w.alloc (.cells #[.int .i64 key, .string d, .int .i64 a, .int .i64 s, .bool dead, .int .i64 x, .int .i64 y, .string text, .bool held] 28)).frozen? ⟨w.heap.size, 0, none⟩ = false := by simp [go_sem]
  have k1 : (w.alloc (.cells #[.int .i64 key, .string d, .int .i64 a, .int .i64 s, .bool dead, .int .i64 x, .int .i64 y, .string text, .bool held] 28)).cell? ⟨w.heap.size, 1, none⟩ = some (.string d) := by simp [go_sem]
  have kf1 : (w.alloc (.cells #[.int .i64 key, .string d, .int .i64 a, .int .i64 s, .bool dead, .int .i64 x, .int .i64 y, .string text, .bool held] 28)).frozen? ⟨w.heap.size, 1, none⟩ = false := by simp [go_sem]
  have k2 : (w.alloc (.cells #[.int .i64 key, .string d, .int .i64 a, .int .i64 s, .bool dead, .int .i64 x, .int .i64 y, .string text, .bool held] 28)).cell? ⟨w.heap.size, 2, none⟩ = some (.int .i64 a) := by simp [go_sem]
  have kf2 : (w.alloc (.cells #[.int .i64 key, .string d, .int .i64 a, .int .i64 s, .bool dead, .int .i64 x, .int .i64 y, .string text, .bool held] 28)).frozen? ⟨w.heap.size, 2, none⟩ = false := by simp [go_sem]
  have k3 : (w.alloc (.cells #[.int .i64 key, .string d, .int .i64 a, .int .i64 s, .bool dead, .int .i64 x, .int .i64 y, .string text, .bool held] 28)).cell? ⟨w.heap.size, 3, none⟩ = some (.int .i64 s) := by simp [go_sem]
  have kf3 : (w.alloc (.cells #[.int .i64 key, .string d, .int .i64 a, .int .i64 s, .bool dead, .int .i64 x, .int .i64 y, .string text, .bool held] 28)).frozen? ⟨w.heap.size, 3, none⟩ = false := by simp [go_sem]
  have k4 : (w.alloc (.cells #[.int .i64 key, .string d, .int .i64 a, .int .i64 s, .bool dead, .int .i64 x, .int .i64 y, .string text, .bool held] 28)).cell? ⟨w.heap.size, 4, none⟩ = some (.bool dead) := by simp [go_sem]
  have kf4 : (w.alloc (.cells #[.int .i64 key, .string d, .int .i64 a, .int .i64 s, .bool dead, .int .i64 x, .int .i64 y, .string text, .bool held] 28)).frozen? ⟨w.heap.size, 4, none⟩ = false := by simp [go_sem]
  have k5 : (w.alloc (.cells #[.int .i64 key, .string d, .int .i64 a, .int .i64 s, .bool dead, .int .i64 x, .int .i64 y, .string text, .bool held] 28)).cell? ⟨w.heap.size, 5, none⟩ = some (.int .i64 x) := by simp [go_sem]
  have kf5 : (w.alloc (.cells #[.int .i64 key, .string d, .int .i64 a, .int .i64 s, .bool dead, .int .i64 x, .int .i64 y, .string text, .bool held] 28)).frozen? ⟨w.heap.size, 5, none⟩ = false := by simp [go_sem]
  have k6 : (w.alloc (.cells #[.int .i64 key, .string d, .int .i64 a, .int .i64 s, .bool dead, .int .i64 x, .int .i64 y, .string text, .bool held] 28)).cell? ⟨w.heap.size, 6, none⟩ = some (.int .i64 y) := by simp [go_sem]
  have kf6 : (w.alloc (.cells #[.int .i64 key, .string d, .int .i64 a, .int .i64 s, .bool dead, .int .i64 x, .int .i64 y, .string text, .bool held] 28)).frozen? ⟨w.heap.size, 6, none⟩ = false := by simp [go_sem]
  have k7 : (w.alloc (.cells #[.int .i64 key, .string d, .int .i64 a, .int .i64 s, .bool dead, .int .i64 x, .int .i64 y, .string text, .bool held] 28)).cell? ⟨w.heap.size, 7, none⟩ = some (.string text) := by simp [go_sem]
  have kf7 : (w.alloc (.cells #[.int .i64 key, .string d, .int .i64 a, .int .i64 s, .bool dead, .int .i64 x, .int .i64 y, .string text, .bool held] 28)).frozen? ⟨w.heap.size, 7, none⟩ = false := by simp [go_sem]
  have k8 : (w.alloc (.cells #[.int .i64 key, .string d, .int .i64 a, .int .i64 s, .bool dead, .int .i64 x, .int .i64 y, .string text, .bool held] 28)).cell? ⟨w.heap.size, 8, none⟩ = some (.bool held) := by simp [go_sem]
  have kf8 : (w.alloc (.cells #[.int .i64 key, .string d, .int .i64 a, .int .i64 s, .bool dead, .int .i64 x, .int .i64 y, .string text, .bool held] 28)).frozen? ⟨w.heap.size, 8, none⟩ = false := by simp [go_sem]
  have kz : w.heap.size < (w.alloc (.cells #[.int .i64 key, .string d, .int .i64 a, .int .i64 s, .bool dead, .int .i64 x, .int .i64 y, .string text, .bool held] 28)).heap.size := by simp <;> omega
  have HB : Hid (Below w.heap.size w (w.alloc (.cells #[.int .i64 key, .string d, .int .i64 a, .int .i64 s, .bool dead, .int .i64 x, .int .i64 y, .string text, .bool held] 28))) := (Below.refl _ _).alloc (Nat.le_refl _) _
  generalize (w.alloc (.cells #[.int .i64 key, .string d, .int .i64 a, .int .i64 s, .bool dead, .int .i64 x, .int .i64 y, .string text, .bool held] 28)) = W at *
  refine tail_begin (S := fun w' => w'.cell? ⟨w.heap.size, 0, none⟩ = some (.int .i64 key) ∧ w'.cell? ⟨w.heap.size, 1, none⟩ = some (.string d) ∧ w'.cell? ⟨w.heap.size, 2, none⟩ = some (.int .i64 a) ∧ w'.cell? ⟨w.heap.size, 3, none⟩ = some (.int .i64 s) ∧ w'.cell? ⟨w.heap.size, 4, none⟩ = some (.bool dead) ∧ w'.cell? ⟨w.heap.size, 5, none⟩ = some (.int .i64 x) ∧ w'.cell? ⟨w.heap.size, 6, none⟩ = some (.int .i64 y) ∧ w'.cell? ⟨w.heap.size, 7, none⟩ = some (.string text) ∧ w'.cell? ⟨w.heap.size, 8, none⟩ = some (.bool held)) 5 (by kernel_rfl) ⟨k0, k1, k2, k3, k4, k5, k6, k7, k8⟩ (fun hHeld => ?_)
  refine tail_take (i := 0) (oi := { dst := some 16, op := Go.Op.move (Go.Operand.tmp 0), type := 22, pos := "law.go:56", after := #[], guard := none }) (v := ?_) rfl (by kernel_rfl) (by kernel_rfl) (by kernel_rfl) (by kernel_rfl) (fun _ _ _ h => h) (Or.inl ⟨rfl, ?_⟩) (by assumption) ?_
  rotate_left
  · intro wz hSw; (try dsimp only at hSw); go_simp; try (with_reducible rfl)
  try simp only [Act.put, List.setIfInBounds_toArray, List.set_cons_zero, List.set_cons_succ]
  refine tail_take (i := 2) (oi := { dst := some 18, op := Go.Op.load 28 (Go.Operand.tmp 4), type := 28, pos := "law.go:56", after := #[], guard := none }) (v := ?_) rfl (by kernel_rfl) (by kernel_rfl) (by kernel_rfl) (by kernel_rfl) (fun _ _ _ h => h) (Or.inl ⟨rfl, ?_⟩) (by assumption) ?_
  rotate_left
  · intro wz hSw; (try dsimp only at hSw); go_simp; try (with_reducible rfl)
  try simp only [Act.put, List.setIfInBounds_toArray, List.set_cons_zero, List.set_cons_succ]
  refine tail_call (i := 1) (o := { dst := some 17, op := Go.Op.call { callee := Go.Callee.value (Go.Operand.func 9), args := #[Go.Operand.tmp 16], argTypes := #[22] }, type := 22, pos := "law.go:56", after := #[{ on := 0, ground := Go.Ground.data }], guard := none }) (by kernel_rfl) (by kernel_rfl) rfl (fun K hK => ?_)
  go_simp
  go_at_call 9
  have HBd : Hid (Below w.heap.size w W.drew) := HB.out.trans ⟨rfl, rfl, rfl, Nat.le_refl _, fun _ _ => rfl⟩
  refine (HRF.out _ (by exact HBd.out)).mono ?_
  rintro e w1 ⟨Ay, cy, rfl, ho, hb⟩
  have HO : Hid (w1.ownsRow (w.heap.size + 1) 28 9 (.slice Ay ys.length cy) ys.length (rowCells cellsI ys)) := rown_base ho (by exact kz)
  clear ho HBd
  replace k0 := (hb.cell (p := ⟨w.heap.size, 0, none⟩) kz).trans k0
  replace kf0 := (hb.frozen (p := ⟨w.heap.size, 0, none⟩) kz).trans kf0
  replace k1 := (hb.cell (p := ⟨w.heap.size, 1, none⟩) kz).trans k1
  replace kf1 := (hb.frozen (p := ⟨w.heap.size, 1, none⟩) kz).trans kf1
  replace k2 := (hb.cell (p := ⟨w.heap.size, 2, none⟩) kz).trans k2
  replace kf2 := (hb.frozen (p := ⟨w.heap.size, 2, none⟩) kz).trans kf2
  replace k3 := (hb.cell (p := ⟨w.heap.size, 3, none⟩) kz).trans k3
  replace kf3 := (hb.frozen (p := ⟨w.heap.size, 3, none⟩) kz).trans kf3
  replace k4 := (hb.cell (p := ⟨w.heap.size, 4, none⟩) kz).trans k4
  replace kf4 := (hb.frozen (p := ⟨w.heap.size, 4, none⟩) kz).trans kf4
  replace k5 := (hb.cell (p := ⟨w.heap.size, 5, none⟩) kz).trans k5
  replace kf5 := (hb.frozen (p := ⟨w.heap.size, 5, none⟩) kz).trans kf5
  replace k6 := (hb.cell (p := ⟨w.heap.size, 6, none⟩) kz).trans k6
  replace kf6 := (hb.frozen (p := ⟨w.heap.size, 6, none⟩) kz).trans kf6
  replace k7 := (hb.cell (p := ⟨w.heap.size, 7, none⟩) kz).trans k7
  replace kf7 := (hb.frozen (p := ⟨w.heap.size, 7, none⟩) kz).trans kf7
  replace k8 := (hb.cell (p := ⟨w.heap.size, 8, none⟩) kz).trans k8
  replace kf8 := (hb.frozen (p := ⟨w.heap.size, 8, none⟩) kz).trans kf8
  replace kz := Nat.lt_of_lt_of_le kz hb.size
  replace HB := Lib.hid (below_via HB.out hb HB.out.size ⟨rfl, rfl, rfl, rfl⟩)
  clear hb
  refine hK.out _ _ ⟨k0, k1, k2, k3, k4, k5, k6, k7, k8⟩ (fun hHeld => ?_)
  clear hK K
  try simp only [Act.put, List.setIfInBounds_toArray, List.set_cons_zero, List.set_cons_succ]
  refine tail_call (i := 3) (o := { dst := some 19, op := Go.Op.call { callee := Go.Callee.value (Go.Operand.func 15), args := #[Go.Operand.tmp 18], argTypes := #[28] }, type := 28, pos := "law.go:56", after := #[{ on := 2, ground := Go.Ground.data }, { on := 1, ground := Go.Ground.chain }], guard := none }) (by kernel_rfl) (by kernel_rfl) rfl (fun K hK => ?_)
  go_simp
  go_at_call 15
  refine (HX.out _).mono ?_
  rintro e w2 ⟨rfl, hb⟩
  replace k0 := (hb.cell (p := ⟨w.heap.size, 0, none⟩) kz).trans k0
  replace kf0 := (hb.frozen (p := ⟨w.heap.size, 0, none⟩) kz).trans kf0
  replace k1 := (hb.cell (p := ⟨w.heap.size, 1, none⟩) kz).trans k1
  replace kf1 := (hb.frozen (p := ⟨w.heap.size, 1, none⟩) kz).trans kf1
  replace k2 := (hb.cell (p := ⟨w.heap.size, 2, none⟩) kz).trans k2
  replace kf2 := (hb.frozen (p := ⟨w.heap.size, 2, none⟩) kz).trans kf2
  replace k3 := (hb.cell (p := ⟨w.heap.size, 3, none⟩) kz).trans k3
  replace kf3 := (hb.frozen (p := ⟨w.heap.size, 3, none⟩) kz).trans kf3
  replace k4 := (hb.cell (p := ⟨w.heap.size, 4, none⟩) kz).trans k4
  replace kf4 := (hb.frozen (p := ⟨w.heap.size, 4, none⟩) kz).trans kf4
  replace k5 := (hb.cell (p := ⟨w.heap.size, 5, none⟩) kz).trans k5
  replace kf5 := (hb.frozen (p := ⟨w.heap.size, 5, none⟩) kz).trans kf5
  replace k6 := (hb.cell (p := ⟨w.heap.size, 6, none⟩) kz).trans k6
  replace kf6 := (hb.frozen (p := ⟨w.heap.size, 6, none⟩) kz).trans kf6
  replace k7 := (hb.cell (p := ⟨w.heap.size, 7, none⟩) kz).trans k7
  replace kf7 := (hb.frozen (p := ⟨w.heap.size, 7, none⟩) kz).trans kf7
  replace k8 := (hb.cell (p := ⟨w.heap.size, 8, none⟩) kz).trans k8
  replace kf8 := (hb.frozen (p := ⟨w.heap.size, 8, none⟩) kz).trans kf8
  replace kz := Nat.lt_of_lt_of_le kz hb.size
  replace HO := Lib.hid (rown_below HO.out (below_via (Below.refl _ _) hb (Nat.le_refl _) ⟨rfl, rfl, rfl, rfl⟩))
  replace HB := Lib.hid (below_via HB.out hb HB.out.size ⟨rfl, rfl, rfl, rfl⟩)
  clear hb
  refine hK.out _ _ ⟨k0, k1, k2, k3, k4, k5, k6, k7, k8⟩ (fun hHeld => ?_)
  clear hK K
  try simp only [Act.put, List.setIfInBounds_toArray, List.set_cons_zero, List.set_cons_succ]
  refine tail_take (i := 4) (oi := { dst := some 0, op := Go.Op.assign (Go.Operand.tmp 17), type := 22, pos := "law.go:56", after := #[{ on := 1, ground := Go.Ground.data }, { on := 3, ground := Go.Ground.chain }, { on := 0, ground := Go.Ground.phase }, { on := 1, ground := Go.Ground.phase }, { on := 2, ground := Go.Ground.textOnly Go.Departure.lateStores }, { on := 3, ground := Go.Ground.textOnly Go.Departure.lateStoresUnsure }], guard := none }) (v := ?_) rfl (by kernel_rfl) (by kernel_rfl) (by kernel_rfl) (by kernel_rfl) (fun _ _ _ h => h) (Or.inl ⟨rfl, ?_⟩) (by assumption) ?_
  rotate_left
  · intro wz hSw; (try dsimp only at hSw); go_simp; try (with_reducible rfl)
  try simp only [Act.put, List.setIfInBounds_toArray, List.set_cons_zero]
  refine tail_last (o := { dst := none, op := Go.Op.store 28 (Go.Operand.tmp 4) (Go.Operand.tmp 19), type := 0, pos := "law.go:56", after := #[{ on := 3, ground := Go.Ground.data }, { on := 4, ground := Go.Ground.chain }, { on := 0, ground := Go.Ground.phase }, { on := 1, ground := Go.Ground.phase }, { on := 2, ground := Go.Ground.phase }, { on := 3, ground := Go.Ground.phase }, { on := 4, ground := Go.Ground.phase }], guard := none }) (by kernel_rfl) (by kernel_rfl) rfl (fun K hK => ?_)
  go_simp
  clear hHeld
  replace k0 : (((((((((w2.setCell ⟨w.heap.size, 0, none⟩ (.int .i64 key2)).setCell ⟨w.heap.size, 1, none⟩ (.string d2)).setCell ⟨w.heap.size, 2, none⟩ (.int .i64 a2)).setCell ⟨w.heap.size, 3, none⟩ (.int .i64 s2)).setCell ⟨w.heap.size, 4, none⟩ (.bool dead2)).setCell ⟨w.heap.size, 5, none⟩ (.int .i64 x2)).setCell ⟨w.heap.size, 6, none⟩ (.int .i64 y2)).setCell ⟨w.heap.size, 7, none⟩ (.string text2)).setCell ⟨w.heap.size, 8, none⟩ (.bool held2)).cell? ⟨w.heap.size, 0, none⟩ = some (.int .i64 key2) := by simp [go_sem, k0]
  replace kf0 : (((((((((w2.setCell ⟨w.heap.size, 0, none⟩ (.int .i64 key2)).setCell ⟨w.heap.size, 1, none⟩ (.string d2)).setCell ⟨w.heap.size, 2, none⟩ (.int .i64 a2)).setCell ⟨w.heap.size, 3, none⟩ (.int .i64 s2)).setCell ⟨w.heap.size, 4, none⟩ (.bool dead2)).setCell ⟨w.heap.size, 5, none⟩ (.int .i64 x2)).setCell ⟨w.heap.size, 6, none⟩ (.int .i64 y2)).setCell ⟨w.heap.size, 7, none⟩ (.string text2)).setCell ⟨w.heap.size, 8, none⟩ (.bool held2)).frozen? ⟨w.heap.size, 0, none⟩ = false := by simp [go_sem, kf0]
  replace k1 : (((((((((w2.setCell ⟨w.heap.size, 0, none⟩ (.int .i64 key2)).setCell ⟨w.heap.size, 1, none⟩ (.string d2)).setCell ⟨w.heap.size, 2, none⟩ (.int .i64 a2)).setCell ⟨w.heap.size, 3, none⟩ (.int .i64 s2)).setCell ⟨w.heap.size, 4, none⟩ (.bool dead2)).setCell ⟨w.heap.size, 5, none⟩ (.int .i64 x2)).setCell ⟨w.heap.size, 6, none⟩ (.int .i64 y2)).setCell ⟨w.heap.size, 7, none⟩ (.string text2)).setCell ⟨w.heap.size, 8, none⟩ (.bool held2)).cell? ⟨w.heap.size, 1, none⟩ = some (.string d2) := by simp [go_sem, k1]
  replace kf1 : (((((((((w2.setCell ⟨w.heap.size, 0, none⟩ (.int .i64 key2)).setCell ⟨w.heap.size, 1, none⟩ (.string d2)).setCell ⟨w.heap.size, 2, none⟩ (.int .i64 a2)).setCell ⟨w.heap.size, 3, none⟩ (.int .i64 s2)).setCell ⟨w.heap.size, 4, none⟩ (.bool dead2)).setCell ⟨w.heap.size, 5, none⟩ (.int .i64 x2)).setCell ⟨w.heap.size, 6, none⟩ (.int .i64 y2)).setCell ⟨w.heap.size, 7, none⟩ (.string text2)).setCell ⟨w.heap.size, 8, none⟩ (.bool held2)).frozen? ⟨w.heap.size, 1, none⟩ = false := by simp [go_sem, kf1]
  replace k2 : (((((((((w2.setCell ⟨w.heap.size, 0, none⟩ (.int .i64 key2)).setCell ⟨w.heap.size, 1, none⟩ (.string d2)).setCell ⟨w.heap.size, 2, none⟩ (.int .i64 a2)).setCell ⟨w.heap.size, 3, none⟩ (.int .i64 s2)).setCell ⟨w.heap.size, 4, none⟩ (.bool dead2)).setCell ⟨w.heap.size, 5, none⟩ (.int .i64 x2)).setCell ⟨w.heap.size, 6, none⟩ (.int .i64 y2)).setCell ⟨w.heap.size, 7, none⟩ (.string text2)).setCell ⟨w.heap.size, 8, none⟩ (.bool held2)).cell? ⟨w.heap.size, 2, none⟩ = some (.int .i64 a2) := by simp [go_sem, k2]
  replace kf2 : (((((((((w2.setCell ⟨w.heap.size, 0, none⟩ (.int .i64 key2)).setCell ⟨w.heap.size, 1, none⟩ (.string d2)).setCell ⟨w.heap.size, 2, none⟩ (.int .i64 a2)).setCell ⟨w.heap.size, 3, none⟩ (.int .i64 s2)).setCell ⟨w.heap.size, 4, none⟩ (.bool dead2)).setCell ⟨w.heap.size, 5, none⟩ (.int .i64 x2)).setCell ⟨w.heap.size, 6, none⟩ (.int .i64 y2)).setCell ⟨w.heap.size, 7, none⟩ (.string text2)).setCell ⟨w.heap.size, 8, none⟩ (.bool held2)).frozen? ⟨w.heap.size, 2, none⟩ = false := by simp [go_sem, kf2]
  replace k3 : (((((((((w2.setCell ⟨w.heap.size, 0, none⟩ (.int .i64 key2)).setCell ⟨w.heap.size, 1, none⟩ (.string d2)).setCell ⟨w.heap.size, 2, none⟩ (.int .i64 a2)).setCell ⟨w.heap.size, 3, none⟩ (.int .i64 s2)).setCell ⟨w.heap.size, 4, none⟩ (.bool dead2)).setCell ⟨w.heap.size, 5, none⟩ (.int .i64 x2)).setCell ⟨w.heap.size, 6, none⟩ (.int .i64 y2)).setCell ⟨w.heap.size, 7, none⟩ (.string text2)).setCell ⟨w.heap.size, 8, none⟩ (.bool held2)).cell? ⟨w.heap.size, 3, none⟩ = some (.int .i64 s2) := by simp [go_sem, k3]
  replace kf3 : (((((((((w2.setCell ⟨w.heap.size, 0, none⟩ (.int .i64 key2)).setCell ⟨w.heap.size, 1, none⟩ (.string d2)).setCell ⟨w.heap.size, 2, none⟩ (.int .i64 a2)).setCell ⟨w.heap.size, 3, none⟩ (.int .i64 s2)).setCell ⟨w.heap.size, 4, none⟩ (.bool dead2)).setCell ⟨w.heap.size, 5, none⟩ (.int .i64 x2)).setCell ⟨w.heap.size, 6, none⟩ (.int .i64 y2)).setCell ⟨w.heap.size, 7, none⟩ (.string text2)).setCell ⟨w.heap.size, 8, none⟩ (.bool held2)).frozen? ⟨w.heap.size, 3, none⟩ = false := by simp [go_sem, kf3]
  replace k4 : (((((((((w2.setCell ⟨w.heap.size, 0, none⟩ (.int .i64 key2)).setCell ⟨w.heap.size, 1, none⟩ (.string d2)).setCell ⟨w.heap.size, 2, none⟩ (.int .i64 a2)).setCell ⟨w.heap.size, 3, none⟩ (.int .i64 s2)).setCell ⟨w.heap.size, 4, none⟩ (.bool dead2)).setCell ⟨w.heap.size, 5, none⟩ (.int .i64 x2)).setCell ⟨w.heap.size, 6, none⟩ (.int .i64 y2)).setCell ⟨w.heap.size, 7, none⟩ (.string text2)).setCell ⟨w.heap.size, 8, none⟩ (.bool held2)).cell? ⟨w.heap.size, 4, none⟩ = some (.bool dead2) := by simp [go_sem, k4]
  replace kf4 : (((((((((w2.setCell ⟨w.heap.size, 0, none⟩ (.int .i64 key2)).setCell ⟨w.heap.size, 1, none⟩ (.string d2)).setCell ⟨w.heap.size, 2, none⟩ (.int .i64 a2)).setCell ⟨w.heap.size, 3, none⟩ (.int .i64 s2)).setCell ⟨w.heap.size, 4, none⟩ (.bool dead2)).setCell ⟨w.heap.size, 5, none⟩ (.int .i64 x2)).setCell ⟨w.heap.size, 6, none⟩ (.int .i64 y2)).setCell ⟨w.heap.size, 7, none⟩ (.string text2)).setCell ⟨w.heap.size, 8, none⟩ (.bool held2)).frozen? ⟨w.heap.size, 4, none⟩ = false := by simp [go_sem, kf4]
  replace k5 : (((((((((w2.setCell ⟨w.heap.size, 0, none⟩ (.int .i64 key2)).setCell ⟨w.heap.size, 1, none⟩ (.string d2)).setCell ⟨w.heap.size, 2, none⟩ (.int .i64 a2)).setCell ⟨w.heap.size, 3, none⟩ (.int .i64 s2)).setCell ⟨w.heap.size, 4, none⟩ (.bool dead2)).setCell ⟨w.heap.size, 5, none⟩ (.int .i64 x2)).setCell ⟨w.heap.size, 6, none⟩ (.int .i64 y2)).setCell ⟨w.heap.size, 7, none⟩ (.string text2)).setCell ⟨w.heap.size, 8, none⟩ (.bool held2)).cell? ⟨w.heap.size, 5, none⟩ = some (.int .i64 x2) := by simp [go_sem, k5]
  replace kf5 : (((((((((w2.setCell ⟨w.heap.size, 0, none⟩ (.int .i64 key2)).setCell ⟨w.heap.size, 1, none⟩ (.string d2)).setCell ⟨w.heap.size, 2, none⟩ (.int .i64 a2)).setCell ⟨w.heap.size, 3, none⟩ (.int .i64 s2)).setCell ⟨w.heap.size, 4, none⟩ (.bool dead2)).setCell ⟨w.heap.size, 5, none⟩ (.int .i64 x2)).setCell ⟨w.heap.size, 6, none⟩ (.int .i64 y2)).setCell ⟨w.heap.size, 7, none⟩ (.string text2)).setCell ⟨w.heap.size, 8, none⟩ (.bool held2)).frozen? ⟨w.heap.size, 5, none⟩ = false := by simp [go_sem, kf5]
  replace k6 : (((((((((w2.setCell ⟨w.heap.size, 0, none⟩ (.int .i64 key2)).setCell ⟨w.heap.size, 1, none⟩ (.string d2)).setCell ⟨w.heap.size, 2, none⟩ (.int .i64 a2)).setCell ⟨w.heap.size, 3, none⟩ (.int .i64 s2)).setCell ⟨w.heap.size, 4, none⟩ (.bool dead2)).setCell ⟨w.heap.size, 5, none⟩ (.int .i64 x2)).setCell ⟨w.heap.size, 6, none⟩ (.int .i64 y2)).setCell ⟨w.heap.size, 7, none⟩ (.string text2)).setCell ⟨w.heap.size, 8, none⟩ (.bool held2)).cell? ⟨w.heap.size, 6, none⟩ = some (.int .i64 y2) := by simp [go_sem, k6]
  replace kf6 : (((((((((w2.setCell ⟨w.heap.size, 0, none⟩ (.int .i64 key2)).setCell ⟨w.heap.size, 1, none⟩ (.string d2)).setCell ⟨w.heap.size, 2, none⟩ (.int .i64 a2)).setCell ⟨w.heap.size, 3, none⟩ (.int .i64 s2)).setCell ⟨w.heap.size, 4, none⟩ (.bool dead2)).setCell ⟨w.heap.size, 5, none⟩ (.int .i64 x2)).setCell ⟨w.heap.size, 6, none⟩ (.int .i64 y2)).setCell ⟨w.heap.size, 7, none⟩ (.string text2)).setCell ⟨w.heap.size, 8, none⟩ (.bool held2)).frozen? ⟨w.heap.size, 6, none⟩ = false := by simp [go_sem, kf6]
  replace k7 : (((((((((w2.setCell ⟨w.heap.size, 0, none⟩ (.int .i64 key2)).setCell ⟨w.heap.size, 1, none⟩ (.string d2)).setCell ⟨w.heap.size, 2, none⟩ (.int .i64 a2)).setCell ⟨w.heap.size, 3, none⟩ (.int .i64 s2)).setCell ⟨w.heap.size, 4, none⟩ (.bool dead2)).setCell ⟨w.heap.size, 5, none⟩ (.int .i64 x2)).setCell ⟨w.heap.size, 6, none⟩ (.int .i64 y2)).setCell ⟨w.heap.size, 7, none⟩ (.string text2)).setCell ⟨w.heap.size, 8, none⟩ (.bool held2)).cell? ⟨w.heap.size, 7, none⟩ = some (.string text2) := by simp [go_sem, k7]
  replace kf7 : (((((((((w2.setCell ⟨w.heap.size, 0, none⟩ (.int .i64 key2)).setCell ⟨w.heap.size, 1, none⟩ (.string d2)).setCell ⟨w.heap.size, 2, none⟩ (.int .i64 a2)).setCell ⟨w.heap.size, 3, none⟩ (.int .i64 s2)).setCell ⟨w.heap.size, 4, none⟩ (.bool dead2)).setCell ⟨w.heap.size, 5, none⟩ (.int .i64 x2)).setCell ⟨w.heap.size, 6, none⟩ (.int .i64 y2)).setCell ⟨w.heap.size, 7, none⟩ (.string text2)).setCell ⟨w.heap.size, 8, none⟩ (.bool held2)).frozen? ⟨w.heap.size, 7, none⟩ = false := by simp [go_sem, kf7]
  replace k8 : (((((((((w2.setCell ⟨w.heap.size, 0, none⟩ (.int .i64 key2)).setCell ⟨w.heap.size, 1, none⟩ (.string d2)).setCell ⟨w.heap.size, 2, none⟩ (.int .i64 a2)).setCell ⟨w.heap.size, 3, none⟩ (.int .i64 s2)).setCell ⟨w.heap.size, 4, none⟩ (.bool dead2)).setCell ⟨w.heap.size, 5, none⟩ (.int .i64 x2)).setCell ⟨w.heap.size, 6, none⟩ (.int .i64 y2)).setCell ⟨w.heap.size, 7, none⟩ (.string text2)).setCell ⟨w.heap.size, 8, none⟩ (.bool held2)).cell? ⟨w.heap.size, 8, none⟩ = some (.bool held2) := by simp [go_sem, k8]
  replace kf8 : (((((((((w2.setCell ⟨w.heap.size, 0, none⟩ (.int .i64 key2)).setCell ⟨w.heap.size, 1, none⟩ (.string d2)).setCell ⟨w.heap.size, 2, none⟩ (.int .i64 a2)).setCell ⟨w.heap.size, 3, none⟩ (.int .i64 s2)).setCell ⟨w.heap.size, 4, none⟩ (.bool dead2)).setCell ⟨w.heap.size, 5, none⟩ (.int .i64 x2)).setCell ⟨w.heap.size, 6, none⟩ (.int .i64 y2)).setCell ⟨w.heap.size, 7, none⟩ (.string text2)).setCell ⟨w.heap.size, 8, none⟩ (.bool held2)).frozen? ⟨w.heap.size, 8, none⟩ = false := by simp [go_sem, kf8]
  replace kz : w.heap.size < (((((((((w2.setCell ⟨w.heap.size, 0, none⟩ (.int .i64 key2)).setCell ⟨w.heap.size, 1, none⟩ (.string d2)).setCell ⟨w.heap.size, 2, none⟩ (.int .i64 a2)).setCell ⟨w.heap.size, 3, none⟩ (.int .i64 s2)).setCell ⟨w.heap.size, 4, none⟩ (.bool dead2)).setCell ⟨w.heap.size, 5, none⟩ (.int .i64 x2)).setCell ⟨w.heap.size, 6, none⟩ (.int .i64 y2)).setCell ⟨w.heap.size, 7, none⟩ (.string text2)).setCell ⟨w.heap.size, 8, none⟩ (.bool held2)).heap.size := by simp <;> omega
  replace HB : Hid (Below w.heap.size w (((((((((w2.setCell ⟨w.heap.size, 0, none⟩ (.int .i64 key2)).setCell ⟨w.heap.size, 1, none⟩ (.string d2)).setCell ⟨w.heap.size, 2, none⟩ (.int .i64 a2)).setCell ⟨w.heap.size, 3, none⟩ (.int .i64 s2)).setCell ⟨w.heap.size, 4, none⟩ (.bool dead2)).setCell ⟨w.heap.size, 5, none⟩ (.int .i64 x2)).setCell ⟨w.heap.size, 6, none⟩ (.int .i64 y2)).setCell ⟨w.heap.size, 7, none⟩ (.string text2)).setCell ⟨w.heap.size, 8, none⟩ (.bool held2))) := (((((((((HB.out.setCell (by simp) _).setCell (by simp) _).setCell (by simp) _).setCell (by simp) _).setCell (by simp) _).setCell (by simp) _).setCell (by simp) _).setCell (by simp) _).setCell (by simp) _)
  replace HO : Hid ((((((((((w2.setCell ⟨w.heap.size, 0, none⟩ (.int .i64 key2)).setCell ⟨w.heap.size, 1, none⟩ (.string d2)).setCell ⟨w.heap.size, 2, none⟩ (.int .i64 a2)).setCell ⟨w.heap.size, 3, none⟩ (.int .i64 s2)).setCell ⟨w.heap.size, 4, none⟩ (.bool dead2)).setCell ⟨w.heap.size, 5, none⟩ (.int .i64 x2)).setCell ⟨w.heap.size, 6, none⟩ (.int .i64 y2)).setCell ⟨w.heap.size, 7, none⟩ (.string text2)).setCell ⟨w.heap.size, 8, none⟩ (.bool held2)).ownsRow (w.heap.size + 1) 28 9 (.slice Ay ys.length cy) ys.length (rowCells cellsI ys)) := (Go.RowKit.ownsRow_setCell_below (Go.RowKit.ownsRow_setCell_below (Go.RowKit.ownsRow_setCell_below (Go.RowKit.ownsRow_setCell_below (Go.RowKit.ownsRow_setCell_below (Go.RowKit.ownsRow_setCell_below (Go.RowKit.ownsRow_setCell_below (Go.RowKit.ownsRow_setCell_below (Go.RowKit.ownsRow_setCell_below HO.out (by simp) _) (by simp) _) (by simp) _) (by simp) _) (by simp) _) (by simp) _) (by simp) _) (by simp) _) (by simp) _)
  generalize (((((((((w2.setCell ⟨w.heap.size, 0, none⟩ (.int .i64 key2)).setCell ⟨w.heap.size, 1, none⟩ (.string d2)).setCell ⟨w.heap.size, 2, none⟩ (.int .i64 a2)).setCell ⟨w.heap.size, 3, none⟩ (.int .i64 s2)).setCell ⟨w.heap.size, 4, none⟩ (.bool dead2)).setCell ⟨w.heap.size, 5, none⟩ (.int .i64 x2)).setCell ⟨w.heap.size, 6, none⟩ (.int .i64 y2)).setCell ⟨w.heap.size, 7, none⟩ (.string text2)).setCell ⟨w.heap.size, 8, none⟩ (.bool held2)) = W2 at *
  refine hK.out _ _ ?_
  clear hK K
  try simp only [Act.put, List.setIfInBounds_toArray, List.set_cons_zero, List.set_cons_succ]
  clear HRF HX
  go_wp2_with fail
  refine (HRT.out _ Ay cy _ HO.out).mono ?_
  rintro e v1 ⟨Ap, cp, rfl, ho, hb⟩
  have HOp := Lib.hid ho
  clear ho
  replace k0 := (hb.cell (p := ⟨w.heap.size, 0, none⟩) kz).trans k0
  replace kf0 := (hb.frozen (p := ⟨w.heap.size, 0, none⟩) kz).trans kf0
  replace k1 := (hb.cell (p := ⟨w.heap.size, 1, none⟩) kz).trans k1
  replace kf1 := (hb.frozen (p := ⟨w.heap.size, 1, none⟩) kz).trans kf1
  replace k2 := (hb.cell (p := ⟨w.heap.size, 2, none⟩) kz).trans k2
  replace kf2 := (hb.frozen (p := ⟨w.heap.size, 2, none⟩) kz).trans kf2
  replace k3 := (hb.cell (p := ⟨w.heap.size, 3, none⟩) kz).trans k3
  replace kf3 := (hb.frozen (p := ⟨w.heap.size, 3, none⟩) kz).trans kf3
  replace k4 := (hb.cell (p := ⟨w.heap.size, 4, none⟩) kz).trans k4
  replace kf4 := (hb.frozen (p := ⟨w.heap.size, 4, none⟩) kz).trans kf4
  replace k5 := (hb.cell (p := ⟨w.heap.size, 5, none⟩) kz).trans k5
  replace kf5 := (hb.frozen (p := ⟨w.heap.size, 5, none⟩) kz).trans kf5
  replace k6 := (hb.cell (p := ⟨w.heap.size, 6, none⟩) kz).trans k6
  replace kf6 := (hb.frozen (p := ⟨w.heap.size, 6, none⟩) kz).trans kf6
  replace k7 := (hb.cell (p := ⟨w.heap.size, 7, none⟩) kz).trans k7
  replace kf7 := (hb.frozen (p := ⟨w.heap.size, 7, none⟩) kz).trans kf7
  replace k8 := (hb.cell (p := ⟨w.heap.size, 8, none⟩) kz).trans k8
  replace kf8 := (hb.frozen (p := ⟨w.heap.size, 8, none⟩) kz).trans kf8
  replace kz := Nat.lt_of_lt_of_le kz hb.size
  replace HO := Lib.hid (rown_below HO.out hb)
  replace HB := Lib.hid (HB.out.trans (hb.mono HB.out.size))
  clear hb
  go_wp2_with fail
  refine (HT.out _).mono ?_
  rintro e v2 ⟨rfl, hb⟩
  replace k0 := (hb.cell (p := ⟨w.heap.size, 0, none⟩) kz).trans k0
  replace kf0 := (hb.frozen (p := ⟨w.heap.size, 0, none⟩) kz).trans kf0
  replace k1 := (hb.cell (p := ⟨w.heap.size, 1, none⟩) kz).trans k1
  replace kf1 := (hb.frozen (p := ⟨w.heap.size, 1, none⟩) kz).trans kf1
  replace k2 := (hb.cell (p := ⟨w.heap.size, 2, none⟩) kz).trans k2
  replace kf2 := (hb.frozen (p := ⟨w.heap.size, 2, none⟩) kz).trans kf2
  replace k3 := (hb.cell (p := ⟨w.heap.size, 3, none⟩) kz).trans k3
  replace kf3 := (hb.frozen (p := ⟨w.heap.size, 3, none⟩) kz).trans kf3
  replace k4 := (hb.cell (p := ⟨w.heap.size, 4, none⟩) kz).trans k4
  replace kf4 := (hb.frozen (p := ⟨w.heap.size, 4, none⟩) kz).trans kf4
  replace k5 := (hb.cell (p := ⟨w.heap.size, 5, none⟩) kz).trans k5
  replace kf5 := (hb.frozen (p := ⟨w.heap.size, 5, none⟩) kz).trans kf5
  replace k6 := (hb.cell (p := ⟨w.heap.size, 6, none⟩) kz).trans k6
  replace kf6 := (hb.frozen (p := ⟨w.heap.size, 6, none⟩) kz).trans kf6
  replace k7 := (hb.cell (p := ⟨w.heap.size, 7, none⟩) kz).trans k7
  replace kf7 := (hb.frozen (p := ⟨w.heap.size, 7, none⟩) kz).trans kf7
  replace k8 := (hb.cell (p := ⟨w.heap.size, 8, none⟩) kz).trans k8
  replace kf8 := (hb.frozen (p := ⟨w.heap.size, 8, none⟩) kz).trans kf8
  replace kz := Nat.lt_of_lt_of_le kz hb.size
  replace HO := Lib.hid (rown_below HO.out hb)
  replace HOp := Lib.hid (rown_below HOp.out hb)
  replace HB := Lib.hid (HB.out.trans (hb.mono HB.out.size))
  clear hb
  go_wp2_with fail
  refine (HPT.out _ Ap cp _ HOp.out).mono ?_
  rintro e v3 ⟨Aq, cq, rfl, ho, hb⟩
  have HPS := Lib.hid ho
  clear ho
  replace k0 := (hb.cell (p := ⟨w.heap.size, 0, none⟩) kz).trans k0
  replace kf0 := (hb.frozen (p := ⟨w.heap.size, 0, none⟩) kz).trans kf0
  replace k1 := (hb.cell (p := ⟨w.heap.size, 1, none⟩) kz).trans k1
  replace kf1 := (hb.frozen (p := ⟨w.heap.size, 1, none⟩) kz).trans kf1
  replace k2 := (hb.cell (p := ⟨w.heap.size, 2, none⟩) kz).trans k2
  replace kf2 := (hb.frozen (p := ⟨w.heap.size, 2, none⟩) kz).trans kf2
  replace k3 := (hb.cell (p := ⟨w.heap.size, 3, none⟩) kz).trans k3
  replace kf3 := (hb.frozen (p := ⟨w.heap.size, 3, none⟩) kz).trans kf3
  replace k4 := (hb.cell (p := ⟨w.heap.size, 4, none⟩) kz).trans k4
  replace kf4 := (hb.frozen (p := ⟨w.heap.size, 4, none⟩) kz).trans kf4
  replace k5 := (hb.cell (p := ⟨w.heap.size, 5, none⟩) kz).trans k5
  replace kf5 := (hb.frozen (p := ⟨w.heap.size, 5, none⟩) kz).trans kf5
  replace k6 := (hb.cell (p := ⟨w.heap.size, 6, none⟩) kz).trans k6
  replace kf6 := (hb.frozen (p := ⟨w.heap.size, 6, none⟩) kz).trans kf6
  replace k7 := (hb.cell (p := ⟨w.heap.size, 7, none⟩) kz).trans k7
  replace kf7 := (hb.frozen (p := ⟨w.heap.size, 7, none⟩) kz).trans kf7
  replace k8 := (hb.cell (p := ⟨w.heap.size, 8, none⟩) kz).trans k8
  replace kf8 := (hb.frozen (p := ⟨w.heap.size, 8, none⟩) kz).trans kf8
  replace kz := Nat.lt_of_lt_of_le kz hb.size
  replace HO := Lib.hid (rown_below HO.out hb)
  replace HOp := Lib.hid (rown_below HOp.out hb)
  replace HB := Lib.hid (HB.out.trans (hb.mono HB.out.size))
  clear hb
  go_wp2_with fail
  refine (HRP.out _ Ay cy _ HO.out).mono ?_
  rintro e v4 ⟨Ar, cr, rfl, ho, hb⟩
  have HRS2 := Lib.hid ho
  clear ho
  replace k0 := (hb.cell (p := ⟨w.heap.size, 0, none⟩) kz).trans k0
  replace kf0 := (hb.frozen (p := ⟨w.heap.size, 0, none⟩) kz).trans kf0
  replace k1 := (hb.cell (p := ⟨w.heap.size, 1, none⟩) kz).trans k1
  replace kf1 := (hb.frozen (p := ⟨w.heap.size, 1, none⟩) kz).trans kf1
  replace k2 := (hb.cell (p := ⟨w.heap.size, 2, none⟩) kz).trans k2
  replace kf2 := (hb.frozen (p := ⟨w.heap.size, 2, none⟩) kz).trans kf2
  replace k3 := (hb.cell (p := ⟨w.heap.size, 3, none⟩) kz).trans k3
  replace kf3 := (hb.frozen (p := ⟨w.heap.size, 3, none⟩) kz).trans kf3
  replace k4 := (hb.cell (p := ⟨w.heap.size, 4, none⟩) kz).trans k4
  replace kf4 := (hb.frozen (p := ⟨w.heap.size, 4, none⟩) kz).trans kf4
  replace k5 := (hb.cell (p := ⟨w.heap.size, 5, none⟩) kz).trans k5
  replace kf5 := (hb.frozen (p := ⟨w.heap.size, 5, none⟩) kz).trans kf5
  replace k6 := (hb.cell (p := ⟨w.heap.size, 6, none⟩) kz).trans k6
  replace kf6 := (hb.frozen (p := ⟨w.heap.size, 6, none⟩) kz).trans kf6
  replace k7 := (hb.cell (p := ⟨w.heap.size, 7, none⟩) kz).trans k7
  replace kf7 := (hb.frozen (p := ⟨w.heap.size, 7, none⟩) kz).trans kf7
  replace k8 := (hb.cell (p := ⟨w.heap.size, 8, none⟩) kz).trans k8
  replace kf8 := (hb.frozen (p := ⟨w.heap.size, 8, none⟩) kz).trans kf8
  replace kz := Nat.lt_of_lt_of_le kz hb.size
  replace HO := Lib.hid (rown_below HO.out hb)
  replace HOp := Lib.hid (rown_below HOp.out hb)
  replace HPS := Lib.hid (rown_below HPS.out hb)
  replace HB := Lib.hid (HB.out.trans (hb.mono HB.out.size))
  clear hb
  clear HT HPT HRP HRT
  clear k0 kf0 k1 kf1 k2 kf2 k3 kf3 k4 kf4 k5 kf5 k6 kf6 k7 kf7 k8 kf8 kz
  rcases g with _ | z
  · have hnq : ∀ w, (binOp .neq 46 (.agg #[.int .i64 0, .string ⟨#[]⟩, .int .i64 0, .int .i64 0, .bool false, .complex .f64 0 0, .string ⟨#[]⟩, .bool false]) (.agg #[.int .i64 0, .string ⟨#[]⟩, .int .i64 0, .int .i64 0, .bool false, .complex .f64 0 0, .string ⟨#[]⟩, .bool false])).run Try.prog w = .ok (.bool false) w := fun w => by
      have := eqI_neq zeroIt zeroIt (by decide) (by decide) (by decide) (by decide) w
      rw [eqI_same] at this
      rw [zero_V] at this
      exact this
    have hnr : ∀ w, (binOp .neq 28 (.agg #[.int .i64 0, .string ⟨#[]⟩, .int .i64 0, .int .i64 0, .bool false, .int .i64 0, .int .i64 0, .string ⟨#[]⟩, .bool false]) (.agg #[.int .i64 0, .string ⟨#[]⟩, .int .i64 0, .int .i64 0, .bool false, .int .i64 0, .int .i64 0, .string ⟨#[]⟩, .bool false])).run Try.prog w = .ok (.bool false) w := fun w => by
      have := neq_items zeroIt zeroIt w
      rw [eqI_same] at this
      exact this
    have HFI : Hid (∀ w, Calls Try.prog 22 #[.agg #[.int .i64 0, .string ⟨#[]⟩, .int .i64 0, .int .i64 0, .bool false, .complex .f64 0 0, .string ⟨#[]⟩, .bool false]] w fun e w' => e = .returned (.agg #[.int .i64 0, .string ⟨#[]⟩, .int .i64 0, .int .i64 0, .bool false, .int .i64 0, .int .i64 0, .string ⟨#[]⟩, .bool false]) ∧ Below w.heap.size w w') := fun w => by
      have := from_any zeroIt (by decide) (by decide) w
      rw [zero_V] at this
      exact this
    rw [getV_none] at HG1
    rw [getR_none] at HRG
    clear HGM
    have hpb : (pb != pb) = false := bne_self_eq_false pb
    go_wp2_with fail
    refine (HG1.out _ Ap cp _ HOp.out).mono ?_
    rintro e v5 ⟨rfl, hb⟩
    replace HO := Lib.hid (rown_below HO.out hb)
    replace HOp := Lib.hid (rown_below HOp.out hb)
    replace HPS := Lib.hid (rown_below HPS.out hb)
    replace HRS2 := Lib.hid (rown_below HRS2.out hb)
    replace HB := Lib.hid (HB.out.trans (hb.mono HB.out.size))
    clear hb
    go_upto_region 6 with fail
    have p0_0 : (v5.alloc (.cells #[.int .i64 0, .string ⟨#[]⟩, .int .i64 0, .int .i64 0, .bool false, .complex .f64 0 0, .string ⟨#[]⟩, .bool false] 46)).cell? ⟨v5.heap.size, 0, none⟩ = some (.int .i64 0) := by simp [go_sem]
    have p0_f0 : (v5.alloc (.cells #[.int .i64 0, .string ⟨#[]⟩, .int .i64 0, .int .i64 0, .bool false, .complex .f64 0 0, .string ⟨#[]⟩, .bool false] 46)).frozen? ⟨v5.heap.size, 0, none⟩ = false := by simp [go_sem]
    have p0_1 : (v5.alloc (.cells #[.int .i64 0, .string ⟨#[]⟩, .int .i64 0, .int .i64 0, .bool false, .complex .f64 0 0, .string ⟨#[]⟩, .bool false] 46)).cell? ⟨v5.heap.size, 1, none⟩ = some (.string ⟨#[]⟩) := by simp [go_sem]
    have p0_f1 : (v5.alloc (.cells #[.int .i64 0, .string ⟨#[]⟩, .int .i64 0, .int .i64 0, .bool false, .complex .f64 0 0, .string ⟨#[]⟩, .bool false] 46)).frozen? ⟨v5.heap.size, 1, none⟩ = false := by simp [go_sem]
    have p0_2 : (v5.alloc (.cells #[.int .i64 0, .string ⟨#[]⟩, .int .i64 0, .int .i64 0, .bool false, .complex .f64 0 0, .string ⟨#[]⟩, .bool false] 46)).cell? ⟨v5.heap.size, 2, none⟩ = some (.int .i64 0) := by simp [go_sem]
    have p0_f2 : (v5.alloc (.cells #[.int .i64 0, .string ⟨#[]⟩, .int .i64 0, .int .i64 0, .bool false, .complex .f64 0 0, .string ⟨#[]⟩, .bool false] 46)).frozen? ⟨v5.heap.size, 2, none⟩ = false := by simp [go_sem]
    have p0_3 : (v5.alloc (.cells #[.int .i64 0, .string ⟨#[]⟩, .int .i64 0, .int .i64 0, .bool false, .complex .f64 0 0, .string ⟨#[]⟩, .bool false] 46)).cell? ⟨v5.heap.size, 3, none⟩ = some (.int .i64 0) := by simp [go_sem]
    have p0_f3 : (v5.alloc (.cells #[.int .i64 0, .string ⟨#[]⟩, .int .i64 0, .int .i64 0, .bool false, .complex .f64 0 0, .string ⟨#[]⟩, .bool false] 46)).frozen? ⟨v5.heap.size, 3, none⟩ = false := by simp [go_sem]
    have p0_4 : (v5.alloc (.cells #[.int .i64 0, .string ⟨#[]⟩, .int .i64 0, .int .i64 0, .bool false, .complex .f64 0 0, .string ⟨#[]⟩, .bool false] 46)).cell? ⟨v5.heap.size, 4, none⟩ = some (.bool false) := by simp [go_sem]
    have p0_f4 : (v5.alloc (.cells #[.int .i64 0, .string ⟨#[]⟩, .int .i64 0, .int .i64 0, .bool false, .complex .f64 0 0, .string ⟨#[]⟩, .bool false] 46)).frozen? ⟨v5.heap.size, 4, none⟩ = false := by simp [go_sem]
    have p0_5 : (v5.alloc (.cells #[.int .i64 0, .string ⟨#[]⟩, .int .i64 0, .int .i64 0, .bool false, .complex .f64 0 0, .string ⟨#[]⟩, .bool false] 46)).cell? ⟨v5.heap.size, 5, none⟩ = some (.complex .f64 0 0) := by simp [go_sem]
    have p0_f5 : (v5.alloc (.cells #[.int .i64 0, .string ⟨#[]⟩, .int .i64 0, .int .i64 0, .bool false, .complex .f64 0 0, .string ⟨#[]⟩, .bool false] 46)).frozen? ⟨v5.heap.size, 5, none⟩ = false := by simp [go_sem]
    have p0_6 : (v5.alloc (.cells #[.int .i64 0, .string ⟨#[]⟩, .int .i64 0, .int .i64 0, .bool false, .complex .f64 0 0, .string ⟨#[]⟩, .bool false] 46)).cell? ⟨v5.heap.size, 6, none⟩ = some (.string ⟨#[]⟩) := by simp [go_sem]
    have p0_f6 : (v5.alloc (.cells #[.int .i64 0, .string ⟨#[]⟩, .int .i64 0, .int .i64 0, .bool false, .complex .f64 0 0, .string ⟨#[]⟩, .bool false] 46)).frozen? ⟨v5.heap.size, 6, none⟩ = false := by simp [go_sem]
    have p0_7 : (v5.alloc (.cells #[.int .i64 0, .string ⟨#[]⟩, .int .i64 0, .int .i64 0, .bool false, .complex .f64 0 0, .string ⟨#[]⟩, .bool false] 46)).cell? ⟨v5.heap.size, 7, none⟩ = some (.bool false) := by simp [go_sem]
    have p0_f7 : (v5.alloc (.cells #[.int .i64 0, .string ⟨#[]⟩, .int .i64 0, .int .i64 0, .bool false, .complex .f64 0 0, .string ⟨#[]⟩, .bool false] 46)).frozen? ⟨v5.heap.size, 7, none⟩ = false := by simp [go_sem]
    have p0_z : v5.heap.size < (v5.alloc (.cells #[.int .i64 0, .string ⟨#[]⟩, .int .i64 0, .int .i64 0, .bool false, .complex .f64 0 0, .string ⟨#[]⟩, .bool false] 46)).heap.size := by simp <;> omega
    have hb : Below v5.heap.size v5 (v5.alloc (.cells #[.int .i64 0, .string ⟨#[]⟩, .int .i64 0, .int .i64 0, .bool false, .complex .f64 0 0, .string ⟨#[]⟩, .bool false] 46)) := (Below.refl _ _).alloc (Nat.le_refl _) _
    replace HO := Lib.hid (rown_below HO.out hb)
    replace HOp := Lib.hid (rown_below HOp.out hb)
    replace HPS := Lib.hid (rown_below HPS.out hb)
    replace HRS2 := Lib.hid (rown_below HRS2.out hb)
    replace HB := Lib.hid (HB.out.trans (hb.mono HB.out.size))
    clear hb
    generalize (v5.alloc (.cells #[.int .i64 0, .string ⟨#[]⟩, .int .i64 0, .int .i64 0, .bool false, .complex .f64 0 0, .string ⟨#[]⟩, .bool false] 46)) = V0 at *
    generalize v5.heap.size = P0 at *
    go_wp2_with fail
    refine (HRG.out _ Ay cy _ HO.out).mono ?_
    rintro e v6 ⟨rfl, hb⟩
    replace p0_0 := (hb.cell (p := ⟨P0, 0, none⟩) p0_z).trans p0_0
    replace p0_f0 := (hb.frozen (p := ⟨P0, 0, none⟩) p0_z).trans p0_f0
    replace p0_1 := (hb.cell (p := ⟨P0, 1, none⟩) p0_z).trans p0_1
    replace p0_f1 := (hb.frozen (p := ⟨P0, 1, none⟩) p0_z).trans p0_f1
    replace p0_2 := (hb.cell (p := ⟨P0, 2, none⟩) p0_z).trans p0_2
    replace p0_f2 := (hb.frozen (p := ⟨P0, 2, none⟩) p0_z).trans p0_f2
    replace p0_3 := (hb.cell (p := ⟨P0, 3, none⟩) p0_z).trans p0_3
    replace p0_f3 := (hb.frozen (p := ⟨P0, 3, none⟩) p0_z).trans p0_f3
    replace p0_4 := (hb.cell (p := ⟨P0, 4, none⟩) p0_z).trans p0_4
    replace p0_f4 := (hb.frozen (p := ⟨P0, 4, none⟩) p0_z).trans p0_f4
    replace p0_5 := (hb.cell (p := ⟨P0, 5, none⟩) p0_z).trans p0_5
    replace p0_f5 := (hb.frozen (p := ⟨P0, 5, none⟩) p0_z).trans p0_f5
    replace p0_6 := (hb.cell (p := ⟨P0, 6, none⟩) p0_z).trans p0_6
    replace p0_f6 := (hb.frozen (p := ⟨P0, 6, none⟩) p0_z).trans p0_f6
    replace p0_7 := (hb.cell (p := ⟨P0, 7, none⟩) p0_z).trans p0_7
    replace p0_f7 := (hb.frozen (p := ⟨P0, 7, none⟩) p0_z).trans p0_f7
    replace p0_z := Nat.lt_of_lt_of_le p0_z hb.size
    replace HO := Lib.hid (rown_below HO.out hb)
    replace HOp := Lib.hid (rown_below HOp.out hb)
    replace HPS := Lib.hid (rown_below HPS.out hb)
    replace HRS2 := Lib.hid (rown_below HRS2.out hb)
    replace HB := Lib.hid (HB.out.trans (hb.mono HB.out.size))
    clear hb
    go_upto_region 7 with fail
    replace p0_0 : (v6.alloc (.cells #[.int .i64 0, .string ⟨#[]⟩, .int .i64 0, .int .i64 0, .bool false, .int .i64 0, .int .i64 0, .string ⟨#[]⟩, .bool false] 28)).cell? ⟨P0, 0, none⟩ = some (.int .i64 0) := by simp [go_sem, p0_0, p0_z]
    replace p0_f0 : (v6.alloc (.cells #[.int .i64 0, .string ⟨#[]⟩, .int .i64 0, .int .i64 0, .bool false, .int .i64 0, .int .i64 0, .string ⟨#[]⟩, .bool false] 28)).frozen? ⟨P0, 0, none⟩ = false := by simp [go_sem, p0_f0, p0_z]
    replace p0_1 : (v6.alloc (.cells #[.int .i64 0, .string ⟨#[]⟩, .int .i64 0, .int .i64 0, .bool false, .int .i64 0, .int .i64 0, .string ⟨#[]⟩, .bool false] 28)).cell? ⟨P0, 1, none⟩ = some (.string ⟨#[]⟩) := by simp [go_sem, p0_1, p0_z]
    replace p0_f1 : (v6.alloc (.cells #[.int .i64 0, .string ⟨#[]⟩, .int .i64 0, .int .i64 0, .bool false, .int .i64 0, .int .i64 0, .string ⟨#[]⟩, .bool false] 28)).frozen? ⟨P0, 1, none⟩ = false := by simp [go_sem, p0_f1, p0_z]
    replace p0_2 : (v6.alloc (.cells #[.int .i64 0, .string ⟨#[]⟩, .int .i64 0, .int .i64 0, .bool false, .int .i64 0, .int .i64 0, .string ⟨#[]⟩, .bool false] 28)).cell? ⟨P0, 2, none⟩ = some (.int .i64 0) := by simp [go_sem, p0_2, p0_z]
    replace p0_f2 : (v6.alloc (.cells #[.int .i64 0, .string ⟨#[]⟩, .int .i64 0, .int .i64 0, .bool false, .int .i64 0, .int .i64 0, .string ⟨#[]⟩, .bool false] 28)).frozen? ⟨P0, 2, none⟩ = false := by simp [go_sem, p0_f2, p0_z]
    replace p0_3 : (v6.alloc (.cells #[.int .i64 0, .string ⟨#[]⟩, .int .i64 0, .int .i64 0, .bool false, .int .i64 0, .int .i64 0, .string ⟨#[]⟩, .bool false] 28)).cell? ⟨P0, 3, none⟩ = some (.int .i64 0) := by simp [go_sem, p0_3, p0_z]
    replace p0_f3 : (v6.alloc (.cells #[.int .i64 0, .string ⟨#[]⟩, .int .i64 0, .int .i64 0, .bool false, .int .i64 0, .int .i64 0, .string ⟨#[]⟩, .bool false] 28)).frozen? ⟨P0, 3, none⟩ = false := by simp [go_sem, p0_f3, p0_z]
    replace p0_4 : (v6.alloc (.cells #[.int .i64 0, .string ⟨#[]⟩, .int .i64 0, .int .i64 0, .bool false, .int .i64 0, .int .i64 0, .string ⟨#[]⟩, .bool false] 28)).cell? ⟨P0, 4, none⟩ = some (.bool false) := by simp [go_sem, p0_4, p0_z]
    replace p0_f4 : (v6.alloc (.cells #[.int .i64 0, .string ⟨#[]⟩, .int .i64 0, .int .i64 0, .bool false, .int .i64 0, .int .i64 0, .string ⟨#[]⟩, .bool false] 28)).frozen? ⟨P0, 4, none⟩ = false := by simp [go_sem, p0_f4, p0_z]
    replace p0_5 : (v6.alloc (.cells #[.int .i64 0, .string ⟨#[]⟩, .int .i64 0, .int .i64 0, .bool false, .int .i64 0, .int .i64 0, .string ⟨#[]⟩, .bool false] 28)).cell? ⟨P0, 5, none⟩ = some (.complex .f64 0 0) := by simp [go_sem, p0_5, p0_z]
    replace p0_f5 : (v6.alloc (.cells #[.int .i64 0, .string ⟨#[]⟩, .int .i64 0, .int .i64 0, .bool false, .int .i64 0, .int .i64 0, .string ⟨#[]⟩, .bool false] 28)).frozen? ⟨P0, 5, none⟩ = false := by simp [go_sem, p0_f5, p0_z]
    replace p0_6 : (v6.alloc (.cells #[.int .i64 0, .string ⟨#[]⟩, .int .i64 0, .int .i64 0, .bool false, .int .i64 0, .int .i64 0, .string ⟨#[]⟩, .bool false] 28)).cell? ⟨P0, 6, none⟩ = some (.string ⟨#[]⟩) := by simp [go_sem, p0_6, p0_z]
    replace p0_f6 : (v6.alloc (.cells #[.int .i64 0, .string ⟨#[]⟩, .int .i64 0, .int .i64 0, .bool false, .int .i64 0, .int .i64 0, .string ⟨#[]⟩, .bool false] 28)).frozen? ⟨P0, 6, none⟩ = false := by simp [go_sem, p0_f6, p0_z]
    replace p0_7 : (v6.alloc (.cells #[.int .i64 0, .string ⟨#[]⟩, .int .i64 0, .int .i64 0, .bool false, .int .i64 0, .int .i64 0, .string ⟨#[]⟩, .bool false] 28)).cell? ⟨P0, 7, none⟩ = some (.bool false) := by simp [go_sem, p0_7, p0_z]
    replace p0_f7 : (v6.alloc (.cells #[.int .i64 0, .string ⟨#[]⟩, .int .i64 0, .int .i64 0, .bool false, .int .i64 0, .int .i64 0, .string ⟨#[]⟩, .bool false] 28)).frozen? ⟨P0, 7, none⟩ = false := by simp [go_sem, p0_f7, p0_z]
    replace p0_z : P0 < (v6.alloc (.cells #[.int .i64 0, .string ⟨#[]⟩, .int .i64 0, .int .i64 0, .bool false, .int .i64 0, .int .i64 0, .string ⟨#[]⟩, .bool false] 28)).heap.size := by simp <;> omega
    have p1_0 : (v6.alloc (.cells #[.int .i64 0, .string ⟨#[]⟩, .int .i64 0, .int .i64 0, .bool false, .int .i64 0, .int .i64 0, .string ⟨#[]⟩, .bool false] 28)).cell? ⟨v6.heap.size, 0, none⟩ = some (.int .i64 0) := by simp [go_sem]
    have p1_f0 : (v6.alloc (.cells #[.int .i64 0, .string ⟨#[]⟩, .int .i64 0, .int .i64 0, .bool false, .int .i64 0, .int .i64 0, .string ⟨#[]⟩, .bool false] 28)).frozen? ⟨v6.heap.size, 0, none⟩ = false := by simp [go_sem]
    have p1_1 : (v6.alloc (.cells #[.int .i64 0, .string ⟨#[]⟩, .int .i64 0, .int .i64 0, .bool false, .int .i64 0, .int .i64 0, .string ⟨#[]⟩, .bool false] 28)).cell? ⟨v6.heap.size, 1, none⟩ = some (.string ⟨#[]⟩) := by simp [go_sem]
    have p1_f1 : (v6.alloc (.cells #[.int .i64 0, .string ⟨#[]⟩, .int .i64 0, .int .i64 0, .bool false, .int .i64 0, .int .i64 0, .string ⟨#[]⟩, .bool false] 28)).frozen? ⟨v6.heap.size, 1, none⟩ = false := by simp [go_sem]
    have p1_2 : (v6.alloc (.cells #[.int .i64 0, .string ⟨#[]⟩, .int .i64 0, .int .i64 0, .bool false, .int .i64 0, .int .i64 0, .string ⟨#[]⟩, .bool false] 28)).cell? ⟨v6.heap.size, 2, none⟩ = some (.int .i64 0) := by simp [go_sem]
    have p1_f2 : (v6.alloc (.cells #[.int .i64 0, .string ⟨#[]⟩, .int .i64 0, .int .i64 0, .bool false, .int .i64 0, .int .i64 0, .string ⟨#[]⟩, .bool false] 28)).frozen? ⟨v6.heap.size, 2, none⟩ = false := by simp [go_sem]
    have p1_3 : (v6.alloc (.cells #[.int .i64 0, .string ⟨#[]⟩, .int .i64 0, .int .i64 0, .bool false, .int .i64 0, .int .i64 0, .string ⟨#[]⟩, .bool false] 28)).cell? ⟨v6.heap.size, 3, none⟩ = some (.int .i64 0) := by simp [go_sem]
    have p1_f3 : (v6.alloc (.cells #[.int .i64 0, .string ⟨#[]⟩, .int .i64 0, .int .i64 0, .bool false, .int .i64 0, .int .i64 0, .string ⟨#[]⟩, .bool false] 28)).frozen? ⟨v6.heap.size, 3, none⟩ = false := by simp [go_sem]
    have p1_4 : (v6.alloc (.cells #[.int .i64 0, .string ⟨#[]⟩, .int .i64 0, .int .i64 0, .bool false, .int .i64 0, .int .i64 0, .string ⟨#[]⟩, .bool false] 28)).cell? ⟨v6.heap.size, 4, none⟩ = some (.bool false) := by simp [go_sem]
    have p1_f4 : (v6.alloc (.cells #[.int .i64 0, .string ⟨#[]⟩, .int .i64 0, .int .i64 0, .bool false, .int .i64 0, .int .i64 0, .string ⟨#[]⟩, .bool false] 28)).frozen? ⟨v6.heap.size, 4, none⟩ = false := by simp [go_sem]
    have p1_5 : (v6.alloc (.cells #[.int .i64 0, .string ⟨#[]⟩, .int .i64 0, .int .i64 0, .bool false, .int .i64 0, .int .i64 0, .string ⟨#[]⟩, .bool false] 28)).cell? ⟨v6.heap.size, 5, none⟩ = some (.int .i64 0) := by simp [go_sem]
    have p1_f5 : (v6.alloc (.cells #[.int .i64 0, .string ⟨#[]⟩, .int .i64 0, .int .i64 0, .bool false, .int .i64 0, .int .i64 0, .string ⟨#[]⟩, .bool false] 28)).frozen? ⟨v6.heap.size, 5, none⟩ = false := by simp [go_sem]
    have p1_6 : (v6.alloc (.cells #[.int .i64 0, .string ⟨#[]⟩, .int .i64 0, .int .i64 0, .bool false, .int .i64 0, .int .i64 0, .string ⟨#[]⟩, .bool false] 28)).cell? ⟨v6.heap.size, 6, none⟩ = some (.int .i64 0) := by simp [go_sem]
    have p1_f6 : (v6.alloc (.cells #[.int .i64 0, .string ⟨#[]⟩, .int .i64 0, .int .i64 0, .bool false, .int .i64 0, .int .i64 0, .string ⟨#[]⟩, .bool false] 28)).frozen? ⟨v6.heap.size, 6, none⟩ = false := by simp [go_sem]
    have p1_7 : (v6.alloc (.cells #[.int .i64 0, .string ⟨#[]⟩, .int .i64 0, .int .i64 0, .bool false, .int .i64 0, .int .i64 0, .string ⟨#[]⟩, .bool false] 28)).cell? ⟨v6.heap.size, 7, none⟩ = some (.string ⟨#[]⟩) := by simp [go_sem]
    have p1_f7 : (v6.alloc (.cells #[.int .i64 0, .string ⟨#[]⟩, .int .i64 0, .int .i64 0, .bool false, .int .i64 0, .int .i64 0, .string ⟨#[]⟩, .bool false] 28)).frozen? ⟨v6.heap.size, 7, none⟩ = false := by simp [go_sem]
    have p1_8 : (v6.alloc (.cells #[.int .i64 0, .string ⟨#[]⟩, .int .i64 0, .int .i64 0, .bool false, .int .i64 0, .int .i64 0, .string ⟨#[]⟩, .bool false] 28)).cell? ⟨v6.heap.size, 8, none⟩ = some (.bool false) := by simp [go_sem]
    have p1_f8 : (v6.alloc (.cells #[.int .i64 0, .string ⟨#[]⟩, .int .i64 0, .int .i64 0, .bool false, .int .i64 0, .int .i64 0, .string ⟨#[]⟩, .bool false] 28)).frozen? ⟨v6.heap.size, 8, none⟩ = false := by simp [go_sem]
    have p1_z : v6.heap.size < (v6.alloc (.cells #[.int .i64 0, .string ⟨#[]⟩, .int .i64 0, .int .i64 0, .bool false, .int .i64 0, .int .i64 0, .string ⟨#[]⟩, .bool false] 28)).heap.size := by simp <;> omega
    have hb : Below v6.heap.size v6 (v6.alloc (.cells #[.int .i64 0, .string ⟨#[]⟩, .int .i64 0, .int .i64 0, .bool false, .int .i64 0, .int .i64 0, .string ⟨#[]⟩, .bool false] 28)) := (Below.refl _ _).alloc (Nat.le_refl _) _
    replace HO := Lib.hid (rown_below HO.out hb)
    replace HOp := Lib.hid (rown_below HOp.out hb)
    replace HPS := Lib.hid (rown_below HPS.out hb)
    replace HRS2 := Lib.hid (rown_below HRS2.out hb)
    replace HB := Lib.hid (HB.out.trans (hb.mono HB.out.size))
    clear hb
    generalize (v6.alloc (.cells #[.int .i64 0, .string ⟨#[]⟩, .int .i64 0, .int .i64 0, .bool false, .int .i64 0, .int .i64 0, .string ⟨#[]⟩, .bool false] 28)) = V1 at *
    generalize v6.heap.size = P1 at *
    clear p0_f0 p0_f1 p0_f2 p0_f3 p0_f4 p0_f5 p0_f6 p0_f7 p1_f0 p1_f1 p1_f2 p1_f3 p1_f4 p1_f5 p1_f6 p1_f7 p1_f8
    refine wp_region_held_drew (S := fun w' => w'.cell? ⟨P0, 0, none⟩ = some (.int .i64 0) ∧ w'.cell? ⟨P0, 1, none⟩ = some (.string ⟨#[]⟩) ∧ w'.cell? ⟨P0, 2, none⟩ = some (.int .i64 0) ∧ w'.cell? ⟨P0, 3, none⟩ = some (.int .i64 0) ∧ w'.cell? ⟨P0, 4, none⟩ = some (.bool false) ∧ w'.cell? ⟨P0, 5, none⟩ = some (.complex .f64 0 0) ∧ w'.cell? ⟨P0, 6, none⟩ = some (.string ⟨#[]⟩) ∧ w'.cell? ⟨P0, 7, none⟩ = some (.bool false) ∧ w'.cell? ⟨P1, 0, none⟩ = some (.int .i64 0) ∧ w'.cell? ⟨P1, 1, none⟩ = some (.string ⟨#[]⟩) ∧ w'.cell? ⟨P1, 2, none⟩ = some (.int .i64 0) ∧ w'.cell? ⟨P1, 3, none⟩ = some (.int .i64 0) ∧ w'.cell? ⟨P1, 4, none⟩ = some (.bool false) ∧ w'.cell? ⟨P1, 5, none⟩ = some (.int .i64 0) ∧ w'.cell? ⟨P1, 6, none⟩ = some (.int .i64 0) ∧ w'.cell? ⟨P1, 7, none⟩ = some (.string ⟨#[]⟩) ∧ w'.cell? ⟨P1, 8, none⟩ = some (.bool false)) (by kernel_rfl) ⟨p0_0, p0_1, p0_2, p0_3, p0_4, p0_5, p0_6, p0_7, p1_0, p1_1, p1_2, p1_3, p1_4, p1_5, p1_6, p1_7, p1_8⟩ (fun hHeld => ?_)
    refine wpAnyH_ready (rs := [0]) (by kernel_rfl) (by simp) ?_
    refine AllReadyH.cons (o := { dst := some 47, op := Go.Op.call { callee := Go.Callee.value (Go.Operand.func 8), args := #[], argTypes := #[] }, type := 4, pos := "law.go:62", after := #[], guard := none }) rfl (fun K hK => ?_) AllReadyH.nil
    go_simp
    go_at_call 8
    refine (told_any _).mono ?_
    rintro e u0 ⟨rfl, hb⟩
    replace p0_0 := (hb.cell (p := ⟨P0, 0, none⟩) p0_z).trans p0_0
    replace p0_1 := (hb.cell (p := ⟨P0, 1, none⟩) p0_z).trans p0_1
    replace p0_2 := (hb.cell (p := ⟨P0, 2, none⟩) p0_z).trans p0_2
    replace p0_3 := (hb.cell (p := ⟨P0, 3, none⟩) p0_z).trans p0_3
    replace p0_4 := (hb.cell (p := ⟨P0, 4, none⟩) p0_z).trans p0_4
    replace p0_5 := (hb.cell (p := ⟨P0, 5, none⟩) p0_z).trans p0_5
    replace p0_6 := (hb.cell (p := ⟨P0, 6, none⟩) p0_z).trans p0_6
    replace p0_7 := (hb.cell (p := ⟨P0, 7, none⟩) p0_z).trans p0_7
    replace p0_z := Nat.lt_of_lt_of_le p0_z hb.size
    replace p1_0 := (hb.cell (p := ⟨P1, 0, none⟩) p1_z).trans p1_0
    replace p1_1 := (hb.cell (p := ⟨P1, 1, none⟩) p1_z).trans p1_1
    replace p1_2 := (hb.cell (p := ⟨P1, 2, none⟩) p1_z).trans p1_2
    replace p1_3 := (hb.cell (p := ⟨P1, 3, none⟩) p1_z).trans p1_3
    replace p1_4 := (hb.cell (p := ⟨P1, 4, none⟩) p1_z).trans p1_4
    replace p1_5 := (hb.cell (p := ⟨P1, 5, none⟩) p1_z).trans p1_5
    replace p1_6 := (hb.cell (p := ⟨P1, 6, none⟩) p1_z).trans p1_6
    replace p1_7 := (hb.cell (p := ⟨P1, 7, none⟩) p1_z).trans p1_7
    replace p1_8 := (hb.cell (p := ⟨P1, 8, none⟩) p1_z).trans p1_8
    replace p1_z := Nat.lt_of_lt_of_le p1_z hb.size
    replace HO := Lib.hid (rown_below HO.out (below_via (Below.refl _ _) hb (Nat.le_refl _) ⟨rfl, rfl, rfl, rfl⟩))
    replace HOp := Lib.hid (rown_below HOp.out (below_via (Below.refl _ _) hb (Nat.le_refl _) ⟨rfl, rfl, rfl, rfl⟩))
    replace HPS := Lib.hid (rown_below HPS.out (below_via (Below.refl _ _) hb (Nat.le_refl _) ⟨rfl, rfl, rfl, rfl⟩))
    replace HRS2 := Lib.hid (rown_below HRS2.out (below_via (Below.refl _ _) hb (Nat.le_refl _) ⟨rfl, rfl, rfl, rfl⟩))
    replace HB := Lib.hid (below_via HB.out hb HB.out.size ⟨rfl, rfl, rfl, rfl⟩)
    clear hb
    refine hK.out _ _ ⟨p0_0, p0_1, p0_2, p0_3, p0_4, p0_5, p0_6, p0_7, p1_0, p1_1, p1_2, p1_3, p1_4, p1_5, p1_6, p1_7, p1_8⟩ (fun hHeld => ?_)
    clear hK K
    try simp only [Act.put, List.setIfInBounds_toArray, List.set_cons_zero, List.set_cons_succ]
    refine wpAnyH_take (i := 1) (oi := { dst := some 48, op := Go.Op.unOp Go.UnOp.not 4 (Go.Operand.tmp 47), type := 4, pos := "law.go:62", after := #[{ on := 0, ground := Go.Ground.data }], guard := none }) (v := ?_) rfl (by kernel_rfl) (by kernel_rfl) (by kernel_rfl) (fun _ _ _ h => h) (Or.inl ⟨rfl, ?_⟩) (by assumption) ?_
    rotate_left
    · intro wz hSw; (try dsimp only at hSw); go_simp; try (with_reducible rfl)
    try simp only [Act.put, List.setIfInBounds_toArray, List.set_cons_zero, List.set_cons_succ]
    refine wpAnyH_take (i := 2) (oi := { dst := some 49, op := Go.Op.move (Go.Operand.tmp 48), type := 4, pos := "law.go:62", after := #[{ on := 1, ground := Go.Ground.data }, { on := 0, ground := Go.Ground.chain }], guard := none }) (v := ?_) rfl (by kernel_rfl) (by kernel_rfl) (by kernel_rfl) (fun _ _ _ h => h) (Or.inl ⟨rfl, ?_⟩) (by assumption) ?_
    rotate_left
    · intro wz hSw; (try dsimp only at hSw); go_simp; try (with_reducible rfl)
    try simp only [Act.put, List.setIfInBounds_toArray, List.set_cons_zero, List.set_cons_succ]
    refine wpAnyH_take (i := 3) (oi := { dst := some 50, op := Go.Op.move (Go.Operand.tmp 9), type := 4, pos := "law.go:62", after := #[{ on := 2, ground := Go.Ground.guard }], guard := some (2, false) }) (v := ?_) rfl (by kernel_rfl) (by kernel_rfl) (by kernel_rfl) (fun _ _ _ h => h) (Or.inl ⟨rfl, ?_⟩) (by assumption) ?_
    rotate_left
    · intro wz hSw; (try dsimp only at hSw); go_simp; try (with_reducible rfl)
    try simp only [Act.put, List.setIfInBounds_toArray, List.set_cons_zero, List.set_cons_succ]
    refine wpAnyH_take (i := 4) (oi := { dst := some 51, op := Go.Op.move (Go.Operand.tmp 11), type := 4, pos := "law.go:62", after := #[{ on := 2, ground := Go.Ground.guard }], guard := some (2, false) }) (v := ?_) rfl (by kernel_rfl) (by kernel_rfl) (by kernel_rfl) (fun _ _ _ h => h) (Or.inl ⟨rfl, ?_⟩) (by assumption) ?_
    rotate_left
    · intro wz hSw; (try dsimp only at hSw); go_simp; try (with_reducible rfl)
    try simp only [Act.put, List.setIfInBounds_toArray, List.set_cons_zero, List.set_cons_succ]
    refine wpAnyH_take (i := 5) (oi := { dst := some 52, op := Go.Op.binOp Go.BinOp.neq 4 (Go.Operand.tmp 50) (Go.Operand.tmp 51) 4, type := 4, pos := "law.go:62", after := #[{ on := 3, ground := Go.Ground.data }, { on := 4, ground := Go.Ground.data }, { on := 2, ground := Go.Ground.guard }], guard := some (2, false) }) (v := ?_) rfl (by kernel_rfl) (by kernel_rfl) (by kernel_rfl) (fun _ _ _ h => h) (Or.inl ⟨rfl, ?_⟩) (by assumption) ?_
    rotate_left
    · intro wz hSw; (try dsimp only at hSw); go_simp; try (with_reducible rfl)
    try simp only [Act.put, List.setIfInBounds_toArray, List.set_cons_zero, List.set_cons_succ]
    refine wpAnyH_take (i := 6) (oi := { dst := some 53, op := Go.Op.pick (Go.Operand.tmp 49) (Go.Operand.const (Go.Value.bool true)) (Go.Operand.tmp 52), type := 4, pos := "law.go:62", after := #[{ on := 2, ground := Go.Ground.data }, { on := 5, ground := Go.Ground.data }], guard := none }) (v := ?_) rfl (by kernel_rfl) (by kernel_rfl) (by kernel_rfl) (fun _ _ _ h => h) (Or.inl ⟨rfl, ?_⟩) (by assumption) ?_
    rotate_left
    · intro wz hSw; (try dsimp only at hSw); go_simp; try (with_reducible rfl)
    try simp only [Act.put, List.setIfInBounds_toArray, List.set_cons_zero, List.set_cons_succ]
    refine wpAnyH_take (i := 7) (oi := { dst := some 54, op := Go.Op.move (Go.Operand.tmp 53), type := 4, pos := "law.go:62", after := #[{ on := 6, ground := Go.Ground.data }, { on := 2, ground := Go.Ground.chain }], guard := none }) (v := ?_) rfl (by kernel_rfl) (by kernel_rfl) (by kernel_rfl) (fun _ _ _ h => h) (Or.inl ⟨rfl, ?_⟩) (by assumption) ?_
    rotate_left
    · intro wz hSw; (try dsimp only at hSw); go_simp; try (with_reducible rfl)
    try simp only [Act.put, List.setIfInBounds_toArray, List.set_cons_zero, List.set_cons_succ]
    refine wpAnyH_take (i := 8) (oi := { dst := some 55, op := Go.Op.move (Go.Operand.tmp 8), type := 38, pos := "law.go:62", after := #[{ on := 7, ground := Go.Ground.guard }], guard := some (7, false) }) (v := ?_) rfl (by kernel_rfl) (by kernel_rfl) (by kernel_rfl) (fun _ _ _ h => h) (Or.inl ⟨rfl, ?_⟩) (by assumption) ?_
    rotate_left
    · intro wz hSw; (try dsimp only at hSw); go_simp; try (with_reducible rfl)
    try simp only [Act.put, List.setIfInBounds_toArray, List.set_cons_zero, List.set_cons_succ]
    refine wpAnyH_take (i := 10) (oi := { dst := some 57, op := Go.Op.move (Go.Operand.tmp 10), type := 22, pos := "law.go:62", after := #[{ on := 7, ground := Go.Ground.guard }], guard := some (7, false) }) (v := ?_) rfl (by kernel_rfl) (by kernel_rfl) (by kernel_rfl) (fun _ _ _ h => h) (Or.inl ⟨rfl, ?_⟩) (by assumption) ?_
    rotate_left
    · intro wz hSw; (try dsimp only at hSw); go_simp; try (with_reducible rfl)
    try simp only [Act.put, List.setIfInBounds_toArray, List.set_cons_zero, List.set_cons_succ]
    refine wpAnyH_ready (rs := [9]) (by kernel_rfl) (by simp) ?_
    refine AllReadyH.cons (o := { dst := some 56, op := Go.Op.call { callee := Go.Callee.value (Go.Operand.func 21), args := #[Go.Operand.tmp 55], argTypes := #[32] }, type := 22, pos := "law.go:62", after := #[{ on := 8, ground := Go.Ground.data }, { on := 7, ground := Go.Ground.chain }, { on := 7, ground := Go.Ground.guard }], guard := some (7, false) }) rfl (fun K hK => ?_) AllReadyH.nil
    go_simp
    go_at_call 21
    refine (HF1.out _ Aq cq _ (by exact HPS.out)).mono ?_
    rintro e u1 ⟨Af, cf, rfl, ho, hb⟩
    have HFa := Lib.hid ho
    clear ho
    replace p0_0 := (hb.cell (p := ⟨P0, 0, none⟩) p0_z).trans p0_0
    replace p0_1 := (hb.cell (p := ⟨P0, 1, none⟩) p0_z).trans p0_1
    replace p0_2 := (hb.cell (p := ⟨P0, 2, none⟩) p0_z).trans p0_2
    replace p0_3 := (hb.cell (p := ⟨P0, 3, none⟩) p0_z).trans p0_3
    replace p0_4 := (hb.cell (p := ⟨P0, 4, none⟩) p0_z).trans p0_4
    replace p0_5 := (hb.cell (p := ⟨P0, 5, none⟩) p0_z).trans p0_5
    replace p0_6 := (hb.cell (p := ⟨P0, 6, none⟩) p0_z).trans p0_6
    replace p0_7 := (hb.cell (p := ⟨P0, 7, none⟩) p0_z).trans p0_7
    replace p0_z := Nat.lt_of_lt_of_le p0_z hb.size
    replace p1_0 := (hb.cell (p := ⟨P1, 0, none⟩) p1_z).trans p1_0
    replace p1_1 := (hb.cell (p := ⟨P1, 1, none⟩) p1_z).trans p1_1
    replace p1_2 := (hb.cell (p := ⟨P1, 2, none⟩) p1_z).trans p1_2
    replace p1_3 := (hb.cell (p := ⟨P1, 3, none⟩) p1_z).trans p1_3
    replace p1_4 := (hb.cell (p := ⟨P1, 4, none⟩) p1_z).trans p1_4
    replace p1_5 := (hb.cell (p := ⟨P1, 5, none⟩) p1_z).trans p1_5
    replace p1_6 := (hb.cell (p := ⟨P1, 6, none⟩) p1_z).trans p1_6
    replace p1_7 := (hb.cell (p := ⟨P1, 7, none⟩) p1_z).trans p1_7
    replace p1_8 := (hb.cell (p := ⟨P1, 8, none⟩) p1_z).trans p1_8
    replace p1_z := Nat.lt_of_lt_of_le p1_z hb.size
    replace HO := Lib.hid (rown_below HO.out (below_via (Below.refl _ _) hb (Nat.le_refl _) ⟨rfl, rfl, rfl, rfl⟩))
    replace HOp := Lib.hid (rown_below HOp.out (below_via (Below.refl _ _) hb (Nat.le_refl _) ⟨rfl, rfl, rfl, rfl⟩))
    replace HPS := Lib.hid (rown_below HPS.out (below_via (Below.refl _ _) hb (Nat.le_refl _) ⟨rfl, rfl, rfl, rfl⟩))
    replace HRS2 := Lib.hid (rown_below HRS2.out (below_via (Below.refl _ _) hb (Nat.le_refl _) ⟨rfl, rfl, rfl, rfl⟩))
    replace HB := Lib.hid (below_via HB.out hb HB.out.size ⟨rfl, rfl, rfl, rfl⟩)
    clear hb
    refine hK.out _ _ ⟨p0_0, p0_1, p0_2, p0_3, p0_4, p0_5, p0_6, p0_7, p1_0, p1_1, p1_2, p1_3, p1_4, p1_5, p1_6, p1_7, p1_8⟩ (fun hHeld => ?_)
    clear hK K
    try simp only [Act.put, List.setIfInBounds_toArray, List.set_cons_zero, List.set_cons_succ]
    refine wpAnyH_ready (rs := [11]) (by kernel_rfl) (by simp) ?_
    refine AllReadyH.cons (o := { dst := some 58, op := Go.Op.call { callee := Go.Callee.value (Go.Operand.func 14), args := #[Go.Operand.tmp 56, Go.Operand.tmp 57], argTypes := #[22, 22] }, type := 4, pos := "law.go:62", after := #[{ on := 9, ground := Go.Ground.data }, { on := 10, ground := Go.Ground.data }, { on := 9, ground := Go.Ground.chain }, { on := 7, ground := Go.Ground.guard }], guard := some (7, false) }) rfl (fun K hK => ?_) AllReadyH.nil
    go_simp
    go_at_call 14
    refine (HS1.out _ Af cf _ Ar cr _ (by exact HFa.out) (by exact HRS2.out)).mono ?_
    rintro e u2 ⟨rfl, hb⟩
    replace p0_0 := (hb.cell (p := ⟨P0, 0, none⟩) p0_z).trans p0_0
    replace p0_1 := (hb.cell (p := ⟨P0, 1, none⟩) p0_z).trans p0_1
    replace p0_2 := (hb.cell (p := ⟨P0, 2, none⟩) p0_z).trans p0_2
    replace p0_3 := (hb.cell (p := ⟨P0, 3, none⟩) p0_z).trans p0_3
    replace p0_4 := (hb.cell (p := ⟨P0, 4, none⟩) p0_z).trans p0_4
    replace p0_5 := (hb.cell (p := ⟨P0, 5, none⟩) p0_z).trans p0_5
    replace p0_6 := (hb.cell (p := ⟨P0, 6, none⟩) p0_z).trans p0_6
    replace p0_7 := (hb.cell (p := ⟨P0, 7, none⟩) p0_z).trans p0_7
    replace p0_z := Nat.lt_of_lt_of_le p0_z hb.size
    replace p1_0 := (hb.cell (p := ⟨P1, 0, none⟩) p1_z).trans p1_0
    replace p1_1 := (hb.cell (p := ⟨P1, 1, none⟩) p1_z).trans p1_1
    replace p1_2 := (hb.cell (p := ⟨P1, 2, none⟩) p1_z).trans p1_2
    replace p1_3 := (hb.cell (p := ⟨P1, 3, none⟩) p1_z).trans p1_3
    replace p1_4 := (hb.cell (p := ⟨P1, 4, none⟩) p1_z).trans p1_4
    replace p1_5 := (hb.cell (p := ⟨P1, 5, none⟩) p1_z).trans p1_5
    replace p1_6 := (hb.cell (p := ⟨P1, 6, none⟩) p1_z).trans p1_6
    replace p1_7 := (hb.cell (p := ⟨P1, 7, none⟩) p1_z).trans p1_7
    replace p1_8 := (hb.cell (p := ⟨P1, 8, none⟩) p1_z).trans p1_8
    replace p1_z := Nat.lt_of_lt_of_le p1_z hb.size
    replace HO := Lib.hid (rown_below HO.out (below_via (Below.refl _ _) hb (Nat.le_refl _) ⟨rfl, rfl, rfl, rfl⟩))
    replace HOp := Lib.hid (rown_below HOp.out (below_via (Below.refl _ _) hb (Nat.le_refl _) ⟨rfl, rfl, rfl, rfl⟩))
    replace HPS := Lib.hid (rown_below HPS.out (below_via (Below.refl _ _) hb (Nat.le_refl _) ⟨rfl, rfl, rfl, rfl⟩))
    replace HRS2 := Lib.hid (rown_below HRS2.out (below_via (Below.refl _ _) hb (Nat.le_refl _) ⟨rfl, rfl, rfl, rfl⟩))
    replace HB := Lib.hid (below_via HB.out hb HB.out.size ⟨rfl, rfl, rfl, rfl⟩)
    clear hb
    clear HFa
    refine hK.out _ _ ⟨p0_0, p0_1, p0_2, p0_3, p0_4, p0_5, p0_6, p0_7, p1_0, p1_1, p1_2, p1_3, p1_4, p1_5, p1_6, p1_7, p1_8⟩ (fun hHeld => ?_)
    clear hK K
    try simp only [Act.put, List.setIfInBounds_toArray, List.set_cons_zero, List.set_cons_succ]
    refine wpAnyH_take (i := 12) (oi := { dst := some 59, op := Go.Op.unOp Go.UnOp.not 4 (Go.Operand.tmp 58), type := 4, pos := "law.go:62", after := #[{ on := 11, ground := Go.Ground.data }, { on := 7, ground := Go.Ground.guard }], guard := some (7, false) }) (v := ?_) rfl (by kernel_rfl) (by kernel_rfl) (by kernel_rfl) (fun _ _ _ h => h) (Or.inl ⟨rfl, ?_⟩) (by assumption) ?_
    rotate_left
    · intro wz hSw; (try dsimp only at hSw); go_simp; try (with_reducible rfl)
    try simp only [Act.put, List.setIfInBounds_toArray, List.set_cons_zero, List.set_cons_succ]
    refine wpAnyH_take (i := 13) (oi := { dst := some 60, op := Go.Op.pick (Go.Operand.tmp 54) (Go.Operand.const (Go.Value.bool true)) (Go.Operand.tmp 59), type := 4, pos := "law.go:62", after := #[{ on := 7, ground := Go.Ground.data }, { on := 12, ground := Go.Ground.data }], guard := none }) (v := ?_) rfl (by kernel_rfl) (by kernel_rfl) (by kernel_rfl) (fun _ _ _ h => h) (Or.inl ⟨rfl, ?_⟩) (by assumption) ?_
    rotate_left
    · intro wz hSw; (try dsimp only at hSw); go_simp; try (with_reducible rfl)
    try simp only [Act.put, List.setIfInBounds_toArray, List.set_cons_zero, List.set_cons_succ]
    refine wpAnyH_take (i := 14) (oi := { dst := some 61, op := Go.Op.move (Go.Operand.tmp 60), type := 4, pos := "law.go:62", after := #[{ on := 13, ground := Go.Ground.data }, { on := 11, ground := Go.Ground.chain }], guard := none }) (v := ?_) rfl (by kernel_rfl) (by kernel_rfl) (by kernel_rfl) (fun _ _ _ h => h) (Or.inl ⟨rfl, ?_⟩) (by assumption) ?_
    rotate_left
    · intro wz hSw; (try dsimp only at hSw); go_simp; try (with_reducible rfl)
    try simp only [Act.put, List.setIfInBounds_toArray, List.set_cons_zero, List.set_cons_succ]
    refine wpAnyH_take (i := 15) (oi := { dst := some 62, op := Go.Op.move (Go.Operand.tmp 8), type := 38, pos := "law.go:62", after := #[{ on := 14, ground := Go.Ground.guard }], guard := some (14, false) }) (v := ?_) rfl (by kernel_rfl) (by kernel_rfl) (by kernel_rfl) (fun _ _ _ h => h) (Or.inl ⟨rfl, ?_⟩) (by assumption) ?_
    rotate_left
    · intro wz hSw; (try dsimp only at hSw); go_simp; try (with_reducible rfl)
    try simp only [Act.put, List.setIfInBounds_toArray, List.set_cons_zero, List.set_cons_succ]
    refine wpAnyH_ready (rs := [16]) (by kernel_rfl) (by simp) ?_
    refine AllReadyH.cons (o := { dst := some 63, op := Go.Op.call { callee := Go.Callee.value (Go.Operand.func 10), args := #[Go.Operand.tmp 62], argTypes := #[38] }, type := 4, pos := "law.go:62", after := #[{ on := 15, ground := Go.Ground.data }, { on := 14, ground := Go.Ground.chain }, { on := 14, ground := Go.Ground.guard }], guard := some (14, false) }) rfl (fun K hK => ?_) AllReadyH.nil
    go_simp
    go_at_call 10
    refine (HRS.out _ Aq cq _ (by exact HPS.out)).mono ?_
    rintro e u3 ⟨rfl, hb⟩
    replace p0_0 := (hb.cell (p := ⟨P0, 0, none⟩) p0_z).trans p0_0
    replace p0_1 := (hb.cell (p := ⟨P0, 1, none⟩) p0_z).trans p0_1
    replace p0_2 := (hb.cell (p := ⟨P0, 2, none⟩) p0_z).trans p0_2
    replace p0_3 := (hb.cell (p := ⟨P0, 3, none⟩) p0_z).trans p0_3
    replace p0_4 := (hb.cell (p := ⟨P0, 4, none⟩) p0_z).trans p0_4
    replace p0_5 := (hb.cell (p := ⟨P0, 5, none⟩) p0_z).trans p0_5
    replace p0_6 := (hb.cell (p := ⟨P0, 6, none⟩) p0_z).trans p0_6
    replace p0_7 := (hb.cell (p := ⟨P0, 7, none⟩) p0_z).trans p0_7
    replace p0_z := Nat.lt_of_lt_of_le p0_z hb.size
    replace p1_0 := (hb.cell (p := ⟨P1, 0, none⟩) p1_z).trans p1_0
    replace p1_1 := (hb.cell (p := ⟨P1, 1, none⟩) p1_z).trans p1_1
    replace p1_2 := (hb.cell (p := ⟨P1, 2, none⟩) p1_z).trans p1_2
    replace p1_3 := (hb.cell (p := ⟨P1, 3, none⟩) p1_z).trans p1_3
    replace p1_4 := (hb.cell (p := ⟨P1, 4, none⟩) p1_z).trans p1_4
    replace p1_5 := (hb.cell (p := ⟨P1, 5, none⟩) p1_z).trans p1_5
    replace p1_6 := (hb.cell (p := ⟨P1, 6, none⟩) p1_z).trans p1_6
    replace p1_7 := (hb.cell (p := ⟨P1, 7, none⟩) p1_z).trans p1_7
    replace p1_8 := (hb.cell (p := ⟨P1, 8, none⟩) p1_z).trans p1_8
    replace p1_z := Nat.lt_of_lt_of_le p1_z hb.size
    replace HO := Lib.hid (rown_below HO.out (below_via (Below.refl _ _) hb (Nat.le_refl _) ⟨rfl, rfl, rfl, rfl⟩))
    replace HOp := Lib.hid (rown_below HOp.out (below_via (Below.refl _ _) hb (Nat.le_refl _) ⟨rfl, rfl, rfl, rfl⟩))
    replace HPS := Lib.hid (rown_below HPS.out (below_via (Below.refl _ _) hb (Nat.le_refl _) ⟨rfl, rfl, rfl, rfl⟩))
    replace HRS2 := Lib.hid (rown_below HRS2.out (below_via (Below.refl _ _) hb (Nat.le_refl _) ⟨rfl, rfl, rfl, rfl⟩))
    replace HB := Lib.hid (below_via HB.out hb HB.out.size ⟨rfl, rfl, rfl, rfl⟩)
    clear hb
    refine hK.out _ _ ⟨p0_0, p0_1, p0_2, p0_3, p0_4, p0_5, p0_6, p0_7, p1_0, p1_1, p1_2, p1_3, p1_4, p1_5, p1_6, p1_7, p1_8⟩ (fun hHeld => ?_)
    clear hK K
    try simp only [Act.put, List.setIfInBounds_toArray, List.set_cons_zero, List.set_cons_succ]
    refine wpAnyH_take (i := 17) (oi := { dst := some 64, op := Go.Op.unOp Go.UnOp.not 4 (Go.Operand.tmp 63), type := 4, pos := "law.go:62", after := #[{ on := 16, ground := Go.Ground.data }, { on := 14, ground := Go.Ground.guard }], guard := some (14, false) }) (v := ?_) rfl (by kernel_rfl) (by kernel_rfl) (by kernel_rfl) (fun _ _ _ h => h) (Or.inl ⟨rfl, ?_⟩) (by assumption) ?_
    rotate_left
    · intro wz hSw; (try dsimp only at hSw); go_simp; try (with_reducible rfl)
    try simp only [Act.put, List.setIfInBounds_toArray, List.set_cons_zero, List.set_cons_succ]
    refine wpAnyH_take (i := 18) (oi := { dst := some 65, op := Go.Op.pick (Go.Operand.tmp 61) (Go.Operand.const (Go.Value.bool true)) (Go.Operand.tmp 64), type := 4, pos := "law.go:62", after := #[{ on := 14, ground := Go.Ground.data }, { on := 17, ground := Go.Ground.data }], guard := none }) (v := ?_) rfl (by kernel_rfl) (by kernel_rfl) (by kernel_rfl) (fun _ _ _ h => h) (Or.inl ⟨rfl, ?_⟩) (by assumption) ?_
    rotate_left
    · intro wz hSw; (try dsimp only at hSw); go_simp; try (with_reducible rfl)
    try simp only [Act.put, List.setIfInBounds_toArray, List.set_cons_zero, List.set_cons_succ]
    refine wpAnyH_take (i := 19) (oi := { dst := some 66, op := Go.Op.move (Go.Operand.tmp 65), type := 4, pos := "law.go:62", after := #[{ on := 18, ground := Go.Ground.data }, { on := 16, ground := Go.Ground.chain }], guard := none }) (v := ?_) rfl (by kernel_rfl) (by kernel_rfl) (by kernel_rfl) (fun _ _ _ h => h) (Or.inl ⟨rfl, ?_⟩) (by assumption) ?_
    rotate_left
    · intro wz hSw; (try dsimp only at hSw); go_simp; try (with_reducible rfl)
    try simp only [Act.put, List.setIfInBounds_toArray, List.set_cons_zero, List.set_cons_succ]
    refine wpAnyH_take (i := 20) (oi := { dst := some 67, op := Go.Op.move (Go.Operand.tmp 13), type := 4, pos := "law.go:62", after := #[{ on := 19, ground := Go.Ground.guard }], guard := some (19, false) }) (v := ?_) rfl (by kernel_rfl) (by kernel_rfl) (by kernel_rfl) (fun _ _ _ h => h) (Or.inl ⟨rfl, ?_⟩) (by assumption) ?_
    rotate_left
    · intro wz hSw; (try dsimp only at hSw); go_simp; try (with_reducible rfl)
    try simp only [Act.put, List.setIfInBounds_toArray, List.set_cons_zero, List.set_cons_succ]
    refine wpAnyH_take (i := 21) (oi := { dst := some 68, op := Go.Op.move (Go.Operand.tmp 15), type := 4, pos := "law.go:62", after := #[{ on := 19, ground := Go.Ground.guard }], guard := some (19, false) }) (v := ?_) rfl (by kernel_rfl) (by kernel_rfl) (by kernel_rfl) (fun _ _ _ h => h) (Or.inl ⟨rfl, ?_⟩) (by assumption) ?_
    rotate_left
    · intro wz hSw; (try dsimp only at hSw); go_simp; try (with_reducible rfl)
    try simp only [Act.put, List.setIfInBounds_toArray, List.set_cons_zero, List.set_cons_succ]
    refine wpAnyH_take (i := 22) (oi := { dst := some 69, op := Go.Op.binOp Go.BinOp.neq 4 (Go.Operand.tmp 67) (Go.Operand.tmp 68) 4, type := 4, pos := "law.go:62", after := #[{ on := 20, ground := Go.Ground.data }, { on := 21, ground := Go.Ground.data }, { on := 19, ground := Go.Ground.guard }], guard := some (19, false) }) (v := ?_) rfl (by kernel_rfl) (by kernel_rfl) (by kernel_rfl) (fun _ _ _ h => h) (Or.inl ⟨rfl, ?_⟩) (by assumption) ?_
    rotate_left
    · intro wz hSw; (try dsimp only at hSw); go_simp; try (with_reducible rfl)
    try simp only [Act.put, List.setIfInBounds_toArray, List.set_cons_zero, List.set_cons_succ]
    refine wpAnyH_take (i := 23) (oi := { dst := some 70, op := Go.Op.pick (Go.Operand.tmp 66) (Go.Operand.const (Go.Value.bool true)) (Go.Operand.tmp 69), type := 4, pos := "law.go:62", after := #[{ on := 19, ground := Go.Ground.data }, { on := 22, ground := Go.Ground.data }], guard := none }) (v := ?_) rfl (by kernel_rfl) (by kernel_rfl) (by kernel_rfl) (fun _ _ _ h => h) (Or.inl ⟨rfl, ?_⟩) (by assumption) ?_
    rotate_left
    · intro wz hSw; (try dsimp only at hSw); go_simp; try (with_reducible rfl)
    try simp only [Act.put, List.setIfInBounds_toArray, List.set_cons_zero, List.set_cons_succ]
    refine wpAnyH_take (i := 24) (oi := { dst := some 71, op := Go.Op.move (Go.Operand.tmp 70), type := 4, pos := "law.go:62", after := #[{ on := 23, ground := Go.Ground.data }, { on := 19, ground := Go.Ground.chain }], guard := none }) (v := ?_) rfl (by kernel_rfl) (by kernel_rfl) (by kernel_rfl) (fun _ _ _ h => h) (Or.inl ⟨rfl, ?_⟩) (by assumption) ?_
    rotate_left
    · intro wz hSw; (try dsimp only at hSw); go_simp; try (with_reducible rfl)
    try simp only [Act.put, List.setIfInBounds_toArray, List.set_cons_zero, List.set_cons_succ]
    refine wpAnyH_take (i := 25) (oi := { dst := some 72, op := Go.Op.load 46 (Go.Operand.tmp 12), type := 46, pos := "law.go:62", after := #[{ on := 24, ground := Go.Ground.guard }], guard := some (24, false) }) (v := ?_) rfl (by kernel_rfl) (by kernel_rfl) (by kernel_rfl) (fun _ _ _ h => h) (Or.inl ⟨rfl, ?_⟩) (by assumption) ?_
    rotate_left
    · intro wz hSw; (try dsimp only at hSw); go_simp; try (with_reducible rfl)
    try simp only [Act.put, List.setIfInBounds_toArray, List.set_cons_zero, List.set_cons_succ]
    refine wpAnyH_take (i := 27) (oi := { dst := some 74, op := Go.Op.load 28 (Go.Operand.tmp 14), type := 28, pos := "law.go:62", after := #[{ on := 24, ground := Go.Ground.guard }], guard := some (24, false) }) (v := ?_) rfl (by kernel_rfl) (by kernel_rfl) (by kernel_rfl) (fun _ _ _ h => h) (Or.inl ⟨rfl, ?_⟩) (by assumption) ?_
    rotate_left
    · intro wz hSw; (try dsimp only at hSw); go_simp; try (with_reducible rfl)
    try simp only [Act.put, List.setIfInBounds_toArray, List.set_cons_zero, List.set_cons_succ]
    refine wpAnyH_ready (rs := [26]) (by kernel_rfl) (by simp) ?_
    refine AllReadyH.cons (o := { dst := some 73, op := Go.Op.call { callee := Go.Callee.value (Go.Operand.func 22), args := #[Go.Operand.tmp 72], argTypes := #[46] }, type := 28, pos := "law.go:62", after := #[{ on := 25, ground := Go.Ground.data }, { on := 24, ground := Go.Ground.chain }, { on := 24, ground := Go.Ground.guard }], guard := some (24, false) }) rfl (fun K hK => ?_) AllReadyH.nil
    go_simp
    go_at_call 22
    refine (HFI.out _).mono ?_
    rintro e u4 ⟨rfl, hb⟩
    replace p0_0 := (hb.cell (p := ⟨P0, 0, none⟩) p0_z).trans p0_0
    replace p0_1 := (hb.cell (p := ⟨P0, 1, none⟩) p0_z).trans p0_1
    replace p0_2 := (hb.cell (p := ⟨P0, 2, none⟩) p0_z).trans p0_2
    replace p0_3 := (hb.cell (p := ⟨P0, 3, none⟩) p0_z).trans p0_3
    replace p0_4 := (hb.cell (p := ⟨P0, 4, none⟩) p0_z).trans p0_4
    replace p0_5 := (hb.cell (p := ⟨P0, 5, none⟩) p0_z).trans p0_5
    replace p0_6 := (hb.cell (p := ⟨P0, 6, none⟩) p0_z).trans p0_6
    replace p0_7 := (hb.cell (p := ⟨P0, 7, none⟩) p0_z).trans p0_7
    replace p0_z := Nat.lt_of_lt_of_le p0_z hb.size
    replace p1_0 := (hb.cell (p := ⟨P1, 0, none⟩) p1_z).trans p1_0
    replace p1_1 := (hb.cell (p := ⟨P1, 1, none⟩) p1_z).trans p1_1
    replace p1_2 := (hb.cell (p := ⟨P1, 2, none⟩) p1_z).trans p1_2
    replace p1_3 := (hb.cell (p := ⟨P1, 3, none⟩) p1_z).trans p1_3
    replace p1_4 := (hb.cell (p := ⟨P1, 4, none⟩) p1_z).trans p1_4
    replace p1_5 := (hb.cell (p := ⟨P1, 5, none⟩) p1_z).trans p1_5
    replace p1_6 := (hb.cell (p := ⟨P1, 6, none⟩) p1_z).trans p1_6
    replace p1_7 := (hb.cell (p := ⟨P1, 7, none⟩) p1_z).trans p1_7
    replace p1_8 := (hb.cell (p := ⟨P1, 8, none⟩) p1_z).trans p1_8
    replace p1_z := Nat.lt_of_lt_of_le p1_z hb.size
    replace HO := Lib.hid (rown_below HO.out (below_via (Below.refl _ _) hb (Nat.le_refl _) ⟨rfl, rfl, rfl, rfl⟩))
    replace HOp := Lib.hid (rown_below HOp.out (below_via (Below.refl _ _) hb (Nat.le_refl _) ⟨rfl, rfl, rfl, rfl⟩))
    replace HPS := Lib.hid (rown_below HPS.out (below_via (Below.refl _ _) hb (Nat.le_refl _) ⟨rfl, rfl, rfl, rfl⟩))
    replace HRS2 := Lib.hid (rown_below HRS2.out (below_via (Below.refl _ _) hb (Nat.le_refl _) ⟨rfl, rfl, rfl, rfl⟩))
    replace HB := Lib.hid (below_via HB.out hb HB.out.size ⟨rfl, rfl, rfl, rfl⟩)
    clear hb
    refine hK.out _ _ ⟨p0_0, p0_1, p0_2, p0_3, p0_4, p0_5, p0_6, p0_7, p1_0, p1_1, p1_2, p1_3, p1_4, p1_5, p1_6, p1_7, p1_8⟩ (fun hHeld => ?_)
    clear hK K
    try simp only [Act.put, List.setIfInBounds_toArray, List.set_cons_zero, List.set_cons_succ]
    refine wpAnyH_take (i := 28) (oi := { dst := some 75, op := Go.Op.binOp Go.BinOp.neq 28 (Go.Operand.tmp 73) (Go.Operand.tmp 74) 28, type := 4, pos := "law.go:62", after := #[{ on := 26, ground := Go.Ground.data }, { on := 27, ground := Go.Ground.data }, { on := 24, ground := Go.Ground.guard }], guard := some (24, false) }) (v := ?_) rfl (by kernel_rfl) (by kernel_rfl) (by kernel_rfl) (fun _ _ _ h => h) (Or.inl ⟨rfl, ?_⟩) (by assumption) ?_
    rotate_left
    · intro wz hSw; (try dsimp only at hSw); go_simp; try (with_reducible rfl)
    try simp only [Act.put, List.setIfInBounds_toArray, List.set_cons_zero, List.set_cons_succ]
    refine wpAnyH_take (i := 29) (oi := { dst := some 76, op := Go.Op.move (Go.Operand.tmp 75), type := 4, pos := "law.go:62", after := #[{ on := 28, ground := Go.Ground.data }, { on := 26, ground := Go.Ground.chain }, { on := 24, ground := Go.Ground.guard }], guard := some (24, false) }) (v := ?_) rfl (by kernel_rfl) (by kernel_rfl) (by kernel_rfl) (fun _ _ _ h => h) (Or.inl ⟨rfl, ?_⟩) (by assumption) ?_
    rotate_left
    · intro wz hSw; (try dsimp only at hSw); go_simp; try (with_reducible rfl)
    try simp only [Act.put, List.setIfInBounds_toArray, List.set_cons_zero, List.set_cons_succ]
    refine wpAnyH_take (i := 30) (oi := { dst := some 77, op := Go.Op.move (Go.Operand.tmp 13), type := 4, pos := "law.go:62", after := #[{ on := 29, ground := Go.Ground.guard }], guard := some (29, true) }) (v := undef) rfl (by kernel_rfl) (by kernel_rfl) (by kernel_rfl) (fun _ _ _ h => h) (Or.inr ⟨rfl, rfl⟩) (by assumption) ?_
    try simp only [Act.put, List.setIfInBounds_toArray, List.set_cons_zero, List.set_cons_succ]
    refine wpAnyH_take (i := 31) (oi := { dst := some 78, op := Go.Op.pick (Go.Operand.tmp 76) (Go.Operand.tmp 77) (Go.Operand.const (Go.Value.bool false)), type := 4, pos := "law.go:62", after := #[{ on := 29, ground := Go.Ground.data }, { on := 30, ground := Go.Ground.data }, { on := 24, ground := Go.Ground.guard }], guard := some (24, false) }) (v := ?_) rfl (by kernel_rfl) (by kernel_rfl) (by kernel_rfl) (fun _ _ _ h => h) (Or.inl ⟨rfl, ?_⟩) (by assumption) ?_
    rotate_left
    · intro wz hSw; (try dsimp only at hSw); go_simp; try (with_reducible rfl)
    try simp only [Act.put, List.setIfInBounds_toArray, List.set_cons_zero, List.set_cons_succ]
    refine wpAnyH_take (i := 32) (oi := { dst := some 79, op := Go.Op.pick (Go.Operand.tmp 71) (Go.Operand.const (Go.Value.bool true)) (Go.Operand.tmp 78), type := 4, pos := "law.go:62", after := #[{ on := 24, ground := Go.Ground.data }, { on := 31, ground := Go.Ground.data }], guard := none }) (v := ?_) rfl (by kernel_rfl) (by kernel_rfl) (by kernel_rfl) (fun _ _ _ h => h) (Or.inl ⟨rfl, ?_⟩) (by assumption) ?_
    rotate_left
    · intro wz hSw; (try dsimp only at hSw); go_simp; try (with_reducible rfl)
    try simp only [Act.put, List.setIfInBounds_toArray, List.set_cons_zero, List.set_cons_succ]
    refine wpAnyH_take (i := 33) (oi := { dst := some 80, op := Go.Op.move (Go.Operand.tmp 79), type := 4, pos := "law.go:62", after := #[{ on := 32, ground := Go.Ground.data }, { on := 29, ground := Go.Ground.chain }], guard := none }) (v := ?_) rfl (by kernel_rfl) (by kernel_rfl) (by kernel_rfl) (fun _ _ _ h => h) (Or.inl ⟨rfl, ?_⟩) (by assumption) ?_
    rotate_left
    · intro wz hSw; (try dsimp only at hSw); go_simp; try (with_reducible rfl)
    try simp only [Act.put, List.setIfInBounds_toArray, List.set_cons_zero, List.set_cons_succ]
    refine wpAnyH_take (i := 34) (oi := { dst := some 81, op := Go.Op.move (Go.Operand.tmp 13), type := 4, pos := "law.go:62", after := #[{ on := 33, ground := Go.Ground.guard }], guard := some (33, false) }) (v := ?_) rfl (by kernel_rfl) (by kernel_rfl) (by kernel_rfl) (fun _ _ _ h => h) (Or.inl ⟨rfl, ?_⟩) (by assumption) ?_
    rotate_left
    · intro wz hSw; (try dsimp only at hSw); go_simp; try (with_reducible rfl)
    try simp only [Act.put, List.setIfInBounds_toArray, List.set_cons_zero, List.set_cons_succ]
    refine wpAnyH_take (i := 35) (oi := { dst := some 82, op := Go.Op.unOp Go.UnOp.not 4 (Go.Operand.tmp 81), type := 4, pos := "law.go:62", after := #[{ on := 34, ground := Go.Ground.data }, { on := 33, ground := Go.Ground.guard }], guard := some (33, false) }) (v := ?_) rfl (by kernel_rfl) (by kernel_rfl) (by kernel_rfl) (fun _ _ _ h => h) (Or.inl ⟨rfl, ?_⟩) (by assumption) ?_
    rotate_left
    · intro wz hSw; (try dsimp only at hSw); go_simp; try (with_reducible rfl)
    try simp only [Act.put, List.setIfInBounds_toArray, List.set_cons_zero, List.set_cons_succ]
    refine wpAnyH_take (i := 36) (oi := { dst := some 83, op := Go.Op.move (Go.Operand.tmp 82), type := 4, pos := "law.go:62", after := #[{ on := 35, ground := Go.Ground.data }, { on := 33, ground := Go.Ground.chain }, { on := 33, ground := Go.Ground.guard }], guard := some (33, false) }) (v := ?_) rfl (by kernel_rfl) (by kernel_rfl) (by kernel_rfl) (fun _ _ _ h => h) (Or.inl ⟨rfl, ?_⟩) (by assumption) ?_
    rotate_left
    · intro wz hSw; (try dsimp only at hSw); go_simp; try (with_reducible rfl)
    try simp only [Act.put, List.setIfInBounds_toArray, List.set_cons_zero, List.set_cons_succ]
    refine wpAnyH_take (i := 37) (oi := { dst := some 84, op := Go.Op.load 46 (Go.Operand.tmp 12), type := 46, pos := "law.go:62", after := #[{ on := 36, ground := Go.Ground.guard }], guard := some (36, true) }) (v := ?_) rfl (by kernel_rfl) (by kernel_rfl) (by kernel_rfl) (fun _ _ _ h => h) (Or.inl ⟨rfl, ?_⟩) (by assumption) ?_
    rotate_left
    · intro wz hSw; (try dsimp only at hSw); go_simp; try (with_reducible rfl)
    try simp only [Act.put, List.setIfInBounds_toArray, List.set_cons_zero, List.set_cons_succ]
    refine wpAnyH_take (i := 38) (oi := { dst := some 85, op := Go.Op.build 46 #[], type := 46, pos := "law.go:62", after := #[{ on := 36, ground := Go.Ground.guard }], guard := some (36, true) }) (v := ?_) rfl (by kernel_rfl) (by kernel_rfl) (by kernel_rfl) (fun _ _ _ h => h) (Or.inl ⟨rfl, ?_⟩) (by assumption) ?_
    rotate_left
    · intro wz hSw; (try dsimp only at hSw); go_simp; try (with_reducible rfl)
    try simp only [Act.put, List.setIfInBounds_toArray, List.set_cons_zero, List.set_cons_succ]
    refine wpAnyH_take (i := 39) (oi := { dst := some 86, op := Go.Op.binOp Go.BinOp.neq 46 (Go.Operand.tmp 84) (Go.Operand.tmp 85) 46, type := 4, pos := "law.go:62", after := #[{ on := 37, ground := Go.Ground.data }, { on := 38, ground := Go.Ground.data }, { on := 36, ground := Go.Ground.guard }], guard := some (36, true) }) (v := ?_) rfl (by kernel_rfl) (by kernel_rfl) (by kernel_rfl) (fun _ _ _ h => h) (Or.inl ⟨rfl, ?_⟩) (by assumption) ?_
    rotate_left
    · intro wz hSw; (try dsimp only at hSw); go_simp; try (with_reducible rfl)
    try simp only [Act.put, List.setIfInBounds_toArray, List.set_cons_zero, List.set_cons_succ]
    refine wpAnyH_take (i := 40) (oi := { dst := some 87, op := Go.Op.pick (Go.Operand.tmp 83) (Go.Operand.tmp 86) (Go.Operand.const (Go.Value.bool false)), type := 4, pos := "law.go:62", after := #[{ on := 36, ground := Go.Ground.data }, { on := 39, ground := Go.Ground.data }, { on := 33, ground := Go.Ground.guard }], guard := some (33, false) }) (v := ?_) rfl (by kernel_rfl) (by kernel_rfl) (by kernel_rfl) (fun _ _ _ h => h) (Or.inl ⟨rfl, ?_⟩) (by assumption) ?_
    rotate_left
    · intro wz hSw; (try dsimp only at hSw); go_simp; try (with_reducible rfl)
    try simp only [Act.put, List.setIfInBounds_toArray, List.set_cons_zero, List.set_cons_succ]
    refine wpAnyH_take (i := 41) (oi := { dst := some 88, op := Go.Op.pick (Go.Operand.tmp 80) (Go.Operand.const (Go.Value.bool true)) (Go.Operand.tmp 87), type := 4, pos := "law.go:62", after := #[{ on := 33, ground := Go.Ground.data }, { on := 40, ground := Go.Ground.data }], guard := none }) (v := ?_) rfl (by kernel_rfl) (by kernel_rfl) (by kernel_rfl) (fun _ _ _ h => h) (Or.inl ⟨rfl, ?_⟩) (by assumption) ?_
    rotate_left
    · intro wz hSw; (try dsimp only at hSw); go_simp; try (with_reducible rfl)
    try simp only [Act.put, List.setIfInBounds_toArray, List.set_cons_zero, List.set_cons_succ]
    refine wpAnyH_done (by kernel_rfl) ?_ _
    clear hHeld p0_z p1_z p0_0 p0_1 p0_2 p0_3 p0_4 p0_5 p0_6 p0_7 p1_0 p1_1 p1_2 p1_3 p1_4 p1_5 p1_6 p1_7 p1_8
    go_wp2_with fail
    refine (HDR.out _ Ap cp _ HOp.out).mono ?_
    rintro e v7 ⟨Ad, cd, rfl, ho, hb⟩
    have HD1 := Lib.hid ho
    clear ho
    replace HO := Lib.hid (rown_below HO.out hb)
    replace HOp := Lib.hid (rown_below HOp.out hb)
    replace HB := Lib.hid (HB.out.trans (hb.mono HB.out.size))
    clear hb
    go_wp2_with fail
    refine (HF2.out _ Ad cd _ HD1.out).mono ?_
    rintro e v8 ⟨Ae, ce, rfl, ho, hb⟩
    have HD2 := Lib.hid ho
    clear ho
    replace HO := Lib.hid (rown_below HO.out hb)
    replace HOp := Lib.hid (rown_below HOp.out hb)
    replace HB := Lib.hid (HB.out.trans (hb.mono HB.out.size))
    clear hb
    go_wp2_with fail
    refine (HRD.out _ Ay cy _ HO.out).mono ?_
    rintro e v9 ⟨Ag, cg, rfl, ho, hb⟩
    have HD3 := Lib.hid ho
    clear ho
    replace HO := Lib.hid (rown_below HO.out hb)
    replace HOp := Lib.hid (rown_below HOp.out hb)
    replace HD2 := Lib.hid (rown_below HD2.out hb)
    replace HB := Lib.hid (HB.out.trans (hb.mono HB.out.size))
    clear hb
    go_wp2_with fail
    refine (HS2.out _ Ae ce _ Ag cg _ HD2.out HD3.out).mono ?_
    rintro e v10 ⟨rfl, hb⟩
    replace HO := Lib.hid (rown_below HO.out hb)
    replace HOp := Lib.hid (rown_below HOp.out hb)
    replace HB := Lib.hid (HB.out.trans (hb.mono HB.out.size))
    clear hb
    go_wp2_with fail
    refine (HF3.out _ Ap cp _ HOp.out).mono ?_
    rintro e v11 ⟨Ah, ch, rfl, ho, hb⟩
    have HD4 := Lib.hid ho
    clear ho
    replace HO := Lib.hid (rown_below HO.out hb)
    replace HB := Lib.hid (HB.out.trans (hb.mono HB.out.size))
    clear hb
    go_wp2_with fail
    refine (HS3.out _ Ah ch _ Ay cy _ HD4.out HO.out).mono ?_
    rintro e v12 ⟨rfl, hb⟩
    replace HB := Lib.hid (HB.out.trans (hb.mono HB.out.size))
    clear hb
    go_wp2
    go_ret
    exact ⟨rfl, HB.out⟩
  · have hzs := right_small (HGM.out z rfl)
    have hnr := neq_items z z
    rw [eqI_same] at hnr
    have HFI := Lib.hid (from_any z hzs.1 hzs.2)
    rw [show GetV (some z) = .tuple #[itmV z, .bool true] from rfl] at HG1
    rw [show GetR (some z) = .tuple #[refV z, .bool true] from rfl] at HRG
    unfold itmV at HG1 HFI
    unfold refV at HRG HFI hnr
    clear HGM hzs
    generalize z.key = gk at *
    generalize z.ver.id = gd at *
    generalize z.ver.seq = ga at *
    generalize z.ver.stamp = gs at *
    generalize z.dead = ge at *
    generalize fl z.x = gx at *
    generalize fl z.y = gy at *
    generalize z.x = zx at *
    generalize z.y = zy at *
    generalize z.text = gt at *
    generalize z.held = gh at *
    have hpb : (pb != pb) = false := bne_self_eq_false pb
    go_wp2_with fail
    refine (HG1.out _ Ap cp _ HOp.out).mono ?_
    rintro e v5 ⟨rfl, hb⟩
    replace HO := Lib.hid (rown_below HO.out hb)
    replace HOp := Lib.hid (rown_below HOp.out hb)
    replace HPS := Lib.hid (rown_below HPS.out hb)
    replace HRS2 := Lib.hid (rown_below HRS2.out hb)
    replace HB := Lib.hid (HB.out.trans (hb.mono HB.out.size))
    clear hb
    go_upto_region 6 with fail
    have p0_0 : (v5.alloc (.cells #[.int .i64 gk, .string gd, .int .i64 ga, .int .i64 gs, .bool ge, .complex .f64 gx gy, .string gt, .bool gh] 46)).cell? ⟨v5.heap.size, 0, none⟩ = some (.int .i64 gk) := by simp [go_sem]
    have p0_f0 : (v5.alloc (.cells #[.int .i64 gk, .string gd, .int .i64 ga, .int .i64 gs, .bool ge, .complex .f64 gx gy, .string gt, .bool gh] 46)).frozen? ⟨v5.heap.size, 0, none⟩ = false := by simp [go_sem]
    have p0_1 : (v5.alloc (.cells #[.int .i64 gk, .string gd, .int .i64 ga, .int .i64 gs, .bool ge, .complex .f64 gx gy, .string gt, .bool gh] 46)).cell? ⟨v5.heap.size, 1, none⟩ = some (.string gd) := by simp [go_sem]
    have p0_f1 : (v5.alloc (.cells #[.int .i64 gk, .string gd, .int .i64 ga, .int .i64 gs, .bool ge, .complex .f64 gx gy, .string gt, .bool gh] 46)).frozen? ⟨v5.heap.size, 1, none⟩ = false := by simp [go_sem]
    have p0_2 : (v5.alloc (.cells #[.int .i64 gk, .string gd, .int .i64 ga, .int .i64 gs, .bool ge, .complex .f64 gx gy, .string gt, .bool gh] 46)).cell? ⟨v5.heap.size, 2, none⟩ = some (.int .i64 ga) := by simp [go_sem]
    have p0_f2 : (v5.alloc (.cells #[.int .i64 gk, .string gd, .int .i64 ga, .int .i64 gs, .bool ge, .complex .f64 gx gy, .string gt, .bool gh] 46)).frozen? ⟨v5.heap.size, 2, none⟩ = false := by simp [go_sem]
    have p0_3 : (v5.alloc (.cells #[.int .i64 gk, .string gd, .int .i64 ga, .int .i64 gs, .bool ge, .complex .f64 gx gy, .string gt, .bool gh] 46)).cell? ⟨v5.heap.size, 3, none⟩ = some (.int .i64 gs) := by simp [go_sem]
    have p0_f3 : (v5.alloc (.cells #[.int .i64 gk, .string gd, .int .i64 ga, .int .i64 gs, .bool ge, .complex .f64 gx gy, .string gt, .bool gh] 46)).frozen? ⟨v5.heap.size, 3, none⟩ = false := by simp [go_sem]
    have p0_4 : (v5.alloc (.cells #[.int .i64 gk, .string gd, .int .i64 ga, .int .i64 gs, .bool ge, .complex .f64 gx gy, .string gt, .bool gh] 46)).cell? ⟨v5.heap.size, 4, none⟩ = some (.bool ge) := by simp [go_sem]
    have p0_f4 : (v5.alloc (.cells #[.int .i64 gk, .string gd, .int .i64 ga, .int .i64 gs, .bool ge, .complex .f64 gx gy, .string gt, .bool gh] 46)).frozen? ⟨v5.heap.size, 4, none⟩ = false := by simp [go_sem]
    have p0_5 : (v5.alloc (.cells #[.int .i64 gk, .string gd, .int .i64 ga, .int .i64 gs, .bool ge, .complex .f64 gx gy, .string gt, .bool gh] 46)).cell? ⟨v5.heap.size, 5, none⟩ = some (.complex .f64 gx gy) := by simp [go_sem]
    have p0_f5 : (v5.alloc (.cells #[.int .i64 gk, .string gd, .int .i64 ga, .int .i64 gs, .bool ge, .complex .f64 gx gy, .string gt, .bool gh] 46)).frozen? ⟨v5.heap.size, 5, none⟩ = false := by simp [go_sem]
    have p0_6 : (v5.alloc (.cells #[.int .i64 gk, .string gd, .int .i64 ga, .int .i64 gs, .bool ge, .complex .f64 gx gy, .string gt, .bool gh] 46)).cell? ⟨v5.heap.size, 6, none⟩ = some (.string gt) := by simp [go_sem]
    have p0_f6 : (v5.alloc (.cells #[.int .i64 gk, .string gd, .int .i64 ga, .int .i64 gs, .bool ge, .complex .f64 gx gy, .string gt, .bool gh] 46)).frozen? ⟨v5.heap.size, 6, none⟩ = false := by simp [go_sem]
    have p0_7 : (v5.alloc (.cells #[.int .i64 gk, .string gd, .int .i64 ga, .int .i64 gs, .bool ge, .complex .f64 gx gy, .string gt, .bool gh] 46)).cell? ⟨v5.heap.size, 7, none⟩ = some (.bool gh) := by simp [go_sem]
    have p0_f7 : (v5.alloc (.cells #[.int .i64 gk, .string gd, .int .i64 ga, .int .i64 gs, .bool ge, .complex .f64 gx gy, .string gt, .bool gh] 46)).frozen? ⟨v5.heap.size, 7, none⟩ = false := by simp [go_sem]
    have p0_z : v5.heap.size < (v5.alloc (.cells #[.int .i64 gk, .string gd, .int .i64 ga, .int .i64 gs, .bool ge, .complex .f64 gx gy, .string gt, .bool gh] 46)).heap.size := by simp <;> omega
    have hb : Below v5.heap.size v5 (v5.alloc (.cells #[.int .i64 gk, .string gd, .int .i64 ga, .int .i64 gs, .bool ge, .complex .f64 gx gy, .string gt, .bool gh] 46)) := (Below.refl _ _).alloc (Nat.le_refl _) _
    replace HO := Lib.hid (rown_below HO.out hb)
    replace HOp := Lib.hid (rown_below HOp.out hb)
    replace HPS := Lib.hid (rown_below HPS.out hb)
    replace HRS2 := Lib.hid (rown_below HRS2.out hb)
    replace HB := Lib.hid (HB.out.trans (hb.mono HB.out.size))
    clear hb
    generalize (v5.alloc (.cells #[.int .i64 gk, .string gd, .int .i64 ga, .int .i64 gs, .bool ge, .complex .f64 gx gy, .string gt, .bool gh] 46)) = V0 at *
    generalize v5.heap.size = P0 at *
    go_wp2_with fail
    refine (HRG.out _ Ay cy _ HO.out).mono ?_
    rintro e v6 ⟨rfl, hb⟩
    replace p0_0 := (hb.cell (p := ⟨P0, 0, none⟩) p0_z).trans p0_0
    replace p0_f0 := (hb.frozen (p := ⟨P0, 0, none⟩) p0_z).trans p0_f0
    replace p0_1 := (hb.cell (p := ⟨P0, 1, none⟩) p0_z).trans p0_1
    replace p0_f1 := (hb.frozen (p := ⟨P0, 1, none⟩) p0_z).trans p0_f1
    replace p0_2 := (hb.cell (p := ⟨P0, 2, none⟩) p0_z).trans p0_2
    replace p0_f2 := (hb.frozen (p := ⟨P0, 2, none⟩) p0_z).trans p0_f2
    replace p0_3 := (hb.cell (p := ⟨P0, 3, none⟩) p0_z).trans p0_3
    replace p0_f3 := (hb.frozen (p := ⟨P0, 3, none⟩) p0_z).trans p0_f3
    replace p0_4 := (hb.cell (p := ⟨P0, 4, none⟩) p0_z).trans p0_4
    replace p0_f4 := (hb.frozen (p := ⟨P0, 4, none⟩) p0_z).trans p0_f4
    replace p0_5 := (hb.cell (p := ⟨P0, 5, none⟩) p0_z).trans p0_5
    replace p0_f5 := (hb.frozen (p := ⟨P0, 5, none⟩) p0_z).trans p0_f5
    replace p0_6 := (hb.cell (p := ⟨P0, 6, none⟩) p0_z).trans p0_6
    replace p0_f6 := (hb.frozen (p := ⟨P0, 6, none⟩) p0_z).trans p0_f6
    replace p0_7 := (hb.cell (p := ⟨P0, 7, none⟩) p0_z).trans p0_7
    replace p0_f7 := (hb.frozen (p := ⟨P0, 7, none⟩) p0_z).trans p0_f7
    replace p0_z := Nat.lt_of_lt_of_le p0_z hb.size
    replace HO := Lib.hid (rown_below HO.out hb)
    replace HOp := Lib.hid (rown_below HOp.out hb)
    replace HPS := Lib.hid (rown_below HPS.out hb)
    replace HRS2 := Lib.hid (rown_below HRS2.out hb)
    replace HB := Lib.hid (HB.out.trans (hb.mono HB.out.size))
    clear hb
    go_upto_region 7 with fail
    replace p0_0 : (v6.alloc (.cells #[.int .i64 gk, .string gd, .int .i64 ga, .int .i64 gs, .bool ge, .int .i64 zx, .int .i64 zy, .string gt, .bool gh] 28)).cell? ⟨P0, 0, none⟩ = some (.int .i64 gk) := by simp [go_sem, p0_0, p0_z]
    replace p0_f0 : (v6.alloc (.cells #[.int .i64 gk, .string gd, .int .i64 ga, .int .i64 gs, .bool ge, .int .i64 zx, .int .i64 zy, .string gt, .bool gh] 28)).frozen? ⟨P0, 0, none⟩ = false := by simp [go_sem, p0_f0, p0_z]
    replace p0_1 : (v6.alloc (.cells #[.int .i64 gk, .string gd, .int .i64 ga, .int .i64 gs, .bool ge, .int .i64 zx, .int .i64 zy, .string gt, .bool gh] 28)).cell? ⟨P0, 1, none⟩ = some (.string gd) := by simp [go_sem, p0_1, p0_z]
    replace p0_f1 : (v6.alloc (.cells #[.int .i64 gk, .string gd, .int .i64 ga, .int .i64 gs, .bool ge, .int .i64 zx, .int .i64 zy, .string gt, .bool gh] 28)).frozen? ⟨P0, 1, none⟩ = false := by simp [go_sem, p0_f1, p0_z]
    replace p0_2 : (v6.alloc (.cells #[.int .i64 gk, .string gd, .int .i64 ga, .int .i64 gs, .bool ge, .int .i64 zx, .int .i64 zy, .string gt, .bool gh] 28)).cell? ⟨P0, 2, none⟩ = some (.int .i64 ga) := by simp [go_sem, p0_2, p0_z]
    replace p0_f2 : (v6.alloc (.cells #[.int .i64 gk, .string gd, .int .i64 ga, .int .i64 gs, .bool ge, .int .i64 zx, .int .i64 zy, .string gt, .bool gh] 28)).frozen? ⟨P0, 2, none⟩ = false := by simp [go_sem, p0_f2, p0_z]
    replace p0_3 : (v6.alloc (.cells #[.int .i64 gk, .string gd, .int .i64 ga, .int .i64 gs, .bool ge, .int .i64 zx, .int .i64 zy, .string gt, .bool gh] 28)).cell? ⟨P0, 3, none⟩ = some (.int .i64 gs) := by simp [go_sem, p0_3, p0_z]
    replace p0_f3 : (v6.alloc (.cells #[.int .i64 gk, .string gd, .int .i64 ga, .int .i64 gs, .bool ge, .int .i64 zx, .int .i64 zy, .string gt, .bool gh] 28)).frozen? ⟨P0, 3, none⟩ = false := by simp [go_sem, p0_f3, p0_z]
    replace p0_4 : (v6.alloc (.cells #[.int .i64 gk, .string gd, .int .i64 ga, .int .i64 gs, .bool ge, .int .i64 zx, .int .i64 zy, .string gt, .bool gh] 28)).cell? ⟨P0, 4, none⟩ = some (.bool ge) := by simp [go_sem, p0_4, p0_z]
    replace p0_f4 : (v6.alloc (.cells #[.int .i64 gk, .string gd, .int .i64 ga, .int .i64 gs, .bool ge, .int .i64 zx, .int .i64 zy, .string gt, .bool gh] 28)).frozen? ⟨P0, 4, none⟩ = false := by simp [go_sem, p0_f4, p0_z]
    replace p0_5 : (v6.alloc (.cells #[.int .i64 gk, .string gd, .int .i64 ga, .int .i64 gs, .bool ge, .int .i64 zx, .int .i64 zy, .string gt, .bool gh] 28)).cell? ⟨P0, 5, none⟩ = some (.complex .f64 gx gy) := by simp [go_sem, p0_5, p0_z]
    replace p0_f5 : (v6.alloc (.cells #[.int .i64 gk, .string gd, .int .i64 ga, .int .i64 gs, .bool ge, .int .i64 zx, .int .i64 zy, .string gt, .bool gh] 28)).frozen? ⟨P0, 5, none⟩ = false := by simp [go_sem, p0_f5, p0_z]
    replace p0_6 : (v6.alloc (.cells #[.int .i64 gk, .string gd, .int .i64 ga, .int .i64 gs, .bool ge, .int .i64 zx, .int .i64 zy, .string gt, .bool gh] 28)).cell? ⟨P0, 6, none⟩ = some (.string gt) := by simp [go_sem, p0_6, p0_z]
    replace p0_f6 : (v6.alloc (.cells #[.int .i64 gk, .string gd, .int .i64 ga, .int .i64 gs, .bool ge, .int .i64 zx, .int .i64 zy, .string gt, .bool gh] 28)).frozen? ⟨P0, 6, none⟩ = false := by simp [go_sem, p0_f6, p0_z]
    replace p0_7 : (v6.alloc (.cells #[.int .i64 gk, .string gd, .int .i64 ga, .int .i64 gs, .bool ge, .int .i64 zx, .int .i64 zy, .string gt, .bool gh] 28)).cell? ⟨P0, 7, none⟩ = some (.bool gh) := by simp [go_sem, p0_7, p0_z]
    replace p0_f7 : (v6.alloc (.cells #[.int .i64 gk, .string gd, .int .i64 ga, .int .i64 gs, .bool ge, .int .i64 zx, .int .i64 zy, .string gt, .bool gh] 28)).frozen? ⟨P0, 7, none⟩ = false := by simp [go_sem, p0_f7, p0_z]
    replace p0_z : P0 < (v6.alloc (.cells #[.int .i64 gk, .string gd, .int .i64 ga, .int .i64 gs, .bool ge, .int .i64 zx, .int .i64 zy, .string gt, .bool gh] 28)).heap.size := by simp <;> omega
    have p1_0 : (v6.alloc (.cells #[.int .i64 gk, .string gd, .int .i64 ga, .int .i64 gs, .bool ge, .int .i64 zx, .int .i64 zy, .string gt, .bool gh] 28)).cell? ⟨v6.heap.size, 0, none⟩ = some (.int .i64 gk) := by simp [go_sem]
    have p1_f0 : (v6.alloc (.cells #[.int .i64 gk, .string gd, .int .i64 ga, .int .i64 gs, .bool ge, .int .i64 zx, .int .i64 zy, .string gt, .bool gh] 28)).frozen? ⟨v6.heap.size, 0, none⟩ = false := by simp [go_sem]
    have p1_1 : (v6.alloc (.cells #[.int .i64 gk, .string gd, .int .i64 ga, .int .i64 gs, .bool ge, .int .i64 zx, .int .i64 zy, .string gt, .bool gh] 28)).cell? ⟨v6.heap.size, 1, none⟩ = some (.string gd) := by simp [go_sem]
    have p1_f1 : (v6.alloc (.cells #[.int .i64 gk, .string gd, .int .i64 ga, .int .i64 gs, .bool ge, .int .i64 zx, .int .i64 zy, .string gt, .bool gh] 28)).frozen? ⟨v6.heap.size, 1, none⟩ = false := by simp [go_sem]
    have p1_2 : (v6.alloc (.cells #[.int .i64 gk, .string gd, .int .i64 ga, .int .i64 gs, .bool ge, .int .i64 zx, .int .i64 zy, .string gt, .bool gh] 28)).cell? ⟨v6.heap.size, 2, none⟩ = some (.int .i64 ga) := by simp [go_sem]
    have p1_f2 : (v6.alloc (.cells #[.int .i64 gk, .string gd, .int .i64 ga, .int .i64 gs, .bool ge, .int .i64 zx, .int .i64 zy, .string gt, .bool gh] 28)).frozen? ⟨v6.heap.size, 2, none⟩ = false := by simp [go_sem]
    have p1_3 : (v6.alloc (.cells #[.int .i64 gk, .string gd, .int .i64 ga, .int .i64 gs, .bool ge, .int .i64 zx, .int .i64 zy, .string gt, .bool gh] 28)).cell? ⟨v6.heap.size, 3, none⟩ = some (.int .i64 gs) := by simp [go_sem]
    have p1_f3 : (v6.alloc (.cells #[.int .i64 gk, .string gd, .int .i64 ga, .int .i64 gs, .bool ge, .int .i64 zx, .int .i64 zy, .string gt, .bool gh] 28)).frozen? ⟨v6.heap.size, 3, none⟩ = false := by simp [go_sem]
    have p1_4 : (v6.alloc (.cells #[.int .i64 gk, .string gd, .int .i64 ga, .int .i64 gs, .bool ge, .int .i64 zx, .int .i64 zy, .string gt, .bool gh] 28)).cell? ⟨v6.heap.size, 4, none⟩ = some (.bool ge) := by simp [go_sem]
    have p1_f4 : (v6.alloc (.cells #[.int .i64 gk, .string gd, .int .i64 ga, .int .i64 gs, .bool ge, .int .i64 zx, .int .i64 zy, .string gt, .bool gh] 28)).frozen? ⟨v6.heap.size, 4, none⟩ = false := by simp [go_sem]
    have p1_5 : (v6.alloc (.cells #[.int .i64 gk, .string gd, .int .i64 ga, .int .i64 gs, .bool ge, .int .i64 zx, .int .i64 zy, .string gt, .bool gh] 28)).cell? ⟨v6.heap.size, 5, none⟩ = some (.int .i64 zx) := by simp [go_sem]
    have p1_f5 : (v6.alloc (.cells #[.int .i64 gk, .string gd, .int .i64 ga, .int .i64 gs, .bool ge, .int .i64 zx, .int .i64 zy, .string gt, .bool gh] 28)).frozen? ⟨v6.heap.size, 5, none⟩ = false := by simp [go_sem]
    have p1_6 : (v6.alloc (.cells #[.int .i64 gk, .string gd, .int .i64 ga, .int .i64 gs, .bool ge, .int .i64 zx, .int .i64 zy, .string gt, .bool gh] 28)).cell? ⟨v6.heap.size, 6, none⟩ = some (.int .i64 zy) := by simp [go_sem]
    have p1_f6 : (v6.alloc (.cells #[.int .i64 gk, .string gd, .int .i64 ga, .int .i64 gs, .bool ge, .int .i64 zx, .int .i64 zy, .string gt, .bool gh] 28)).frozen? ⟨v6.heap.size, 6, none⟩ = false := by simp [go_sem]
    have p1_7 : (v6.alloc (.cells #[.int .i64 gk, .string gd, .int .i64 ga, .int .i64 gs, .bool ge, .int .i64 zx, .int .i64 zy, .string gt, .bool gh] 28)).cell? ⟨v6.heap.size, 7, none⟩ = some (.string gt) := by simp [go_sem]
    have p1_f7 : (v6.alloc (.cells #[.int .i64 gk, .string gd, .int .i64 ga, .int .i64 gs, .bool ge, .int .i64 zx, .int .i64 zy, .string gt, .bool gh] 28)).frozen? ⟨v6.heap.size, 7, none⟩ = false := by simp [go_sem]
    have p1_8 : (v6.alloc (.cells #[.int .i64 gk, .string gd, .int .i64 ga, .int .i64 gs, .bool ge, .int .i64 zx, .int .i64 zy, .string gt, .bool gh] 28)).cell? ⟨v6.heap.size, 8, none⟩ = some (.bool gh) := by simp [go_sem]
    have p1_f8 : (v6.alloc (.cells #[.int .i64 gk, .string gd, .int .i64 ga, .int .i64 gs, .bool ge, .int .i64 zx, .int .i64 zy, .string gt, .bool gh] 28)).frozen? ⟨v6.heap.size, 8, none⟩ = false := by simp [go_sem]
    have p1_z : v6.heap.size < (v6.alloc (.cells #[.int .i64 gk, .string gd, .int .i64 ga, .int .i64 gs, .bool ge, .int .i64 zx, .int .i64 zy, .string gt, .bool gh] 28)).heap.size := by simp <;> omega
    have hb : Below v6.heap.size v6 (v6.alloc (.cells #[.int .i64 gk, .string gd, .int .i64 ga, .int .i64 gs, .bool ge, .int .i64 zx, .int .i64 zy, .string gt, .bool gh] 28)) := (Below.refl _ _).alloc (Nat.le_refl _) _
    replace HO := Lib.hid (rown_below HO.out hb)
    replace HOp := Lib.hid (rown_below HOp.out hb)
    replace HPS := Lib.hid (rown_below HPS.out hb)
    replace HRS2 := Lib.hid (rown_below HRS2.out hb)
    replace HB := Lib.hid (HB.out.trans (hb.mono HB.out.size))
    clear hb
    generalize (v6.alloc (.cells #[.int .i64 gk, .string gd, .int .i64 ga, .int .i64 gs, .bool ge, .int .i64 zx, .int .i64 zy, .string gt, .bool gh] 28)) = V1 at *
    generalize v6.heap.size = P1 at *
    clear p0_f0 p0_f1 p0_f2 p0_f3 p0_f4 p0_f5 p0_f6 p0_f7 p1_f0 p1_f1 p1_f2 p1_f3 p1_f4 p1_f5 p1_f6 p1_f7 p1_f8
    refine wp_region_held_drew (S := fun w' => w'.cell? ⟨P0, 0, none⟩ = some (.int .i64 gk) ∧ w'.cell? ⟨P0, 1, none⟩ = some (.string gd) ∧ w'.cell? ⟨P0, 2, none⟩ = some (.int .i64 ga) ∧ w'.cell? ⟨P0, 3, none⟩ = some (.int .i64 gs) ∧ w'.cell? ⟨P0, 4, none⟩ = some (.bool ge) ∧ w'.cell? ⟨P0, 5, none⟩ = some (.complex .f64 gx gy) ∧ w'.cell? ⟨P0, 6, none⟩ = some (.string gt) ∧ w'.cell? ⟨P0, 7, none⟩ = some (.bool gh) ∧ w'.cell? ⟨P1, 0, none⟩ = some (.int .i64 gk) ∧ w'.cell? ⟨P1, 1, none⟩ = some (.string gd) ∧ w'.cell? ⟨P1, 2, none⟩ = some (.int .i64 ga) ∧ w'.cell? ⟨P1, 3, none⟩ = some (.int .i64 gs) ∧ w'.cell? ⟨P1, 4, none⟩ = some (.bool ge) ∧ w'.cell? ⟨P1, 5, none⟩ = some (.int .i64 zx) ∧ w'.cell? ⟨P1, 6, none⟩ = some (.int .i64 zy) ∧ w'.cell? ⟨P1, 7, none⟩ = some (.string gt) ∧ w'.cell? ⟨P1, 8, none⟩ = some (.bool gh)) (by kernel_rfl) ⟨p0_0, p0_1, p0_2, p0_3, p0_4, p0_5, p0_6, p0_7, p1_0, p1_1, p1_2, p1_3, p1_4, p1_5, p1_6, p1_7, p1_8⟩ (fun hHeld => ?_)
    refine wpAnyH_ready (rs := [0]) (by kernel_rfl) (by simp) ?_
    refine AllReadyH.cons (o := { dst := some 47, op := Go.Op.call { callee := Go.Callee.value (Go.Operand.func 8), args := #[], argTypes := #[] }, type := 4, pos := "law.go:62", after := #[], guard := none }) rfl (fun K hK => ?_) AllReadyH.nil
    go_simp
    go_at_call 8
    refine (told_any _).mono ?_
    rintro e u0 ⟨rfl, hb⟩
    replace p0_0 := (hb.cell (p := ⟨P0, 0, none⟩) p0_z).trans p0_0
    replace p0_1 := (hb.cell (p := ⟨P0, 1, none⟩) p0_z).trans p0_1
    replace p0_2 := (hb.cell (p := ⟨P0, 2, none⟩) p0_z).trans p0_2
    replace p0_3 := (hb.cell (p := ⟨P0, 3, none⟩) p0_z).trans p0_3
    replace p0_4 := (hb.cell (p := ⟨P0, 4, none⟩) p0_z).trans p0_4
    replace p0_5 := (hb.cell (p := ⟨P0, 5, none⟩) p0_z).trans p0_5
    replace p0_6 := (hb.cell (p := ⟨P0, 6, none⟩) p0_z).trans p0_6
    replace p0_7 := (hb.cell (p := ⟨P0, 7, none⟩) p0_z).trans p0_7
    replace p0_z := Nat.lt_of_lt_of_le p0_z hb.size
    replace p1_0 := (hb.cell (p := ⟨P1, 0, none⟩) p1_z).trans p1_0
    replace p1_1 := (hb.cell (p := ⟨P1, 1, none⟩) p1_z).trans p1_1
    replace p1_2 := (hb.cell (p := ⟨P1, 2, none⟩) p1_z).trans p1_2
    replace p1_3 := (hb.cell (p := ⟨P1, 3, none⟩) p1_z).trans p1_3
    replace p1_4 := (hb.cell (p := ⟨P1, 4, none⟩) p1_z).trans p1_4
    replace p1_5 := (hb.cell (p := ⟨P1, 5, none⟩) p1_z).trans p1_5
    replace p1_6 := (hb.cell (p := ⟨P1, 6, none⟩) p1_z).trans p1_6
    replace p1_7 := (hb.cell (p := ⟨P1, 7, none⟩) p1_z).trans p1_7
    replace p1_8 := (hb.cell (p := ⟨P1, 8, none⟩) p1_z).trans p1_8
    replace p1_z := Nat.lt_of_lt_of_le p1_z hb.size
    replace HO := Lib.hid (rown_below HO.out (below_via (Below.refl _ _) hb (Nat.le_refl _) ⟨rfl, rfl, rfl, rfl⟩))
    replace HOp := Lib.hid (rown_below HOp.out (below_via (Below.refl _ _) hb (Nat.le_refl _) ⟨rfl, rfl, rfl, rfl⟩))
    replace HPS := Lib.hid (rown_below HPS.out (below_via (Below.refl _ _) hb (Nat.le_refl _) ⟨rfl, rfl, rfl, rfl⟩))
    replace HRS2 := Lib.hid (rown_below HRS2.out (below_via (Below.refl _ _) hb (Nat.le_refl _) ⟨rfl, rfl, rfl, rfl⟩))
    replace HB := Lib.hid (below_via HB.out hb HB.out.size ⟨rfl, rfl, rfl, rfl⟩)
    clear hb
    refine hK.out _ _ ⟨p0_0, p0_1, p0_2, p0_3, p0_4, p0_5, p0_6, p0_7, p1_0, p1_1, p1_2, p1_3, p1_4, p1_5, p1_6, p1_7, p1_8⟩ (fun hHeld => ?_)
    clear hK K
    try simp only [Act.put, List.setIfInBounds_toArray, List.set_cons_zero, List.set_cons_succ]
    refine wpAnyH_take (i := 1) (oi := { dst := some 48, op := Go.Op.unOp Go.UnOp.not 4 (Go.Operand.tmp 47), type := 4, pos := "law.go:62", after := #[{ on := 0, ground := Go.Ground.data }], guard := none }) (v := ?_) rfl (by kernel_rfl) (by kernel_rfl) (by kernel_rfl) (fun _ _ _ h => h) (Or.inl ⟨rfl, ?_⟩) (by assumption) ?_
    rotate_left
    · intro wz hSw; (try dsimp only at hSw); go_simp; try (with_reducible rfl)
    try simp only [Act.put, List.setIfInBounds_toArray, List.set_cons_zero, List.set_cons_succ]
    refine wpAnyH_take (i := 2) (oi := { dst := some 49, op := Go.Op.move (Go.Operand.tmp 48), type := 4, pos := "law.go:62", after := #[{ on := 1, ground := Go.Ground.data }, { on := 0, ground := Go.Ground.chain }], guard := none }) (v := ?_) rfl (by kernel_rfl) (by kernel_rfl) (by kernel_rfl) (fun _ _ _ h => h) (Or.inl ⟨rfl, ?_⟩) (by assumption) ?_
    rotate_left
    · intro wz hSw; (try dsimp only at hSw); go_simp; try (with_reducible rfl)
    try simp only [Act.put, List.setIfInBounds_toArray, List.set_cons_zero, List.set_cons_succ]
    refine wpAnyH_take (i := 3) (oi := { dst := some 50, op := Go.Op.move (Go.Operand.tmp 9), type := 4, pos := "law.go:62", after := #[{ on := 2, ground := Go.Ground.guard }], guard := some (2, false) }) (v := ?_) rfl (by kernel_rfl) (by kernel_rfl) (by kernel_rfl) (fun _ _ _ h => h) (Or.inl ⟨rfl, ?_⟩) (by assumption) ?_
    rotate_left
    · intro wz hSw; (try dsimp only at hSw); go_simp; try (with_reducible rfl)
    try simp only [Act.put, List.setIfInBounds_toArray, List.set_cons_zero, List.set_cons_succ]
    refine wpAnyH_take (i := 4) (oi := { dst := some 51, op := Go.Op.move (Go.Operand.tmp 11), type := 4, pos := "law.go:62", after := #[{ on := 2, ground := Go.Ground.guard }], guard := some (2, false) }) (v := ?_) rfl (by kernel_rfl) (by kernel_rfl) (by kernel_rfl) (fun _ _ _ h => h) (Or.inl ⟨rfl, ?_⟩) (by assumption) ?_
    rotate_left
    · intro wz hSw; (try dsimp only at hSw); go_simp; try (with_reducible rfl)
    try simp only [Act.put, List.setIfInBounds_toArray, List.set_cons_zero, List.set_cons_succ]
    refine wpAnyH_take (i := 5) (oi := { dst := some 52, op := Go.Op.binOp Go.BinOp.neq 4 (Go.Operand.tmp 50) (Go.Operand.tmp 51) 4, type := 4, pos := "law.go:62", after := #[{ on := 3, ground := Go.Ground.data }, { on := 4, ground := Go.Ground.data }, { on := 2, ground := Go.Ground.guard }], guard := some (2, false) }) (v := ?_) rfl (by kernel_rfl) (by kernel_rfl) (by kernel_rfl) (fun _ _ _ h => h) (Or.inl ⟨rfl, ?_⟩) (by assumption) ?_
    rotate_left
    · intro wz hSw; (try dsimp only at hSw); go_simp; try (with_reducible rfl)
    try simp only [Act.put, List.setIfInBounds_toArray, List.set_cons_zero, List.set_cons_succ]
    refine wpAnyH_take (i := 6) (oi := { dst := some 53, op := Go.Op.pick (Go.Operand.tmp 49) (Go.Operand.const (Go.Value.bool true)) (Go.Operand.tmp 52), type := 4, pos := "law.go:62", after := #[{ on := 2, ground := Go.Ground.data }, { on := 5, ground := Go.Ground.data }], guard := none }) (v := ?_) rfl (by kernel_rfl) (by kernel_rfl) (by kernel_rfl) (fun _ _ _ h => h) (Or.inl ⟨rfl, ?_⟩) (by assumption) ?_
    rotate_left
    · intro wz hSw; (try dsimp only at hSw); go_simp; try (with_reducible rfl)
    try simp only [Act.put, List.setIfInBounds_toArray, List.set_cons_zero, List.set_cons_succ]
    refine wpAnyH_take (i := 7) (oi := { dst := some 54, op := Go.Op.move (Go.Operand.tmp 53), type := 4, pos := "law.go:62", after := #[{ on := 6, ground := Go.Ground.data }, { on := 2, ground := Go.Ground.chain }], guard := none }) (v := ?_) rfl (by kernel_rfl) (by kernel_rfl) (by kernel_rfl) (fun _ _ _ h => h) (Or.inl ⟨rfl, ?_⟩) (by assumption) ?_
    rotate_left
    · intro wz hSw; (try dsimp only at hSw); go_simp; try (with_reducible rfl)
    try simp only [Act.put, List.setIfInBounds_toArray, List.set_cons_zero, List.set_cons_succ]
    refine wpAnyH_take (i := 8) (oi := { dst := some 55, op := Go.Op.move (Go.Operand.tmp 8), type := 38, pos := "law.go:62", after := #[{ on := 7, ground := Go.Ground.guard }], guard := some (7, false) }) (v := ?_) rfl (by kernel_rfl) (by kernel_rfl) (by kernel_rfl) (fun _ _ _ h => h) (Or.inl ⟨rfl, ?_⟩) (by assumption) ?_
    rotate_left
    · intro wz hSw; (try dsimp only at hSw); go_simp; try (with_reducible rfl)
    try simp only [Act.put, List.setIfInBounds_toArray, List.set_cons_zero, List.set_cons_succ]
    refine wpAnyH_take (i := 10) (oi := { dst := some 57, op := Go.Op.move (Go.Operand.tmp 10), type := 22, pos := "law.go:62", after := #[{ on := 7, ground := Go.Ground.guard }], guard := some (7, false) }) (v := ?_) rfl (by kernel_rfl) (by kernel_rfl) (by kernel_rfl) (fun _ _ _ h => h) (Or.inl ⟨rfl, ?_⟩) (by assumption) ?_
    rotate_left
    · intro wz hSw; (try dsimp only at hSw); go_simp; try (with_reducible rfl)
    try simp only [Act.put, List.setIfInBounds_toArray, List.set_cons_zero, List.set_cons_succ]
    refine wpAnyH_ready (rs := [9]) (by kernel_rfl) (by simp) ?_
    refine AllReadyH.cons (o := { dst := some 56, op := Go.Op.call { callee := Go.Callee.value (Go.Operand.func 21), args := #[Go.Operand.tmp 55], argTypes := #[32] }, type := 22, pos := "law.go:62", after := #[{ on := 8, ground := Go.Ground.data }, { on := 7, ground := Go.Ground.chain }, { on := 7, ground := Go.Ground.guard }], guard := some (7, false) }) rfl (fun K hK => ?_) AllReadyH.nil
    go_simp
    go_at_call 21
    refine (HF1.out _ Aq cq _ (by exact HPS.out)).mono ?_
    rintro e u1 ⟨Af, cf, rfl, ho, hb⟩
    have HFa := Lib.hid ho
    clear ho
    replace p0_0 := (hb.cell (p := ⟨P0, 0, none⟩) p0_z).trans p0_0
    replace p0_1 := (hb.cell (p := ⟨P0, 1, none⟩) p0_z).trans p0_1
    replace p0_2 := (hb.cell (p := ⟨P0, 2, none⟩) p0_z).trans p0_2
    replace p0_3 := (hb.cell (p := ⟨P0, 3, none⟩) p0_z).trans p0_3
    replace p0_4 := (hb.cell (p := ⟨P0, 4, none⟩) p0_z).trans p0_4
    replace p0_5 := (hb.cell (p := ⟨P0, 5, none⟩) p0_z).trans p0_5
    replace p0_6 := (hb.cell (p := ⟨P0, 6, none⟩) p0_z).trans p0_6
    replace p0_7 := (hb.cell (p := ⟨P0, 7, none⟩) p0_z).trans p0_7
    replace p0_z := Nat.lt_of_lt_of_le p0_z hb.size
    replace p1_0 := (hb.cell (p := ⟨P1, 0, none⟩) p1_z).trans p1_0
    replace p1_1 := (hb.cell (p := ⟨P1, 1, none⟩) p1_z).trans p1_1
    replace p1_2 := (hb.cell (p := ⟨P1, 2, none⟩) p1_z).trans p1_2
    replace p1_3 := (hb.cell (p := ⟨P1, 3, none⟩) p1_z).trans p1_3
    replace p1_4 := (hb.cell (p := ⟨P1, 4, none⟩) p1_z).trans p1_4
    replace p1_5 := (hb.cell (p := ⟨P1, 5, none⟩) p1_z).trans p1_5
    replace p1_6 := (hb.cell (p := ⟨P1, 6, none⟩) p1_z).trans p1_6
    replace p1_7 := (hb.cell (p := ⟨P1, 7, none⟩) p1_z).trans p1_7
    replace p1_8 := (hb.cell (p := ⟨P1, 8, none⟩) p1_z).trans p1_8
    replace p1_z := Nat.lt_of_lt_of_le p1_z hb.size
    replace HO := Lib.hid (rown_below HO.out (below_via (Below.refl _ _) hb (Nat.le_refl _) ⟨rfl, rfl, rfl, rfl⟩))
    replace HOp := Lib.hid (rown_below HOp.out (below_via (Below.refl _ _) hb (Nat.le_refl _) ⟨rfl, rfl, rfl, rfl⟩))
    replace HPS := Lib.hid (rown_below HPS.out (below_via (Below.refl _ _) hb (Nat.le_refl _) ⟨rfl, rfl, rfl, rfl⟩))
    replace HRS2 := Lib.hid (rown_below HRS2.out (below_via (Below.refl _ _) hb (Nat.le_refl _) ⟨rfl, rfl, rfl, rfl⟩))
    replace HB := Lib.hid (below_via HB.out hb HB.out.size ⟨rfl, rfl, rfl, rfl⟩)
    clear hb
    refine hK.out _ _ ⟨p0_0, p0_1, p0_2, p0_3, p0_4, p0_5, p0_6, p0_7, p1_0, p1_1, p1_2, p1_3, p1_4, p1_5, p1_6, p1_7, p1_8⟩ (fun hHeld => ?_)
    clear hK K
    try simp only [Act.put, List.setIfInBounds_toArray, List.set_cons_zero, List.set_cons_succ]
    refine wpAnyH_ready (rs := [11]) (by kernel_rfl) (by simp) ?_
    refine AllReadyH.cons (o := { dst := some 58, op := Go.Op.call { callee := Go.Callee.value (Go.Operand.func 14), args := #[Go.Operand.tmp 56, Go.Operand.tmp 57], argTypes := #[22, 22] }, type := 4, pos := "law.go:62", after := #[{ on := 9, ground := Go.Ground.data }, { on := 10, ground := Go.Ground.data }, { on := 9, ground := Go.Ground.chain }, { on := 7, ground := Go.Ground.guard }], guard := some (7, false) }) rfl (fun K hK => ?_) AllReadyH.nil
    go_simp
    go_at_call 14
    refine (HS1.out _ Af cf _ Ar cr _ (by exact HFa.out) (by exact HRS2.out)).mono ?_
    rintro e u2 ⟨rfl, hb⟩
    replace p0_0 := (hb.cell (p := ⟨P0, 0, none⟩) p0_z).trans p0_0
    replace p0_1 := (hb.cell (p := ⟨P0, 1, none⟩) p0_z).trans p0_1
    replace p0_2 := (hb.cell (p := ⟨P0, 2, none⟩) p0_z).trans p0_2
    replace p0_3 := (hb.cell (p := ⟨P0, 3, none⟩) p0_z).trans p0_3
    replace p0_4 := (hb.cell (p := ⟨P0, 4, none⟩) p0_z).trans p0_4
    replace p0_5 := (hb.cell (p := ⟨P0, 5, none⟩) p0_z).trans p0_5
    replace p0_6 := (hb.cell (p := ⟨P0, 6, none⟩) p0_z).trans p0_6
    replace p0_7 := (hb.cell (p := ⟨P0, 7, none⟩) p0_z).trans p0_7
    replace p0_z := Nat.lt_of_lt_of_le p0_z hb.size
    replace p1_0 := (hb.cell (p := ⟨P1, 0, none⟩) p1_z).trans p1_0
    replace p1_1 := (hb.cell (p := ⟨P1, 1, none⟩) p1_z).trans p1_1
    replace p1_2 := (hb.cell (p := ⟨P1, 2, none⟩) p1_z).trans p1_2
    replace p1_3 := (hb.cell (p := ⟨P1, 3, none⟩) p1_z).trans p1_3
    replace p1_4 := (hb.cell (p := ⟨P1, 4, none⟩) p1_z).trans p1_4
    replace p1_5 := (hb.cell (p := ⟨P1, 5, none⟩) p1_z).trans p1_5
    replace p1_6 := (hb.cell (p := ⟨P1, 6, none⟩) p1_z).trans p1_6
    replace p1_7 := (hb.cell (p := ⟨P1, 7, none⟩) p1_z).trans p1_7
    replace p1_8 := (hb.cell (p := ⟨P1, 8, none⟩) p1_z).trans p1_8
    replace p1_z := Nat.lt_of_lt_of_le p1_z hb.size
    replace HO := Lib.hid (rown_below HO.out (below_via (Below.refl _ _) hb (Nat.le_refl _) ⟨rfl, rfl, rfl, rfl⟩))
    replace HOp := Lib.hid (rown_below HOp.out (below_via (Below.refl _ _) hb (Nat.le_refl _) ⟨rfl, rfl, rfl, rfl⟩))
    replace HPS := Lib.hid (rown_below HPS.out (below_via (Below.refl _ _) hb (Nat.le_refl _) ⟨rfl, rfl, rfl, rfl⟩))
    replace HRS2 := Lib.hid (rown_below HRS2.out (below_via (Below.refl _ _) hb (Nat.le_refl _) ⟨rfl, rfl, rfl, rfl⟩))
    replace HB := Lib.hid (below_via HB.out hb HB.out.size ⟨rfl, rfl, rfl, rfl⟩)
    clear hb
    clear HFa
    refine hK.out _ _ ⟨p0_0, p0_1, p0_2, p0_3, p0_4, p0_5, p0_6, p0_7, p1_0, p1_1, p1_2, p1_3, p1_4, p1_5, p1_6, p1_7, p1_8⟩ (fun hHeld => ?_)
    clear hK K
    try simp only [Act.put, List.setIfInBounds_toArray, List.set_cons_zero, List.set_cons_succ]
    refine wpAnyH_take (i := 12) (oi := { dst := some 59, op := Go.Op.unOp Go.UnOp.not 4 (Go.Operand.tmp 58), type := 4, pos := "law.go:62", after := #[{ on := 11, ground := Go.Ground.data }, { on := 7, ground := Go.Ground.guard }], guard := some (7, false) }) (v := ?_) rfl (by kernel_rfl) (by kernel_rfl) (by kernel_rfl) (fun _ _ _ h => h) (Or.inl ⟨rfl, ?_⟩) (by assumption) ?_
    rotate_left
    · intro wz hSw; (try dsimp only at hSw); go_simp; try (with_reducible rfl)
    try simp only [Act.put, List.setIfInBounds_toArray, List.set_cons_zero, List.set_cons_succ]
    refine wpAnyH_take (i := 13) (oi := { dst := some 60, op := Go.Op.pick (Go.Operand.tmp 54) (Go.Operand.const (Go.Value.bool true)) (Go.Operand.tmp 59), type := 4, pos := "law.go:62", after := #[{ on := 7, ground := Go.Ground.data }, { on := 12, ground := Go.Ground.data }], guard := none }) (v := ?_) rfl (by kernel_rfl) (by kernel_rfl) (by kernel_rfl) (fun _ _ _ h => h) (Or.inl ⟨rfl, ?_⟩) (by assumption) ?_
    rotate_left
    · intro wz hSw; (try dsimp only at hSw); go_simp; try (with_reducible rfl)
    try simp only [Act.put, List.setIfInBounds_toArray, List.set_cons_zero, List.set_cons_succ]
    refine wpAnyH_take (i := 14) (oi := { dst := some 61, op := Go.Op.move (Go.Operand.tmp 60), type := 4, pos := "law.go:62", after := #[{ on := 13, ground := Go.Ground.data }, { on := 11, ground := Go.Ground.chain }], guard := none }) (v := ?_) rfl (by kernel_rfl) (by kernel_rfl) (by kernel_rfl) (fun _ _ _ h => h) (Or.inl ⟨rfl, ?_⟩) (by assumption) ?_
    rotate_left
    · intro wz hSw; (try dsimp only at hSw); go_simp; try (with_reducible rfl)
    try simp only [Act.put, List.setIfInBounds_toArray, List.set_cons_zero, List.set_cons_succ]
    refine wpAnyH_take (i := 15) (oi := { dst := some 62, op := Go.Op.move (Go.Operand.tmp 8), type := 38, pos := "law.go:62", after := #[{ on := 14, ground := Go.Ground.guard }], guard := some (14, false) }) (v := ?_) rfl (by kernel_rfl) (by kernel_rfl) (by kernel_rfl) (fun _ _ _ h => h) (Or.inl ⟨rfl, ?_⟩) (by assumption) ?_
    rotate_left
    · intro wz hSw; (try dsimp only at hSw); go_simp; try (with_reducible rfl)
    try simp only [Act.put, List.setIfInBounds_toArray, List.set_cons_zero, List.set_cons_succ]
    refine wpAnyH_ready (rs := [16]) (by kernel_rfl) (by simp) ?_
    refine AllReadyH.cons (o := { dst := some 63, op := Go.Op.call { callee := Go.Callee.value (Go.Operand.func 10), args := #[Go.Operand.tmp 62], argTypes := #[38] }, type := 4, pos := "law.go:62", after := #[{ on := 15, ground := Go.Ground.data }, { on := 14, ground := Go.Ground.chain }, { on := 14, ground := Go.Ground.guard }], guard := some (14, false) }) rfl (fun K hK => ?_) AllReadyH.nil
    go_simp
    go_at_call 10
    refine (HRS.out _ Aq cq _ (by exact HPS.out)).mono ?_
    rintro e u3 ⟨rfl, hb⟩
    replace p0_0 := (hb.cell (p := ⟨P0, 0, none⟩) p0_z).trans p0_0
    replace p0_1 := (hb.cell (p := ⟨P0, 1, none⟩) p0_z).trans p0_1
    replace p0_2 := (hb.cell (p := ⟨P0, 2, none⟩) p0_z).trans p0_2
    replace p0_3 := (hb.cell (p := ⟨P0, 3, none⟩) p0_z).trans p0_3
    replace p0_4 := (hb.cell (p := ⟨P0, 4, none⟩) p0_z).trans p0_4
    replace p0_5 := (hb.cell (p := ⟨P0, 5, none⟩) p0_z).trans p0_5
    replace p0_6 := (hb.cell (p := ⟨P0, 6, none⟩) p0_z).trans p0_6
    replace p0_7 := (hb.cell (p := ⟨P0, 7, none⟩) p0_z).trans p0_7
    replace p0_z := Nat.lt_of_lt_of_le p0_z hb.size
    replace p1_0 := (hb.cell (p := ⟨P1, 0, none⟩) p1_z).trans p1_0
    replace p1_1 := (hb.cell (p := ⟨P1, 1, none⟩) p1_z).trans p1_1
    replace p1_2 := (hb.cell (p := ⟨P1, 2, none⟩) p1_z).trans p1_2
    replace p1_3 := (hb.cell (p := ⟨P1, 3, none⟩) p1_z).trans p1_3
    replace p1_4 := (hb.cell (p := ⟨P1, 4, none⟩) p1_z).trans p1_4
    replace p1_5 := (hb.cell (p := ⟨P1, 5, none⟩) p1_z).trans p1_5
    replace p1_6 := (hb.cell (p := ⟨P1, 6, none⟩) p1_z).trans p1_6
    replace p1_7 := (hb.cell (p := ⟨P1, 7, none⟩) p1_z).trans p1_7
    replace p1_8 := (hb.cell (p := ⟨P1, 8, none⟩) p1_z).trans p1_8
    replace p1_z := Nat.lt_of_lt_of_le p1_z hb.size
    replace HO := Lib.hid (rown_below HO.out (below_via (Below.refl _ _) hb (Nat.le_refl _) ⟨rfl, rfl, rfl, rfl⟩))
    replace HOp := Lib.hid (rown_below HOp.out (below_via (Below.refl _ _) hb (Nat.le_refl _) ⟨rfl, rfl, rfl, rfl⟩))
    replace HPS := Lib.hid (rown_below HPS.out (below_via (Below.refl _ _) hb (Nat.le_refl _) ⟨rfl, rfl, rfl, rfl⟩))
    replace HRS2 := Lib.hid (rown_below HRS2.out (below_via (Below.refl _ _) hb (Nat.le_refl _) ⟨rfl, rfl, rfl, rfl⟩))
    replace HB := Lib.hid (below_via HB.out hb HB.out.size ⟨rfl, rfl, rfl, rfl⟩)
    clear hb
    refine hK.out _ _ ⟨p0_0, p0_1, p0_2, p0_3, p0_4, p0_5, p0_6, p0_7, p1_0, p1_1, p1_2, p1_3, p1_4, p1_5, p1_6, p1_7, p1_8⟩ (fun hHeld => ?_)
    clear hK K
    try simp only [Act.put, List.setIfInBounds_toArray, List.set_cons_zero, List.set_cons_succ]
    refine wpAnyH_take (i := 17) (oi := { dst := some 64, op := Go.Op.unOp Go.UnOp.not 4 (Go.Operand.tmp 63), type := 4, pos := "law.go:62", after := #[{ on := 16, ground := Go.Ground.data }, { on := 14, ground := Go.Ground.guard }], guard := some (14, false) }) (v := ?_) rfl (by kernel_rfl) (by kernel_rfl) (by kernel_rfl) (fun _ _ _ h => h) (Or.inl ⟨rfl, ?_⟩) (by assumption) ?_
    rotate_left
    · intro wz hSw; (try dsimp only at hSw); go_simp; try (with_reducible rfl)
    try simp only [Act.put, List.setIfInBounds_toArray, List.set_cons_zero, List.set_cons_succ]
    refine wpAnyH_take (i := 18) (oi := { dst := some 65, op := Go.Op.pick (Go.Operand.tmp 61) (Go.Operand.const (Go.Value.bool true)) (Go.Operand.tmp 64), type := 4, pos := "law.go:62", after := #[{ on := 14, ground := Go.Ground.data }, { on := 17, ground := Go.Ground.data }], guard := none }) (v := ?_) rfl (by kernel_rfl) (by kernel_rfl) (by kernel_rfl) (fun _ _ _ h => h) (Or.inl ⟨rfl, ?_⟩) (by assumption) ?_
    rotate_left
    · intro wz hSw; (try dsimp only at hSw); go_simp; try (with_reducible rfl)
    try simp only [Act.put, List.setIfInBounds_toArray, List.set_cons_zero, List.set_cons_succ]
    refine wpAnyH_take (i := 19) (oi := { dst := some 66, op := Go.Op.move (Go.Operand.tmp 65), type := 4, pos := "law.go:62", after := #[{ on := 18, ground := Go.Ground.data }, { on := 16, ground := Go.Ground.chain }], guard := none }) (v := ?_) rfl (by kernel_rfl) (by kernel_rfl) (by kernel_rfl) (fun _ _ _ h => h) (Or.inl ⟨rfl, ?_⟩) (by assumption) ?_
    rotate_left
    · intro wz hSw; (try dsimp only at hSw); go_simp; try (with_reducible rfl)
    try simp only [Act.put, List.setIfInBounds_toArray, List.set_cons_zero, List.set_cons_succ]
    refine wpAnyH_take (i := 20) (oi := { dst := some 67, op := Go.Op.move (Go.Operand.tmp 13), type := 4, pos := "law.go:62", after := #[{ on := 19, ground := Go.Ground.guard }], guard := some (19, false) }) (v := ?_) rfl (by kernel_rfl) (by kernel_rfl) (by kernel_rfl) (fun _ _ _ h => h) (Or.inl ⟨rfl, ?_⟩) (by assumption) ?_
    rotate_left
    · intro wz hSw; (try dsimp only at hSw); go_simp; try (with_reducible rfl)
    try simp only [Act.put, List.setIfInBounds_toArray, List.set_cons_zero, List.set_cons_succ]
    refine wpAnyH_take (i := 21) (oi := { dst := some 68, op := Go.Op.move (Go.Operand.tmp 15), type := 4, pos := "law.go:62", after := #[{ on := 19, ground := Go.Ground.guard }], guard := some (19, false) }) (v := ?_) rfl (by kernel_rfl) (by kernel_rfl) (by kernel_rfl) (fun _ _ _ h => h) (Or.inl ⟨rfl, ?_⟩) (by assumption) ?_
    rotate_left
    · intro wz hSw; (try dsimp only at hSw); go_simp; try (with_reducible rfl)
    try simp only [Act.put, List.setIfInBounds_toArray, List.set_cons_zero, List.set_cons_succ]
    refine wpAnyH_take (i := 22) (oi := { dst := some 69, op := Go.Op.binOp Go.BinOp.neq 4 (Go.Operand.tmp 67) (Go.Operand.tmp 68) 4, type := 4, pos := "law.go:62", after := #[{ on := 20, ground := Go.Ground.data }, { on := 21, ground := Go.Ground.data }, { on := 19, ground := Go.Ground.guard }], guard := some (19, false) }) (v := ?_) rfl (by kernel_rfl) (by kernel_rfl) (by kernel_rfl) (fun _ _ _ h => h) (Or.inl ⟨rfl, ?_⟩) (by assumption) ?_
    rotate_left
    · intro wz hSw; (try dsimp only at hSw); go_simp; try (with_reducible rfl)
    try simp only [Act.put, List.setIfInBounds_toArray, List.set_cons_zero, List.set_cons_succ]
    refine wpAnyH_take (i := 23) (oi := { dst := some 70, op := Go.Op.pick (Go.Operand.tmp 66) (Go.Operand.const (Go.Value.bool true)) (Go.Operand.tmp 69), type := 4, pos := "law.go:62", after := #[{ on := 19, ground := Go.Ground.data }, { on := 22, ground := Go.Ground.data }], guard := none }) (v := ?_) rfl (by kernel_rfl) (by kernel_rfl) (by kernel_rfl) (fun _ _ _ h => h) (Or.inl ⟨rfl, ?_⟩) (by assumption) ?_
    rotate_left
    · intro wz hSw; (try dsimp only at hSw); go_simp; try (with_reducible rfl)
    try simp only [Act.put, List.setIfInBounds_toArray, List.set_cons_zero, List.set_cons_succ]
    refine wpAnyH_take (i := 24) (oi := { dst := some 71, op := Go.Op.move (Go.Operand.tmp 70), type := 4, pos := "law.go:62", after := #[{ on := 23, ground := Go.Ground.data }, { on := 19, ground := Go.Ground.chain }], guard := none }) (v := ?_) rfl (by kernel_rfl) (by kernel_rfl) (by kernel_rfl) (fun _ _ _ h => h) (Or.inl ⟨rfl, ?_⟩) (by assumption) ?_
    rotate_left
    · intro wz hSw; (try dsimp only at hSw); go_simp; try (with_reducible rfl)
    try simp only [Act.put, List.setIfInBounds_toArray, List.set_cons_zero, List.set_cons_succ]
    refine wpAnyH_take (i := 25) (oi := { dst := some 72, op := Go.Op.load 46 (Go.Operand.tmp 12), type := 46, pos := "law.go:62", after := #[{ on := 24, ground := Go.Ground.guard }], guard := some (24, false) }) (v := ?_) rfl (by kernel_rfl) (by kernel_rfl) (by kernel_rfl) (fun _ _ _ h => h) (Or.inl ⟨rfl, ?_⟩) (by assumption) ?_
    rotate_left
    · intro wz hSw; (try dsimp only at hSw); go_simp; try (with_reducible rfl)
    try simp only [Act.put, List.setIfInBounds_toArray, List.set_cons_zero, List.set_cons_succ]
    refine wpAnyH_take (i := 27) (oi := { dst := some 74, op := Go.Op.load 28 (Go.Operand.tmp 14), type := 28, pos := "law.go:62", after := #[{ on := 24, ground := Go.Ground.guard }], guard := some (24, false) }) (v := ?_) rfl (by kernel_rfl) (by kernel_rfl) (by kernel_rfl) (fun _ _ _ h => h) (Or.inl ⟨rfl, ?_⟩) (by assumption) ?_
    rotate_left
    · intro wz hSw; (try dsimp only at hSw); go_simp; try (with_reducible rfl)
    try simp only [Act.put, List.setIfInBounds_toArray, List.set_cons_zero, List.set_cons_succ]
    refine wpAnyH_ready (rs := [26]) (by kernel_rfl) (by simp) ?_
    refine AllReadyH.cons (o := { dst := some 73, op := Go.Op.call { callee := Go.Callee.value (Go.Operand.func 22), args := #[Go.Operand.tmp 72], argTypes := #[46] }, type := 28, pos := "law.go:62", after := #[{ on := 25, ground := Go.Ground.data }, { on := 24, ground := Go.Ground.chain }, { on := 24, ground := Go.Ground.guard }], guard := some (24, false) }) rfl (fun K hK => ?_) AllReadyH.nil
    go_simp
    go_at_call 22
    refine (HFI.out _).mono ?_
    rintro e u4 ⟨rfl, hb⟩
    replace p0_0 := (hb.cell (p := ⟨P0, 0, none⟩) p0_z).trans p0_0
    replace p0_1 := (hb.cell (p := ⟨P0, 1, none⟩) p0_z).trans p0_1
    replace p0_2 := (hb.cell (p := ⟨P0, 2, none⟩) p0_z).trans p0_2
    replace p0_3 := (hb.cell (p := ⟨P0, 3, none⟩) p0_z).trans p0_3
    replace p0_4 := (hb.cell (p := ⟨P0, 4, none⟩) p0_z).trans p0_4
    replace p0_5 := (hb.cell (p := ⟨P0, 5, none⟩) p0_z).trans p0_5
    replace p0_6 := (hb.cell (p := ⟨P0, 6, none⟩) p0_z).trans p0_6
    replace p0_7 := (hb.cell (p := ⟨P0, 7, none⟩) p0_z).trans p0_7
    replace p0_z := Nat.lt_of_lt_of_le p0_z hb.size
    replace p1_0 := (hb.cell (p := ⟨P1, 0, none⟩) p1_z).trans p1_0
    replace p1_1 := (hb.cell (p := ⟨P1, 1, none⟩) p1_z).trans p1_1
    replace p1_2 := (hb.cell (p := ⟨P1, 2, none⟩) p1_z).trans p1_2
    replace p1_3 := (hb.cell (p := ⟨P1, 3, none⟩) p1_z).trans p1_3
    replace p1_4 := (hb.cell (p := ⟨P1, 4, none⟩) p1_z).trans p1_4
    replace p1_5 := (hb.cell (p := ⟨P1, 5, none⟩) p1_z).trans p1_5
    replace p1_6 := (hb.cell (p := ⟨P1, 6, none⟩) p1_z).trans p1_6
    replace p1_7 := (hb.cell (p := ⟨P1, 7, none⟩) p1_z).trans p1_7
    replace p1_8 := (hb.cell (p := ⟨P1, 8, none⟩) p1_z).trans p1_8
    replace p1_z := Nat.lt_of_lt_of_le p1_z hb.size
    replace HO := Lib.hid (rown_below HO.out (below_via (Below.refl _ _) hb (Nat.le_refl _) ⟨rfl, rfl, rfl, rfl⟩))
    replace HOp := Lib.hid (rown_below HOp.out (below_via (Below.refl _ _) hb (Nat.le_refl _) ⟨rfl, rfl, rfl, rfl⟩))
    replace HPS := Lib.hid (rown_below HPS.out (below_via (Below.refl _ _) hb (Nat.le_refl _) ⟨rfl, rfl, rfl, rfl⟩))
    replace HRS2 := Lib.hid (rown_below HRS2.out (below_via (Below.refl _ _) hb (Nat.le_refl _) ⟨rfl, rfl, rfl, rfl⟩))
    replace HB := Lib.hid (below_via HB.out hb HB.out.size ⟨rfl, rfl, rfl, rfl⟩)
    clear hb
    refine hK.out _ _ ⟨p0_0, p0_1, p0_2, p0_3, p0_4, p0_5, p0_6, p0_7, p1_0, p1_1, p1_2, p1_3, p1_4, p1_5, p1_6, p1_7, p1_8⟩ (fun hHeld => ?_)
    clear hK K
    try simp only [Act.put, List.setIfInBounds_toArray, List.set_cons_zero, List.set_cons_succ]
    refine wpAnyH_take (i := 28) (oi := { dst := some 75, op := Go.Op.binOp Go.BinOp.neq 28 (Go.Operand.tmp 73) (Go.Operand.tmp 74) 28, type := 4, pos := "law.go:62", after := #[{ on := 26, ground := Go.Ground.data }, { on := 27, ground := Go.Ground.data }, { on := 24, ground := Go.Ground.guard }], guard := some (24, false) }) (v := ?_) rfl (by kernel_rfl) (by kernel_rfl) (by kernel_rfl) (fun _ _ _ h => h) (Or.inl ⟨rfl, ?_⟩) (by assumption) ?_
    rotate_left
    · intro wz hSw; (try dsimp only at hSw); go_simp; try (with_reducible rfl)
    try simp only [Act.put, List.setIfInBounds_toArray, List.set_cons_zero, List.set_cons_succ]
    refine wpAnyH_take (i := 29) (oi := { dst := some 76, op := Go.Op.move (Go.Operand.tmp 75), type := 4, pos := "law.go:62", after := #[{ on := 28, ground := Go.Ground.data }, { on := 26, ground := Go.Ground.chain }, { on := 24, ground := Go.Ground.guard }], guard := some (24, false) }) (v := ?_) rfl (by kernel_rfl) (by kernel_rfl) (by kernel_rfl) (fun _ _ _ h => h) (Or.inl ⟨rfl, ?_⟩) (by assumption) ?_
    rotate_left
    · intro wz hSw; (try dsimp only at hSw); go_simp; try (with_reducible rfl)
    try simp only [Act.put, List.setIfInBounds_toArray, List.set_cons_zero, List.set_cons_succ]
    refine wpAnyH_take (i := 30) (oi := { dst := some 77, op := Go.Op.move (Go.Operand.tmp 13), type := 4, pos := "law.go:62", after := #[{ on := 29, ground := Go.Ground.guard }], guard := some (29, true) }) (v := undef) rfl (by kernel_rfl) (by kernel_rfl) (by kernel_rfl) (fun _ _ _ h => h) (Or.inr ⟨rfl, rfl⟩) (by assumption) ?_
    try simp only [Act.put, List.setIfInBounds_toArray, List.set_cons_zero, List.set_cons_succ]
    refine wpAnyH_take (i := 31) (oi := { dst := some 78, op := Go.Op.pick (Go.Operand.tmp 76) (Go.Operand.tmp 77) (Go.Operand.const (Go.Value.bool false)), type := 4, pos := "law.go:62", after := #[{ on := 29, ground := Go.Ground.data }, { on := 30, ground := Go.Ground.data }, { on := 24, ground := Go.Ground.guard }], guard := some (24, false) }) (v := ?_) rfl (by kernel_rfl) (by kernel_rfl) (by kernel_rfl) (fun _ _ _ h => h) (Or.inl ⟨rfl, ?_⟩) (by assumption) ?_
    rotate_left
    · intro wz hSw; (try dsimp only at hSw); go_simp; try (with_reducible rfl)
    try simp only [Act.put, List.setIfInBounds_toArray, List.set_cons_zero, List.set_cons_succ]
    refine wpAnyH_take (i := 32) (oi := { dst := some 79, op := Go.Op.pick (Go.Operand.tmp 71) (Go.Operand.const (Go.Value.bool true)) (Go.Operand.tmp 78), type := 4, pos := "law.go:62", after := #[{ on := 24, ground := Go.Ground.data }, { on := 31, ground := Go.Ground.data }], guard := none }) (v := ?_) rfl (by kernel_rfl) (by kernel_rfl) (by kernel_rfl) (fun _ _ _ h => h) (Or.inl ⟨rfl, ?_⟩) (by assumption) ?_
    rotate_left
    · intro wz hSw; (try dsimp only at hSw); go_simp; try (with_reducible rfl)
    try simp only [Act.put, List.setIfInBounds_toArray, List.set_cons_zero, List.set_cons_succ]
    refine wpAnyH_take (i := 33) (oi := { dst := some 80, op := Go.Op.move (Go.Operand.tmp 79), type := 4, pos := "law.go:62", after := #[{ on := 32, ground := Go.Ground.data }, { on := 29, ground := Go.Ground.chain }], guard := none }) (v := ?_) rfl (by kernel_rfl) (by kernel_rfl) (by kernel_rfl) (fun _ _ _ h => h) (Or.inl ⟨rfl, ?_⟩) (by assumption) ?_
    rotate_left
    · intro wz hSw; (try dsimp only at hSw); go_simp; try (with_reducible rfl)
    try simp only [Act.put, List.setIfInBounds_toArray, List.set_cons_zero, List.set_cons_succ]
    refine wpAnyH_take (i := 34) (oi := { dst := some 81, op := Go.Op.move (Go.Operand.tmp 13), type := 4, pos := "law.go:62", after := #[{ on := 33, ground := Go.Ground.guard }], guard := some (33, false) }) (v := ?_) rfl (by kernel_rfl) (by kernel_rfl) (by kernel_rfl) (fun _ _ _ h => h) (Or.inl ⟨rfl, ?_⟩) (by assumption) ?_
    rotate_left
    · intro wz hSw; (try dsimp only at hSw); go_simp; try (with_reducible rfl)
    try simp only [Act.put, List.setIfInBounds_toArray, List.set_cons_zero, List.set_cons_succ]
    refine wpAnyH_take (i := 35) (oi := { dst := some 82, op := Go.Op.unOp Go.UnOp.not 4 (Go.Operand.tmp 81), type := 4, pos := "law.go:62", after := #[{ on := 34, ground := Go.Ground.data }, { on := 33, ground := Go.Ground.guard }], guard := some (33, false) }) (v := ?_) rfl (by kernel_rfl) (by kernel_rfl) (by kernel_rfl) (fun _ _ _ h => h) (Or.inl ⟨rfl, ?_⟩) (by assumption) ?_
    rotate_left
    · intro wz hSw; (try dsimp only at hSw); go_simp; try (with_reducible rfl)
    try simp only [Act.put, List.setIfInBounds_toArray, List.set_cons_zero, List.set_cons_succ]
    refine wpAnyH_take (i := 36) (oi := { dst := some 83, op := Go.Op.move (Go.Operand.tmp 82), type := 4, pos := "law.go:62", after := #[{ on := 35, ground := Go.Ground.data }, { on := 33, ground := Go.Ground.chain }, { on := 33, ground := Go.Ground.guard }], guard := some (33, false) }) (v := ?_) rfl (by kernel_rfl) (by kernel_rfl) (by kernel_rfl) (fun _ _ _ h => h) (Or.inl ⟨rfl, ?_⟩) (by assumption) ?_
    rotate_left
    · intro wz hSw; (try dsimp only at hSw); go_simp; try (with_reducible rfl)
    try simp only [Act.put, List.setIfInBounds_toArray, List.set_cons_zero, List.set_cons_succ]
    refine wpAnyH_take (i := 37) (oi := { dst := some 84, op := Go.Op.load 46 (Go.Operand.tmp 12), type := 46, pos := "law.go:62", after := #[{ on := 36, ground := Go.Ground.guard }], guard := some (36, true) }) (v := undef) rfl (by kernel_rfl) (by kernel_rfl) (by kernel_rfl) (fun _ _ _ h => h) (Or.inr ⟨rfl, rfl⟩) (by assumption) ?_
    try simp only [Act.put, List.setIfInBounds_toArray, List.set_cons_zero, List.set_cons_succ]
    refine wpAnyH_take (i := 38) (oi := { dst := some 85, op := Go.Op.build 46 #[], type := 46, pos := "law.go:62", after := #[{ on := 36, ground := Go.Ground.guard }], guard := some (36, true) }) (v := undef) rfl (by kernel_rfl) (by kernel_rfl) (by kernel_rfl) (fun _ _ _ h => h) (Or.inr ⟨rfl, rfl⟩) (by assumption) ?_
    try simp only [Act.put, List.setIfInBounds_toArray, List.set_cons_zero, List.set_cons_succ]
    refine wpAnyH_take (i := 39) (oi := { dst := some 86, op := Go.Op.binOp Go.BinOp.neq 46 (Go.Operand.tmp 84) (Go.Operand.tmp 85) 46, type := 4, pos := "law.go:62", after := #[{ on := 37, ground := Go.Ground.data }, { on := 38, ground := Go.Ground.data }, { on := 36, ground := Go.Ground.guard }], guard := some (36, true) }) (v := undef) rfl (by kernel_rfl) (by kernel_rfl) (by kernel_rfl) (fun _ _ _ h => h) (Or.inr ⟨rfl, rfl⟩) (by assumption) ?_
    try simp only [Act.put, List.setIfInBounds_toArray, List.set_cons_zero, List.set_cons_succ]
    refine wpAnyH_take (i := 40) (oi := { dst := some 87, op := Go.Op.pick (Go.Operand.tmp 83) (Go.Operand.tmp 86) (Go.Operand.const (Go.Value.bool false)), type := 4, pos := "law.go:62", after := #[{ on := 36, ground := Go.Ground.data }, { on := 39, ground := Go.Ground.data }, { on := 33, ground := Go.Ground.guard }], guard := some (33, false) }) (v := ?_) rfl (by kernel_rfl) (by kernel_rfl) (by kernel_rfl) (fun _ _ _ h => h) (Or.inl ⟨rfl, ?_⟩) (by assumption) ?_
    rotate_left
    · intro wz hSw; (try dsimp only at hSw); go_simp; try (with_reducible rfl)
    try simp only [Act.put, List.setIfInBounds_toArray, List.set_cons_zero, List.set_cons_succ]
    refine wpAnyH_take (i := 41) (oi := { dst := some 88, op := Go.Op.pick (Go.Operand.tmp 80) (Go.Operand.const (Go.Value.bool true)) (Go.Operand.tmp 87), type := 4, pos := "law.go:62", after := #[{ on := 33, ground := Go.Ground.data }, { on := 40, ground := Go.Ground.data }], guard := none }) (v := ?_) rfl (by kernel_rfl) (by kernel_rfl) (by kernel_rfl) (fun _ _ _ h => h) (Or.inl ⟨rfl, ?_⟩) (by assumption) ?_
    rotate_left
    · intro wz hSw; (try dsimp only at hSw); go_simp; try (with_reducible rfl)
    try simp only [Act.put, List.setIfInBounds_toArray, List.set_cons_zero, List.set_cons_succ]
    refine wpAnyH_done (by kernel_rfl) ?_ _
    clear hHeld p0_z p1_z p0_0 p0_1 p0_2 p0_3 p0_4 p0_5 p0_6 p0_7 p1_0 p1_1 p1_2 p1_3 p1_4 p1_5 p1_6 p1_7 p1_8
    go_wp2_with fail
    refine (HDR.out _ Ap cp _ HOp.out).mono ?_
    rintro e v7 ⟨Ad, cd, rfl, ho, hb⟩
    have HD1 := Lib.hid ho
    clear ho
    replace HO := Lib.hid (rown_below HO.out hb)
    replace HOp := Lib.hid (rown_below HOp.out hb)
    replace HB := Lib.hid (HB.out.trans (hb.mono HB.out.size))
    clear hb
    go_wp2_with fail
    refine (HF2.out _ Ad cd _ HD1.out).mono ?_
    rintro e v8 ⟨Ae, ce, rfl, ho, hb⟩
    have HD2 := Lib.hid ho
    clear ho
    replace HO := Lib.hid (rown_below HO.out hb)
    replace HOp := Lib.hid (rown_below HOp.out hb)
    replace HB := Lib.hid (HB.out.trans (hb.mono HB.out.size))
    clear hb
    go_wp2_with fail
    refine (HRD.out _ Ay cy _ HO.out).mono ?_
    rintro e v9 ⟨Ag, cg, rfl, ho, hb⟩
    have HD3 := Lib.hid ho
    clear ho
    replace HO := Lib.hid (rown_below HO.out hb)
    replace HOp := Lib.hid (rown_below HOp.out hb)
    replace HD2 := Lib.hid (rown_below HD2.out hb)
    replace HB := Lib.hid (HB.out.trans (hb.mono HB.out.size))
    clear hb
    go_wp2_with fail
    refine (HS2.out _ Ae ce _ Ag cg _ HD2.out HD3.out).mono ?_
    rintro e v10 ⟨rfl, hb⟩
    replace HO := Lib.hid (rown_below HO.out hb)
    replace HOp := Lib.hid (rown_below HOp.out hb)
    replace HB := Lib.hid (HB.out.trans (hb.mono HB.out.size))
    clear hb
    go_wp2_with fail
    refine (HF3.out _ Ap cp _ HOp.out).mono ?_
    rintro e v11 ⟨Ah, ch, rfl, ho, hb⟩
    have HD4 := Lib.hid ho
    clear ho
    replace HO := Lib.hid (rown_below HO.out hb)
    replace HB := Lib.hid (HB.out.trans (hb.mono HB.out.size))
    clear hb
    go_wp2_with fail
    refine (HS3.out _ Ah ch _ Ay cy _ HD4.out HO.out).mono ?_
    rintro e v12 ⟨rfl, hb⟩
    replace HB := Lib.hid (HB.out.trans (hb.mono HB.out.size))
    clear hb
    go_wp2
    go_ret
    exact ⟨rfl, HB.out⟩
theorem storePuts_walk (A : Option Addr) (n c : Nat) (zs : List Itm) (i : Itm) (kk : Int) (w : World) (hz : RowAt cellsI 9 w w.heap.size A n zs) (_hc : n ≤ c) (_hn : c ≤ 9223372036854775807) :
    Calls Try.prog 4 #[.slice A n c, refV i, .int .i64 kk] w fun e w' => e = .returned (.bool true) ∧ Below w.heap.size w w' := storePuts_core A n c zs i kk w hz
end Go.Proofs.Ytgmbfejphggidaa
