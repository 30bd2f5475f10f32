/- store.Right. -/
import Derived.Test.YtpaiigminmakgaaPe
namespace Go.Proofs.Ytpaiigminmakgaa
open Go.RowKit

def rightFrom : Option Int → List Itm → Bool
  | _, [] => true
  | p, z :: r => rightI z && ((match p with | none => true | some q => decide (q < z.key)) && rightFrom (some z.key) r)
def rightS (zs : List Itm) : Bool := rightFrom none zs
def prevK (zs : List Itm) (k : Nat) : Option Int := if k = 0 then none else (zs[k - 1]?).map (·.key)
theorem right_step {zs : List Itm} {k : Nat} {z : Itm} (h : zs[k]? = some z) : rightFrom (prevK zs k) (zs.drop k) = (rightI z && ((match prevK zs k with | none => true | some q => decide (q < z.key)) && rightFrom (prevK zs (k + 1)) (zs.drop (k + 1)))) := by
  obtain ⟨hk, rfl⟩ := List.getElem?_eq_some_iff.mp h
  rw [List.drop_eq_getElem_cons hk]
  have e : prevK zs (k + 1) = some zs[k].key := by unfold prevK; simp [List.getElem?_eq_getElem hk]
  rw [e]
  rfl
theorem right_all {p : Option Int} {zs : List Itm} (h : rightFrom p zs = true) : (∀ z ∈ zs, rightI z = true) ∧ Keys zs ∧ ∀ q, p = some q → ∀ z ∈ zs, q < z.key := by
  induction zs generalizing p with
  | nil => exact ⟨fun _ h => by simp at h, List.Pairwise.nil, fun _ _ _ h => by simp at h⟩
  | cons x r ih =>
    unfold rightFrom at h
    simp only [Bool.and_eq_true] at h
    obtain ⟨h1, h2, h3⟩ := h
    obtain ⟨g1, g2, g3⟩ := ih h3
    have g4 := g3 x.key rfl
    refine ⟨fun z hz => ?_, List.pairwise_cons.mpr ⟨g4, g2⟩, fun q hq z hz => ?_⟩
    · rcases List.mem_cons.mp hz with rfl | hz
      · exact h1
      · exact g1 z hz
    · subst hq
      have h2' : q < x.key := by simpa using h2
      rcases List.mem_cons.mp hz with rfl | hz
      · exact h2'
      · have := g4 z hz; omega
theorem all_right {p : Option Int} {zs : List Itm} (h1 : ∀ z ∈ zs, rightI z = true) (h2 : Keys zs) (h3 : ∀ q, p = some q → ∀ z ∈ zs, q < z.key) : rightFrom p zs = true := by
  induction zs generalizing p with
  | nil => rfl
  | cons x r ih =>
    unfold rightFrom
    obtain ⟨g4, g2⟩ := List.pairwise_cons.mp h2
    rw [h1 x (by simp), ih (fun z hz => h1 z (by simp [hz])) g2 (fun q hq z hz => by injection hq with hq; subst hq; exact g4 z hz)]
    rcases p with _ | q
    · rfl
    · have := h3 q rfl x (by simp)
      simpa using this
set_option maxRecDepth 100000 in
set_option maxHeartbeats 4000000 in
theorem rightS_any (A : Option Addr) (n c : Nat) (zs : List Itm) (B : Nat) (w : World) (hB : B ≤ w.heap.size) (hz : RowAt cellsP 8 w B A n zs) (hn : n ≤ 1099511627776) (hsm : ∀ z ∈ zs, z.x.natAbs < 2 ^ 53 ∧ z.y.natAbs < 2 ^ 53) :
    Calls Try.prog 10 #[.slice A n c] w fun e w' => e = .returned (.bool (rightS zs)) ∧ Below w.heap.size w w' := by
  have HZ := Lib.hid hz
  have HL := Lib.hid hz.1
  have HM := Lib.hid hsm
  clear hz hsm
  generalize hRS : rightS zs = RS
  have HRS : Hid (rightFrom (prevK zs 0) (zs.drop 0) = RS) := hRS
  clear hRS
  go_enter Try.func10, Try.ntmps10
  go_wp2
  go_loopw [7] (fun i wr => ∃ k : Nat, k ≤ n ∧ i = .int .i64 k ∧ Hid (rightFrom (prevK zs k) (zs.drop k) = RS) ∧ Hid (Below w.heap.size w wr)) (fun i _ => n - (intOf i).toNat)
  case atStart => exact ⟨0, by omega, rfl, HRS, Below.refl _ _⟩
  case round =>
    clear HRS
    obtain ⟨k, hk, rfl, HRS, HB⟩ := hrel
    by_cases hlt : k < n
    · obtain ⟨blk, off, rfl, hbB, z, hzk, hcell⟩ := HZ.out.get hlt
      obtain ⟨e0, e1, e2, e3, e4, e5, e6, e7⟩ := cellsP_at hcell
      replace e0 := ((HB.out.mono hB).cell (p := ⟨blk, off + k * 8, none⟩) hbB).trans e0
      replace e1 := ((HB.out.mono hB).cell (p := ⟨blk, off + k * 8 + 1, none⟩) hbB).trans e1
      replace e2 := ((HB.out.mono hB).cell (p := ⟨blk, off + k * 8 + 2, none⟩) hbB).trans e2
      replace e3 := ((HB.out.mono hB).cell (p := ⟨blk, off + k * 8 + 3, none⟩) hbB).trans e3
      replace e4 := ((HB.out.mono hB).cell (p := ⟨blk, off + k * 8 + 4, none⟩) hbB).trans e4
      replace e5 := ((HB.out.mono hB).cell (p := ⟨blk, off + k * 8 + 5, none⟩) hbB).trans e5
      replace e6 := ((HB.out.mono hB).cell (p := ⟨blk, off + k * 8 + 6, none⟩) hbB).trans e6
      replace e7 := ((HB.out.mono hB).cell (p := ⟨blk, off + k * 8 + 7, none⟩) hbB).trans e7
      have hi1 : (k : Int) < n := by omega
      have hst := right_step hzk
      rw [HRS.out] at hst
      have HST := Lib.hid hst
      have hzm := HM.out z (List.mem_of_getElem? hzk)
      have HIR := Lib.hid (itemRight_any z hzm.1 hzm.2)
      have hbl : blk < wr.heap.size := by have := HB.out.size; omega
      generalize rightI z = R at *
      clear hcell hst hzm
      cases R
      · have HF : Hid (RS = false) := by show _ = _; rw [HST.out]; rfl
        obtain ⟨key, ⟨d, a, s⟩, dead, x, y, text, held⟩ := z
        unfold itmV at HIR
        simp only at e0 e1 e2 e3 e4 e5 e6 e7 HIR HST
        generalize fl x = fx at *
        generalize fl y = fy at *
        have hst := store_complex
        go_upto_region 4 with fail
        have k0 : (wr.alloc (.cells #[.int .i64 key, .string d, .int .i64 a, .int .i64 s, .bool dead, .complex .f64 fx fy, .string text, .bool held] 46)).cell? ⟨wr.heap.size, 0, none⟩ = some (.int .i64 key) := by simp [go_sem]
        have kf0 : (wr.alloc (.cells #[.int .i64 key, .string d, .int .i64 a, .int .i64 s, .bool dead, .complex .f64 fx fy, .string text, .bool held] 46)).frozen? ⟨wr.heap.size, 0, none⟩ = false := by simp [go_sem]
        have k1 : (wr.alloc (.cells #[.int .i64 key, .string d, .int .i64 a, .int .i64 s, .bool dead, .complex .f64 fx fy, .string text, .bool held] 46)).cell? ⟨wr.heap.size, 1, none⟩ = some (.string d) := by simp [go_sem]
        have kf1 : (wr.alloc (.cells #[.int .i64 key, .string d, .int .i64 a, .int .i64 s, .bool dead, .complex .f64 fx fy, .string text, .bool held] 46)).frozen? ⟨wr.heap.size, 1, none⟩ = false := by simp [go_sem]
        have k2 : (wr.alloc (.cells #[.int .i64 key, .string d, .int .i64 a, .int .i64 s, .bool dead, .complex .f64 fx fy, .string text, .bool held] 46)).cell? ⟨wr.heap.size, 2, none⟩ = some (.int .i64 a) := by simp [go_sem]
        have kf2 : (wr.alloc (.cells #[.int .i64 key, .string d, .int .i64 a, .int .i64 s, .bool dead, .complex .f64 fx fy, .string text, .bool held] 46)).frozen? ⟨wr.heap.size, 2, none⟩ = false := by simp [go_sem]
        have k3 : (wr.alloc (.cells #[.int .i64 key, .string d, .int .i64 a, .int .i64 s, .bool dead, .complex .f64 fx fy, .string text, .bool held] 46)).cell? ⟨wr.heap.size, 3, none⟩ = some (.int .i64 s) := by simp [go_sem]
        have kf3 : (wr.alloc (.cells #[.int .i64 key, .string d, .int .i64 a, .int .i64 s, .bool dead, .complex .f64 fx fy, .string text, .bool held] 46)).frozen? ⟨wr.heap.size, 3, none⟩ = false := by simp [go_sem]
        have k4 : (wr.alloc (.cells #[.int .i64 key, .string d, .int .i64 a, .int .i64 s, .bool dead, .complex .f64 fx fy, .string text, .bool held] 46)).cell? ⟨wr.heap.size, 4, none⟩ = some (.bool dead) := by simp [go_sem]
        have kf4 : (wr.alloc (.cells #[.int .i64 key, .string d, .int .i64 a, .int .i64 s, .bool dead, .complex .f64 fx fy, .string text, .bool held] 46)).frozen? ⟨wr.heap.size, 4, none⟩ = false := by simp [go_sem]
        have k5 : (wr.alloc (.cells #[.int .i64 key, .string d, .int .i64 a, .int .i64 s, .bool dead, .complex .f64 fx fy, .string text, .bool held] 46)).cell? ⟨wr.heap.size, 5, none⟩ = some (.complex .f64 fx fy) := by simp [go_sem]
        have kf5 : (wr.alloc (.cells #[.int .i64 key, .string d, .int .i64 a, .int .i64 s, .bool dead, .complex .f64 fx fy, .string text, .bool held] 46)).frozen? ⟨wr.heap.size, 5, none⟩ = false := by simp [go_sem]
        have k6 : (wr.alloc (.cells #[.int .i64 key, .string d, .int .i64 a, .int .i64 s, .bool dead, .complex .f64 fx fy, .string text, .bool held] 46)).cell? ⟨wr.heap.size, 6, none⟩ = some (.string text) := by simp [go_sem]
        have kf6 : (wr.alloc (.cells #[.int .i64 key, .string d, .int .i64 a, .int .i64 s, .bool dead, .complex .f64 fx fy, .string text, .bool held] 46)).frozen? ⟨wr.heap.size, 6, none⟩ = false := by simp [go_sem]
        have k7 : (wr.alloc (.cells #[.int .i64 key, .string d, .int .i64 a, .int .i64 s, .bool dead, .complex .f64 fx fy, .string text, .bool held] 46)).cell? ⟨wr.heap.size, 7, none⟩ = some (.bool held) := by simp [go_sem]
        have kf7 : (wr.alloc (.cells #[.int .i64 key, .string d, .int .i64 a, .int .i64 s, .bool dead, .complex .f64 fx fy, .string text, .bool held] 46)).frozen? ⟨wr.heap.size, 7, none⟩ = false := by simp [go_sem]
        have kz : wr.heap.size < (wr.alloc (.cells #[.int .i64 key, .string d, .int .i64 a, .int .i64 s, .bool dead, .complex .f64 fx fy, .string text, .bool held] 46)).heap.size := by simp <;> omega
        have hb0 : Below wr.heap.size wr (wr.alloc (.cells #[.int .i64 key, .string d, .int .i64 a, .int .i64 s, .bool dead, .complex .f64 fx fy, .string text, .bool held] 46)) := (Below.refl _ _).alloc (Nat.le_refl _) _
        replace HB := Lib.hid (HB.out.trans (hb0.mono HB.out.size))
        generalize (wr.alloc (.cells #[.int .i64 key, .string d, .int .i64 a, .int .i64 s, .bool dead, .complex .f64 fx fy, .string text, .bool held] 46)) = W1 at *
        generalize wr.heap.size = X at *
        refine wp_region_held_drew (S := fun w' => w'.cell? ⟨X, 0, none⟩ = some (.int .i64 key) ∧ w'.cell? ⟨X, 1, none⟩ = some (.string d) ∧ w'.cell? ⟨X, 2, none⟩ = some (.int .i64 a) ∧ w'.cell? ⟨X, 3, none⟩ = some (.int .i64 s) ∧ w'.cell? ⟨X, 4, none⟩ = some (.bool dead) ∧ w'.cell? ⟨X, 5, none⟩ = some (.complex .f64 fx fy) ∧ w'.cell? ⟨X, 6, none⟩ = some (.string text) ∧ w'.cell? ⟨X, 7, none⟩ = some (.bool held)) (by kernel_rfl) ⟨k0, k1, k2, k3, k4, k5, k6, k7⟩ (fun hHeld => ?_)
        refine wpAnyH_take (i := 0) (oi := { dst := some 12, op := Go.Op.load 46 (Go.Operand.tmp 4), type := 46, pos := "store.go:18", after := #[], guard := none }) (v := ?_) rfl (by kernel_rfl) (by kernel_rfl) (by kernel_rfl) (fun _ _ _ h => h) (Or.inl ⟨rfl, ?_⟩) (by assumption) ?_
        rotate_left
        · intro wz hSw; (try dsimp only at hSw); go_simp; try (with_reducible rfl)
        try simp only [Act.put, List.setIfInBounds_toArray, List.set_cons_zero, List.set_cons_succ]
        refine wpAnyH_ready (rs := [1]) (by kernel_rfl) (by simp) ?_
        refine (AllReadyH.cons (o := { dst := some 13, op := Go.Op.call { callee := Go.Callee.value (Go.Operand.func 33), args := #[Go.Operand.tmp 12], argTypes := #[46] }, type := 4, pos := "store.go:18", after := #[{ on := 0, ground := Go.Ground.data }], guard := none }) rfl (fun K hK => ?_) AllReadyH.nil)
        go_simp
        go_at_call 33
        refine (HIR.out _).mono ?_
        rintro e v ⟨rfl, hb⟩
        replace k0 := (hb.cell (p := ⟨X, 0, none⟩) kz).trans k0
        replace kf0 := (hb.frozen (p := ⟨X, 0, none⟩) kz).trans kf0
        replace k1 := (hb.cell (p := ⟨X, 1, none⟩) kz).trans k1
        replace kf1 := (hb.frozen (p := ⟨X, 1, none⟩) kz).trans kf1
        replace k2 := (hb.cell (p := ⟨X, 2, none⟩) kz).trans k2
        replace kf2 := (hb.frozen (p := ⟨X, 2, none⟩) kz).trans kf2
        replace k3 := (hb.cell (p := ⟨X, 3, none⟩) kz).trans k3
        replace kf3 := (hb.frozen (p := ⟨X, 3, none⟩) kz).trans kf3
        replace k4 := (hb.cell (p := ⟨X, 4, none⟩) kz).trans k4
        replace kf4 := (hb.frozen (p := ⟨X, 4, none⟩) kz).trans kf4
        replace k5 := (hb.cell (p := ⟨X, 5, none⟩) kz).trans k5
        replace kf5 := (hb.frozen (p := ⟨X, 5, none⟩) kz).trans kf5
        replace k6 := (hb.cell (p := ⟨X, 6, none⟩) kz).trans k6
        replace kf6 := (hb.frozen (p := ⟨X, 6, none⟩) kz).trans kf6
        replace k7 := (hb.cell (p := ⟨X, 7, none⟩) kz).trans k7
        replace kf7 := (hb.frozen (p := ⟨X, 7, none⟩) kz).trans kf7
        replace kz := Nat.lt_of_lt_of_le kz hb.size
        replace HB := Lib.hid (below_via HB.out hb HB.out.size ⟨rfl, rfl, rfl, rfl⟩)
        clear hb
        refine hK.out _ _ ⟨k0, k1, k2, k3, k4, k5, k6, k7⟩ (fun hHeld => ?_)
        clear hK K
        try simp only [Act.put, List.setIfInBounds_toArray, List.set_cons_zero, List.set_cons_succ]
        refine wpAnyH_take (i := 2) (oi := { dst := some 14, op := Go.Op.unOp Go.UnOp.not 4 (Go.Operand.tmp 13), type := 4, pos := "store.go:18", after := #[{ on := 1, ground := Go.Ground.data }], guard := none }) (v := ?_) rfl (by kernel_rfl) (by kernel_rfl) (by kernel_rfl) (fun _ _ _ h => h) (Or.inl ⟨rfl, ?_⟩) (by assumption) ?_
        rotate_left
        · intro wz hSw; (try dsimp only at hSw); go_simp; try (with_reducible rfl)
        try simp only [Act.put, List.setIfInBounds_toArray, List.set_cons_zero, List.set_cons_succ]
        refine wpAnyH_take (i := 3) (oi := { dst := some 15, op := Go.Op.move (Go.Operand.tmp 14), type := 4, pos := "store.go:18", after := #[{ on := 2, ground := Go.Ground.data }, { on := 1, ground := Go.Ground.chain }], guard := none }) (v := ?_) rfl (by kernel_rfl) (by kernel_rfl) (by kernel_rfl) (fun _ _ _ h => h) (Or.inl ⟨rfl, ?_⟩) (by assumption) ?_
        rotate_left
        · intro wz hSw; (try dsimp only at hSw); go_simp; try (with_reducible rfl)
        try simp only [Act.put, List.setIfInBounds_toArray, List.set_cons_zero, List.set_cons_succ]
        refine wpAnyH_take (i := 4) (oi := { dst := some 16, op := Go.Op.move (Go.Operand.tmp 3), type := 3, pos := "store.go:18", after := #[{ on := 3, ground := Go.Ground.guard }], guard := some (3, false) }) (v := undef) rfl (by kernel_rfl) (by kernel_rfl) (by kernel_rfl) (fun _ _ _ h => h) (Or.inr ⟨rfl, rfl⟩) (by assumption) ?_
        try simp only [Act.put, List.setIfInBounds_toArray, List.set_cons_zero, List.set_cons_succ]
        refine wpAnyH_take (i := 5) (oi := { dst := some 17, op := Go.Op.binOp Go.BinOp.gtr 3 (Go.Operand.tmp 16) (Go.Operand.const (Go.Value.int Go.IntKind.i64 0)) 3, type := 4, pos := "store.go:18", after := #[{ on := 4, ground := Go.Ground.data }, { on := 3, ground := Go.Ground.guard }], guard := some (3, false) }) (v := undef) rfl (by kernel_rfl) (by kernel_rfl) (by kernel_rfl) (fun _ _ _ h => h) (Or.inr ⟨rfl, rfl⟩) (by assumption) ?_
        try simp only [Act.put, List.setIfInBounds_toArray, List.set_cons_zero, List.set_cons_succ]
        refine wpAnyH_take (i := 6) (oi := { dst := some 18, op := Go.Op.move (Go.Operand.tmp 17), type := 4, pos := "store.go:18", after := #[{ on := 5, ground := Go.Ground.data }, { on := 3, ground := Go.Ground.chain }, { on := 3, ground := Go.Ground.guard }], guard := some (3, false) }) (v := undef) rfl (by kernel_rfl) (by kernel_rfl) (by kernel_rfl) (fun _ _ _ h => h) (Or.inr ⟨rfl, rfl⟩) (by assumption) ?_
        try simp only [Act.put, List.setIfInBounds_toArray, List.set_cons_zero, List.set_cons_succ]
        refine wpAnyH_take (i := 7) (oi := { dst := some 19, op := Go.Op.move (Go.Operand.tmp 0), type := 38, pos := "store.go:18", after := #[{ on := 6, ground := Go.Ground.guard }], guard := some (6, true) }) (v := undef) rfl (by kernel_rfl) (by kernel_rfl) (by kernel_rfl) (fun _ _ _ h => h) (Or.inr ⟨rfl, rfl⟩) (by assumption) ?_
        try simp only [Act.put, List.setIfInBounds_toArray, List.set_cons_zero, List.set_cons_succ]
        refine wpAnyH_take (i := 8) (oi := { dst := some 20, op := Go.Op.move (Go.Operand.tmp 3), type := 3, pos := "store.go:18", after := #[{ on := 6, ground := Go.Ground.guard }], guard := some (6, true) }) (v := undef) rfl (by kernel_rfl) (by kernel_rfl) (by kernel_rfl) (fun _ _ _ h => h) (Or.inr ⟨rfl, rfl⟩) (by assumption) ?_
        try simp only [Act.put, List.setIfInBounds_toArray, List.set_cons_zero, List.set_cons_succ]
        refine wpAnyH_take (i := 9) (oi := { dst := some 21, op := Go.Op.binOp Go.BinOp.sub 3 (Go.Operand.tmp 20) (Go.Operand.const (Go.Value.int Go.IntKind.i64 1)) 3, type := 3, pos := "store.go:18", after := #[{ on := 8, ground := Go.Ground.data }, { on := 6, ground := Go.Ground.guard }], guard := some (6, true) }) (v := undef) rfl (by kernel_rfl) (by kernel_rfl) (by kernel_rfl) (fun _ _ _ h => h) (Or.inr ⟨rfl, rfl⟩) (by assumption) ?_
        try simp only [Act.put, List.setIfInBounds_toArray, List.set_cons_zero, List.set_cons_succ]
        refine wpAnyH_take (i := 10) (oi := { dst := some 22, op := Go.Op.indexAddr 38 (Go.Operand.tmp 19) (Go.Operand.tmp 21), type := 0, pos := "store.go:18", after := #[{ on := 7, ground := Go.Ground.data }, { on := 9, ground := Go.Ground.data }, { on := 6, ground := Go.Ground.guard }], guard := some (6, true) }) (v := undef) rfl (by kernel_rfl) (by kernel_rfl) (by kernel_rfl) (fun _ _ _ h => h) (Or.inr ⟨rfl, rfl⟩) (by assumption) ?_
        try simp only [Act.put, List.setIfInBounds_toArray, List.set_cons_zero, List.set_cons_succ]
        refine wpAnyH_take (i := 11) (oi := { dst := some 23, op := Go.Op.fieldAddr 46 (Go.Operand.tmp 22) 0, type := 0, pos := "store.go:18", after := #[{ on := 10, ground := Go.Ground.data }, { on := 6, ground := Go.Ground.guard }], guard := some (6, true) }) (v := undef) rfl (by kernel_rfl) (by kernel_rfl) (by kernel_rfl) (fun _ _ _ h => h) (Or.inr ⟨rfl, rfl⟩) (by assumption) ?_
        try simp only [Act.put, List.setIfInBounds_toArray, List.set_cons_zero, List.set_cons_succ]
        refine wpAnyH_take (i := 12) (oi := { dst := some 24, op := Go.Op.load 3 (Go.Operand.tmp 23), type := 3, pos := "store.go:18", after := #[{ on := 11, ground := Go.Ground.data }, { on := 6, ground := Go.Ground.guard }], guard := some (6, true) }) (v := undef) rfl (by kernel_rfl) (by kernel_rfl) (by kernel_rfl) (fun _ _ _ h => h) (Or.inr ⟨rfl, rfl⟩) (by assumption) ?_
        try simp only [Act.put, List.setIfInBounds_toArray, List.set_cons_zero, List.set_cons_succ]
        refine wpAnyH_take (i := 13) (oi := { dst := some 25, op := Go.Op.fieldAddr 46 (Go.Operand.tmp 4) 0, type := 0, pos := "store.go:18", after := #[{ on := 6, ground := Go.Ground.guard }], guard := some (6, true) }) (v := undef) rfl (by kernel_rfl) (by kernel_rfl) (by kernel_rfl) (fun _ _ _ h => h) (Or.inr ⟨rfl, rfl⟩) (by assumption) ?_
        try simp only [Act.put, List.setIfInBounds_toArray, List.set_cons_zero, List.set_cons_succ]
        refine wpAnyH_take (i := 14) (oi := { dst := some 26, op := Go.Op.load 3 (Go.Operand.tmp 25), type := 3, pos := "store.go:18", after := #[{ on := 13, ground := Go.Ground.data }, { on := 6, ground := Go.Ground.guard }], guard := some (6, true) }) (v := undef) rfl (by kernel_rfl) (by kernel_rfl) (by kernel_rfl) (fun _ _ _ h => h) (Or.inr ⟨rfl, rfl⟩) (by assumption) ?_
        try simp only [Act.put, List.setIfInBounds_toArray, List.set_cons_zero, List.set_cons_succ]
        refine wpAnyH_take (i := 15) (oi := { dst := some 27, op := Go.Op.binOp Go.BinOp.geq 3 (Go.Operand.tmp 24) (Go.Operand.tmp 26) 3, type := 4, pos := "store.go:18", after := #[{ on := 12, ground := Go.Ground.data }, { on := 14, ground := Go.Ground.data }, { on := 6, ground := Go.Ground.guard }], guard := some (6, true) }) (v := undef) rfl (by kernel_rfl) (by kernel_rfl) (by kernel_rfl) (fun _ _ _ h => h) (Or.inr ⟨rfl, rfl⟩) (by assumption) ?_
        try simp only [Act.put, List.setIfInBounds_toArray, List.set_cons_zero, List.set_cons_succ]
        refine wpAnyH_take (i := 16) (oi := { dst := some 28, op := Go.Op.pick (Go.Operand.tmp 18) (Go.Operand.tmp 27) (Go.Operand.const (Go.Value.bool false)), type := 4, pos := "store.go:18", after := #[{ on := 6, ground := Go.Ground.data }, { on := 15, ground := Go.Ground.data }, { on := 3, ground := Go.Ground.guard }], guard := some (3, false) }) (v := undef) rfl (by kernel_rfl) (by kernel_rfl) (by kernel_rfl) (fun _ _ _ h => h) (Or.inr ⟨rfl, rfl⟩) (by assumption) ?_
        try simp only [Act.put, List.setIfInBounds_toArray, List.set_cons_zero, List.set_cons_succ]
        refine wpAnyH_take (i := 17) (oi := { dst := some 29, op := Go.Op.pick (Go.Operand.tmp 15) (Go.Operand.const (Go.Value.bool true)) (Go.Operand.tmp 28), type := 4, pos := "store.go:18", after := #[{ on := 3, ground := Go.Ground.data }, { on := 16, ground := Go.Ground.data }], guard := none }) (v := ?_) rfl (by kernel_rfl) (by kernel_rfl) (by kernel_rfl) (fun _ _ _ h => h) (Or.inl ⟨rfl, ?_⟩) (by assumption) ?_
        rotate_left
        · intro wz hSw; (try dsimp only at hSw); go_simp; try (with_reducible rfl)
        try simp only [Act.put, List.setIfInBounds_toArray, List.set_cons_zero, List.set_cons_succ]
        refine wpAnyH_done (by kernel_rfl) ?_ _
        go_wp2
        go_ret
        exact ⟨ret_bool HF.out.symm, HB.out⟩
      · by_cases h0 : k = 0
        · have hpv : prevK zs k = none := by unfold prevK; rw [if_pos h0]
          rw [hpv] at HST
          have HN : Hid (rightFrom (prevK zs (k + 1)) (zs.drop (k + 1)) = RS) := by show _ = _; rw [HST.out]; simp
          clear hpv
          have hk0 : decide (0 < k) = false := by simp; omega
          clear h0
          obtain ⟨key, ⟨d, a, s⟩, dead, x, y, text, held⟩ := z
          unfold itmV at HIR
          simp only at e0 e1 e2 e3 e4 e5 e6 e7 HIR HST
          generalize fl x = fx at *
          generalize fl y = fy at *
          have hst := store_complex
          go_upto_region 4 with fail
          have k0 : (wr.alloc (.cells #[.int .i64 key, .string d, .int .i64 a, .int .i64 s, .bool dead, .complex .f64 fx fy, .string text, .bool held] 46)).cell? ⟨wr.heap.size, 0, none⟩ = some (.int .i64 key) := by simp [go_sem]
          have kf0 : (wr.alloc (.cells #[.int .i64 key, .string d, .int .i64 a, .int .i64 s, .bool dead, .complex .f64 fx fy, .string text, .bool held] 46)).frozen? ⟨wr.heap.size, 0, none⟩ = false := by simp [go_sem]
          have k1 : (wr.alloc (.cells #[.int .i64 key, .string d, .int .i64 a, .int .i64 s, .bool dead, .complex .f64 fx fy, .string text, .bool held] 46)).cell? ⟨wr.heap.size, 1, none⟩ = some (.string d) := by simp [go_sem]
          have kf1 : (wr.alloc (.cells #[.int .i64 key, .string d, .int .i64 a, .int .i64 s, .bool dead, .complex .f64 fx fy, .string text, .bool held] 46)).frozen? ⟨wr.heap.size, 1, none⟩ = false := by simp [go_sem]
          have k2 : (wr.alloc (.cells #[.int .i64 key, .string d, .int .i64 a, .int .i64 s, .bool dead, .complex .f64 fx fy, .string text, .bool held] 46)).cell? ⟨wr.heap.size, 2, none⟩ = some (.int .i64 a) := by simp [go_sem]
          have kf2 : (wr.alloc (.cells #[.int .i64 key, .string d, .int .i64 a, .int .i64 s, .bool dead, .complex .f64 fx fy, .string text, .bool held] 46)).frozen? ⟨wr.heap.size, 2, none⟩ = false := by simp [go_sem]
          have k3 : (wr.alloc (.cells #[.int .i64 key, .string d, .int .i64 a, .int .i64 s, .bool dead, .complex .f64 fx fy, .string text, .bool held] 46)).cell? ⟨wr.heap.size, 3, none⟩ = some (.int .i64 s) := by simp [go_sem]
          have kf3 : (wr.alloc (.cells #[.int .i64 key, .string d, .int .i64 a, .int .i64 s, .bool dead, .complex .f64 fx fy, .string text, .bool held] 46)).frozen? ⟨wr.heap.size, 3, none⟩ = false := by simp [go_sem]
          have k4 : (wr.alloc (.cells #[.int .i64 key, .string d, .int .i64 a, .int .i64 s, .bool dead, .complex .f64 fx fy, .string text, .bool held] 46)).cell? ⟨wr.heap.size, 4, none⟩ = some (.bool dead) := by simp [go_sem]
          have kf4 : (wr.alloc (.cells #[.int .i64 key, .string d, .int .i64 a, .int .i64 s, .bool dead, .complex .f64 fx fy, .string text, .bool held] 46)).frozen? ⟨wr.heap.size, 4, none⟩ = false := by simp [go_sem]
          have k5 : (wr.alloc (.cells #[.int .i64 key, .string d, .int .i64 a, .int .i64 s, .bool dead, .complex .f64 fx fy, .string text, .bool held] 46)).cell? ⟨wr.heap.size, 5, none⟩ = some (.complex .f64 fx fy) := by simp [go_sem]
          have kf5 : (wr.alloc (.cells #[.int .i64 key, .string d, .int .i64 a, .int .i64 s, .bool dead, .complex .f64 fx fy, .string text, .bool held] 46)).frozen? ⟨wr.heap.size, 5, none⟩ = false := by simp [go_sem]
          have k6 : (wr.alloc (.cells #[.int .i64 key, .string d, .int .i64 a, .int .i64 s, .bool dead, .complex .f64 fx fy, .string text, .bool held] 46)).cell? ⟨wr.heap.size, 6, none⟩ = some (.string text) := by simp [go_sem]
          have kf6 : (wr.alloc (.cells #[.int .i64 key, .string d, .int .i64 a, .int .i64 s, .bool dead, .complex .f64 fx fy, .string text, .bool held] 46)).frozen? ⟨wr.heap.size, 6, none⟩ = false := by simp [go_sem]
          have k7 : (wr.alloc (.cells #[.int .i64 key, .string d, .int .i64 a, .int .i64 s, .bool dead, .complex .f64 fx fy, .string text, .bool held] 46)).cell? ⟨wr.heap.size, 7, none⟩ = some (.bool held) := by simp [go_sem]
          have kf7 : (wr.alloc (.cells #[.int .i64 key, .string d, .int .i64 a, .int .i64 s, .bool dead, .complex .f64 fx fy, .string text, .bool held] 46)).frozen? ⟨wr.heap.size, 7, none⟩ = false := by simp [go_sem]
          have kz : wr.heap.size < (wr.alloc (.cells #[.int .i64 key, .string d, .int .i64 a, .int .i64 s, .bool dead, .complex .f64 fx fy, .string text, .bool held] 46)).heap.size := by simp <;> omega
          have hb0 : Below wr.heap.size wr (wr.alloc (.cells #[.int .i64 key, .string d, .int .i64 a, .int .i64 s, .bool dead, .complex .f64 fx fy, .string text, .bool held] 46)) := (Below.refl _ _).alloc (Nat.le_refl _) _
          replace HB := Lib.hid (HB.out.trans (hb0.mono HB.out.size))
          generalize (wr.alloc (.cells #[.int .i64 key, .string d, .int .i64 a, .int .i64 s, .bool dead, .complex .f64 fx fy, .string text, .bool held] 46)) = W1 at *
          generalize wr.heap.size = X at *
          refine wp_region_held_drew (S := fun w' => w'.cell? ⟨X, 0, none⟩ = some (.int .i64 key) ∧ w'.cell? ⟨X, 1, none⟩ = some (.string d) ∧ w'.cell? ⟨X, 2, none⟩ = some (.int .i64 a) ∧ w'.cell? ⟨X, 3, none⟩ = some (.int .i64 s) ∧ w'.cell? ⟨X, 4, none⟩ = some (.bool dead) ∧ w'.cell? ⟨X, 5, none⟩ = some (.complex .f64 fx fy) ∧ w'.cell? ⟨X, 6, none⟩ = some (.string text) ∧ w'.cell? ⟨X, 7, none⟩ = some (.bool held)) (by kernel_rfl) ⟨k0, k1, k2, k3, k4, k5, k6, k7⟩ (fun hHeld => ?_)
          refine wpAnyH_take (i := 0) (oi := { dst := some 12, op := Go.Op.load 46 (Go.Operand.tmp 4), type := 46, pos := "store.go:18", after := #[], guard := none }) (v := ?_) rfl (by kernel_rfl) (by kernel_rfl) (by kernel_rfl) (fun _ _ _ h => h) (Or.inl ⟨rfl, ?_⟩) (by assumption) ?_
          rotate_left
          · intro wz hSw; (try dsimp only at hSw); go_simp; try (with_reducible rfl)
          try simp only [Act.put, List.setIfInBounds_toArray, List.set_cons_zero, List.set_cons_succ]
          refine wpAnyH_ready (rs := [1]) (by kernel_rfl) (by simp) ?_
          refine (AllReadyH.cons (o := { dst := some 13, op := Go.Op.call { callee := Go.Callee.value (Go.Operand.func 33), args := #[Go.Operand.tmp 12], argTypes := #[46] }, type := 4, pos := "store.go:18", after := #[{ on := 0, ground := Go.Ground.data }], guard := none }) rfl (fun K hK => ?_) AllReadyH.nil)
          go_simp
          go_at_call 33
          refine (HIR.out _).mono ?_
          rintro e v ⟨rfl, hb⟩
          replace k0 := (hb.cell (p := ⟨X, 0, none⟩) kz).trans k0
          replace kf0 := (hb.frozen (p := ⟨X, 0, none⟩) kz).trans kf0
          replace k1 := (hb.cell (p := ⟨X, 1, none⟩) kz).trans k1
          replace kf1 := (hb.frozen (p := ⟨X, 1, none⟩) kz).trans kf1
          replace k2 := (hb.cell (p := ⟨X, 2, none⟩) kz).trans k2
          replace kf2 := (hb.frozen (p := ⟨X, 2, none⟩) kz).trans kf2
          replace k3 := (hb.cell (p := ⟨X, 3, none⟩) kz).trans k3
          replace kf3 := (hb.frozen (p := ⟨X, 3, none⟩) kz).trans kf3
          replace k4 := (hb.cell (p := ⟨X, 4, none⟩) kz).trans k4
          replace kf4 := (hb.frozen (p := ⟨X, 4, none⟩) kz).trans kf4
          replace k5 := (hb.cell (p := ⟨X, 5, none⟩) kz).trans k5
          replace kf5 := (hb.frozen (p := ⟨X, 5, none⟩) kz).trans kf5
          replace k6 := (hb.cell (p := ⟨X, 6, none⟩) kz).trans k6
          replace kf6 := (hb.frozen (p := ⟨X, 6, none⟩) kz).trans kf6
          replace k7 := (hb.cell (p := ⟨X, 7, none⟩) kz).trans k7
          replace kf7 := (hb.frozen (p := ⟨X, 7, none⟩) kz).trans kf7
          replace kz := Nat.lt_of_lt_of_le kz hb.size
          replace HB := Lib.hid (below_via HB.out hb HB.out.size ⟨rfl, rfl, rfl, rfl⟩)
          clear hb
          refine hK.out _ _ ⟨k0, k1, k2, k3, k4, k5, k6, k7⟩ (fun hHeld => ?_)
          clear hK K
          try simp only [Act.put, List.setIfInBounds_toArray, List.set_cons_zero, List.set_cons_succ]
          refine wpAnyH_take (i := 2) (oi := { dst := some 14, op := Go.Op.unOp Go.UnOp.not 4 (Go.Operand.tmp 13), type := 4, pos := "store.go:18", after := #[{ on := 1, ground := Go.Ground.data }], guard := none }) (v := ?_) rfl (by kernel_rfl) (by kernel_rfl) (by kernel_rfl) (fun _ _ _ h => h) (Or.inl ⟨rfl, ?_⟩) (by assumption) ?_
          rotate_left
          · intro wz hSw; (try dsimp only at hSw); go_simp; try (with_reducible rfl)
          try simp only [Act.put, List.setIfInBounds_toArray, List.set_cons_zero, List.set_cons_succ]
          refine wpAnyH_take (i := 3) (oi := { dst := some 15, op := Go.Op.move (Go.Operand.tmp 14), type := 4, pos := "store.go:18", after := #[{ on := 2, ground := Go.Ground.data }, { on := 1, ground := Go.Ground.chain }], guard := none }) (v := ?_) rfl (by kernel_rfl) (by kernel_rfl) (by kernel_rfl) (fun _ _ _ h => h) (Or.inl ⟨rfl, ?_⟩) (by assumption) ?_
          rotate_left
          · intro wz hSw; (try dsimp only at hSw); go_simp; try (with_reducible rfl)
          try simp only [Act.put, List.setIfInBounds_toArray, List.set_cons_zero, List.set_cons_succ]
          refine wpAnyH_take (i := 4) (oi := { dst := some 16, op := Go.Op.move (Go.Operand.tmp 3), type := 3, pos := "store.go:18", after := #[{ on := 3, ground := Go.Ground.guard }], guard := some (3, false) }) (v := ?_) rfl (by kernel_rfl) (by kernel_rfl) (by kernel_rfl) (fun _ _ _ h => h) (Or.inl ⟨rfl, ?_⟩) (by assumption) ?_
          rotate_left
          · intro wz hSw; (try dsimp only at hSw); go_simp; try (with_reducible rfl)
          try simp only [Act.put, List.setIfInBounds_toArray, List.set_cons_zero, List.set_cons_succ]
          refine wpAnyH_take (i := 5) (oi := { dst := some 17, op := Go.Op.binOp Go.BinOp.gtr 3 (Go.Operand.tmp 16) (Go.Operand.const (Go.Value.int Go.IntKind.i64 0)) 3, type := 4, pos := "store.go:18", after := #[{ on := 4, ground := Go.Ground.data }, { on := 3, ground := Go.Ground.guard }], guard := some (3, false) }) (v := ?_) rfl (by kernel_rfl) (by kernel_rfl) (by kernel_rfl) (fun _ _ _ h => h) (Or.inl ⟨rfl, ?_⟩) (by assumption) ?_
          rotate_left
          · intro wz hSw; (try dsimp only at hSw); go_simp; try (with_reducible rfl)
          try simp only [Act.put, List.setIfInBounds_toArray, List.set_cons_zero, List.set_cons_succ]
          refine wpAnyH_take (i := 6) (oi := { dst := some 18, op := Go.Op.move (Go.Operand.tmp 17), type := 4, pos := "store.go:18", after := #[{ on := 5, ground := Go.Ground.data }, { on := 3, ground := Go.Ground.chain }, { on := 3, ground := Go.Ground.guard }], guard := some (3, false) }) (v := ?_) rfl (by kernel_rfl) (by kernel_rfl) (by kernel_rfl) (fun _ _ _ h => h) (Or.inl ⟨rfl, ?_⟩) (by assumption) ?_
          rotate_left
          · intro wz hSw; (try dsimp only at hSw); go_simp; try (with_reducible rfl)
          try simp only [Act.put, List.setIfInBounds_toArray, List.set_cons_zero, List.set_cons_succ]
          refine wpAnyH_take (i := 7) (oi := { dst := some 19, op := Go.Op.move (Go.Operand.tmp 0), type := 38, pos := "store.go:18", after := #[{ on := 6, ground := Go.Ground.guard }], guard := some (6, true) }) (v := undef) rfl (by kernel_rfl) (by kernel_rfl) (by kernel_rfl) (fun _ _ _ h => h) (Or.inr ⟨rfl, rfl⟩) (by assumption) ?_
          try simp only [Act.put, List.setIfInBounds_toArray, List.set_cons_zero, List.set_cons_succ]
          refine wpAnyH_take (i := 8) (oi := { dst := some 20, op := Go.Op.move (Go.Operand.tmp 3), type := 3, pos := "store.go:18", after := #[{ on := 6, ground := Go.Ground.guard }], guard := some (6, true) }) (v := undef) rfl (by kernel_rfl) (by kernel_rfl) (by kernel_rfl) (fun _ _ _ h => h) (Or.inr ⟨rfl, rfl⟩) (by assumption) ?_
          try simp only [Act.put, List.setIfInBounds_toArray, List.set_cons_zero, List.set_cons_succ]
          refine wpAnyH_take (i := 9) (oi := { dst := some 21, op := Go.Op.binOp Go.BinOp.sub 3 (Go.Operand.tmp 20) (Go.Operand.const (Go.Value.int Go.IntKind.i64 1)) 3, type := 3, pos := "store.go:18", after := #[{ on := 8, ground := Go.Ground.data }, { on := 6, ground := Go.Ground.guard }], guard := some (6, true) }) (v := undef) rfl (by kernel_rfl) (by kernel_rfl) (by kernel_rfl) (fun _ _ _ h => h) (Or.inr ⟨rfl, rfl⟩) (by assumption) ?_
          try simp only [Act.put, List.setIfInBounds_toArray, List.set_cons_zero, List.set_cons_succ]
          refine wpAnyH_take (i := 10) (oi := { dst := some 22, op := Go.Op.indexAddr 38 (Go.Operand.tmp 19) (Go.Operand.tmp 21), type := 0, pos := "store.go:18", after := #[{ on := 7, ground := Go.Ground.data }, { on := 9, ground := Go.Ground.data }, { on := 6, ground := Go.Ground.guard }], guard := some (6, true) }) (v := undef) rfl (by kernel_rfl) (by kernel_rfl) (by kernel_rfl) (fun _ _ _ h => h) (Or.inr ⟨rfl, rfl⟩) (by assumption) ?_
          try simp only [Act.put, List.setIfInBounds_toArray, List.set_cons_zero, List.set_cons_succ]
          refine wpAnyH_take (i := 11) (oi := { dst := some 23, op := Go.Op.fieldAddr 46 (Go.Operand.tmp 22) 0, type := 0, pos := "store.go:18", after := #[{ on := 10, ground := Go.Ground.data }, { on := 6, ground := Go.Ground.guard }], guard := some (6, true) }) (v := undef) rfl (by kernel_rfl) (by kernel_rfl) (by kernel_rfl) (fun _ _ _ h => h) (Or.inr ⟨rfl, rfl⟩) (by assumption) ?_
          try simp only [Act.put, List.setIfInBounds_toArray, List.set_cons_zero, List.set_cons_succ]
          refine wpAnyH_take (i := 12) (oi := { dst := some 24, op := Go.Op.load 3 (Go.Operand.tmp 23), type := 3, pos := "store.go:18", after := #[{ on := 11, ground := Go.Ground.data }, { on := 6, ground := Go.Ground.guard }], guard := some (6, true) }) (v := undef) rfl (by kernel_rfl) (by kernel_rfl) (by kernel_rfl) (fun _ _ _ h => h) (Or.inr ⟨rfl, rfl⟩) (by assumption) ?_
          try simp only [Act.put, List.setIfInBounds_toArray, List.set_cons_zero, List.set_cons_succ]
          refine wpAnyH_take (i := 13) (oi := { dst := some 25, op := Go.Op.fieldAddr 46 (Go.Operand.tmp 4) 0, type := 0, pos := "store.go:18", after := #[{ on := 6, ground := Go.Ground.guard }], guard := some (6, true) }) (v := undef) rfl (by kernel_rfl) (by kernel_rfl) (by kernel_rfl) (fun _ _ _ h => h) (Or.inr ⟨rfl, rfl⟩) (by assumption) ?_
          try simp only [Act.put, List.setIfInBounds_toArray, List.set_cons_zero, List.set_cons_succ]
          refine wpAnyH_take (i := 14) (oi := { dst := some 26, op := Go.Op.load 3 (Go.Operand.tmp 25), type := 3, pos := "store.go:18", after := #[{ on := 13, ground := Go.Ground.data }, { on := 6, ground := Go.Ground.guard }], guard := some (6, true) }) (v := undef) rfl (by kernel_rfl) (by kernel_rfl) (by kernel_rfl) (fun _ _ _ h => h) (Or.inr ⟨rfl, rfl⟩) (by assumption) ?_
          try simp only [Act.put, List.setIfInBounds_toArray, List.set_cons_zero, List.set_cons_succ]
          refine wpAnyH_take (i := 15) (oi := { dst := some 27, op := Go.Op.binOp Go.BinOp.geq 3 (Go.Operand.tmp 24) (Go.Operand.tmp 26) 3, type := 4, pos := "store.go:18", after := #[{ on := 12, ground := Go.Ground.data }, { on := 14, ground := Go.Ground.data }, { on := 6, ground := Go.Ground.guard }], guard := some (6, true) }) (v := undef) rfl (by kernel_rfl) (by kernel_rfl) (by kernel_rfl) (fun _ _ _ h => h) (Or.inr ⟨rfl, rfl⟩) (by assumption) ?_
          try simp only [Act.put, List.setIfInBounds_toArray, List.set_cons_zero, List.set_cons_succ]
          refine wpAnyH_take (i := 16) (oi := { dst := some 28, op := Go.Op.pick (Go.Operand.tmp 18) (Go.Operand.tmp 27) (Go.Operand.const (Go.Value.bool false)), type := 4, pos := "store.go:18", after := #[{ on := 6, ground := Go.Ground.data }, { on := 15, ground := Go.Ground.data }, { on := 3, ground := Go.Ground.guard }], guard := some (3, false) }) (v := ?_) rfl (by kernel_rfl) (by kernel_rfl) (by kernel_rfl) (fun _ _ _ h => h) (Or.inl ⟨rfl, ?_⟩) (by assumption) ?_
          rotate_left
          · intro wz hSw; (try dsimp only at hSw); go_simp; try (with_reducible rfl)
          try simp only [Act.put, List.setIfInBounds_toArray, List.set_cons_zero, List.set_cons_succ]
          refine wpAnyH_take (i := 17) (oi := { dst := some 29, op := Go.Op.pick (Go.Operand.tmp 15) (Go.Operand.const (Go.Value.bool true)) (Go.Operand.tmp 28), type := 4, pos := "store.go:18", after := #[{ on := 3, ground := Go.Ground.data }, { on := 16, ground := Go.Ground.data }], guard := none }) (v := ?_) rfl (by kernel_rfl) (by kernel_rfl) (by kernel_rfl) (fun _ _ _ h => h) (Or.inl ⟨rfl, ?_⟩) (by assumption) ?_
          rotate_left
          · intro wz hSw; (try dsimp only at hSw); go_simp; try (with_reducible rfl)
          try simp only [Act.put, List.setIfInBounds_toArray, List.set_cons_zero, List.set_cons_succ]
          refine wpAnyH_done (by kernel_rfl) ?_ _
          go_wp2
          go_roundw
          case rel => exact ⟨k + 1, by omega, by go_num, HN, HB⟩
          case measure => simp [intOf]; omega
        · obtain ⟨blk', off', hA, _, z', hzk', hcell'⟩ := HZ.out.get (k := k - 1) (by omega)
          injection hA with hA
          injection hA with hA1 hA2
          subst hA1 hA2
          have eq := (cellsP_at hcell').1
          replace eq := ((HB.out.mono hB).cell (p := ⟨blk, off + (k - 1) * 8, none⟩) hbB).trans eq
          have hpv : prevK zs k = some z'.key := by unfold prevK; rw [if_neg h0, hzk']; rfl
          rw [hpv] at HST
          generalize z'.key = q at *
          have hk0 : decide (0 < k) = true := by simp; omega
          have hks : IntKind.i64.wrap ((k : Int) - 1) = ((k - 1 : Nat) : Int) := by rw [IntWalk.i64_in _ (by omega)]; omega
          have hki : (((k - 1 : Nat) : Int)) < n := by omega
          have hki0 : (0 : Int) ≤ ((k - 1 : Nat) : Int) := by omega
          clear hcell' hzk' hpv
          obtain ⟨key, ⟨d, a, s⟩, dead, x, y, text, held⟩ := z
          unfold itmV at HIR
          simp only at e0 e1 e2 e3 e4 e5 e6 e7 HIR HST
          generalize fl x = fx at *
          generalize fl y = fy at *
          have hst := store_complex
          go_upto_region 4 with fail
          have k0 : (wr.alloc (.cells #[.int .i64 key, .string d, .int .i64 a, .int .i64 s, .bool dead, .complex .f64 fx fy, .string text, .bool held] 46)).cell? ⟨wr.heap.size, 0, none⟩ = some (.int .i64 key) := by simp [go_sem]
          have kf0 : (wr.alloc (.cells #[.int .i64 key, .string d, .int .i64 a, .int .i64 s, .bool dead, .complex .f64 fx fy, .string text, .bool held] 46)).frozen? ⟨wr.heap.size, 0, none⟩ = false := by simp [go_sem]
          have k1 : (wr.alloc (.cells #[.int .i64 key, .string d, .int .i64 a, .int .i64 s, .bool dead, .complex .f64 fx fy, .string text, .bool held] 46)).cell? ⟨wr.heap.size, 1, none⟩ = some (.string d) := by simp [go_sem]
          have kf1 : (wr.alloc (.cells #[.int .i64 key, .string d, .int .i64 a, .int .i64 s, .bool dead, .complex .f64 fx fy, .string text, .bool held] 46)).frozen? ⟨wr.heap.size, 1, none⟩ = false := by simp [go_sem]
          have k2 : (wr.alloc (.cells #[.int .i64 key, .string d, .int .i64 a, .int .i64 s, .bool dead, .complex .f64 fx fy, .string text, .bool held] 46)).cell? ⟨wr.heap.size, 2, none⟩ = some (.int .i64 a) := by simp [go_sem]
          have kf2 : (wr.alloc (.cells #[.int .i64 key, .string d, .int .i64 a, .int .i64 s, .bool dead, .complex .f64 fx fy, .string text, .bool held] 46)).frozen? ⟨wr.heap.size, 2, none⟩ = false := by simp [go_sem]
          have k3 : (wr.alloc (.cells #[.int .i64 key, .string d, .int .i64 a, .int .i64 s, .bool dead, .complex .f64 fx fy, .string text, .bool held] 46)).cell? ⟨wr.heap.size, 3, none⟩ = some (.int .i64 s) := by simp [go_sem]
          have kf3 : (wr.alloc (.cells #[.int .i64 key, .string d, .int .i64 a, .int .i64 s, .bool dead, .complex .f64 fx fy, .string text, .bool held] 46)).frozen? ⟨wr.heap.size, 3, none⟩ = false := by simp [go_sem]
          have k4 : (wr.alloc (.cells #[.int .i64 key, .string d, .int .i64 a, .int .i64 s, .bool dead, .complex .f64 fx fy, .string text, .bool held] 46)).cell? ⟨wr.heap.size, 4, none⟩ = some (.bool dead) := by simp [go_sem]
          have kf4 : (wr.alloc (.cells #[.int .i64 key, .string d, .int .i64 a, .int .i64 s, .bool dead, .complex .f64 fx fy, .string text, .bool held] 46)).frozen? ⟨wr.heap.size, 4, none⟩ = false := by simp [go_sem]
          have k5 : (wr.alloc (.cells #[.int .i64 key, .string d, .int .i64 a, .int .i64 s, .bool dead, .complex .f64 fx fy, .string text, .bool held] 46)).cell? ⟨wr.heap.size, 5, none⟩ = some (.complex .f64 fx fy) := by simp [go_sem]
          have kf5 : (wr.alloc (.cells #[.int .i64 key, .string d, .int .i64 a, .int .i64 s, .bool dead, .complex .f64 fx fy, .string text, .bool held] 46)).frozen? ⟨wr.heap.size, 5, none⟩ = false := by simp [go_sem]
          have k6 : (wr.alloc (.cells #[.int .i64 key, .string d, .int .i64 a, .int .i64 s, .bool dead, .complex .f64 fx fy, .string text, .bool held] 46)).cell? ⟨wr.heap.size, 6, none⟩ = some (.string text) := by simp [go_sem]
          have kf6 : (wr.alloc (.cells #[.int .i64 key, .string d, .int .i64 a, .int .i64 s, .bool dead, .complex .f64 fx fy, .string text, .bool held] 46)).frozen? ⟨wr.heap.size, 6, none⟩ = false := by simp [go_sem]
          have k7 : (wr.alloc (.cells #[.int .i64 key, .string d, .int .i64 a, .int .i64 s, .bool dead, .complex .f64 fx fy, .string text, .bool held] 46)).cell? ⟨wr.heap.size, 7, none⟩ = some (.bool held) := by simp [go_sem]
          have kf7 : (wr.alloc (.cells #[.int .i64 key, .string d, .int .i64 a, .int .i64 s, .bool dead, .complex .f64 fx fy, .string text, .bool held] 46)).frozen? ⟨wr.heap.size, 7, none⟩ = false := by simp [go_sem]
          have kz : wr.heap.size < (wr.alloc (.cells #[.int .i64 key, .string d, .int .i64 a, .int .i64 s, .bool dead, .complex .f64 fx fy, .string text, .bool held] 46)).heap.size := by simp <;> omega
          have hb0 : Below wr.heap.size wr (wr.alloc (.cells #[.int .i64 key, .string d, .int .i64 a, .int .i64 s, .bool dead, .complex .f64 fx fy, .string text, .bool held] 46)) := (Below.refl _ _).alloc (Nat.le_refl _) _
          replace HB := Lib.hid (HB.out.trans (hb0.mono HB.out.size))
          replace eq := (hb0.cell (p := ⟨blk, off + (k - 1) * 8, none⟩) hbl).trans eq
          replace hbl := Nat.lt_of_lt_of_le hbl hb0.size
          generalize (wr.alloc (.cells #[.int .i64 key, .string d, .int .i64 a, .int .i64 s, .bool dead, .complex .f64 fx fy, .string text, .bool held] 46)) = W1 at *
          generalize wr.heap.size = X at *
          refine wp_region_held_drew (S := fun w' => w'.cell? ⟨X, 0, none⟩ = some (.int .i64 key) ∧ w'.cell? ⟨X, 1, none⟩ = some (.string d) ∧ w'.cell? ⟨X, 2, none⟩ = some (.int .i64 a) ∧ w'.cell? ⟨X, 3, none⟩ = some (.int .i64 s) ∧ w'.cell? ⟨X, 4, none⟩ = some (.bool dead) ∧ w'.cell? ⟨X, 5, none⟩ = some (.complex .f64 fx fy) ∧ w'.cell? ⟨X, 6, none⟩ = some (.string text) ∧ w'.cell? ⟨X, 7, none⟩ = some (.bool held) ∧ w'.cell? ⟨blk, off + (k - 1) * 8, none⟩ = some (.int .i64 q)) (by kernel_rfl) ⟨k0, k1, k2, k3, k4, k5, k6, k7, eq⟩ (fun hHeld => ?_)
          refine wpAnyH_take (i := 0) (oi := { dst := some 12, op := Go.Op.load 46 (Go.Operand.tmp 4), type := 46, pos := "store.go:18", after := #[], guard := none }) (v := ?_) rfl (by kernel_rfl) (by kernel_rfl) (by kernel_rfl) (fun _ _ _ h => h) (Or.inl ⟨rfl, ?_⟩) (by assumption) ?_
          rotate_left
          · intro wz hSw; (try dsimp only at hSw); go_simp; try (with_reducible rfl)
          try simp only [Act.put, List.setIfInBounds_toArray, List.set_cons_zero, List.set_cons_succ]
          refine wpAnyH_ready (rs := [1]) (by kernel_rfl) (by simp) ?_
          refine (AllReadyH.cons (o := { dst := some 13, op := Go.Op.call { callee := Go.Callee.value (Go.Operand.func 33), args := #[Go.Operand.tmp 12], argTypes := #[46] }, type := 4, pos := "store.go:18", after := #[{ on := 0, ground := Go.Ground.data }], guard := none }) rfl (fun K hK => ?_) AllReadyH.nil)
          go_simp
          go_at_call 33
          refine (HIR.out _).mono ?_
          rintro e v ⟨rfl, hb⟩
          replace k0 := (hb.cell (p := ⟨X, 0, none⟩) kz).trans k0
          replace kf0 := (hb.frozen (p := ⟨X, 0, none⟩) kz).trans kf0
          replace k1 := (hb.cell (p := ⟨X, 1, none⟩) kz).trans k1
          replace kf1 := (hb.frozen (p := ⟨X, 1, none⟩) kz).trans kf1
          replace k2 := (hb.cell (p := ⟨X, 2, none⟩) kz).trans k2
          replace kf2 := (hb.frozen (p := ⟨X, 2, none⟩) kz).trans kf2
          replace k3 := (hb.cell (p := ⟨X, 3, none⟩) kz).trans k3
          replace kf3 := (hb.frozen (p := ⟨X, 3, none⟩) kz).trans kf3
          replace k4 := (hb.cell (p := ⟨X, 4, none⟩) kz).trans k4
          replace kf4 := (hb.frozen (p := ⟨X, 4, none⟩) kz).trans kf4
          replace k5 := (hb.cell (p := ⟨X, 5, none⟩) kz).trans k5
          replace kf5 := (hb.frozen (p := ⟨X, 5, none⟩) kz).trans kf5
          replace k6 := (hb.cell (p := ⟨X, 6, none⟩) kz).trans k6
          replace kf6 := (hb.frozen (p := ⟨X, 6, none⟩) kz).trans kf6
          replace k7 := (hb.cell (p := ⟨X, 7, none⟩) kz).trans k7
          replace kf7 := (hb.frozen (p := ⟨X, 7, none⟩) kz).trans kf7
          replace kz := Nat.lt_of_lt_of_le kz hb.size
          replace eq := (hb.cell (p := ⟨blk, off + (k - 1) * 8, none⟩) hbl).trans eq
          replace HB := Lib.hid (below_via HB.out hb HB.out.size ⟨rfl, rfl, rfl, rfl⟩)
          clear hb
          refine hK.out _ _ ⟨k0, k1, k2, k3, k4, k5, k6, k7, eq⟩ (fun hHeld => ?_)
          clear hK K
          try simp only [Act.put, List.setIfInBounds_toArray, List.set_cons_zero, List.set_cons_succ]
          refine wpAnyH_take (i := 2) (oi := { dst := some 14, op := Go.Op.unOp Go.UnOp.not 4 (Go.Operand.tmp 13), type := 4, pos := "store.go:18", after := #[{ on := 1, ground := Go.Ground.data }], guard := none }) (v := ?_) rfl (by kernel_rfl) (by kernel_rfl) (by kernel_rfl) (fun _ _ _ h => h) (Or.inl ⟨rfl, ?_⟩) (by assumption) ?_
          rotate_left
          · intro wz hSw; (try dsimp only at hSw); go_simp; try (with_reducible rfl)
          try simp only [Act.put, List.setIfInBounds_toArray, List.set_cons_zero, List.set_cons_succ]
          refine wpAnyH_take (i := 3) (oi := { dst := some 15, op := Go.Op.move (Go.Operand.tmp 14), type := 4, pos := "store.go:18", after := #[{ on := 2, ground := Go.Ground.data }, { on := 1, ground := Go.Ground.chain }], guard := none }) (v := ?_) rfl (by kernel_rfl) (by kernel_rfl) (by kernel_rfl) (fun _ _ _ h => h) (Or.inl ⟨rfl, ?_⟩) (by assumption) ?_
          rotate_left
          · intro wz hSw; (try dsimp only at hSw); go_simp; try (with_reducible rfl)
          try simp only [Act.put, List.setIfInBounds_toArray, List.set_cons_zero, List.set_cons_succ]
          refine wpAnyH_take (i := 4) (oi := { dst := some 16, op := Go.Op.move (Go.Operand.tmp 3), type := 3, pos := "store.go:18", after := #[{ on := 3, ground := Go.Ground.guard }], guard := some (3, false) }) (v := ?_) rfl (by kernel_rfl) (by kernel_rfl) (by kernel_rfl) (fun _ _ _ h => h) (Or.inl ⟨rfl, ?_⟩) (by assumption) ?_
          rotate_left
          · intro wz hSw; (try dsimp only at hSw); go_simp; try (with_reducible rfl)
          try simp only [Act.put, List.setIfInBounds_toArray, List.set_cons_zero, List.set_cons_succ]
          refine wpAnyH_take (i := 5) (oi := { dst := some 17, op := Go.Op.binOp Go.BinOp.gtr 3 (Go.Operand.tmp 16) (Go.Operand.const (Go.Value.int Go.IntKind.i64 0)) 3, type := 4, pos := "store.go:18", after := #[{ on := 4, ground := Go.Ground.data }, { on := 3, ground := Go.Ground.guard }], guard := some (3, false) }) (v := ?_) rfl (by kernel_rfl) (by kernel_rfl) (by kernel_rfl) (fun _ _ _ h => h) (Or.inl ⟨rfl, ?_⟩) (by assumption) ?_
          rotate_left
          · intro wz hSw; (try dsimp only at hSw); go_simp; try (with_reducible rfl)
          try simp only [Act.put, List.setIfInBounds_toArray, List.set_cons_zero, List.set_cons_succ]
          refine wpAnyH_take (i := 6) (oi := { dst := some 18, op := Go.Op.move (Go.Operand.tmp 17), type := 4, pos := "store.go:18", after := #[{ on := 5, ground := Go.Ground.data }, { on := 3, ground := Go.Ground.chain }, { on := 3, ground := Go.Ground.guard }], guard := some (3, false) }) (v := ?_) rfl (by kernel_rfl) (by kernel_rfl) (by kernel_rfl) (fun _ _ _ h => h) (Or.inl ⟨rfl, ?_⟩) (by assumption) ?_
          rotate_left
          · intro wz hSw; (try dsimp only at hSw); go_simp; try (with_reducible rfl)
          try simp only [Act.put, List.setIfInBounds_toArray, List.set_cons_zero, List.set_cons_succ]
          refine wpAnyH_take (i := 7) (oi := { dst := some 19, op := Go.Op.move (Go.Operand.tmp 0), type := 38, pos := "store.go:18", after := #[{ on := 6, ground := Go.Ground.guard }], guard := some (6, true) }) (v := ?_) rfl (by kernel_rfl) (by kernel_rfl) (by kernel_rfl) (fun _ _ _ h => h) (Or.inl ⟨rfl, ?_⟩) (by assumption) ?_
          rotate_left
          · intro wz hSw; (try dsimp only at hSw); go_simp; try (with_reducible rfl)
          try simp only [Act.put, List.setIfInBounds_toArray, List.set_cons_zero, List.set_cons_succ]
          refine wpAnyH_take (i := 8) (oi := { dst := some 20, op := Go.Op.move (Go.Operand.tmp 3), type := 3, pos := "store.go:18", after := #[{ on := 6, ground := Go.Ground.guard }], guard := some (6, true) }) (v := ?_) rfl (by kernel_rfl) (by kernel_rfl) (by kernel_rfl) (fun _ _ _ h => h) (Or.inl ⟨rfl, ?_⟩) (by assumption) ?_
          rotate_left
          · intro wz hSw; (try dsimp only at hSw); go_simp; try (with_reducible rfl)
          try simp only [Act.put, List.setIfInBounds_toArray, List.set_cons_zero, List.set_cons_succ]
          refine wpAnyH_take (i := 9) (oi := { dst := some 21, op := Go.Op.binOp Go.BinOp.sub 3 (Go.Operand.tmp 20) (Go.Operand.const (Go.Value.int Go.IntKind.i64 1)) 3, type := 3, pos := "store.go:18", after := #[{ on := 8, ground := Go.Ground.data }, { on := 6, ground := Go.Ground.guard }], guard := some (6, true) }) (v := ?_) rfl (by kernel_rfl) (by kernel_rfl) (by kernel_rfl) (fun _ _ _ h => h) (Or.inl ⟨rfl, ?_⟩) (by assumption) ?_
          rotate_left
          · intro wz hSw; (try dsimp only at hSw); go_simp; try (with_reducible rfl)
          try simp only [Act.put, List.setIfInBounds_toArray, List.set_cons_zero, List.set_cons_succ]
          refine wpAnyH_take (i := 10) (oi := { dst := some 22, op := Go.Op.indexAddr 38 (Go.Operand.tmp 19) (Go.Operand.tmp 21), type := 0, pos := "store.go:18", after := #[{ on := 7, ground := Go.Ground.data }, { on := 9, ground := Go.Ground.data }, { on := 6, ground := Go.Ground.guard }], guard := some (6, true) }) (v := ?_) rfl (by kernel_rfl) (by kernel_rfl) (by kernel_rfl) (fun _ _ _ h => h) (Or.inl ⟨rfl, ?_⟩) (by assumption) ?_
          rotate_left
          · intro wz hSw; (try dsimp only at hSw); go_simp; try (with_reducible rfl)
          try simp only [Act.put, List.setIfInBounds_toArray, List.set_cons_zero, List.set_cons_succ]
          refine wpAnyH_take (i := 11) (oi := { dst := some 23, op := Go.Op.fieldAddr 46 (Go.Operand.tmp 22) 0, type := 0, pos := "store.go:18", after := #[{ on := 10, ground := Go.Ground.data }, { on := 6, ground := Go.Ground.guard }], guard := some (6, true) }) (v := ?_) rfl (by kernel_rfl) (by kernel_rfl) (by kernel_rfl) (fun _ _ _ h => h) (Or.inl ⟨rfl, ?_⟩) (by assumption) ?_
          rotate_left
          · intro wz hSw; (try dsimp only at hSw); go_simp; try (with_reducible rfl)
          try simp only [Act.put, List.setIfInBounds_toArray, List.set_cons_zero, List.set_cons_succ]
          refine wpAnyH_take (i := 12) (oi := { dst := some 24, op := Go.Op.load 3 (Go.Operand.tmp 23), type := 3, pos := "store.go:18", after := #[{ on := 11, ground := Go.Ground.data }, { on := 6, ground := Go.Ground.guard }], guard := some (6, true) }) (v := ?_) rfl (by kernel_rfl) (by kernel_rfl) (by kernel_rfl) (fun _ _ _ h => h) (Or.inl ⟨rfl, ?_⟩) (by assumption) ?_
          rotate_left
          · intro wz hSw; (try dsimp only at hSw); go_simp; try (with_reducible rfl)
          try simp only [Act.put, List.setIfInBounds_toArray, List.set_cons_zero, List.set_cons_succ]
          refine wpAnyH_take (i := 13) (oi := { dst := some 25, op := Go.Op.fieldAddr 46 (Go.Operand.tmp 4) 0, type := 0, pos := "store.go:18", after := #[{ on := 6, ground := Go.Ground.guard }], guard := some (6, true) }) (v := ?_) rfl (by kernel_rfl) (by kernel_rfl) (by kernel_rfl) (fun _ _ _ h => h) (Or.inl ⟨rfl, ?_⟩) (by assumption) ?_
          rotate_left
          · intro wz hSw; (try dsimp only at hSw); go_simp; try (with_reducible rfl)
          try simp only [Act.put, List.setIfInBounds_toArray, List.set_cons_zero, List.set_cons_succ]
          refine wpAnyH_take (i := 14) (oi := { dst := some 26, op := Go.Op.load 3 (Go.Operand.tmp 25), type := 3, pos := "store.go:18", after := #[{ on := 13, ground := Go.Ground.data }, { on := 6, ground := Go.Ground.guard }], guard := some (6, true) }) (v := ?_) rfl (by kernel_rfl) (by kernel_rfl) (by kernel_rfl) (fun _ _ _ h => h) (Or.inl ⟨rfl, ?_⟩) (by assumption) ?_
          rotate_left
          · intro wz hSw; (try dsimp only at hSw); go_simp; try (with_reducible rfl)
          try simp only [Act.put, List.setIfInBounds_toArray, List.set_cons_zero, List.set_cons_succ]
          refine wpAnyH_take (i := 15) (oi := { dst := some 27, op := Go.Op.binOp Go.BinOp.geq 3 (Go.Operand.tmp 24) (Go.Operand.tmp 26) 3, type := 4, pos := "store.go:18", after := #[{ on := 12, ground := Go.Ground.data }, { on := 14, ground := Go.Ground.data }, { on := 6, ground := Go.Ground.guard }], guard := some (6, true) }) (v := ?_) rfl (by kernel_rfl) (by kernel_rfl) (by kernel_rfl) (fun _ _ _ h => h) (Or.inl ⟨rfl, ?_⟩) (by assumption) ?_
          rotate_left
          · intro wz hSw; (try dsimp only at hSw); go_simp; try (with_reducible rfl)
          try simp only [Act.put, List.setIfInBounds_toArray, List.set_cons_zero, List.set_cons_succ]
          refine wpAnyH_take (i := 16) (oi := { dst := some 28, op := Go.Op.pick (Go.Operand.tmp 18) (Go.Operand.tmp 27) (Go.Operand.const (Go.Value.bool false)), type := 4, pos := "store.go:18", after := #[{ on := 6, ground := Go.Ground.data }, { on := 15, ground := Go.Ground.data }, { on := 3, ground := Go.Ground.guard }], guard := some (3, false) }) (v := ?_) rfl (by kernel_rfl) (by kernel_rfl) (by kernel_rfl) (fun _ _ _ h => h) (Or.inl ⟨rfl, ?_⟩) (by assumption) ?_
          rotate_left
          · intro wz hSw; (try dsimp only at hSw); go_simp; try (with_reducible rfl)
          try simp only [Act.put, List.setIfInBounds_toArray, List.set_cons_zero, List.set_cons_succ]
          refine wpAnyH_take (i := 17) (oi := { dst := some 29, op := Go.Op.pick (Go.Operand.tmp 15) (Go.Operand.const (Go.Value.bool true)) (Go.Operand.tmp 28), type := 4, pos := "store.go:18", after := #[{ on := 3, ground := Go.Ground.data }, { on := 16, ground := Go.Ground.data }], guard := none }) (v := ?_) rfl (by kernel_rfl) (by kernel_rfl) (by kernel_rfl) (fun _ _ _ h => h) (Or.inl ⟨rfl, ?_⟩) (by assumption) ?_
          rotate_left
          · intro wz hSw; (try dsimp only at hSw); go_simp; try (with_reducible rfl)
          try simp only [Act.put, List.setIfInBounds_toArray, List.set_cons_zero, List.set_cons_succ]
          refine wpAnyH_done (by kernel_rfl) ?_ _
          by_cases hq : key ≤ q
          · have HF : Hid (RS = false) := by
              show _ = _
              rw [HST.out]
              simp only [show decide (q < key) = false by simp; omega]
              rfl
            go_wp2
            go_ret
            exact ⟨ret_bool HF.out.symm, HB.out⟩
          · have HN : Hid (rightFrom (prevK zs (k + 1)) (zs.drop (k + 1)) = RS) := by
              show _ = _
              rw [HST.out]
              simp only [show decide (q < key) = true by simp; omega]
              simp
            have hq' : decide (key ≤ q) = false := by simpa using hq
            go_wp2
            go_roundw
            case rel => exact ⟨k + 1, by omega, by go_num, HN, HB⟩
            case measure => simp [intOf]; omega
    · obtain rfl : k = n := by omega
      have HF : Hid (RS = true) := by show _ = _; rw [← HRS.out, List.drop_of_length_le (by rw [HL.out]; omega)]; unfold rightFrom; rfl
      go_wp2
      go_ret
      exact ⟨ret_bool HF.out.symm, HB.out⟩
end Go.Proofs.Ytpaiigminmakgaa
