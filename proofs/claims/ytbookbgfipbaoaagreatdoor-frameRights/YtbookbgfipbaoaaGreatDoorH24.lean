/- The reference's Right of a Matrix. -/
import Derived.Test.YtbookbgfipbaoaaGreatDoorH23
namespace Go.Proofs.YtbookbgfipbaoaaGreatDoor.Mx
open Go.RowKit

/-- No text is longer than a machine may have it. -/
def ShortM (m : Mat) : Prop := ∀ x ∈ m, x.1.size ≤ 9223372036854775807 ∧ Short x.2
theorem rrightv_is (A : Option Addr) (n c : Nat) (zs : List At) (B : Nat) (b : Bool) (h : Hid (rightV zs = b)) (w : World) (hz : VecAt w B A n zs) (hn : n ≤ 1099511627776) (hsh : Short zs) :
    Calls Tryz.prog 108 #[.slice A n c] w fun e w' => e = .returned (.bool b) ∧ Hid (Drawn w w') := by
  rw [← h.out]; exact rrightv_any A n c zs B w hz hn hsh
set_option maxRecDepth 100000 in
set_option maxHeartbeats 8000000 in
theorem rrightM_any (A : Option Addr) (n c : Nat) (m : Mat) (B : Nat) (w : World) (hB : B ≤ w.heap.size) (hz : MatAt w B A n m) (hn : n ≤ 1000000) (hv : ∀ z ∈ m, z.2.length ≤ 1000000) (hsh : ShortM m) :
    Calls Tryz.prog 103 #[.slice A n c] w fun e w' => e = .returned (.bool (rightM m)) ∧ Below w.heap.size w w' := by
  have HZ := Lib.hid hz
  have HL := Lib.hid hz.len
  have HV := Lib.hid hv
  have HSH := Lib.hid hsh
  clear hz hv hsh
  generalize hRS : rightM m = RS
  have HRS : Hid (rightFromM (prevI m 0) (m.drop 0) = RS) := hRS
  clear hRS
  go_enter Tryz.func103, Tryz.ntmps103
  go_wp2
  go_loopw [3] (fun i wr => ∃ k : Nat, k ≤ n ∧ i = .int .i64 k ∧ Hid (rightFromM (prevI m k) (m.drop k) = RS) ∧ Hid (Below w.heap.size w wr)) (fun i _ => n - (intOf i).toNat)
  case atStart => exact ⟨0, by omega, rfl, HRS, Below.refl _ _⟩
  case round =>
    clear HRS
    obtain ⟨k, hk, rfl, HRS, HB⟩ := hrel
    by_cases hlt : k < n
    · obtain ⟨blk, off, r, rfl, hbB, hmk, e0, e1, hf⟩ := HZ.out.get (HB.out.mono hB) hlt
      have hi0 : (0 : Int) ≤ (k : Int) := by omega
      have hi1 : (k : Int) < n := by omega
      have hst := rightM_step hmk
      rw [HRS.out] at hst
      have HST := Lib.hid hst
      have hvl : r.v.length ≤ 1000000 := HV.out _ (List.mem_of_getElem? hmk)
      have HVS : Hid (Short r.v) := (HSH.out _ (List.mem_of_getElem? hmk)).2
      have hsz := HB.out.size
      have hbl : blk < wr.heap.size := by omega
      have hBr := Nat.le_trans hB hsz
      have HVC := Lib.hid hf.vec
      obtain ⟨id, Ar, cr, v⟩ := r
      have HOK : Hid (okRow (id, v) = (rightL id.data.toList && (rightV v && decide (v.length ≠ 0)))) := rfl
      simp only at e0 e1 hvl HST HVS HVC
      rw [HOK.out] at HST
      have HC3 : Hid (∀ b W, rightV v = b → VecAt W B Ar v.length v → Calls Tryz.prog 108 #[.slice Ar v.length cr] W fun e w' => e = .returned (.bool b) ∧ Hid (Drawn W w')) := fun b W hb h => rrightv_is Ar v.length cr v B b hb W h (by omega) HVS.out
      clear HOK hst hf hmk
      cases hr : rightL id.data.toList with
      | false =>
        rw [hr] at HST
        have HF : Hid (RS = false) := by show _ = _; rw [HST.out]; rfl
        have HR := Lib.hid hr
        clear hr HST HC3
        generalize v.length = L at *
        go_upto_region 4 with fail
        refine wp_region_held_drew (S := fun w' => w'.cell? ⟨blk, off + k * 2, none⟩ = some (.string id) ∧ w'.cell? ⟨blk, off + k * 2 + 1, none⟩ = some (.slice Ar L cr)) (by kernel_rfl) ⟨e0, e1⟩ (fun hHeld => ?_)
        refine tk 0 ?_
        refine tk 1 ?_
        refine tk 2 ?_
        refine tk 3 ?_
        refine tk 4 ?_
        refine wpAnyH_ready (rs := [5]) (by kernel_rfl) (by simp) ?_
        refine (ac (fun K hK => ?_) AllReadyH.nil)
        go_simp
        go_at_call 33
        refine (rright_is _ false HR _).mono ?_
        rintro e u1 ⟨rfl, hw⟩
        have hb : Below wr.heap.size wr u1 := by rw [← hw]; exact drew_below _ _
        clear hw
        replace e0 := (hb.cell (p := ⟨blk, off + k * 2, none⟩) hbl).trans e0
        replace e1 := (hb.cell (p := ⟨blk, off + k * 2 + 1, none⟩) hbl).trans e1
        replace HVC := Lib.hid (HVC.out.keep (hb.mono (by exact hBr)))
        replace HB := Lib.hid (HB.out.trans (by exact hb.mono HB.out.size))
        replace hbl := Nat.lt_of_lt_of_le hbl hb.size
        replace hBr := Nat.le_trans hBr hb.size
        clear hb
        refine hK.out _ _ ⟨e0, e1⟩ (fun hHeld => ?_)
        clear hK K
        try simp only [Act.put, List.setIfInBounds_toArray, List.set_cons_zero, List.set_cons_succ]
        refine tk 6 ?_
        refine tk 7 ?_
        refine wpAnyH_take (i := 8) (oi := { dst := some 18, op := Go.Op.move (Go.Operand.tmp 0), type := 25, pos := "ref.go:18", after := #[{ on := 7, ground := Go.Ground.guard }], guard := some (7, false) }) (v := undef) rfl (by kernel_rfl) (by kernel_rfl) (by kernel_rfl) (fun _ _ _ h => h) (Or.inr ⟨rfl, rfl⟩) (by assumption) ?_
        try simp only [Act.put, List.setIfInBounds_toArray, List.set_cons_zero, List.set_cons_succ]
        refine wpAnyH_take (i := 9) (oi := { dst := some 19, op := Go.Op.move (Go.Operand.tmp 3), type := 3, pos := "ref.go:18", after := #[{ on := 7, ground := Go.Ground.guard }], guard := some (7, false) }) (v := undef) rfl (by kernel_rfl) (by kernel_rfl) (by kernel_rfl) (fun _ _ _ h => h) (Or.inr ⟨rfl, rfl⟩) (by assumption) ?_
        try simp only [Act.put, List.setIfInBounds_toArray, List.set_cons_zero, List.set_cons_succ]
        refine wpAnyH_take (i := 10) (oi := { dst := some 20, op := Go.Op.indexAddr 25 (Go.Operand.tmp 18) (Go.Operand.tmp 19), type := 0, pos := "ref.go:18", after := #[{ on := 8, ground := Go.Ground.data }, { on := 9, ground := Go.Ground.data }, { on := 7, ground := Go.Ground.guard }], guard := some (7, false) }) (v := undef) rfl (by kernel_rfl) (by kernel_rfl) (by kernel_rfl) (fun _ _ _ h => h) (Or.inr ⟨rfl, rfl⟩) (by assumption) ?_
        try simp only [Act.put, List.setIfInBounds_toArray, List.set_cons_zero, List.set_cons_succ]
        refine wpAnyH_take (i := 11) (oi := { dst := some 21, op := Go.Op.fieldAddr 64 (Go.Operand.tmp 20) 1, type := 0, pos := "ref.go:18", after := #[{ on := 10, ground := Go.Ground.data }, { on := 7, ground := Go.Ground.guard }], guard := some (7, false) }) (v := undef) rfl (by kernel_rfl) (by kernel_rfl) (by kernel_rfl) (fun _ _ _ h => h) (Or.inr ⟨rfl, rfl⟩) (by assumption) ?_
        try simp only [Act.put, List.setIfInBounds_toArray, List.set_cons_zero, List.set_cons_succ]
        refine wpAnyH_take (i := 12) (oi := { dst := some 22, op := Go.Op.load 24 (Go.Operand.tmp 21), type := 24, pos := "ref.go:18", after := #[{ on := 11, ground := Go.Ground.data }, { on := 7, ground := Go.Ground.guard }], guard := some (7, false) }) (v := undef) rfl (by kernel_rfl) (by kernel_rfl) (by kernel_rfl) (fun _ _ _ h => h) (Or.inr ⟨rfl, rfl⟩) (by assumption) ?_
        try simp only [Act.put, List.setIfInBounds_toArray, List.set_cons_zero, List.set_cons_succ]
        refine wpAnyH_take (i := 13) (oi := { dst := some 23, op := Go.Op.call { callee := Go.Callee.value (Go.Operand.func 108), args := #[Go.Operand.tmp 22], argTypes := #[24] }, type := 4, pos := "ref.go:18", after := #[{ on := 12, ground := Go.Ground.data }, { on := 7, ground := Go.Ground.chain }, { on := 7, ground := Go.Ground.guard }], guard := some (7, false) }) (v := undef) rfl (by kernel_rfl) (by kernel_rfl) (by kernel_rfl) (fun _ _ _ h => h) (Or.inr ⟨rfl, rfl⟩) (by assumption) ?_
        try simp only [Act.put, List.setIfInBounds_toArray, List.set_cons_zero, List.set_cons_succ]
        refine wpAnyH_take (i := 14) (oi := { dst := some 24, op := Go.Op.unOp Go.UnOp.not 4 (Go.Operand.tmp 23), type := 4, pos := "ref.go:18", after := #[{ on := 13, ground := Go.Ground.data }, { on := 7, ground := Go.Ground.guard }], guard := some (7, false) }) (v := undef) rfl (by kernel_rfl) (by kernel_rfl) (by kernel_rfl) (fun _ _ _ h => h) (Or.inr ⟨rfl, rfl⟩) (by assumption) ?_
        try simp only [Act.put, List.setIfInBounds_toArray, List.set_cons_zero, List.set_cons_succ]
        refine tk 15 ?_
        refine tk 16 ?_
        refine wpAnyH_take (i := 17) (oi := { dst := some 27, op := Go.Op.move (Go.Operand.tmp 0), type := 25, pos := "ref.go:18", after := #[{ on := 16, ground := Go.Ground.guard }], guard := some (16, false) }) (v := undef) rfl (by kernel_rfl) (by kernel_rfl) (by kernel_rfl) (fun _ _ _ h => h) (Or.inr ⟨rfl, rfl⟩) (by assumption) ?_
        try simp only [Act.put, List.setIfInBounds_toArray, List.set_cons_zero, List.set_cons_succ]
        refine wpAnyH_take (i := 18) (oi := { dst := some 28, op := Go.Op.move (Go.Operand.tmp 3), type := 3, pos := "ref.go:18", after := #[{ on := 16, ground := Go.Ground.guard }], guard := some (16, false) }) (v := undef) rfl (by kernel_rfl) (by kernel_rfl) (by kernel_rfl) (fun _ _ _ h => h) (Or.inr ⟨rfl, rfl⟩) (by assumption) ?_
        try simp only [Act.put, List.setIfInBounds_toArray, List.set_cons_zero, List.set_cons_succ]
        refine wpAnyH_take (i := 19) (oi := { dst := some 29, op := Go.Op.indexAddr 25 (Go.Operand.tmp 27) (Go.Operand.tmp 28), type := 0, pos := "ref.go:18", after := #[{ on := 17, ground := Go.Ground.data }, { on := 18, ground := Go.Ground.data }, { on := 16, ground := Go.Ground.guard }], guard := some (16, false) }) (v := undef) rfl (by kernel_rfl) (by kernel_rfl) (by kernel_rfl) (fun _ _ _ h => h) (Or.inr ⟨rfl, rfl⟩) (by assumption) ?_
        try simp only [Act.put, List.setIfInBounds_toArray, List.set_cons_zero, List.set_cons_succ]
        refine wpAnyH_take (i := 20) (oi := { dst := some 30, op := Go.Op.fieldAddr 64 (Go.Operand.tmp 29) 1, type := 0, pos := "ref.go:18", after := #[{ on := 19, ground := Go.Ground.data }, { on := 16, ground := Go.Ground.guard }], guard := some (16, false) }) (v := undef) rfl (by kernel_rfl) (by kernel_rfl) (by kernel_rfl) (fun _ _ _ h => h) (Or.inr ⟨rfl, rfl⟩) (by assumption) ?_
        try simp only [Act.put, List.setIfInBounds_toArray, List.set_cons_zero, List.set_cons_succ]
        refine wpAnyH_take (i := 21) (oi := { dst := some 31, op := Go.Op.load 24 (Go.Operand.tmp 30), type := 24, pos := "ref.go:18", after := #[{ on := 20, ground := Go.Ground.data }, { on := 16, ground := Go.Ground.guard }], guard := some (16, false) }) (v := undef) rfl (by kernel_rfl) (by kernel_rfl) (by kernel_rfl) (fun _ _ _ h => h) (Or.inr ⟨rfl, rfl⟩) (by assumption) ?_
        try simp only [Act.put, List.setIfInBounds_toArray, List.set_cons_zero, List.set_cons_succ]
        refine wpAnyH_take (i := 22) (oi := { dst := some 32, op := Go.Op.call { callee := Go.Callee.builtin Go.Builtin.len, args := #[Go.Operand.tmp 31], argTypes := #[24] }, type := 3, pos := "ref.go:18", after := #[{ on := 21, ground := Go.Ground.data }, { on := 16, ground := Go.Ground.guard }], guard := some (16, false) }) (v := undef) rfl (by kernel_rfl) (by kernel_rfl) (by kernel_rfl) (fun _ _ _ h => h) (Or.inr ⟨rfl, rfl⟩) (by assumption) ?_
        try simp only [Act.put, List.setIfInBounds_toArray, List.set_cons_zero, List.set_cons_succ]
        refine wpAnyH_take (i := 23) (oi := { dst := some 33, op := Go.Op.binOp Go.BinOp.lss 3 (Go.Operand.tmp 32) (Go.Operand.const (Go.Value.int Go.IntKind.i64 1)) 3, type := 4, pos := "ref.go:18", after := #[{ on := 22, ground := Go.Ground.data }, { on := 16, ground := Go.Ground.guard }], guard := some (16, false) }) (v := undef) rfl (by kernel_rfl) (by kernel_rfl) (by kernel_rfl) (fun _ _ _ h => h) (Or.inr ⟨rfl, rfl⟩) (by assumption) ?_
        try simp only [Act.put, List.setIfInBounds_toArray, List.set_cons_zero, List.set_cons_succ]
        refine tk 24 ?_
        refine tk 25 ?_
        refine wpAnyH_take (i := 26) (oi := { dst := some 36, op := Go.Op.move (Go.Operand.tmp 3), type := 3, pos := "ref.go:18", after := #[{ on := 25, ground := Go.Ground.guard }], guard := some (25, false) }) (v := undef) rfl (by kernel_rfl) (by kernel_rfl) (by kernel_rfl) (fun _ _ _ h => h) (Or.inr ⟨rfl, rfl⟩) (by assumption) ?_
        try simp only [Act.put, List.setIfInBounds_toArray, List.set_cons_zero, List.set_cons_succ]
        refine wpAnyH_take (i := 27) (oi := { dst := some 37, op := Go.Op.binOp Go.BinOp.gtr 3 (Go.Operand.tmp 36) (Go.Operand.const (Go.Value.int Go.IntKind.i64 0)) 3, type := 4, pos := "ref.go:18", after := #[{ on := 26, ground := Go.Ground.data }, { on := 25, ground := Go.Ground.guard }], guard := some (25, false) }) (v := undef) rfl (by kernel_rfl) (by kernel_rfl) (by kernel_rfl) (fun _ _ _ h => h) (Or.inr ⟨rfl, rfl⟩) (by assumption) ?_
        try simp only [Act.put, List.setIfInBounds_toArray, List.set_cons_zero, List.set_cons_succ]
        refine wpAnyH_take (i := 28) (oi := { dst := some 38, op := Go.Op.move (Go.Operand.tmp 37), type := 4, pos := "ref.go:18", after := #[{ on := 27, ground := Go.Ground.data }, { on := 25, ground := Go.Ground.chain }, { on := 25, ground := Go.Ground.guard }], guard := some (25, false) }) (v := undef) rfl (by kernel_rfl) (by kernel_rfl) (by kernel_rfl) (fun _ _ _ h => h) (Or.inr ⟨rfl, rfl⟩) (by assumption) ?_
        try simp only [Act.put, List.setIfInBounds_toArray, List.set_cons_zero, List.set_cons_succ]
        refine wpAnyH_take (i := 29) (oi := { dst := some 39, op := Go.Op.move (Go.Operand.tmp 0), type := 25, pos := "ref.go:18", after := #[{ on := 28, ground := Go.Ground.guard }], guard := some (28, true) }) (v := undef) rfl (by kernel_rfl) (by kernel_rfl) (by kernel_rfl) (fun _ _ _ h => h) (Or.inr ⟨rfl, rfl⟩) (by assumption) ?_
        try simp only [Act.put, List.setIfInBounds_toArray, List.set_cons_zero, List.set_cons_succ]
        refine wpAnyH_take (i := 30) (oi := { dst := some 40, op := Go.Op.move (Go.Operand.tmp 3), type := 3, pos := "ref.go:18", after := #[{ on := 28, ground := Go.Ground.guard }], guard := some (28, true) }) (v := undef) rfl (by kernel_rfl) (by kernel_rfl) (by kernel_rfl) (fun _ _ _ h => h) (Or.inr ⟨rfl, rfl⟩) (by assumption) ?_
        try simp only [Act.put, List.setIfInBounds_toArray, List.set_cons_zero, List.set_cons_succ]
        refine wpAnyH_take (i := 31) (oi := { dst := some 41, op := Go.Op.binOp Go.BinOp.sub 3 (Go.Operand.tmp 40) (Go.Operand.const (Go.Value.int Go.IntKind.i64 1)) 3, type := 3, pos := "ref.go:18", after := #[{ on := 30, ground := Go.Ground.data }, { on := 28, ground := Go.Ground.guard }], guard := some (28, true) }) (v := undef) rfl (by kernel_rfl) (by kernel_rfl) (by kernel_rfl) (fun _ _ _ h => h) (Or.inr ⟨rfl, rfl⟩) (by assumption) ?_
        try simp only [Act.put, List.setIfInBounds_toArray, List.set_cons_zero, List.set_cons_succ]
        refine wpAnyH_take (i := 32) (oi := { dst := some 42, op := Go.Op.indexAddr 25 (Go.Operand.tmp 39) (Go.Operand.tmp 41), type := 0, pos := "ref.go:18", after := #[{ on := 29, ground := Go.Ground.data }, { on := 31, ground := Go.Ground.data }, { on := 28, ground := Go.Ground.guard }], guard := some (28, true) }) (v := undef) rfl (by kernel_rfl) (by kernel_rfl) (by kernel_rfl) (fun _ _ _ h => h) (Or.inr ⟨rfl, rfl⟩) (by assumption) ?_
        try simp only [Act.put, List.setIfInBounds_toArray, List.set_cons_zero, List.set_cons_succ]
        refine wpAnyH_take (i := 33) (oi := { dst := some 43, op := Go.Op.fieldAddr 64 (Go.Operand.tmp 42) 0, type := 0, pos := "ref.go:18", after := #[{ on := 32, ground := Go.Ground.data }, { on := 28, ground := Go.Ground.guard }], guard := some (28, true) }) (v := undef) rfl (by kernel_rfl) (by kernel_rfl) (by kernel_rfl) (fun _ _ _ h => h) (Or.inr ⟨rfl, rfl⟩) (by assumption) ?_
        try simp only [Act.put, List.setIfInBounds_toArray, List.set_cons_zero, List.set_cons_succ]
        refine wpAnyH_take (i := 34) (oi := { dst := some 44, op := Go.Op.load 9 (Go.Operand.tmp 43), type := 9, pos := "ref.go:18", after := #[{ on := 33, ground := Go.Ground.data }, { on := 28, ground := Go.Ground.guard }], guard := some (28, true) }) (v := undef) rfl (by kernel_rfl) (by kernel_rfl) (by kernel_rfl) (fun _ _ _ h => h) (Or.inr ⟨rfl, rfl⟩) (by assumption) ?_
        try simp only [Act.put, List.setIfInBounds_toArray, List.set_cons_zero, List.set_cons_succ]
        refine wpAnyH_take (i := 35) (oi := { dst := some 45, op := Go.Op.move (Go.Operand.tmp 0), type := 25, pos := "ref.go:18", after := #[{ on := 28, ground := Go.Ground.guard }], guard := some (28, true) }) (v := undef) rfl (by kernel_rfl) (by kernel_rfl) (by kernel_rfl) (fun _ _ _ h => h) (Or.inr ⟨rfl, rfl⟩) (by assumption) ?_
        try simp only [Act.put, List.setIfInBounds_toArray, List.set_cons_zero, List.set_cons_succ]
        refine wpAnyH_take (i := 36) (oi := { dst := some 46, op := Go.Op.move (Go.Operand.tmp 3), type := 3, pos := "ref.go:18", after := #[{ on := 28, ground := Go.Ground.guard }], guard := some (28, true) }) (v := undef) rfl (by kernel_rfl) (by kernel_rfl) (by kernel_rfl) (fun _ _ _ h => h) (Or.inr ⟨rfl, rfl⟩) (by assumption) ?_
        try simp only [Act.put, List.setIfInBounds_toArray, List.set_cons_zero, List.set_cons_succ]
        refine wpAnyH_take (i := 37) (oi := { dst := some 47, op := Go.Op.indexAddr 25 (Go.Operand.tmp 45) (Go.Operand.tmp 46), type := 0, pos := "ref.go:18", after := #[{ on := 35, ground := Go.Ground.data }, { on := 36, ground := Go.Ground.data }, { on := 28, ground := Go.Ground.guard }], guard := some (28, true) }) (v := undef) rfl (by kernel_rfl) (by kernel_rfl) (by kernel_rfl) (fun _ _ _ h => h) (Or.inr ⟨rfl, rfl⟩) (by assumption) ?_
        try simp only [Act.put, List.setIfInBounds_toArray, List.set_cons_zero, List.set_cons_succ]
        refine wpAnyH_take (i := 38) (oi := { dst := some 48, op := Go.Op.fieldAddr 64 (Go.Operand.tmp 47) 0, type := 0, pos := "ref.go:18", after := #[{ on := 37, ground := Go.Ground.data }, { on := 28, ground := Go.Ground.guard }], guard := some (28, true) }) (v := undef) rfl (by kernel_rfl) (by kernel_rfl) (by kernel_rfl) (fun _ _ _ h => h) (Or.inr ⟨rfl, rfl⟩) (by assumption) ?_
        try simp only [Act.put, List.setIfInBounds_toArray, List.set_cons_zero, List.set_cons_succ]
        refine wpAnyH_take (i := 39) (oi := { dst := some 49, op := Go.Op.load 9 (Go.Operand.tmp 48), type := 9, pos := "ref.go:18", after := #[{ on := 38, ground := Go.Ground.data }, { on := 28, ground := Go.Ground.guard }], guard := some (28, true) }) (v := undef) rfl (by kernel_rfl) (by kernel_rfl) (by kernel_rfl) (fun _ _ _ h => h) (Or.inr ⟨rfl, rfl⟩) (by assumption) ?_
        try simp only [Act.put, List.setIfInBounds_toArray, List.set_cons_zero, List.set_cons_succ]
        refine wpAnyH_take (i := 40) (oi := { dst := some 50, op := Go.Op.call { callee := Go.Callee.value (Go.Operand.func 104), args := #[Go.Operand.tmp 44, Go.Operand.tmp 49], argTypes := #[9, 9] }, type := 3, pos := "ref.go:18", after := #[{ on := 34, ground := Go.Ground.data }, { on := 39, ground := Go.Ground.data }, { on := 28, ground := Go.Ground.chain }, { on := 28, ground := Go.Ground.guard }], guard := some (28, true) }) (v := undef) rfl (by kernel_rfl) (by kernel_rfl) (by kernel_rfl) (fun _ _ _ h => h) (Or.inr ⟨rfl, rfl⟩) (by assumption) ?_
        try simp only [Act.put, List.setIfInBounds_toArray, List.set_cons_zero, List.set_cons_succ]
        refine wpAnyH_take (i := 41) (oi := { dst := some 51, op := Go.Op.binOp Go.BinOp.geq 3 (Go.Operand.tmp 50) (Go.Operand.const (Go.Value.int Go.IntKind.i64 0)) 3, type := 4, pos := "ref.go:18", after := #[{ on := 40, ground := Go.Ground.data }, { on := 28, ground := Go.Ground.guard }], guard := some (28, true) }) (v := undef) rfl (by kernel_rfl) (by kernel_rfl) (by kernel_rfl) (fun _ _ _ h => h) (Or.inr ⟨rfl, rfl⟩) (by assumption) ?_
        try simp only [Act.put, List.setIfInBounds_toArray, List.set_cons_zero, List.set_cons_succ]
        refine wpAnyH_take (i := 42) (oi := { dst := some 52, op := Go.Op.pick (Go.Operand.tmp 38) (Go.Operand.tmp 51) (Go.Operand.const (Go.Value.bool false)), type := 4, pos := "ref.go:18", after := #[{ on := 28, ground := Go.Ground.data }, { on := 41, ground := Go.Ground.data }, { on := 25, ground := Go.Ground.guard }], guard := some (25, false) }) (v := undef) rfl (by kernel_rfl) (by kernel_rfl) (by kernel_rfl) (fun _ _ _ h => h) (Or.inr ⟨rfl, rfl⟩) (by assumption) ?_
        try simp only [Act.put, List.setIfInBounds_toArray, List.set_cons_zero, List.set_cons_succ]
        refine tk 43 ?_
        refine wpAnyH_done (by kernel_rfl) ?_ _
        go_wp2
        go_ret
        exact ⟨ret_bool HF.out.symm, HB.out⟩
      | true =>
        rw [hr] at HST
        have HR := Lib.hid hr
        clear hr
        cases hq : rightV v with
        | false =>
          rw [hq] at HST
          have HF : Hid (RS = false) := by show _ = _; rw [HST.out]; rfl
          have HQ := Lib.hid hq
          clear hq HST
          generalize v.length = L at *
          go_upto_region 4 with fail
          refine wp_region_held_drew (S := fun w' => w'.cell? ⟨blk, off + k * 2, none⟩ = some (.string id) ∧ w'.cell? ⟨blk, off + k * 2 + 1, none⟩ = some (.slice Ar L cr)) (by kernel_rfl) ⟨e0, e1⟩ (fun hHeld => ?_)
          refine tk 0 ?_
          refine tk 1 ?_
          refine tk 2 ?_
          refine tk 3 ?_
          refine tk 4 ?_
          refine wpAnyH_ready (rs := [5]) (by kernel_rfl) (by simp) ?_
          refine (ac (fun K hK => ?_) AllReadyH.nil)
          go_simp
          go_at_call 33
          refine (rright_is _ true HR _).mono ?_
          rintro e u1 ⟨rfl, hw⟩
          have hb : Below wr.heap.size wr u1 := by rw [← hw]; exact drew_below _ _
          clear hw
          replace e0 := (hb.cell (p := ⟨blk, off + k * 2, none⟩) hbl).trans e0
          replace e1 := (hb.cell (p := ⟨blk, off + k * 2 + 1, none⟩) hbl).trans e1
          replace HVC := Lib.hid (HVC.out.keep (hb.mono (by exact hBr)))
          replace HB := Lib.hid (HB.out.trans (by exact hb.mono HB.out.size))
          replace hbl := Nat.lt_of_lt_of_le hbl hb.size
          replace hBr := Nat.le_trans hBr hb.size
          clear hb
          refine hK.out _ _ ⟨e0, e1⟩ (fun hHeld => ?_)
          clear hK K
          try simp only [Act.put, List.setIfInBounds_toArray, List.set_cons_zero, List.set_cons_succ]
          refine tk 6 ?_
          refine tk 7 ?_
          refine tk 8 ?_
          refine tk 9 ?_
          refine tk 10 ?_
          refine tk 11 ?_
          refine tk 12 ?_
          refine wpAnyH_ready (rs := [13]) (by kernel_rfl) (by simp) ?_
          refine (ac (fun K hK => ?_) AllReadyH.nil)
          go_simp
          go_at_call 108
          refine (HC3.out false _ HQ.out (by exact HVC.out)).mono ?_
          rintro e u2 ⟨rfl, hd⟩
          have hb : Below u1.heap.size u1 u2 := drawn_below hd.out _
          clear hd
          replace e0 := (hb.cell (p := ⟨blk, off + k * 2, none⟩) hbl).trans e0
          replace e1 := (hb.cell (p := ⟨blk, off + k * 2 + 1, none⟩) hbl).trans e1
          replace HVC := Lib.hid (HVC.out.keep (hb.mono (by exact hBr)))
          replace HB := Lib.hid (HB.out.trans (by exact hb.mono HB.out.size))
          replace hbl := Nat.lt_of_lt_of_le hbl hb.size
          replace hBr := Nat.le_trans hBr hb.size
          clear hb
          refine hK.out _ _ ⟨e0, e1⟩ (fun hHeld => ?_)
          clear hK K
          try simp only [Act.put, List.setIfInBounds_toArray, List.set_cons_zero, List.set_cons_succ]
          refine tk 14 ?_
          refine tk 15 ?_
          refine tk 16 ?_
          refine wpAnyH_take (i := 17) (oi := { dst := some 27, op := Go.Op.move (Go.Operand.tmp 0), type := 25, pos := "ref.go:18", after := #[{ on := 16, ground := Go.Ground.guard }], guard := some (16, false) }) (v := undef) rfl (by kernel_rfl) (by kernel_rfl) (by kernel_rfl) (fun _ _ _ h => h) (Or.inr ⟨rfl, rfl⟩) (by assumption) ?_
          try simp only [Act.put, List.setIfInBounds_toArray, List.set_cons_zero, List.set_cons_succ]
          refine wpAnyH_take (i := 18) (oi := { dst := some 28, op := Go.Op.move (Go.Operand.tmp 3), type := 3, pos := "ref.go:18", after := #[{ on := 16, ground := Go.Ground.guard }], guard := some (16, false) }) (v := undef) rfl (by kernel_rfl) (by kernel_rfl) (by kernel_rfl) (fun _ _ _ h => h) (Or.inr ⟨rfl, rfl⟩) (by assumption) ?_
          try simp only [Act.put, List.setIfInBounds_toArray, List.set_cons_zero, List.set_cons_succ]
          refine wpAnyH_take (i := 19) (oi := { dst := some 29, op := Go.Op.indexAddr 25 (Go.Operand.tmp 27) (Go.Operand.tmp 28), type := 0, pos := "ref.go:18", after := #[{ on := 17, ground := Go.Ground.data }, { on := 18, ground := Go.Ground.data }, { on := 16, ground := Go.Ground.guard }], guard := some (16, false) }) (v := undef) rfl (by kernel_rfl) (by kernel_rfl) (by kernel_rfl) (fun _ _ _ h => h) (Or.inr ⟨rfl, rfl⟩) (by assumption) ?_
          try simp only [Act.put, List.setIfInBounds_toArray, List.set_cons_zero, List.set_cons_succ]
          refine wpAnyH_take (i := 20) (oi := { dst := some 30, op := Go.Op.fieldAddr 64 (Go.Operand.tmp 29) 1, type := 0, pos := "ref.go:18", after := #[{ on := 19, ground := Go.Ground.data }, { on := 16, ground := Go.Ground.guard }], guard := some (16, false) }) (v := undef) rfl (by kernel_rfl) (by kernel_rfl) (by kernel_rfl) (fun _ _ _ h => h) (Or.inr ⟨rfl, rfl⟩) (by assumption) ?_
          try simp only [Act.put, List.setIfInBounds_toArray, List.set_cons_zero, List.set_cons_succ]
          refine wpAnyH_take (i := 21) (oi := { dst := some 31, op := Go.Op.load 24 (Go.Operand.tmp 30), type := 24, pos := "ref.go:18", after := #[{ on := 20, ground := Go.Ground.data }, { on := 16, ground := Go.Ground.guard }], guard := some (16, false) }) (v := undef) rfl (by kernel_rfl) (by kernel_rfl) (by kernel_rfl) (fun _ _ _ h => h) (Or.inr ⟨rfl, rfl⟩) (by assumption) ?_
          try simp only [Act.put, List.setIfInBounds_toArray, List.set_cons_zero, List.set_cons_succ]
          refine wpAnyH_take (i := 22) (oi := { dst := some 32, op := Go.Op.call { callee := Go.Callee.builtin Go.Builtin.len, args := #[Go.Operand.tmp 31], argTypes := #[24] }, type := 3, pos := "ref.go:18", after := #[{ on := 21, ground := Go.Ground.data }, { on := 16, ground := Go.Ground.guard }], guard := some (16, false) }) (v := undef) rfl (by kernel_rfl) (by kernel_rfl) (by kernel_rfl) (fun _ _ _ h => h) (Or.inr ⟨rfl, rfl⟩) (by assumption) ?_
          try simp only [Act.put, List.setIfInBounds_toArray, List.set_cons_zero, List.set_cons_succ]
          refine wpAnyH_take (i := 23) (oi := { dst := some 33, op := Go.Op.binOp Go.BinOp.lss 3 (Go.Operand.tmp 32) (Go.Operand.const (Go.Value.int Go.IntKind.i64 1)) 3, type := 4, pos := "ref.go:18", after := #[{ on := 22, ground := Go.Ground.data }, { on := 16, ground := Go.Ground.guard }], guard := some (16, false) }) (v := undef) rfl (by kernel_rfl) (by kernel_rfl) (by kernel_rfl) (fun _ _ _ h => h) (Or.inr ⟨rfl, rfl⟩) (by assumption) ?_
          try simp only [Act.put, List.setIfInBounds_toArray, List.set_cons_zero, List.set_cons_succ]
          refine tk 24 ?_
          refine tk 25 ?_
          refine wpAnyH_take (i := 26) (oi := { dst := some 36, op := Go.Op.move (Go.Operand.tmp 3), type := 3, pos := "ref.go:18", after := #[{ on := 25, ground := Go.Ground.guard }], guard := some (25, false) }) (v := undef) rfl (by kernel_rfl) (by kernel_rfl) (by kernel_rfl) (fun _ _ _ h => h) (Or.inr ⟨rfl, rfl⟩) (by assumption) ?_
          try simp only [Act.put, List.setIfInBounds_toArray, List.set_cons_zero, List.set_cons_succ]
          refine wpAnyH_take (i := 27) (oi := { dst := some 37, op := Go.Op.binOp Go.BinOp.gtr 3 (Go.Operand.tmp 36) (Go.Operand.const (Go.Value.int Go.IntKind.i64 0)) 3, type := 4, pos := "ref.go:18", after := #[{ on := 26, ground := Go.Ground.data }, { on := 25, ground := Go.Ground.guard }], guard := some (25, false) }) (v := undef) rfl (by kernel_rfl) (by kernel_rfl) (by kernel_rfl) (fun _ _ _ h => h) (Or.inr ⟨rfl, rfl⟩) (by assumption) ?_
          try simp only [Act.put, List.setIfInBounds_toArray, List.set_cons_zero, List.set_cons_succ]
          refine wpAnyH_take (i := 28) (oi := { dst := some 38, op := Go.Op.move (Go.Operand.tmp 37), type := 4, pos := "ref.go:18", after := #[{ on := 27, ground := Go.Ground.data }, { on := 25, ground := Go.Ground.chain }, { on := 25, ground := Go.Ground.guard }], guard := some (25, false) }) (v := undef) rfl (by kernel_rfl) (by kernel_rfl) (by kernel_rfl) (fun _ _ _ h => h) (Or.inr ⟨rfl, rfl⟩) (by assumption) ?_
          try simp only [Act.put, List.setIfInBounds_toArray, List.set_cons_zero, List.set_cons_succ]
          refine wpAnyH_take (i := 29) (oi := { dst := some 39, op := Go.Op.move (Go.Operand.tmp 0), type := 25, pos := "ref.go:18", after := #[{ on := 28, ground := Go.Ground.guard }], guard := some (28, true) }) (v := undef) rfl (by kernel_rfl) (by kernel_rfl) (by kernel_rfl) (fun _ _ _ h => h) (Or.inr ⟨rfl, rfl⟩) (by assumption) ?_
          try simp only [Act.put, List.setIfInBounds_toArray, List.set_cons_zero, List.set_cons_succ]
          refine wpAnyH_take (i := 30) (oi := { dst := some 40, op := Go.Op.move (Go.Operand.tmp 3), type := 3, pos := "ref.go:18", after := #[{ on := 28, ground := Go.Ground.guard }], guard := some (28, true) }) (v := undef) rfl (by kernel_rfl) (by kernel_rfl) (by kernel_rfl) (fun _ _ _ h => h) (Or.inr ⟨rfl, rfl⟩) (by assumption) ?_
          try simp only [Act.put, List.setIfInBounds_toArray, List.set_cons_zero, List.set_cons_succ]
          refine wpAnyH_take (i := 31) (oi := { dst := some 41, op := Go.Op.binOp Go.BinOp.sub 3 (Go.Operand.tmp 40) (Go.Operand.const (Go.Value.int Go.IntKind.i64 1)) 3, type := 3, pos := "ref.go:18", after := #[{ on := 30, ground := Go.Ground.data }, { on := 28, ground := Go.Ground.guard }], guard := some (28, true) }) (v := undef) rfl (by kernel_rfl) (by kernel_rfl) (by kernel_rfl) (fun _ _ _ h => h) (Or.inr ⟨rfl, rfl⟩) (by assumption) ?_
          try simp only [Act.put, List.setIfInBounds_toArray, List.set_cons_zero, List.set_cons_succ]
          refine wpAnyH_take (i := 32) (oi := { dst := some 42, op := Go.Op.indexAddr 25 (Go.Operand.tmp 39) (Go.Operand.tmp 41), type := 0, pos := "ref.go:18", after := #[{ on := 29, ground := Go.Ground.data }, { on := 31, ground := Go.Ground.data }, { on := 28, ground := Go.Ground.guard }], guard := some (28, true) }) (v := undef) rfl (by kernel_rfl) (by kernel_rfl) (by kernel_rfl) (fun _ _ _ h => h) (Or.inr ⟨rfl, rfl⟩) (by assumption) ?_
          try simp only [Act.put, List.setIfInBounds_toArray, List.set_cons_zero, List.set_cons_succ]
          refine wpAnyH_take (i := 33) (oi := { dst := some 43, op := Go.Op.fieldAddr 64 (Go.Operand.tmp 42) 0, type := 0, pos := "ref.go:18", after := #[{ on := 32, ground := Go.Ground.data }, { on := 28, ground := Go.Ground.guard }], guard := some (28, true) }) (v := undef) rfl (by kernel_rfl) (by kernel_rfl) (by kernel_rfl) (fun _ _ _ h => h) (Or.inr ⟨rfl, rfl⟩) (by assumption) ?_
          try simp only [Act.put, List.setIfInBounds_toArray, List.set_cons_zero, List.set_cons_succ]
          refine wpAnyH_take (i := 34) (oi := { dst := some 44, op := Go.Op.load 9 (Go.Operand.tmp 43), type := 9, pos := "ref.go:18", after := #[{ on := 33, ground := Go.Ground.data }, { on := 28, ground := Go.Ground.guard }], guard := some (28, true) }) (v := undef) rfl (by kernel_rfl) (by kernel_rfl) (by kernel_rfl) (fun _ _ _ h => h) (Or.inr ⟨rfl, rfl⟩) (by assumption) ?_
          try simp only [Act.put, List.setIfInBounds_toArray, List.set_cons_zero, List.set_cons_succ]
          refine wpAnyH_take (i := 35) (oi := { dst := some 45, op := Go.Op.move (Go.Operand.tmp 0), type := 25, pos := "ref.go:18", after := #[{ on := 28, ground := Go.Ground.guard }], guard := some (28, true) }) (v := undef) rfl (by kernel_rfl) (by kernel_rfl) (by kernel_rfl) (fun _ _ _ h => h) (Or.inr ⟨rfl, rfl⟩) (by assumption) ?_
          try simp only [Act.put, List.setIfInBounds_toArray, List.set_cons_zero, List.set_cons_succ]
          refine wpAnyH_take (i := 36) (oi := { dst := some 46, op := Go.Op.move (Go.Operand.tmp 3), type := 3, pos := "ref.go:18", after := #[{ on := 28, ground := Go.Ground.guard }], guard := some (28, true) }) (v := undef) rfl (by kernel_rfl) (by kernel_rfl) (by kernel_rfl) (fun _ _ _ h => h) (Or.inr ⟨rfl, rfl⟩) (by assumption) ?_
          try simp only [Act.put, List.setIfInBounds_toArray, List.set_cons_zero, List.set_cons_succ]
          refine wpAnyH_take (i := 37) (oi := { dst := some 47, op := Go.Op.indexAddr 25 (Go.Operand.tmp 45) (Go.Operand.tmp 46), type := 0, pos := "ref.go:18", after := #[{ on := 35, ground := Go.Ground.data }, { on := 36, ground := Go.Ground.data }, { on := 28, ground := Go.Ground.guard }], guard := some (28, true) }) (v := undef) rfl (by kernel_rfl) (by kernel_rfl) (by kernel_rfl) (fun _ _ _ h => h) (Or.inr ⟨rfl, rfl⟩) (by assumption) ?_
          try simp only [Act.put, List.setIfInBounds_toArray, List.set_cons_zero, List.set_cons_succ]
          refine wpAnyH_take (i := 38) (oi := { dst := some 48, op := Go.Op.fieldAddr 64 (Go.Operand.tmp 47) 0, type := 0, pos := "ref.go:18", after := #[{ on := 37, ground := Go.Ground.data }, { on := 28, ground := Go.Ground.guard }], guard := some (28, true) }) (v := undef) rfl (by kernel_rfl) (by kernel_rfl) (by kernel_rfl) (fun _ _ _ h => h) (Or.inr ⟨rfl, rfl⟩) (by assumption) ?_
          try simp only [Act.put, List.setIfInBounds_toArray, List.set_cons_zero, List.set_cons_succ]
          refine wpAnyH_take (i := 39) (oi := { dst := some 49, op := Go.Op.load 9 (Go.Operand.tmp 48), type := 9, pos := "ref.go:18", after := #[{ on := 38, ground := Go.Ground.data }, { on := 28, ground := Go.Ground.guard }], guard := some (28, true) }) (v := undef) rfl (by kernel_rfl) (by kernel_rfl) (by kernel_rfl) (fun _ _ _ h => h) (Or.inr ⟨rfl, rfl⟩) (by assumption) ?_
          try simp only [Act.put, List.setIfInBounds_toArray, List.set_cons_zero, List.set_cons_succ]
          refine wpAnyH_take (i := 40) (oi := { dst := some 50, op := Go.Op.call { callee := Go.Callee.value (Go.Operand.func 104), args := #[Go.Operand.tmp 44, Go.Operand.tmp 49], argTypes := #[9, 9] }, type := 3, pos := "ref.go:18", after := #[{ on := 34, ground := Go.Ground.data }, { on := 39, ground := Go.Ground.data }, { on := 28, ground := Go.Ground.chain }, { on := 28, ground := Go.Ground.guard }], guard := some (28, true) }) (v := undef) rfl (by kernel_rfl) (by kernel_rfl) (by kernel_rfl) (fun _ _ _ h => h) (Or.inr ⟨rfl, rfl⟩) (by assumption) ?_
          try simp only [Act.put, List.setIfInBounds_toArray, List.set_cons_zero, List.set_cons_succ]
          refine wpAnyH_take (i := 41) (oi := { dst := some 51, op := Go.Op.binOp Go.BinOp.geq 3 (Go.Operand.tmp 50) (Go.Operand.const (Go.Value.int Go.IntKind.i64 0)) 3, type := 4, pos := "ref.go:18", after := #[{ on := 40, ground := Go.Ground.data }, { on := 28, ground := Go.Ground.guard }], guard := some (28, true) }) (v := undef) rfl (by kernel_rfl) (by kernel_rfl) (by kernel_rfl) (fun _ _ _ h => h) (Or.inr ⟨rfl, rfl⟩) (by assumption) ?_
          try simp only [Act.put, List.setIfInBounds_toArray, List.set_cons_zero, List.set_cons_succ]
          refine wpAnyH_take (i := 42) (oi := { dst := some 52, op := Go.Op.pick (Go.Operand.tmp 38) (Go.Operand.tmp 51) (Go.Operand.const (Go.Value.bool false)), type := 4, pos := "ref.go:18", after := #[{ on := 28, ground := Go.Ground.data }, { on := 41, ground := Go.Ground.data }, { on := 25, ground := Go.Ground.guard }], guard := some (25, false) }) (v := undef) rfl (by kernel_rfl) (by kernel_rfl) (by kernel_rfl) (fun _ _ _ h => h) (Or.inr ⟨rfl, rfl⟩) (by assumption) ?_
          try simp only [Act.put, List.setIfInBounds_toArray, List.set_cons_zero, List.set_cons_succ]
          refine tk 43 ?_
          refine wpAnyH_done (by kernel_rfl) ?_ _
          go_wp2
          go_ret
          exact ⟨ret_bool HF.out.symm, HB.out⟩
        | true =>
          rw [hq] at HST
          have HQ := Lib.hid hq
          clear hq
          rcases Nat.eq_zero_or_pos v.length with h0 | h0
          · have HF : Hid (RS = false) := by show _ = _; rw [HST.out, h0]; rfl
            clear HST
            generalize v.length = L at *
            subst h0
            have hg : ((0 : Int) < 1) := by omega
            go_upto_region 4 with fail
            refine wp_region_held_drew (S := fun w' => w'.cell? ⟨blk, off + k * 2, none⟩ = some (.string id) ∧ w'.cell? ⟨blk, off + k * 2 + 1, none⟩ = some (.slice Ar 0 cr)) (by kernel_rfl) ⟨e0, e1⟩ (fun hHeld => ?_)
            refine tk 0 ?_
            refine tk 1 ?_
            refine tk 2 ?_
            refine tk 3 ?_
            refine tk 4 ?_
            refine wpAnyH_ready (rs := [5]) (by kernel_rfl) (by simp) ?_
            refine (ac (fun K hK => ?_) AllReadyH.nil)
            go_simp
            go_at_call 33
            refine (rright_is _ true HR _).mono ?_
            rintro e u1 ⟨rfl, hw⟩
            have hb : Below wr.heap.size wr u1 := by rw [← hw]; exact drew_below _ _
            clear hw
            replace e0 := (hb.cell (p := ⟨blk, off + k * 2, none⟩) hbl).trans e0
            replace e1 := (hb.cell (p := ⟨blk, off + k * 2 + 1, none⟩) hbl).trans e1
            replace HVC := Lib.hid (HVC.out.keep (hb.mono (by exact hBr)))
            replace HB := Lib.hid (HB.out.trans (by exact hb.mono HB.out.size))
            replace hbl := Nat.lt_of_lt_of_le hbl hb.size
            replace hBr := Nat.le_trans hBr hb.size
            clear hb
            refine hK.out _ _ ⟨e0, e1⟩ (fun hHeld => ?_)
            clear hK K
            try simp only [Act.put, List.setIfInBounds_toArray, List.set_cons_zero, List.set_cons_succ]
            refine tk 6 ?_
            refine tk 7 ?_
            refine tk 8 ?_
            refine tk 9 ?_
            refine tk 10 ?_
            refine tk 11 ?_
            refine tk 12 ?_
            refine wpAnyH_ready (rs := [13]) (by kernel_rfl) (by simp) ?_
            refine (ac (fun K hK => ?_) AllReadyH.nil)
            go_simp
            go_at_call 108
            refine (HC3.out true _ HQ.out (by exact HVC.out)).mono ?_
            rintro e u2 ⟨rfl, hd⟩
            have hb : Below u1.heap.size u1 u2 := drawn_below hd.out _
            clear hd
            replace e0 := (hb.cell (p := ⟨blk, off + k * 2, none⟩) hbl).trans e0
            replace e1 := (hb.cell (p := ⟨blk, off + k * 2 + 1, none⟩) hbl).trans e1
            replace HVC := Lib.hid (HVC.out.keep (hb.mono (by exact hBr)))
            replace HB := Lib.hid (HB.out.trans (by exact hb.mono HB.out.size))
            replace hbl := Nat.lt_of_lt_of_le hbl hb.size
            replace hBr := Nat.le_trans hBr hb.size
            clear hb
            refine hK.out _ _ ⟨e0, e1⟩ (fun hHeld => ?_)
            clear hK K
            try simp only [Act.put, List.setIfInBounds_toArray, List.set_cons_zero, List.set_cons_succ]
            refine tk 14 ?_
            refine tk 15 ?_
            refine tk 16 ?_
            refine tk 17 ?_
            refine tk 18 ?_
            refine tk 19 ?_
            refine tk 20 ?_
            refine tk 21 ?_
            refine tk 22 ?_
            refine tk 23 ?_
            refine tk 24 ?_
            refine tk 25 ?_
            refine wpAnyH_take (i := 26) (oi := { dst := some 36, op := Go.Op.move (Go.Operand.tmp 3), type := 3, pos := "ref.go:18", after := #[{ on := 25, ground := Go.Ground.guard }], guard := some (25, false) }) (v := undef) rfl (by kernel_rfl) (by kernel_rfl) (by kernel_rfl) (fun _ _ _ h => h) (Or.inr ⟨rfl, rfl⟩) (by assumption) ?_
            try simp only [Act.put, List.setIfInBounds_toArray, List.set_cons_zero, List.set_cons_succ]
            refine wpAnyH_take (i := 27) (oi := { dst := some 37, op := Go.Op.binOp Go.BinOp.gtr 3 (Go.Operand.tmp 36) (Go.Operand.const (Go.Value.int Go.IntKind.i64 0)) 3, type := 4, pos := "ref.go:18", after := #[{ on := 26, ground := Go.Ground.data }, { on := 25, ground := Go.Ground.guard }], guard := some (25, false) }) (v := undef) rfl (by kernel_rfl) (by kernel_rfl) (by kernel_rfl) (fun _ _ _ h => h) (Or.inr ⟨rfl, rfl⟩) (by assumption) ?_
            try simp only [Act.put, List.setIfInBounds_toArray, List.set_cons_zero, List.set_cons_succ]
            refine wpAnyH_take (i := 28) (oi := { dst := some 38, op := Go.Op.move (Go.Operand.tmp 37), type := 4, pos := "ref.go:18", after := #[{ on := 27, ground := Go.Ground.data }, { on := 25, ground := Go.Ground.chain }, { on := 25, ground := Go.Ground.guard }], guard := some (25, false) }) (v := undef) rfl (by kernel_rfl) (by kernel_rfl) (by kernel_rfl) (fun _ _ _ h => h) (Or.inr ⟨rfl, rfl⟩) (by assumption) ?_
            try simp only [Act.put, List.setIfInBounds_toArray, List.set_cons_zero, List.set_cons_succ]
            refine wpAnyH_take (i := 29) (oi := { dst := some 39, op := Go.Op.move (Go.Operand.tmp 0), type := 25, pos := "ref.go:18", after := #[{ on := 28, ground := Go.Ground.guard }], guard := some (28, true) }) (v := undef) rfl (by kernel_rfl) (by kernel_rfl) (by kernel_rfl) (fun _ _ _ h => h) (Or.inr ⟨rfl, rfl⟩) (by assumption) ?_
            try simp only [Act.put, List.setIfInBounds_toArray, List.set_cons_zero, List.set_cons_succ]
            refine wpAnyH_take (i := 30) (oi := { dst := some 40, op := Go.Op.move (Go.Operand.tmp 3), type := 3, pos := "ref.go:18", after := #[{ on := 28, ground := Go.Ground.guard }], guard := some (28, true) }) (v := undef) rfl (by kernel_rfl) (by kernel_rfl) (by kernel_rfl) (fun _ _ _ h => h) (Or.inr ⟨rfl, rfl⟩) (by assumption) ?_
            try simp only [Act.put, List.setIfInBounds_toArray, List.set_cons_zero, List.set_cons_succ]
            refine wpAnyH_take (i := 31) (oi := { dst := some 41, op := Go.Op.binOp Go.BinOp.sub 3 (Go.Operand.tmp 40) (Go.Operand.const (Go.Value.int Go.IntKind.i64 1)) 3, type := 3, pos := "ref.go:18", after := #[{ on := 30, ground := Go.Ground.data }, { on := 28, ground := Go.Ground.guard }], guard := some (28, true) }) (v := undef) rfl (by kernel_rfl) (by kernel_rfl) (by kernel_rfl) (fun _ _ _ h => h) (Or.inr ⟨rfl, rfl⟩) (by assumption) ?_
            try simp only [Act.put, List.setIfInBounds_toArray, List.set_cons_zero, List.set_cons_succ]
            refine wpAnyH_take (i := 32) (oi := { dst := some 42, op := Go.Op.indexAddr 25 (Go.Operand.tmp 39) (Go.Operand.tmp 41), type := 0, pos := "ref.go:18", after := #[{ on := 29, ground := Go.Ground.data }, { on := 31, ground := Go.Ground.data }, { on := 28, ground := Go.Ground.guard }], guard := some (28, true) }) (v := undef) rfl (by kernel_rfl) (by kernel_rfl) (by kernel_rfl) (fun _ _ _ h => h) (Or.inr ⟨rfl, rfl⟩) (by assumption) ?_
            try simp only [Act.put, List.setIfInBounds_toArray, List.set_cons_zero, List.set_cons_succ]
            refine wpAnyH_take (i := 33) (oi := { dst := some 43, op := Go.Op.fieldAddr 64 (Go.Operand.tmp 42) 0, type := 0, pos := "ref.go:18", after := #[{ on := 32, ground := Go.Ground.data }, { on := 28, ground := Go.Ground.guard }], guard := some (28, true) }) (v := undef) rfl (by kernel_rfl) (by kernel_rfl) (by kernel_rfl) (fun _ _ _ h => h) (Or.inr ⟨rfl, rfl⟩) (by assumption) ?_
            try simp only [Act.put, List.setIfInBounds_toArray, List.set_cons_zero, List.set_cons_succ]
            refine wpAnyH_take (i := 34) (oi := { dst := some 44, op := Go.Op.load 9 (Go.Operand.tmp 43), type := 9, pos := "ref.go:18", after := #[{ on := 33, ground := Go.Ground.data }, { on := 28, ground := Go.Ground.guard }], guard := some (28, true) }) (v := undef) rfl (by kernel_rfl) (by kernel_rfl) (by kernel_rfl) (fun _ _ _ h => h) (Or.inr ⟨rfl, rfl⟩) (by assumption) ?_
            try simp only [Act.put, List.setIfInBounds_toArray, List.set_cons_zero, List.set_cons_succ]
            refine wpAnyH_take (i := 35) (oi := { dst := some 45, op := Go.Op.move (Go.Operand.tmp 0), type := 25, pos := "ref.go:18", after := #[{ on := 28, ground := Go.Ground.guard }], guard := some (28, true) }) (v := undef) rfl (by kernel_rfl) (by kernel_rfl) (by kernel_rfl) (fun _ _ _ h => h) (Or.inr ⟨rfl, rfl⟩) (by assumption) ?_
            try simp only [Act.put, List.setIfInBounds_toArray, List.set_cons_zero, List.set_cons_succ]
            refine wpAnyH_take (i := 36) (oi := { dst := some 46, op := Go.Op.move (Go.Operand.tmp 3), type := 3, pos := "ref.go:18", after := #[{ on := 28, ground := Go.Ground.guard }], guard := some (28, true) }) (v := undef) rfl (by kernel_rfl) (by kernel_rfl) (by kernel_rfl) (fun _ _ _ h => h) (Or.inr ⟨rfl, rfl⟩) (by assumption) ?_
            try simp only [Act.put, List.setIfInBounds_toArray, List.set_cons_zero, List.set_cons_succ]
            refine wpAnyH_take (i := 37) (oi := { dst := some 47, op := Go.Op.indexAddr 25 (Go.Operand.tmp 45) (Go.Operand.tmp 46), type := 0, pos := "ref.go:18", after := #[{ on := 35, ground := Go.Ground.data }, { on := 36, ground := Go.Ground.data }, { on := 28, ground := Go.Ground.guard }], guard := some (28, true) }) (v := undef) rfl (by kernel_rfl) (by kernel_rfl) (by kernel_rfl) (fun _ _ _ h => h) (Or.inr ⟨rfl, rfl⟩) (by assumption) ?_
            try simp only [Act.put, List.setIfInBounds_toArray, List.set_cons_zero, List.set_cons_succ]
            refine wpAnyH_take (i := 38) (oi := { dst := some 48, op := Go.Op.fieldAddr 64 (Go.Operand.tmp 47) 0, type := 0, pos := "ref.go:18", after := #[{ on := 37, ground := Go.Ground.data }, { on := 28, ground := Go.Ground.guard }], guard := some (28, true) }) (v := undef) rfl (by kernel_rfl) (by kernel_rfl) (by kernel_rfl) (fun _ _ _ h => h) (Or.inr ⟨rfl, rfl⟩) (by assumption) ?_
            try simp only [Act.put, List.setIfInBounds_toArray, List.set_cons_zero, List.set_cons_succ]
            refine wpAnyH_take (i := 39) (oi := { dst := some 49, op := Go.Op.load 9 (Go.Operand.tmp 48), type := 9, pos := "ref.go:18", after := #[{ on := 38, ground := Go.Ground.data }, { on := 28, ground := Go.Ground.guard }], guard := some (28, true) }) (v := undef) rfl (by kernel_rfl) (by kernel_rfl) (by kernel_rfl) (fun _ _ _ h => h) (Or.inr ⟨rfl, rfl⟩) (by assumption) ?_
            try simp only [Act.put, List.setIfInBounds_toArray, List.set_cons_zero, List.set_cons_succ]
            refine wpAnyH_take (i := 40) (oi := { dst := some 50, op := Go.Op.call { callee := Go.Callee.value (Go.Operand.func 104), args := #[Go.Operand.tmp 44, Go.Operand.tmp 49], argTypes := #[9, 9] }, type := 3, pos := "ref.go:18", after := #[{ on := 34, ground := Go.Ground.data }, { on := 39, ground := Go.Ground.data }, { on := 28, ground := Go.Ground.chain }, { on := 28, ground := Go.Ground.guard }], guard := some (28, true) }) (v := undef) rfl (by kernel_rfl) (by kernel_rfl) (by kernel_rfl) (fun _ _ _ h => h) (Or.inr ⟨rfl, rfl⟩) (by assumption) ?_
            try simp only [Act.put, List.setIfInBounds_toArray, List.set_cons_zero, List.set_cons_succ]
            refine wpAnyH_take (i := 41) (oi := { dst := some 51, op := Go.Op.binOp Go.BinOp.geq 3 (Go.Operand.tmp 50) (Go.Operand.const (Go.Value.int Go.IntKind.i64 0)) 3, type := 4, pos := "ref.go:18", after := #[{ on := 40, ground := Go.Ground.data }, { on := 28, ground := Go.Ground.guard }], guard := some (28, true) }) (v := undef) rfl (by kernel_rfl) (by kernel_rfl) (by kernel_rfl) (fun _ _ _ h => h) (Or.inr ⟨rfl, rfl⟩) (by assumption) ?_
            try simp only [Act.put, List.setIfInBounds_toArray, List.set_cons_zero, List.set_cons_succ]
            refine wpAnyH_take (i := 42) (oi := { dst := some 52, op := Go.Op.pick (Go.Operand.tmp 38) (Go.Operand.tmp 51) (Go.Operand.const (Go.Value.bool false)), type := 4, pos := "ref.go:18", after := #[{ on := 28, ground := Go.Ground.data }, { on := 41, ground := Go.Ground.data }, { on := 25, ground := Go.Ground.guard }], guard := some (25, false) }) (v := undef) rfl (by kernel_rfl) (by kernel_rfl) (by kernel_rfl) (fun _ _ _ h => h) (Or.inr ⟨rfl, rfl⟩) (by assumption) ?_
            try simp only [Act.put, List.setIfInBounds_toArray, List.set_cons_zero, List.set_cons_succ]
            refine tk 43 ?_
            refine wpAnyH_done (by kernel_rfl) ?_ _
            go_wp2
            go_ret
            exact ⟨ret_bool HF.out.symm, HB.out⟩
          · have hg : decide ((v.length : Int) < 1) = false := decide_eq_false (by omega)
            have hd0 : decide (v.length ≠ 0) = true := by simp; intro e; rw [e] at h0; simp at h0
            rw [hd0] at HST
            have hg' : ¬ ((v.length : Int) < 1) := by omega
            generalize v.length = L at *
            by_cases hk0 : k = 0
            · have hpv : prevI m k = none := by unfold prevI; rw [if_pos hk0]
              rw [hpv, prevOk_none] at HST
              have HN : Hid (rightFromM (prevI m (k + 1)) (m.drop (k + 1)) = RS) := by show _ = _; rw [HST.out]; simp
              have hgd : decide (0 < k) = false := by simp; omega
              clear HST hpv hk0 hd0 h0
              go_upto_region 4 with fail
              refine wp_region_held_drew (S := fun w' => w'.cell? ⟨blk, off + k * 2, none⟩ = some (.string id) ∧ w'.cell? ⟨blk, off + k * 2 + 1, none⟩ = some (.slice Ar L cr)) (by kernel_rfl) ⟨e0, e1⟩ (fun hHeld => ?_)
              refine tk 0 ?_
              refine tk 1 ?_
              refine tk 2 ?_
              refine tk 3 ?_
              refine tk 4 ?_
              refine wpAnyH_ready (rs := [5]) (by kernel_rfl) (by simp) ?_
              refine (ac (fun K hK => ?_) AllReadyH.nil)
              go_simp
              go_at_call 33
              refine (rright_is _ true HR _).mono ?_
              rintro e u1 ⟨rfl, hw⟩
              have hb : Below wr.heap.size wr u1 := by rw [← hw]; exact drew_below _ _
              clear hw
              replace e0 := (hb.cell (p := ⟨blk, off + k * 2, none⟩) hbl).trans e0
              replace e1 := (hb.cell (p := ⟨blk, off + k * 2 + 1, none⟩) hbl).trans e1
              replace HVC := Lib.hid (HVC.out.keep (hb.mono (by exact hBr)))
              replace HB := Lib.hid (HB.out.trans (by exact hb.mono HB.out.size))
              replace hbl := Nat.lt_of_lt_of_le hbl hb.size
              replace hBr := Nat.le_trans hBr hb.size
              clear hb
              refine hK.out _ _ ⟨e0, e1⟩ (fun hHeld => ?_)
              clear hK K
              try simp only [Act.put, List.setIfInBounds_toArray, List.set_cons_zero, List.set_cons_succ]
              refine tk 6 ?_
              refine tk 7 ?_
              refine tk 8 ?_
              refine tk 9 ?_
              refine tk 10 ?_
              refine tk 11 ?_
              refine tk 12 ?_
              refine wpAnyH_ready (rs := [13]) (by kernel_rfl) (by simp) ?_
              refine (ac (fun K hK => ?_) AllReadyH.nil)
              go_simp
              go_at_call 108
              refine (HC3.out true _ HQ.out (by exact HVC.out)).mono ?_
              rintro e u2 ⟨rfl, hd⟩
              have hb : Below u1.heap.size u1 u2 := drawn_below hd.out _
              clear hd
              replace e0 := (hb.cell (p := ⟨blk, off + k * 2, none⟩) hbl).trans e0
              replace e1 := (hb.cell (p := ⟨blk, off + k * 2 + 1, none⟩) hbl).trans e1
              replace HVC := Lib.hid (HVC.out.keep (hb.mono (by exact hBr)))
              replace HB := Lib.hid (HB.out.trans (by exact hb.mono HB.out.size))
              replace hbl := Nat.lt_of_lt_of_le hbl hb.size
              replace hBr := Nat.le_trans hBr hb.size
              clear hb
              refine hK.out _ _ ⟨e0, e1⟩ (fun hHeld => ?_)
              clear hK K
              try simp only [Act.put, List.setIfInBounds_toArray, List.set_cons_zero, List.set_cons_succ]
              refine tk 14 ?_
              refine tk 15 ?_
              refine tk 16 ?_
              refine tk 17 ?_
              refine tk 18 ?_
              refine tk 19 ?_
              refine tk 20 ?_
              refine tk 21 ?_
              refine tk 22 ?_
              refine tk 23 ?_
              refine tk 24 ?_
              refine tk 25 ?_
              refine tk 26 ?_
              refine tk 27 ?_
              refine tk 28 ?_
              refine wpAnyH_take (i := 29) (oi := { dst := some 39, op := Go.Op.move (Go.Operand.tmp 0), type := 25, pos := "ref.go:18", after := #[{ on := 28, ground := Go.Ground.guard }], guard := some (28, true) }) (v := undef) rfl (by kernel_rfl) (by kernel_rfl) (by kernel_rfl) (fun _ _ _ h => h) (Or.inr ⟨rfl, rfl⟩) (by assumption) ?_
              try simp only [Act.put, List.setIfInBounds_toArray, List.set_cons_zero, List.set_cons_succ]
              refine wpAnyH_take (i := 30) (oi := { dst := some 40, op := Go.Op.move (Go.Operand.tmp 3), type := 3, pos := "ref.go:18", after := #[{ on := 28, ground := Go.Ground.guard }], guard := some (28, true) }) (v := undef) rfl (by kernel_rfl) (by kernel_rfl) (by kernel_rfl) (fun _ _ _ h => h) (Or.inr ⟨rfl, rfl⟩) (by assumption) ?_
              try simp only [Act.put, List.setIfInBounds_toArray, List.set_cons_zero, List.set_cons_succ]
              refine wpAnyH_take (i := 31) (oi := { dst := some 41, op := Go.Op.binOp Go.BinOp.sub 3 (Go.Operand.tmp 40) (Go.Operand.const (Go.Value.int Go.IntKind.i64 1)) 3, type := 3, pos := "ref.go:18", after := #[{ on := 30, ground := Go.Ground.data }, { on := 28, ground := Go.Ground.guard }], guard := some (28, true) }) (v := undef) rfl (by kernel_rfl) (by kernel_rfl) (by kernel_rfl) (fun _ _ _ h => h) (Or.inr ⟨rfl, rfl⟩) (by assumption) ?_
              try simp only [Act.put, List.setIfInBounds_toArray, List.set_cons_zero, List.set_cons_succ]
              refine wpAnyH_take (i := 32) (oi := { dst := some 42, op := Go.Op.indexAddr 25 (Go.Operand.tmp 39) (Go.Operand.tmp 41), type := 0, pos := "ref.go:18", after := #[{ on := 29, ground := Go.Ground.data }, { on := 31, ground := Go.Ground.data }, { on := 28, ground := Go.Ground.guard }], guard := some (28, true) }) (v := undef) rfl (by kernel_rfl) (by kernel_rfl) (by kernel_rfl) (fun _ _ _ h => h) (Or.inr ⟨rfl, rfl⟩) (by assumption) ?_
              try simp only [Act.put, List.setIfInBounds_toArray, List.set_cons_zero, List.set_cons_succ]
              refine wpAnyH_take (i := 33) (oi := { dst := some 43, op := Go.Op.fieldAddr 64 (Go.Operand.tmp 42) 0, type := 0, pos := "ref.go:18", after := #[{ on := 32, ground := Go.Ground.data }, { on := 28, ground := Go.Ground.guard }], guard := some (28, true) }) (v := undef) rfl (by kernel_rfl) (by kernel_rfl) (by kernel_rfl) (fun _ _ _ h => h) (Or.inr ⟨rfl, rfl⟩) (by assumption) ?_
              try simp only [Act.put, List.setIfInBounds_toArray, List.set_cons_zero, List.set_cons_succ]
              refine wpAnyH_take (i := 34) (oi := { dst := some 44, op := Go.Op.load 9 (Go.Operand.tmp 43), type := 9, pos := "ref.go:18", after := #[{ on := 33, ground := Go.Ground.data }, { on := 28, ground := Go.Ground.guard }], guard := some (28, true) }) (v := undef) rfl (by kernel_rfl) (by kernel_rfl) (by kernel_rfl) (fun _ _ _ h => h) (Or.inr ⟨rfl, rfl⟩) (by assumption) ?_
              try simp only [Act.put, List.setIfInBounds_toArray, List.set_cons_zero, List.set_cons_succ]
              refine wpAnyH_take (i := 35) (oi := { dst := some 45, op := Go.Op.move (Go.Operand.tmp 0), type := 25, pos := "ref.go:18", after := #[{ on := 28, ground := Go.Ground.guard }], guard := some (28, true) }) (v := undef) rfl (by kernel_rfl) (by kernel_rfl) (by kernel_rfl) (fun _ _ _ h => h) (Or.inr ⟨rfl, rfl⟩) (by assumption) ?_
              try simp only [Act.put, List.setIfInBounds_toArray, List.set_cons_zero, List.set_cons_succ]
              refine wpAnyH_take (i := 36) (oi := { dst := some 46, op := Go.Op.move (Go.Operand.tmp 3), type := 3, pos := "ref.go:18", after := #[{ on := 28, ground := Go.Ground.guard }], guard := some (28, true) }) (v := undef) rfl (by kernel_rfl) (by kernel_rfl) (by kernel_rfl) (fun _ _ _ h => h) (Or.inr ⟨rfl, rfl⟩) (by assumption) ?_
              try simp only [Act.put, List.setIfInBounds_toArray, List.set_cons_zero, List.set_cons_succ]
              refine wpAnyH_take (i := 37) (oi := { dst := some 47, op := Go.Op.indexAddr 25 (Go.Operand.tmp 45) (Go.Operand.tmp 46), type := 0, pos := "ref.go:18", after := #[{ on := 35, ground := Go.Ground.data }, { on := 36, ground := Go.Ground.data }, { on := 28, ground := Go.Ground.guard }], guard := some (28, true) }) (v := undef) rfl (by kernel_rfl) (by kernel_rfl) (by kernel_rfl) (fun _ _ _ h => h) (Or.inr ⟨rfl, rfl⟩) (by assumption) ?_
              try simp only [Act.put, List.setIfInBounds_toArray, List.set_cons_zero, List.set_cons_succ]
              refine wpAnyH_take (i := 38) (oi := { dst := some 48, op := Go.Op.fieldAddr 64 (Go.Operand.tmp 47) 0, type := 0, pos := "ref.go:18", after := #[{ on := 37, ground := Go.Ground.data }, { on := 28, ground := Go.Ground.guard }], guard := some (28, true) }) (v := undef) rfl (by kernel_rfl) (by kernel_rfl) (by kernel_rfl) (fun _ _ _ h => h) (Or.inr ⟨rfl, rfl⟩) (by assumption) ?_
              try simp only [Act.put, List.setIfInBounds_toArray, List.set_cons_zero, List.set_cons_succ]
              refine wpAnyH_take (i := 39) (oi := { dst := some 49, op := Go.Op.load 9 (Go.Operand.tmp 48), type := 9, pos := "ref.go:18", after := #[{ on := 38, ground := Go.Ground.data }, { on := 28, ground := Go.Ground.guard }], guard := some (28, true) }) (v := undef) rfl (by kernel_rfl) (by kernel_rfl) (by kernel_rfl) (fun _ _ _ h => h) (Or.inr ⟨rfl, rfl⟩) (by assumption) ?_
              try simp only [Act.put, List.setIfInBounds_toArray, List.set_cons_zero, List.set_cons_succ]
              refine wpAnyH_take (i := 40) (oi := { dst := some 50, op := Go.Op.call { callee := Go.Callee.value (Go.Operand.func 104), args := #[Go.Operand.tmp 44, Go.Operand.tmp 49], argTypes := #[9, 9] }, type := 3, pos := "ref.go:18", after := #[{ on := 34, ground := Go.Ground.data }, { on := 39, ground := Go.Ground.data }, { on := 28, ground := Go.Ground.chain }, { on := 28, ground := Go.Ground.guard }], guard := some (28, true) }) (v := undef) rfl (by kernel_rfl) (by kernel_rfl) (by kernel_rfl) (fun _ _ _ h => h) (Or.inr ⟨rfl, rfl⟩) (by assumption) ?_
              try simp only [Act.put, List.setIfInBounds_toArray, List.set_cons_zero, List.set_cons_succ]
              refine wpAnyH_take (i := 41) (oi := { dst := some 51, op := Go.Op.binOp Go.BinOp.geq 3 (Go.Operand.tmp 50) (Go.Operand.const (Go.Value.int Go.IntKind.i64 0)) 3, type := 4, pos := "ref.go:18", after := #[{ on := 40, ground := Go.Ground.data }, { on := 28, ground := Go.Ground.guard }], guard := some (28, true) }) (v := undef) rfl (by kernel_rfl) (by kernel_rfl) (by kernel_rfl) (fun _ _ _ h => h) (Or.inr ⟨rfl, rfl⟩) (by assumption) ?_
              try simp only [Act.put, List.setIfInBounds_toArray, List.set_cons_zero, List.set_cons_succ]
              refine tk 42 ?_
              refine tk 43 ?_
              refine wpAnyH_done (by kernel_rfl) ?_ _
              go_wp2
              go_roundw
              case rel => exact ⟨k + 1, by omega, by go_num, HN, HB⟩
              case measure => simp [intOf]; omega
            · obtain ⟨b2, o2, r2, e2, _, hm2, d0, _, _⟩ := HZ.out.get (HB.out.mono hB) (k := k - 1) (by omega)
              injection e2 with e2
              injection e2 with e2 e3
              subst e2 e3
              have hpv : prevI m k = some r2.id := by unfold prevI; rw [if_neg hk0, hm2]; rfl
              rw [hpv, prevOk_some] at HST
              have hgd : decide (0 < k) = true := by simp; omega
              have hj0 : (1 : Int) ≤ (k : Int) := by omega
              have hks : IntKind.i64.wrap ((k : Int) - 1) = ((k - 1 : Nat) : Int) := by rw [IntWalk.i64_in _ (by omega)]; omega
              have hki : (((k - 1 : Nat) : Int)) < n := by omega
              have hki0 : (0 : Int) ≤ ((k - 1 : Nat) : Int) := by omega
              have HSZ : Hid (r2.id.size ≤ 9223372036854775807) := (HSH.out _ (List.mem_of_getElem? hm2)).1
              generalize r2.id = pid at *
              obtain ⟨y, hy⟩ : ∃ y, cmpId pid id = y := ⟨_, rfl⟩
              have HY : Hid (Lib.compareBytes pid.data.toList id.data.toList = y) := hy
              rw [hy] at HST
              clear hpv hk0 hd0 h0 hm2 hy
              go_upto_region 4 with fail
              refine wp_region_held_drew (S := fun w' => w'.cell? ⟨blk, off + k * 2, none⟩ = some (.string id) ∧ w'.cell? ⟨blk, off + k * 2 + 1, none⟩ = some (.slice Ar L cr) ∧ w'.cell? ⟨blk, off + (k - 1) * 2, none⟩ = some (.string pid)) (by kernel_rfl) ⟨e0, e1, d0⟩ (fun hHeld => ?_)
              refine tk 0 ?_
              refine tk 1 ?_
              refine tk 2 ?_
              refine tk 3 ?_
              refine tk 4 ?_
              refine wpAnyH_ready (rs := [5]) (by kernel_rfl) (by simp) ?_
              refine (ac (fun K hK => ?_) AllReadyH.nil)
              go_simp
              go_at_call 33
              refine (rright_is _ true HR _).mono ?_
              rintro e u1 ⟨rfl, hw⟩
              have hb : Below wr.heap.size wr u1 := by rw [← hw]; exact drew_below _ _
              clear hw
              replace e0 := (hb.cell (p := ⟨blk, off + k * 2, none⟩) hbl).trans e0
              replace e1 := (hb.cell (p := ⟨blk, off + k * 2 + 1, none⟩) hbl).trans e1
              replace d0 := (hb.cell (p := ⟨blk, off + (k - 1) * 2, none⟩) hbl).trans d0
              replace HVC := Lib.hid (HVC.out.keep (hb.mono (by exact hBr)))
              replace HB := Lib.hid (HB.out.trans (by exact hb.mono HB.out.size))
              replace hbl := Nat.lt_of_lt_of_le hbl hb.size
              replace hBr := Nat.le_trans hBr hb.size
              clear hb
              refine hK.out _ _ ⟨e0, e1, d0⟩ (fun hHeld => ?_)
              clear hK K
              try simp only [Act.put, List.setIfInBounds_toArray, List.set_cons_zero, List.set_cons_succ]
              refine tk 6 ?_
              refine tk 7 ?_
              refine tk 8 ?_
              refine tk 9 ?_
              refine tk 10 ?_
              refine tk 11 ?_
              refine tk 12 ?_
              refine wpAnyH_ready (rs := [13]) (by kernel_rfl) (by simp) ?_
              refine (ac (fun K hK => ?_) AllReadyH.nil)
              go_simp
              go_at_call 108
              refine (HC3.out true _ HQ.out (by exact HVC.out)).mono ?_
              rintro e u2 ⟨rfl, hd⟩
              have hb : Below u1.heap.size u1 u2 := drawn_below hd.out _
              clear hd
              replace e0 := (hb.cell (p := ⟨blk, off + k * 2, none⟩) hbl).trans e0
              replace e1 := (hb.cell (p := ⟨blk, off + k * 2 + 1, none⟩) hbl).trans e1
              replace d0 := (hb.cell (p := ⟨blk, off + (k - 1) * 2, none⟩) hbl).trans d0
              replace HVC := Lib.hid (HVC.out.keep (hb.mono (by exact hBr)))
              replace HB := Lib.hid (HB.out.trans (by exact hb.mono HB.out.size))
              replace hbl := Nat.lt_of_lt_of_le hbl hb.size
              replace hBr := Nat.le_trans hBr hb.size
              clear hb
              refine hK.out _ _ ⟨e0, e1, d0⟩ (fun hHeld => ?_)
              clear hK K
              try simp only [Act.put, List.setIfInBounds_toArray, List.set_cons_zero, List.set_cons_succ]
              refine tk 14 ?_
              refine tk 15 ?_
              refine tk 16 ?_
              refine tk 17 ?_
              refine tk 18 ?_
              refine tk 19 ?_
              refine tk 20 ?_
              refine tk 21 ?_
              refine tk 22 ?_
              refine tk 23 ?_
              refine tk 24 ?_
              refine tk 25 ?_
              refine tk 26 ?_
              refine tk 27 ?_
              refine tk 28 ?_
              refine tk 29 ?_
              refine tk 30 ?_
              refine tk 31 ?_
              refine tk 32 ?_
              refine tk 33 ?_
              refine tk 34 ?_
              refine tk 35 ?_
              refine tk 36 ?_
              refine tk 37 ?_
              refine tk 38 ?_
              refine tk 39 ?_
              refine wpAnyH_ready (rs := [40]) (by kernel_rfl) (by simp) ?_
              refine (ac (fun K hK => ?_) AllReadyH.nil)
              go_simp
              go_at_call 104
              refine (rcompare_is _ _ _ HY _ HSZ).mono ?_
              rintro e u3 ⟨rfl, hd⟩
              have hb : Below u2.heap.size u2 u3 := drawn_below hd.out _
              clear hd
              replace e0 := (hb.cell (p := ⟨blk, off + k * 2, none⟩) hbl).trans e0
              replace e1 := (hb.cell (p := ⟨blk, off + k * 2 + 1, none⟩) hbl).trans e1
              replace d0 := (hb.cell (p := ⟨blk, off + (k - 1) * 2, none⟩) hbl).trans d0
              replace HVC := Lib.hid (HVC.out.keep (hb.mono (by exact hBr)))
              replace HB := Lib.hid (HB.out.trans (by exact hb.mono HB.out.size))
              replace hbl := Nat.lt_of_lt_of_le hbl hb.size
              replace hBr := Nat.le_trans hBr hb.size
              clear hb
              refine hK.out _ _ ⟨e0, e1, d0⟩ (fun hHeld => ?_)
              clear hK K
              try simp only [Act.put, List.setIfInBounds_toArray, List.set_cons_zero, List.set_cons_succ]
              refine tk 41 ?_
              refine tk 42 ?_
              refine tk 43 ?_
              refine wpAnyH_done (by kernel_rfl) ?_ _
              by_cases hge : 0 ≤ y
              · have HF : Hid (RS = false) := by
                  show _ = _
                  rw [HST.out]
                  simp only [show decide (y < 0) = false by simp; omega]
                  rfl
                go_wp2
                go_ret
                exact ⟨ret_bool HF.out.symm, HB.out⟩
              · have HN : Hid (rightFromM (prevI m (k + 1)) (m.drop (k + 1)) = RS) := by
                  show _ = _
                  rw [HST.out]
                  simp only [show decide (y < 0) = true by simp; omega]
                  simp
                have hge' : decide (0 ≤ y) = false := by simpa using hge
                go_wp2
                go_roundw
                case rel => exact ⟨k + 1, by omega, by go_num, HN, HB⟩
                case measure => simp [intOf]; omega
    · obtain rfl : k = n := by omega
      have HF : Hid (RS = true) := by show _ = _; rw [← HRS.out, List.drop_of_length_le (by rw [HL.out]; omega)]; unfold rightFromM; rfl
      go_wp2
      go_ret
      exact ⟨ret_bool HF.out.symm, HB.out⟩
end Go.Proofs.YtbookbgfipbaoaaGreatDoor.Mx
