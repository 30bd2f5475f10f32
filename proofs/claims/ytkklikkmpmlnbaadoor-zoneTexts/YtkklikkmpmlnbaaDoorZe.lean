/- What the library's own variables hold; a step's text. -/
import Derived.Test.YtkklikkmpmlnbaaDoorSl
import Derived.Test.YtkklikkmpmlnbaaDoorZc
import Derived.WalkSmall
import Derived.Lib.ItoaLen
namespace Go.Proofs.YtkklikkmpmlnbaaDoor
open Go.RowKit

/-- What the library's variables hold that the texts' calls read. -/
structure Glob (w : World) : Prop where
  big : 7 ≤ w.heap.size
  max : ∃ m, w.cell? ⟨1, 0, none⟩ = some (.int .i64 m)
  syn : ∃ tp p, w.var? Tryd.prog "strconv.ErrSyntax" = some #[.iface tp p]
  ran : ∃ tp p, w.var? Tryd.prog "strconv.ErrRange" = some #[.iface tp p]
  tab : Lib.TabIs Tryd.prog w "internal/strconv.uint64pow10" .u64 Lib.pow10Tab
theorem Glob.keep {w w' : World} {B : Nat} (h : Glob w) (hb : Below B w w') (hB : 7 ≤ B) : Glob w' := by
  refine ⟨Nat.le_trans h.big hb.size, ?_, ?_, ?_, ?_⟩
  · obtain ⟨m, hm⟩ := h.max
    exact ⟨m, (hb.cell (p := ⟨1, 0, none⟩) (by show 1 < B; omega)).trans hm⟩
  · obtain ⟨tp, p, hv⟩ := h.syn
    exact ⟨tp, p, var?_below hb (show Tryd.prog.globalNamed "strconv.ErrSyntax" = some 4 by kernel_rfl) (by omega) hv⟩
  · obtain ⟨tp, p, hv⟩ := h.ran
    exact ⟨tp, p, var?_below hb (show Tryd.prog.globalNamed "strconv.ErrRange" = some 5 by kernel_rfl) (by omega) hv⟩
  · exact var?_below hb (show Tryd.prog.globalNamed "internal/strconv.uint64pow10" = some 6 by kernel_rfl) (by omega) h.tab
theorem Glob.below {w w' : World} (h : Glob w) (hb : Below w.heap.size w w') : Glob w' := h.keep hb h.big
theorem below_drewish {B : Nat} {a w : World} (h : Below B a w) : Below B a w.drew := ⟨h.os, h.tape, h.output, h.size, h.block⟩
def itoaB (n : Int) : ByteArray := ⟨(Lib.itoa n).toArray⟩
def nameF (op : Int) : ByteArray := if op = 1 then ⟨#[97, 108, 108]⟩ else if op = 2 then ⟨#[100, 105, 115, 99]⟩ else if op = 3 then ⟨#[104, 97, 108, 102]⟩ else if op = 4 then ⟨#[110, 111, 116]⟩ else if op = 5 then ⟨#[97, 110, 100]⟩ else ⟨#[111, 114]⟩
def stepTextF (r : RSt) : ByteArray := if r.op = 2 ∨ r.op = 3 then nameF r.op ++ ⟨#[32]⟩ ++ itoaB r.x ++ ⟨#[32]⟩ ++ itoaB r.y ++ ⟨#[32]⟩ ++ itoaB r.sz else nameF r.op

set_option maxRecDepth 100000 in
set_option maxHeartbeats 1000000 in
theorem name_any (op : Int) (w : World) : Calls Tryd.prog 48 #[.int .i64 op] w fun e w' => e = .returned (.string (nameF op)) ∧ w = w' := by
  by_cases h1 : op = 1
  · subst h1
    go_enter Tryd.func48, Tryd.ntmps48
    go_wp2
    go_ret
    exact ⟨rfl, rfl⟩
  by_cases h2 : op = 2
  · subst h2
    go_enter Tryd.func48, Tryd.ntmps48
    go_wp2
    go_ret
    exact ⟨rfl, rfl⟩
  by_cases h3 : op = 3
  · subst h3
    go_enter Tryd.func48, Tryd.ntmps48
    go_wp2
    go_ret
    exact ⟨rfl, rfl⟩
  by_cases h4 : op = 4
  · subst h4
    go_enter Tryd.func48, Tryd.ntmps48
    go_wp2
    go_ret
    exact ⟨rfl, rfl⟩
  by_cases h5 : op = 5
  · subst h5
    go_enter Tryd.func48, Tryd.ntmps48
    go_wp2
    go_ret
    exact ⟨rfl, rfl⟩
  have HF : Hid (nameF op = ⟨#[111, 114]⟩) := by
    show _ = _
    unfold nameF
    rw [if_neg h1, if_neg h2, if_neg h3, if_neg h4, if_neg h5]
  go_enter Tryd.func48, Tryd.ntmps48
  go_wp2
  go_ret
  exact ⟨by rw [HF.out]; rfl, rfl⟩
theorem itoa_any (n : Int) (h0 : -9223372036854775808 ≤ n) (h1 : n ≤ 9223372036854775807) (w : World) (hg : Glob w) : Calls Tryd.prog 59 #[.int .i64 n] w fun e w' => e = .returned (.string (itoaB n)) ∧ Below w.heap.size w w' :=
  (Tryd.strconv_Itoa n h0 h1 w hg.tab).mono fun e w' h => by
    obtain ⟨he, k, os, rfl⟩ := h
    exact ⟨he, ⟨rfl, rfl, rfl, by simp [Sort.grow, World.drewN], fun j hj => by simp only [Sort.grow, World.drewN]; rw [Array.getElem?_append_left hj]⟩⟩
set_option maxRecDepth 100000 in
set_option maxHeartbeats 1000000 in
theorem digits_any (x : Nat) (n : Int) (h : Num x n) (hn : n.natAbs < 2 ^ 53) (w : World) (hg : Glob w) : Calls Tryd.prog 49 #[.float .f64 x] w fun e w' => e = .returned (.string (itoaB n)) ∧ Below w.heap.size w w' := by
  have hc := fun w => run_convert_float_int (P := Tryd.prog) w 47 3 .f64 .i64 x n (by kernel_rfl) Tryd.underlying3 (num_int h hn)
  have HI := Lib.hid (itoa_any n (by omega) (by omega) w hg)
  clear h hg
  go_enter Tryd.func49, Tryd.ntmps49
  go_wp2_with fail
  refine HI.out.mono ?_
  rintro e w1 ⟨rfl, hb⟩
  go_wp2
  go_ret
  exact ⟨rfl, hb⟩

set_option maxRecDepth 100000 in
set_option maxHeartbeats 4000000 in
theorem stepText_any (s : Stp) (r : RSt) (h : Like s r) (hf : fitsR r = true) (w : World) (hg : Glob w) : Calls Tryd.prog 33 #[stpV s] w fun e w' => e = .returned (.string (stepTextF r)) ∧ Below w.heap.size w w' := by
  obtain ⟨op, re, im, sz⟩ := s
  obtain ⟨rop, x, y, z⟩ := r
  obtain ⟨rfl, n1, n2, n3⟩ := h
  simp only at n1 n2 n3
  unfold stpV
  simp only
  by_cases h23 : op = 2 ∨ op = 3
  · have hsm : Small x ∧ Small y ∧ Small z := by
      rcases h23 with rfl | rfl
      · have hf' : (wholeF x y && withinF z 0 2000) = true := hf
        rw [Bool.and_eq_true, whole_iff, within_iff] at hf'
        unfold Small
        omega
      · have hf' : (wholeF x y && withinF z (-2000000) 2000000) = true := hf
        rw [Bool.and_eq_true, whole_iff, within_iff] at hf'
        unfold Small
        omega
    have H1 := Lib.hid (digits_any re x (n1.num hsm.1) hsm.1.lt)
    have H2 := Lib.hid (digits_any im y (n2.num hsm.2.1) hsm.2.1.lt)
    have H3 := Lib.hid (digits_any sz z (n3.num hsm.2.2) hsm.2.2.lt)
    have HN := Lib.hid (name_any op)
    have HG := Lib.hid hg
    have HF : Hid (stepTextF ⟨op, x, y, z⟩ = nameF op ++ ⟨#[32]⟩ ++ itoaB x ++ ⟨#[32]⟩ ++ itoaB y ++ ⟨#[32]⟩ ++ itoaB z) := by show _ = _; unfold stepTextF; simp only; rw [if_pos h23]
    have hnm : (nameF op).size ≤ 4 := by rcases h23 with rfl | rfl <;> decide
    have htx : (itoaB x).size ≤ 21 := by have := hsm.1.lt; exact Lib.itoa_length_le x (by omega) (by omega)
    have hty : (itoaB y).size ≤ 21 := by have := hsm.2.1.lt; exact Lib.itoa_length_le y (by omega) (by omega)
    have htz : (itoaB z).size ≤ 21 := by have := hsm.2.2.lt; exact Lib.itoa_length_le z (by omega) (by omega)
    generalize nameF op = nm at *
    generalize itoaB x = tx at *
    generalize itoaB y = ty at *
    generalize itoaB z = tz at *
    clear n1 n2 n3 hsm hg hf
    have s1 : ¬ 9223372036854775807 < nm.size + 1 := by omega
    have s2 : ¬ 9223372036854775807 < nm.size + 1 + tx.size := by omega
    have s3 : ¬ 9223372036854775807 < nm.size + 1 + tx.size + 1 := by omega
    have s4 : ¬ 9223372036854775807 < nm.size + 1 + tx.size + 1 + ty.size := by omega
    have s5 : ¬ 9223372036854775807 < nm.size + 1 + tx.size + 1 + ty.size + 1 := by omega
    have s6 : ¬ 9223372036854775807 < nm.size + 1 + tx.size + 1 + ty.size + 1 + tz.size := by omega
    clear hnm htx hty htz
    have hcase : (op = 2) ∨ (¬ op = 2 ∧ op = 3) := by omega
    clear h23
    rcases hcase with rfl | ⟨hne, rfl⟩
    · skip
      go_enter Tryd.func33, Tryd.ntmps33
      go_upto_region 3 with fail
      have k0 : (w.alloc (.cells #[.int .i64 2, .complex .f64 re im, .float .f64 sz] 54)).cell? ⟨w.heap.size, 0, none⟩ = some (.int .i64 2) := by simp [go_sem]
      have k1 : (w.alloc (.cells #[.int .i64 2, .complex .f64 re im, .float .f64 sz] 54)).cell? ⟨w.heap.size, 1, none⟩ = some (.complex .f64 re im) := by simp [go_sem]
      have k2 : (w.alloc (.cells #[.int .i64 2, .complex .f64 re im, .float .f64 sz] 54)).cell? ⟨w.heap.size, 2, none⟩ = some (.float .f64 sz) := by simp [go_sem]
      have kz : w.heap.size < (w.alloc (.cells #[.int .i64 2, .complex .f64 re im, .float .f64 sz] 54)).heap.size := by simp
      have HB : Hid (Below w.heap.size w (w.alloc (.cells #[.int .i64 2, .complex .f64 re im, .float .f64 sz] 54))) := (Below.refl _ _).alloc (Nat.le_refl _) _
      generalize (w.alloc (.cells #[.int .i64 2, .complex .f64 re im, .float .f64 sz] 54)) = W1 at *
      generalize hX : w.heap.size = X at *
      refine wp_region_held_drew (S := fun w' => w'.cell? ⟨X, 0, none⟩ = some (.int .i64 2) ∧ w'.cell? ⟨X, 1, none⟩ = some (.complex .f64 re im) ∧ w'.cell? ⟨X, 2, none⟩ = some (.float .f64 sz)) (by kernel_rfl) ⟨k0, k1, k2⟩ (fun hHeld => ?_)
      refine wpAnyH_take (i := 0) (oi := { dst := some 14, op := Go.Op.fieldAddr 54 (Go.Operand.tmp 1) 0, type := 0, pos := "text.go:24", after := #[], guard := none }) (v := ?_) rfl (by kernel_rfl) (by kernel_rfl) (by kernel_rfl) (fun _ _ _ h => h) (Or.inl ⟨rfl, ?_⟩) (by assumption) ?_
      rotate_left
      · intro wz hSw; (try dsimp only at hSw); go_simp; try (with_reducible rfl)
      try simp only [Act.put, List.setIfInBounds_toArray, List.set_cons_zero, List.set_cons_succ]
      refine wpAnyH_take (i := 1) (oi := { dst := some 15, op := Go.Op.load 3 (Go.Operand.tmp 14), type := 3, pos := "text.go:24", after := #[{ on := 0, ground := Go.Ground.data }], guard := none }) (v := ?_) rfl (by kernel_rfl) (by kernel_rfl) (by kernel_rfl) (fun _ _ _ h => h) (Or.inl ⟨rfl, ?_⟩) (by assumption) ?_
      rotate_left
      · intro wz hSw; (try dsimp only at hSw); go_simp; try (with_reducible rfl)
      try simp only [Act.put, List.setIfInBounds_toArray, List.set_cons_zero, List.set_cons_succ]
      refine wpAnyH_take (i := 4) (oi := { dst := some 18, op := Go.Op.fieldAddr 54 (Go.Operand.tmp 1) 1, type := 0, pos := "text.go:24", after := #[], guard := none }) (v := ?_) rfl (by kernel_rfl) (by kernel_rfl) (by kernel_rfl) (fun _ _ _ h => h) (Or.inl ⟨rfl, ?_⟩) (by assumption) ?_
      rotate_left
      · intro wz hSw; (try dsimp only at hSw); go_simp; try (with_reducible rfl)
      try simp only [Act.put, List.setIfInBounds_toArray, List.set_cons_zero, List.set_cons_succ]
      refine wpAnyH_take (i := 5) (oi := { dst := some 19, op := Go.Op.load 41 (Go.Operand.tmp 18), type := 41, pos := "text.go:24", after := #[{ on := 4, ground := Go.Ground.data }], guard := none }) (v := ?_) rfl (by kernel_rfl) (by kernel_rfl) (by kernel_rfl) (fun _ _ _ h => h) (Or.inl ⟨rfl, ?_⟩) (by assumption) ?_
      rotate_left
      · intro wz hSw; (try dsimp only at hSw); go_simp; try (with_reducible rfl)
      try simp only [Act.put, List.setIfInBounds_toArray, List.set_cons_zero, List.set_cons_succ]
      refine wpAnyH_take (i := 6) (oi := { dst := some 20, op := Go.Op.call { callee := Go.Callee.builtin Go.Builtin.real, args := #[Go.Operand.tmp 19], argTypes := #[41] }, type := 47, pos := "text.go:24", after := #[{ on := 5, ground := Go.Ground.data }], guard := none }) (v := ?_) rfl (by kernel_rfl) (by kernel_rfl) (by kernel_rfl) (fun _ _ _ h => h) (Or.inl ⟨rfl, ?_⟩) (by assumption) ?_
      rotate_left
      · intro wz hSw; (try dsimp only at hSw); go_simp; try (with_reducible rfl)
      try simp only [Act.put, List.setIfInBounds_toArray, List.set_cons_zero, List.set_cons_succ]
      refine wpAnyH_take (i := 10) (oi := { dst := some 24, op := Go.Op.fieldAddr 54 (Go.Operand.tmp 1) 1, type := 0, pos := "text.go:24", after := #[], guard := none }) (v := ?_) rfl (by kernel_rfl) (by kernel_rfl) (by kernel_rfl) (fun _ _ _ h => h) (Or.inl ⟨rfl, ?_⟩) (by assumption) ?_
      rotate_left
      · intro wz hSw; (try dsimp only at hSw); go_simp; try (with_reducible rfl)
      try simp only [Act.put, List.setIfInBounds_toArray, List.set_cons_zero, List.set_cons_succ]
      refine wpAnyH_take (i := 11) (oi := { dst := some 25, op := Go.Op.load 41 (Go.Operand.tmp 24), type := 41, pos := "text.go:24", after := #[{ on := 10, ground := Go.Ground.data }], guard := none }) (v := ?_) rfl (by kernel_rfl) (by kernel_rfl) (by kernel_rfl) (fun _ _ _ h => h) (Or.inl ⟨rfl, ?_⟩) (by assumption) ?_
      rotate_left
      · intro wz hSw; (try dsimp only at hSw); go_simp; try (with_reducible rfl)
      try simp only [Act.put, List.setIfInBounds_toArray, List.set_cons_zero, List.set_cons_succ]
      refine wpAnyH_take (i := 12) (oi := { dst := some 26, op := Go.Op.call { callee := Go.Callee.builtin Go.Builtin.imag, args := #[Go.Operand.tmp 25], argTypes := #[41] }, type := 47, pos := "text.go:24", after := #[{ on := 11, ground := Go.Ground.data }], guard := none }) (v := ?_) rfl (by kernel_rfl) (by kernel_rfl) (by kernel_rfl) (fun _ _ _ h => h) (Or.inl ⟨rfl, ?_⟩) (by assumption) ?_
      rotate_left
      · intro wz hSw; (try dsimp only at hSw); go_simp; try (with_reducible rfl)
      try simp only [Act.put, List.setIfInBounds_toArray, List.set_cons_zero, List.set_cons_succ]
      refine wpAnyH_take (i := 16) (oi := { dst := some 30, op := Go.Op.fieldAddr 54 (Go.Operand.tmp 1) 2, type := 0, pos := "text.go:24", after := #[], guard := none }) (v := ?_) rfl (by kernel_rfl) (by kernel_rfl) (by kernel_rfl) (fun _ _ _ h => h) (Or.inl ⟨rfl, ?_⟩) (by assumption) ?_
      rotate_left
      · intro wz hSw; (try dsimp only at hSw); go_simp; try (with_reducible rfl)
      try simp only [Act.put, List.setIfInBounds_toArray, List.set_cons_zero, List.set_cons_succ]
      refine wpAnyH_take (i := 17) (oi := { dst := some 31, op := Go.Op.load 47 (Go.Operand.tmp 30), type := 47, pos := "text.go:24", after := #[{ on := 16, ground := Go.Ground.data }], guard := none }) (v := ?_) rfl (by kernel_rfl) (by kernel_rfl) (by kernel_rfl) (fun _ _ _ h => h) (Or.inl ⟨rfl, ?_⟩) (by assumption) ?_
      rotate_left
      · intro wz hSw; (try dsimp only at hSw); go_simp; try (with_reducible rfl)
      try simp only [Act.put, List.setIfInBounds_toArray, List.set_cons_zero, List.set_cons_succ]
      refine wpAnyH_ready (rs := [2]) (by kernel_rfl) (by simp) ?_
      refine (AllReadyH.cons (o := { dst := some 16, op := Go.Op.call { callee := Go.Callee.value (Go.Operand.func 48), args := #[Go.Operand.tmp 15], argTypes := #[3] }, type := 9, pos := "text.go:24", after := #[{ on := 1, ground := Go.Ground.data }], guard := none }) rfl (fun K hK => ?_) AllReadyH.nil)
      go_simp
      refine (HN.out _).mono ?_
      rintro e u0 ⟨rfl, rfl⟩
      refine hK.out _ _ ⟨k0, k1, k2⟩ (fun hHeld => ?_)
      clear hK K
      try simp only [Act.put, List.setIfInBounds_toArray, List.set_cons_zero, List.set_cons_succ]
      refine wpAnyH_take (i := 3) (oi := { dst := some 17, op := Go.Op.binOp Go.BinOp.add 9 (Go.Operand.tmp 16) (Go.Operand.const (Go.Value.string { data := #[32] })) 9, type := 9, pos := "text.go:24", after := #[{ on := 2, ground := Go.Ground.data }], guard := none }) (v := ?_) rfl (by kernel_rfl) (by kernel_rfl) (by kernel_rfl) (fun _ _ _ h => h) (Or.inl ⟨rfl, ?_⟩) (by assumption) ?_
      rotate_left
      · intro wz hSw; (try dsimp only at hSw); go_simp; try (with_reducible rfl)
      try simp only [Act.put, List.setIfInBounds_toArray, List.set_cons_zero, List.set_cons_succ]
      refine wpAnyH_ready (rs := [7]) (by kernel_rfl) (by simp) ?_
      refine (AllReadyH.cons (o := { dst := some 21, op := Go.Op.call { callee := Go.Callee.value (Go.Operand.func 49), args := #[Go.Operand.tmp 20], argTypes := #[47] }, type := 9, pos := "text.go:24", after := #[{ on := 6, ground := Go.Ground.data }, { on := 2, ground := Go.Ground.chain }], guard := none }) rfl (fun K hK => ?_) AllReadyH.nil)
      go_simp
      refine (H1.out _ (by exact HG.out.keep (B := X) (by exact below_drewish HB.out) (by rw [← hX]; exact HG.out.big))).mono ?_
      rintro e u1 ⟨rfl, hb⟩
      replace k0 := (hb.cell (p := ⟨X, 0, none⟩) kz).trans k0
      replace k1 := (hb.cell (p := ⟨X, 1, none⟩) kz).trans k1
      replace k2 := (hb.cell (p := ⟨X, 2, none⟩) kz).trans k2
      replace kz := Nat.lt_of_lt_of_le kz hb.size
      replace HB := Lib.hid (below_via HB.out hb (by have := HB.out.size; omega) ⟨rfl, rfl, rfl, rfl⟩)
      clear hb
      refine hK.out _ _ ⟨k0, k1, k2⟩ (fun hHeld => ?_)
      clear hK K
      try simp only [Act.put, List.setIfInBounds_toArray, List.set_cons_zero, List.set_cons_succ]
      refine wpAnyH_take (i := 8) (oi := { dst := some 22, op := Go.Op.binOp Go.BinOp.add 9 (Go.Operand.tmp 17) (Go.Operand.tmp 21) 9, type := 9, pos := "text.go:24", after := #[{ on := 3, ground := Go.Ground.data }, { on := 7, ground := Go.Ground.data }], guard := none }) (v := ?_) rfl (by kernel_rfl) (by kernel_rfl) (by kernel_rfl) (fun _ _ _ h => h) (Or.inl ⟨rfl, ?_⟩) (by assumption) ?_
      rotate_left
      · intro wz hSw; (try dsimp only at hSw); go_simp; try (with_reducible rfl)
      try simp only [Act.put, List.setIfInBounds_toArray, List.set_cons_zero, List.set_cons_succ]
      refine wpAnyH_take (i := 9) (oi := { dst := some 23, op := Go.Op.binOp Go.BinOp.add 9 (Go.Operand.tmp 22) (Go.Operand.const (Go.Value.string { data := #[32] })) 9, type := 9, pos := "text.go:24", after := #[{ on := 8, ground := Go.Ground.data }], guard := none }) (v := ?_) rfl (by kernel_rfl) (by kernel_rfl) (by kernel_rfl) (fun _ _ _ h => h) (Or.inl ⟨rfl, ?_⟩) (by assumption) ?_
      rotate_left
      · intro wz hSw; (try dsimp only at hSw); go_simp; try (with_reducible rfl)
      try simp only [Act.put, List.setIfInBounds_toArray, List.set_cons_zero, List.set_cons_succ]
      refine wpAnyH_ready (rs := [13]) (by kernel_rfl) (by simp) ?_
      refine (AllReadyH.cons (o := { dst := some 27, op := Go.Op.call { callee := Go.Callee.value (Go.Operand.func 49), args := #[Go.Operand.tmp 26], argTypes := #[47] }, type := 9, pos := "text.go:24", after := #[{ on := 12, ground := Go.Ground.data }, { on := 7, ground := Go.Ground.chain }], guard := none }) rfl (fun K hK => ?_) AllReadyH.nil)
      go_simp
      refine (H2.out _ (by exact HG.out.keep (B := X) (by exact HB.out) (by rw [← hX]; exact HG.out.big))).mono ?_
      rintro e u2 ⟨rfl, hb⟩
      replace k0 := (hb.cell (p := ⟨X, 0, none⟩) kz).trans k0
      replace k1 := (hb.cell (p := ⟨X, 1, none⟩) kz).trans k1
      replace k2 := (hb.cell (p := ⟨X, 2, none⟩) kz).trans k2
      replace kz := Nat.lt_of_lt_of_le kz hb.size
      replace HB := Lib.hid (below_via HB.out hb (by have := HB.out.size; omega) ⟨rfl, rfl, rfl, rfl⟩)
      clear hb
      refine hK.out _ _ ⟨k0, k1, k2⟩ (fun hHeld => ?_)
      clear hK K
      try simp only [Act.put, List.setIfInBounds_toArray, List.set_cons_zero, List.set_cons_succ]
      refine wpAnyH_take (i := 14) (oi := { dst := some 28, op := Go.Op.binOp Go.BinOp.add 9 (Go.Operand.tmp 23) (Go.Operand.tmp 27) 9, type := 9, pos := "text.go:24", after := #[{ on := 9, ground := Go.Ground.data }, { on := 13, ground := Go.Ground.data }], guard := none }) (v := ?_) rfl (by kernel_rfl) (by kernel_rfl) (by kernel_rfl) (fun _ _ _ h => h) (Or.inl ⟨rfl, ?_⟩) (by assumption) ?_
      rotate_left
      · intro wz hSw; (try dsimp only at hSw); go_simp; try (with_reducible rfl)
      try simp only [Act.put, List.setIfInBounds_toArray, List.set_cons_zero, List.set_cons_succ]
      refine wpAnyH_take (i := 15) (oi := { dst := some 29, op := Go.Op.binOp Go.BinOp.add 9 (Go.Operand.tmp 28) (Go.Operand.const (Go.Value.string { data := #[32] })) 9, type := 9, pos := "text.go:24", after := #[{ on := 14, ground := Go.Ground.data }], guard := none }) (v := ?_) rfl (by kernel_rfl) (by kernel_rfl) (by kernel_rfl) (fun _ _ _ h => h) (Or.inl ⟨rfl, ?_⟩) (by assumption) ?_
      rotate_left
      · intro wz hSw; (try dsimp only at hSw); go_simp; try (with_reducible rfl)
      try simp only [Act.put, List.setIfInBounds_toArray, List.set_cons_zero, List.set_cons_succ]
      refine wpAnyH_ready (rs := [18]) (by kernel_rfl) (by simp) ?_
      refine (AllReadyH.cons (o := { dst := some 32, op := Go.Op.call { callee := Go.Callee.value (Go.Operand.func 49), args := #[Go.Operand.tmp 31], argTypes := #[47] }, type := 9, pos := "text.go:24", after := #[{ on := 17, ground := Go.Ground.data }, { on := 13, ground := Go.Ground.chain }], guard := none }) rfl (fun K hK => ?_) AllReadyH.nil)
      go_simp
      refine (H3.out _ (by exact HG.out.keep (B := X) (by exact HB.out) (by rw [← hX]; exact HG.out.big))).mono ?_
      rintro e u3 ⟨rfl, hb⟩
      replace k0 := (hb.cell (p := ⟨X, 0, none⟩) kz).trans k0
      replace k1 := (hb.cell (p := ⟨X, 1, none⟩) kz).trans k1
      replace k2 := (hb.cell (p := ⟨X, 2, none⟩) kz).trans k2
      replace kz := Nat.lt_of_lt_of_le kz hb.size
      replace HB := Lib.hid (below_via HB.out hb (by have := HB.out.size; omega) ⟨rfl, rfl, rfl, rfl⟩)
      clear hb
      refine hK.out _ _ ⟨k0, k1, k2⟩ (fun hHeld => ?_)
      clear hK K
      try simp only [Act.put, List.setIfInBounds_toArray, List.set_cons_zero, List.set_cons_succ]
      refine wpAnyH_take (i := 19) (oi := { dst := some 33, op := Go.Op.binOp Go.BinOp.add 9 (Go.Operand.tmp 29) (Go.Operand.tmp 32) 9, type := 9, pos := "text.go:24", after := #[{ on := 15, ground := Go.Ground.data }, { on := 18, ground := Go.Ground.data }], guard := none }) (v := ?_) rfl (by kernel_rfl) (by kernel_rfl) (by kernel_rfl) (fun _ _ _ h => h) (Or.inl ⟨rfl, ?_⟩) (by assumption) ?_
      rotate_left
      · intro wz hSw; (try dsimp only at hSw); go_simp; try (with_reducible rfl)
      try simp only [Act.put, List.setIfInBounds_toArray, List.set_cons_zero, List.set_cons_succ]
      refine wpAnyH_take (i := 20) (oi := { dst := some 2, op := Go.Op.assign (Go.Operand.tmp 33), type := 9, pos := "text.go:24", after := #[{ on := 19, ground := Go.Ground.data }, { on := 18, ground := Go.Ground.chain }, { on := 0, ground := Go.Ground.phase }, { on := 1, ground := Go.Ground.phase }, { on := 2, ground := Go.Ground.phase }, { on := 3, ground := Go.Ground.phase }, { on := 4, ground := Go.Ground.phase }, { on := 5, ground := Go.Ground.phase }, { on := 6, ground := Go.Ground.phase }, { on := 7, ground := Go.Ground.phase }, { on := 8, ground := Go.Ground.phase }, { on := 9, ground := Go.Ground.phase }, { on := 10, ground := Go.Ground.phase }, { on := 11, ground := Go.Ground.phase }, { on := 12, ground := Go.Ground.phase }, { on := 13, ground := Go.Ground.phase }, { on := 14, ground := Go.Ground.phase }, { on := 15, ground := Go.Ground.phase }, { on := 16, ground := Go.Ground.phase }, { on := 17, ground := Go.Ground.phase }, { on := 18, ground := Go.Ground.phase }, { on := 19, ground := Go.Ground.phase }], guard := none }) (v := ?_) rfl (by kernel_rfl) (by kernel_rfl) (by kernel_rfl) (fun _ _ _ h => h) (Or.inl ⟨rfl, ?_⟩) (by assumption) ?_
      rotate_left
      · intro wz hSw; (try dsimp only at hSw); go_simp; try (with_reducible rfl)
      try simp only [Act.put, List.setIfInBounds_toArray, List.set_cons_zero, List.set_cons_succ]
      refine wpAnyH_done (by kernel_rfl) ?_ _
      go_wp2
      go_ret
      exact ⟨by rw [HF.out]; rfl, by rw [hX]; exact HB.out⟩
    · skip
      go_enter Tryd.func33, Tryd.ntmps33
      go_upto_region 3 with fail
      have k0 : (w.alloc (.cells #[.int .i64 3, .complex .f64 re im, .float .f64 sz] 54)).cell? ⟨w.heap.size, 0, none⟩ = some (.int .i64 3) := by simp [go_sem]
      have k1 : (w.alloc (.cells #[.int .i64 3, .complex .f64 re im, .float .f64 sz] 54)).cell? ⟨w.heap.size, 1, none⟩ = some (.complex .f64 re im) := by simp [go_sem]
      have k2 : (w.alloc (.cells #[.int .i64 3, .complex .f64 re im, .float .f64 sz] 54)).cell? ⟨w.heap.size, 2, none⟩ = some (.float .f64 sz) := by simp [go_sem]
      have kz : w.heap.size < (w.alloc (.cells #[.int .i64 3, .complex .f64 re im, .float .f64 sz] 54)).heap.size := by simp
      have HB : Hid (Below w.heap.size w (w.alloc (.cells #[.int .i64 3, .complex .f64 re im, .float .f64 sz] 54))) := (Below.refl _ _).alloc (Nat.le_refl _) _
      generalize (w.alloc (.cells #[.int .i64 3, .complex .f64 re im, .float .f64 sz] 54)) = W1 at *
      generalize hX : w.heap.size = X at *
      refine wp_region_held_drew (S := fun w' => w'.cell? ⟨X, 0, none⟩ = some (.int .i64 3) ∧ w'.cell? ⟨X, 1, none⟩ = some (.complex .f64 re im) ∧ w'.cell? ⟨X, 2, none⟩ = some (.float .f64 sz)) (by kernel_rfl) ⟨k0, k1, k2⟩ (fun hHeld => ?_)
      refine wpAnyH_take (i := 0) (oi := { dst := some 14, op := Go.Op.fieldAddr 54 (Go.Operand.tmp 1) 0, type := 0, pos := "text.go:24", after := #[], guard := none }) (v := ?_) rfl (by kernel_rfl) (by kernel_rfl) (by kernel_rfl) (fun _ _ _ h => h) (Or.inl ⟨rfl, ?_⟩) (by assumption) ?_
      rotate_left
      · intro wz hSw; (try dsimp only at hSw); go_simp; try (with_reducible rfl)
      try simp only [Act.put, List.setIfInBounds_toArray, List.set_cons_zero, List.set_cons_succ]
      refine wpAnyH_take (i := 1) (oi := { dst := some 15, op := Go.Op.load 3 (Go.Operand.tmp 14), type := 3, pos := "text.go:24", after := #[{ on := 0, ground := Go.Ground.data }], guard := none }) (v := ?_) rfl (by kernel_rfl) (by kernel_rfl) (by kernel_rfl) (fun _ _ _ h => h) (Or.inl ⟨rfl, ?_⟩) (by assumption) ?_
      rotate_left
      · intro wz hSw; (try dsimp only at hSw); go_simp; try (with_reducible rfl)
      try simp only [Act.put, List.setIfInBounds_toArray, List.set_cons_zero, List.set_cons_succ]
      refine wpAnyH_take (i := 4) (oi := { dst := some 18, op := Go.Op.fieldAddr 54 (Go.Operand.tmp 1) 1, type := 0, pos := "text.go:24", after := #[], guard := none }) (v := ?_) rfl (by kernel_rfl) (by kernel_rfl) (by kernel_rfl) (fun _ _ _ h => h) (Or.inl ⟨rfl, ?_⟩) (by assumption) ?_
      rotate_left
      · intro wz hSw; (try dsimp only at hSw); go_simp; try (with_reducible rfl)
      try simp only [Act.put, List.setIfInBounds_toArray, List.set_cons_zero, List.set_cons_succ]
      refine wpAnyH_take (i := 5) (oi := { dst := some 19, op := Go.Op.load 41 (Go.Operand.tmp 18), type := 41, pos := "text.go:24", after := #[{ on := 4, ground := Go.Ground.data }], guard := none }) (v := ?_) rfl (by kernel_rfl) (by kernel_rfl) (by kernel_rfl) (fun _ _ _ h => h) (Or.inl ⟨rfl, ?_⟩) (by assumption) ?_
      rotate_left
      · intro wz hSw; (try dsimp only at hSw); go_simp; try (with_reducible rfl)
      try simp only [Act.put, List.setIfInBounds_toArray, List.set_cons_zero, List.set_cons_succ]
      refine wpAnyH_take (i := 6) (oi := { dst := some 20, op := Go.Op.call { callee := Go.Callee.builtin Go.Builtin.real, args := #[Go.Operand.tmp 19], argTypes := #[41] }, type := 47, pos := "text.go:24", after := #[{ on := 5, ground := Go.Ground.data }], guard := none }) (v := ?_) rfl (by kernel_rfl) (by kernel_rfl) (by kernel_rfl) (fun _ _ _ h => h) (Or.inl ⟨rfl, ?_⟩) (by assumption) ?_
      rotate_left
      · intro wz hSw; (try dsimp only at hSw); go_simp; try (with_reducible rfl)
      try simp only [Act.put, List.setIfInBounds_toArray, List.set_cons_zero, List.set_cons_succ]
      refine wpAnyH_take (i := 10) (oi := { dst := some 24, op := Go.Op.fieldAddr 54 (Go.Operand.tmp 1) 1, type := 0, pos := "text.go:24", after := #[], guard := none }) (v := ?_) rfl (by kernel_rfl) (by kernel_rfl) (by kernel_rfl) (fun _ _ _ h => h) (Or.inl ⟨rfl, ?_⟩) (by assumption) ?_
      rotate_left
      · intro wz hSw; (try dsimp only at hSw); go_simp; try (with_reducible rfl)
      try simp only [Act.put, List.setIfInBounds_toArray, List.set_cons_zero, List.set_cons_succ]
      refine wpAnyH_take (i := 11) (oi := { dst := some 25, op := Go.Op.load 41 (Go.Operand.tmp 24), type := 41, pos := "text.go:24", after := #[{ on := 10, ground := Go.Ground.data }], guard := none }) (v := ?_) rfl (by kernel_rfl) (by kernel_rfl) (by kernel_rfl) (fun _ _ _ h => h) (Or.inl ⟨rfl, ?_⟩) (by assumption) ?_
      rotate_left
      · intro wz hSw; (try dsimp only at hSw); go_simp; try (with_reducible rfl)
      try simp only [Act.put, List.setIfInBounds_toArray, List.set_cons_zero, List.set_cons_succ]
      refine wpAnyH_take (i := 12) (oi := { dst := some 26, op := Go.Op.call { callee := Go.Callee.builtin Go.Builtin.imag, args := #[Go.Operand.tmp 25], argTypes := #[41] }, type := 47, pos := "text.go:24", after := #[{ on := 11, ground := Go.Ground.data }], guard := none }) (v := ?_) rfl (by kernel_rfl) (by kernel_rfl) (by kernel_rfl) (fun _ _ _ h => h) (Or.inl ⟨rfl, ?_⟩) (by assumption) ?_
      rotate_left
      · intro wz hSw; (try dsimp only at hSw); go_simp; try (with_reducible rfl)
      try simp only [Act.put, List.setIfInBounds_toArray, List.set_cons_zero, List.set_cons_succ]
      refine wpAnyH_take (i := 16) (oi := { dst := some 30, op := Go.Op.fieldAddr 54 (Go.Operand.tmp 1) 2, type := 0, pos := "text.go:24", after := #[], guard := none }) (v := ?_) rfl (by kernel_rfl) (by kernel_rfl) (by kernel_rfl) (fun _ _ _ h => h) (Or.inl ⟨rfl, ?_⟩) (by assumption) ?_
      rotate_left
      · intro wz hSw; (try dsimp only at hSw); go_simp; try (with_reducible rfl)
      try simp only [Act.put, List.setIfInBounds_toArray, List.set_cons_zero, List.set_cons_succ]
      refine wpAnyH_take (i := 17) (oi := { dst := some 31, op := Go.Op.load 47 (Go.Operand.tmp 30), type := 47, pos := "text.go:24", after := #[{ on := 16, ground := Go.Ground.data }], guard := none }) (v := ?_) rfl (by kernel_rfl) (by kernel_rfl) (by kernel_rfl) (fun _ _ _ h => h) (Or.inl ⟨rfl, ?_⟩) (by assumption) ?_
      rotate_left
      · intro wz hSw; (try dsimp only at hSw); go_simp; try (with_reducible rfl)
      try simp only [Act.put, List.setIfInBounds_toArray, List.set_cons_zero, List.set_cons_succ]
      refine wpAnyH_ready (rs := [2]) (by kernel_rfl) (by simp) ?_
      refine (AllReadyH.cons (o := { dst := some 16, op := Go.Op.call { callee := Go.Callee.value (Go.Operand.func 48), args := #[Go.Operand.tmp 15], argTypes := #[3] }, type := 9, pos := "text.go:24", after := #[{ on := 1, ground := Go.Ground.data }], guard := none }) rfl (fun K hK => ?_) AllReadyH.nil)
      go_simp
      refine (HN.out _).mono ?_
      rintro e u0 ⟨rfl, rfl⟩
      refine hK.out _ _ ⟨k0, k1, k2⟩ (fun hHeld => ?_)
      clear hK K
      try simp only [Act.put, List.setIfInBounds_toArray, List.set_cons_zero, List.set_cons_succ]
      refine wpAnyH_take (i := 3) (oi := { dst := some 17, op := Go.Op.binOp Go.BinOp.add 9 (Go.Operand.tmp 16) (Go.Operand.const (Go.Value.string { data := #[32] })) 9, type := 9, pos := "text.go:24", after := #[{ on := 2, ground := Go.Ground.data }], guard := none }) (v := ?_) rfl (by kernel_rfl) (by kernel_rfl) (by kernel_rfl) (fun _ _ _ h => h) (Or.inl ⟨rfl, ?_⟩) (by assumption) ?_
      rotate_left
      · intro wz hSw; (try dsimp only at hSw); go_simp; try (with_reducible rfl)
      try simp only [Act.put, List.setIfInBounds_toArray, List.set_cons_zero, List.set_cons_succ]
      refine wpAnyH_ready (rs := [7]) (by kernel_rfl) (by simp) ?_
      refine (AllReadyH.cons (o := { dst := some 21, op := Go.Op.call { callee := Go.Callee.value (Go.Operand.func 49), args := #[Go.Operand.tmp 20], argTypes := #[47] }, type := 9, pos := "text.go:24", after := #[{ on := 6, ground := Go.Ground.data }, { on := 2, ground := Go.Ground.chain }], guard := none }) rfl (fun K hK => ?_) AllReadyH.nil)
      go_simp
      refine (H1.out _ (by exact HG.out.keep (B := X) (by exact below_drewish HB.out) (by rw [← hX]; exact HG.out.big))).mono ?_
      rintro e u1 ⟨rfl, hb⟩
      replace k0 := (hb.cell (p := ⟨X, 0, none⟩) kz).trans k0
      replace k1 := (hb.cell (p := ⟨X, 1, none⟩) kz).trans k1
      replace k2 := (hb.cell (p := ⟨X, 2, none⟩) kz).trans k2
      replace kz := Nat.lt_of_lt_of_le kz hb.size
      replace HB := Lib.hid (below_via HB.out hb (by have := HB.out.size; omega) ⟨rfl, rfl, rfl, rfl⟩)
      clear hb
      refine hK.out _ _ ⟨k0, k1, k2⟩ (fun hHeld => ?_)
      clear hK K
      try simp only [Act.put, List.setIfInBounds_toArray, List.set_cons_zero, List.set_cons_succ]
      refine wpAnyH_take (i := 8) (oi := { dst := some 22, op := Go.Op.binOp Go.BinOp.add 9 (Go.Operand.tmp 17) (Go.Operand.tmp 21) 9, type := 9, pos := "text.go:24", after := #[{ on := 3, ground := Go.Ground.data }, { on := 7, ground := Go.Ground.data }], guard := none }) (v := ?_) rfl (by kernel_rfl) (by kernel_rfl) (by kernel_rfl) (fun _ _ _ h => h) (Or.inl ⟨rfl, ?_⟩) (by assumption) ?_
      rotate_left
      · intro wz hSw; (try dsimp only at hSw); go_simp; try (with_reducible rfl)
      try simp only [Act.put, List.setIfInBounds_toArray, List.set_cons_zero, List.set_cons_succ]
      refine wpAnyH_take (i := 9) (oi := { dst := some 23, op := Go.Op.binOp Go.BinOp.add 9 (Go.Operand.tmp 22) (Go.Operand.const (Go.Value.string { data := #[32] })) 9, type := 9, pos := "text.go:24", after := #[{ on := 8, ground := Go.Ground.data }], guard := none }) (v := ?_) rfl (by kernel_rfl) (by kernel_rfl) (by kernel_rfl) (fun _ _ _ h => h) (Or.inl ⟨rfl, ?_⟩) (by assumption) ?_
      rotate_left
      · intro wz hSw; (try dsimp only at hSw); go_simp; try (with_reducible rfl)
      try simp only [Act.put, List.setIfInBounds_toArray, List.set_cons_zero, List.set_cons_succ]
      refine wpAnyH_ready (rs := [13]) (by kernel_rfl) (by simp) ?_
      refine (AllReadyH.cons (o := { dst := some 27, op := Go.Op.call { callee := Go.Callee.value (Go.Operand.func 49), args := #[Go.Operand.tmp 26], argTypes := #[47] }, type := 9, pos := "text.go:24", after := #[{ on := 12, ground := Go.Ground.data }, { on := 7, ground := Go.Ground.chain }], guard := none }) rfl (fun K hK => ?_) AllReadyH.nil)
      go_simp
      refine (H2.out _ (by exact HG.out.keep (B := X) (by exact HB.out) (by rw [← hX]; exact HG.out.big))).mono ?_
      rintro e u2 ⟨rfl, hb⟩
      replace k0 := (hb.cell (p := ⟨X, 0, none⟩) kz).trans k0
      replace k1 := (hb.cell (p := ⟨X, 1, none⟩) kz).trans k1
      replace k2 := (hb.cell (p := ⟨X, 2, none⟩) kz).trans k2
      replace kz := Nat.lt_of_lt_of_le kz hb.size
      replace HB := Lib.hid (below_via HB.out hb (by have := HB.out.size; omega) ⟨rfl, rfl, rfl, rfl⟩)
      clear hb
      refine hK.out _ _ ⟨k0, k1, k2⟩ (fun hHeld => ?_)
      clear hK K
      try simp only [Act.put, List.setIfInBounds_toArray, List.set_cons_zero, List.set_cons_succ]
      refine wpAnyH_take (i := 14) (oi := { dst := some 28, op := Go.Op.binOp Go.BinOp.add 9 (Go.Operand.tmp 23) (Go.Operand.tmp 27) 9, type := 9, pos := "text.go:24", after := #[{ on := 9, ground := Go.Ground.data }, { on := 13, ground := Go.Ground.data }], guard := none }) (v := ?_) rfl (by kernel_rfl) (by kernel_rfl) (by kernel_rfl) (fun _ _ _ h => h) (Or.inl ⟨rfl, ?_⟩) (by assumption) ?_
      rotate_left
      · intro wz hSw; (try dsimp only at hSw); go_simp; try (with_reducible rfl)
      try simp only [Act.put, List.setIfInBounds_toArray, List.set_cons_zero, List.set_cons_succ]
      refine wpAnyH_take (i := 15) (oi := { dst := some 29, op := Go.Op.binOp Go.BinOp.add 9 (Go.Operand.tmp 28) (Go.Operand.const (Go.Value.string { data := #[32] })) 9, type := 9, pos := "text.go:24", after := #[{ on := 14, ground := Go.Ground.data }], guard := none }) (v := ?_) rfl (by kernel_rfl) (by kernel_rfl) (by kernel_rfl) (fun _ _ _ h => h) (Or.inl ⟨rfl, ?_⟩) (by assumption) ?_
      rotate_left
      · intro wz hSw; (try dsimp only at hSw); go_simp; try (with_reducible rfl)
      try simp only [Act.put, List.setIfInBounds_toArray, List.set_cons_zero, List.set_cons_succ]
      refine wpAnyH_ready (rs := [18]) (by kernel_rfl) (by simp) ?_
      refine (AllReadyH.cons (o := { dst := some 32, op := Go.Op.call { callee := Go.Callee.value (Go.Operand.func 49), args := #[Go.Operand.tmp 31], argTypes := #[47] }, type := 9, pos := "text.go:24", after := #[{ on := 17, ground := Go.Ground.data }, { on := 13, ground := Go.Ground.chain }], guard := none }) rfl (fun K hK => ?_) AllReadyH.nil)
      go_simp
      refine (H3.out _ (by exact HG.out.keep (B := X) (by exact HB.out) (by rw [← hX]; exact HG.out.big))).mono ?_
      rintro e u3 ⟨rfl, hb⟩
      replace k0 := (hb.cell (p := ⟨X, 0, none⟩) kz).trans k0
      replace k1 := (hb.cell (p := ⟨X, 1, none⟩) kz).trans k1
      replace k2 := (hb.cell (p := ⟨X, 2, none⟩) kz).trans k2
      replace kz := Nat.lt_of_lt_of_le kz hb.size
      replace HB := Lib.hid (below_via HB.out hb (by have := HB.out.size; omega) ⟨rfl, rfl, rfl, rfl⟩)
      clear hb
      refine hK.out _ _ ⟨k0, k1, k2⟩ (fun hHeld => ?_)
      clear hK K
      try simp only [Act.put, List.setIfInBounds_toArray, List.set_cons_zero, List.set_cons_succ]
      refine wpAnyH_take (i := 19) (oi := { dst := some 33, op := Go.Op.binOp Go.BinOp.add 9 (Go.Operand.tmp 29) (Go.Operand.tmp 32) 9, type := 9, pos := "text.go:24", after := #[{ on := 15, ground := Go.Ground.data }, { on := 18, ground := Go.Ground.data }], guard := none }) (v := ?_) rfl (by kernel_rfl) (by kernel_rfl) (by kernel_rfl) (fun _ _ _ h => h) (Or.inl ⟨rfl, ?_⟩) (by assumption) ?_
      rotate_left
      · intro wz hSw; (try dsimp only at hSw); go_simp; try (with_reducible rfl)
      try simp only [Act.put, List.setIfInBounds_toArray, List.set_cons_zero, List.set_cons_succ]
      refine wpAnyH_take (i := 20) (oi := { dst := some 2, op := Go.Op.assign (Go.Operand.tmp 33), type := 9, pos := "text.go:24", after := #[{ on := 19, ground := Go.Ground.data }, { on := 18, ground := Go.Ground.chain }, { on := 0, ground := Go.Ground.phase }, { on := 1, ground := Go.Ground.phase }, { on := 2, ground := Go.Ground.phase }, { on := 3, ground := Go.Ground.phase }, { on := 4, ground := Go.Ground.phase }, { on := 5, ground := Go.Ground.phase }, { on := 6, ground := Go.Ground.phase }, { on := 7, ground := Go.Ground.phase }, { on := 8, ground := Go.Ground.phase }, { on := 9, ground := Go.Ground.phase }, { on := 10, ground := Go.Ground.phase }, { on := 11, ground := Go.Ground.phase }, { on := 12, ground := Go.Ground.phase }, { on := 13, ground := Go.Ground.phase }, { on := 14, ground := Go.Ground.phase }, { on := 15, ground := Go.Ground.phase }, { on := 16, ground := Go.Ground.phase }, { on := 17, ground := Go.Ground.phase }, { on := 18, ground := Go.Ground.phase }, { on := 19, ground := Go.Ground.phase }], guard := none }) (v := ?_) rfl (by kernel_rfl) (by kernel_rfl) (by kernel_rfl) (fun _ _ _ h => h) (Or.inl ⟨rfl, ?_⟩) (by assumption) ?_
      rotate_left
      · intro wz hSw; (try dsimp only at hSw); go_simp; try (with_reducible rfl)
      try simp only [Act.put, List.setIfInBounds_toArray, List.set_cons_zero, List.set_cons_succ]
      refine wpAnyH_done (by kernel_rfl) ?_ _
      go_wp2
      go_ret
      exact ⟨by rw [HF.out]; rfl, by rw [hX]; exact HB.out⟩
  · have hne2 : ¬ op = 2 := fun e => h23 (Or.inl e)
    have hne3 : ¬ op = 3 := fun e => h23 (Or.inr e)
    have hb2 : (op != 2) = true := by simpa using hne2
    have hb3 : (op != 3) = true := by simpa using hne3
    have HF : Hid (stepTextF ⟨op, x, y, z⟩ = nameF op) := by show _ = _; unfold stepTextF; simp only; rw [if_neg h23]
    have HN := Lib.hid (name_any op)
    clear n1 n2 n3 hg hf h23
    go_enter Tryd.func33, Tryd.ntmps33
    go_wp2_with fail
    refine (HN.out _).mono ?_
    rintro e w1 ⟨rfl, rfl⟩
    go_wp2
    go_ret
    exact ⟨by rw [HF.out]; rfl, (Below.refl _ _).alloc (Nat.le_refl _) _⟩
end Go.Proofs.YtkklikkmpmlnbaaDoor
