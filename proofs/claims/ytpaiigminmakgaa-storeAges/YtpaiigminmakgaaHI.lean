/- Texts Pw Px Pxa Pxb Pk Pn Em Ej Eo Qq Pxc Lz Ly Lx, one behind the other. -/
import Derived.Test.YtpaiigminmakgaaHD
import Derived.Test.YtpaiigminmakgaaHG
import Derived.Lib.SliceRun
import Derived.BigRegion
import Derived.Test.YtpaiigminmakgaaHC
import Derived.Test.YtpaiigminmakgaaHA
import Derived.ProofKit
import Derived.OpenShut
import Derived.Lib.SmallJoins
import Derived.Test.YtpaiigminmakgaaHB
import Derived.Deep.Strs
import Derived.Deep.Slices
/- Items whose events aren't known: the document's Unknown; the closure of store.Unknown. -/
namespace Go.Proofs.Ytpaiigminmakgaa
open Go.RowKit

/-- Is the item's event known, as the document tells? -/
def hasR (m : Mat) (x : Itm) : Bool := Sp.refHasF (mOf m x.ver.id) x.ver.seq
/-- The same, as know tells. -/
def hasP (m : Mat) (x : Itm) : Bool := Sp.hasOf (mOf m x.ver.id).1 (mOf m x.ver.id).2 x.ver.seq
def unkF (p : Itm → Bool) (zs : List Itm) : List Itm := zs.filter fun x => !p x
theorem unk_snoc {p : Itm → Bool} {ls : List Itm} {k : Nat} {x : Itm} (h : ls[k]? = some x) : unkF p (ls.take (k + 1)) = if p x = true then unkF p (ls.take k) else unkF p (ls.take k) ++ [x] := by
  unfold unkF
  rw [snoc_of h, List.filter_append]
  cases e : p x <;> simp [e]
theorem unk_len (p : Itm → Bool) (ls : List Itm) : (unkF p ls).length ≤ ls.length := List.length_filter_le _ _
set_option maxRecDepth 100000 in
set_option maxHeartbeats 4000000 in
theorem runk_any (A : Option Addr) (n c : Nat) (zs : List Itm) (Ak : Option Addr) (nk ck : Nat) (m : Mat) (B : Nat) (w : World) (hB : B ≤ w.heap.size) (hz : RowAt cellsI 9 w B A n zs) (hn : n ≤ 1000000) (hid : ∀ z ∈ zs, z.ver.id.size ≤ 9223372036854775807) (hk : MatAt w B Ak nk m) (hnk : nk ≤ 1000000) (hl : ∀ a, (mOf m a).2.length ≤ 100000) :
    Calls Try.prog 30 #[.slice A n c, .slice Ak nk ck] w (OwnRow cellsI 9 28 (unkF (hasR m) (ageF zs)) w) := by
  have HBA := Lib.hid (rage_any A n c zs B w hB hz hn hid)
  have HHS : Hid (∀ (x : Itm) (u : World), Below w.heap.size w u → Calls Try.prog 54 #[.slice Ak nk ck, .string x.ver.id, .int .i64 x.ver.seq] u fun e w' => e = .returned (.bool (hasR m x)) ∧ Below u.heap.size u w') := fun x u h => rhasM_any Ak nk ck m x.ver.id x.ver.seq B u (Nat.le_trans hB h.size) (hk.keep (h.mono hB)) hnk (hl _)
  have hal := ageF_len zs
  have hzl := hz.1
  generalize ageF zs = ls at *
  have HLN : Hid (ls.length = n) := hal.trans hzl
  clear hz hk hid hal hzl
  go_enter Try.func30, Try.ntmps30
  go_wp2_with fail
  refine HBA.out.mono ?_
  rintro e w1 ⟨A1, c1, rfl, ho, hb⟩
  have HR := Lib.hid (own_row rowI ho)
  have HB := Lib.hid hb
  have hln := HLN.out
  clear ho hb HBA HLN
  subst hln
  generalize hq : ls.length = q at *
  have HLN : Hid (ls.length = q) := hq
  clear hq
  go_wp2_with fail
  go_loopw [6, 7] (fun v i wr => ∃ (k : Nat) (Av : Option Addr) (cv nv : Nat), i = .int .i64 k ∧ v = .slice Av nv cv ∧ k ≤ q ∧ Hid ((unkF (hasR m) (ls.take k)).length = nv) ∧ Hid (wr.ownsRow w1.heap.size 28 9 (.slice Av nv cv) nv (rowCells cellsI (unkF (hasR m) (ls.take k)))) ∧ Hid (Below w1.heap.size w1 wr)) (fun _ i _ => q - (intOf i).toNat)
  case atStart => exact ⟨0, none, 0, 0, rfl, rfl, by omega, rfl, rown_nil _ _, Below.refl _ _⟩
  case round =>
    obtain ⟨k, Av, cv, nv, rfl, rfl, hk, HLV, HO, HB1⟩ := hrel
    by_cases hlt : k < q
    · obtain ⟨b1, o1, rfl, hb1, x, hx, hc1⟩ := HR.out.get hlt
      obtain ⟨e0, e1, e2, e3, e4, e5, e6, e7, e8⟩ := cellsI_at hc1
      replace e0 := (HB1.out.cell (p := ⟨b1, o1 + k * 9, none⟩) hb1).trans e0
      replace e1 := (HB1.out.cell (p := ⟨b1, o1 + k * 9 + 1, none⟩) hb1).trans e1
      replace e2 := (HB1.out.cell (p := ⟨b1, o1 + k * 9 + 2, none⟩) hb1).trans e2
      replace e3 := (HB1.out.cell (p := ⟨b1, o1 + k * 9 + 3, none⟩) hb1).trans e3
      replace e4 := (HB1.out.cell (p := ⟨b1, o1 + k * 9 + 4, none⟩) hb1).trans e4
      replace e5 := (HB1.out.cell (p := ⟨b1, o1 + k * 9 + 5, none⟩) hb1).trans e5
      replace e6 := (HB1.out.cell (p := ⟨b1, o1 + k * 9 + 6, none⟩) hb1).trans e6
      replace e7 := (HB1.out.cell (p := ⟨b1, o1 + k * 9 + 7, none⟩) hb1).trans e7
      replace e8 := (HB1.out.cell (p := ⟨b1, o1 + k * 9 + 8, none⟩) hb1).trans e8
      have hbl : b1 < wr.heap.size := Nat.lt_of_lt_of_le hb1 HB1.out.size
      have q1 : (k : Int) < q := by omega
      have q0 : (0 : Int) ≤ (k : Int) := by omega
      have HSN := Lib.hid (unk_snoc (p := hasR m) hx)
      have HC := Lib.hid (HHS.out x)
      have HBT : Hid (Below w.heap.size w wr) := HB.out.trans (HB1.out.mono HB.out.size)
      have hnv : nv ≤ 1000000 := by have h1 := unk_len (hasR m) (ls.take k); have h2 := HLV.out; rw [List.length_take] at h1; omega
      clear hc1 hx
      generalize hasR m x = kn at *
      go_upto_region 6 with fail
      refine wp_region_held_drew (S := fun w' => w'.cell? ⟨b1, o1 + k * 9, none⟩ = some (.int .i64 x.key) ∧ w'.cell? ⟨b1, o1 + k * 9 + 1, none⟩ = some (.string x.ver.id) ∧ w'.cell? ⟨b1, o1 + k * 9 + 2, none⟩ = some (.int .i64 x.ver.seq) ∧ w'.cell? ⟨b1, o1 + k * 9 + 3, none⟩ = some (.int .i64 x.ver.stamp) ∧ w'.cell? ⟨b1, o1 + k * 9 + 4, none⟩ = some (.bool x.dead) ∧ w'.cell? ⟨b1, o1 + k * 9 + 5, none⟩ = some (.int .i64 x.x) ∧ w'.cell? ⟨b1, o1 + k * 9 + 6, none⟩ = some (.int .i64 x.y) ∧ w'.cell? ⟨b1, o1 + k * 9 + 7, none⟩ = some (.string x.text) ∧ w'.cell? ⟨b1, o1 + k * 9 + 8, none⟩ = some (.bool x.held)) (by kernel_rfl) ⟨e0, e1, e2, e3, e4, e5, e6, e7, e8⟩ (fun hHeld => ?_)
      refine wpAnyH_take (i := 0) (oi := { dst := some 16, op := Go.Op.move (Go.Operand.tmp 1), type := 59, pos := "ref.go:70", after := #[], guard := none }) (v := ?_) rfl (by kernel_rfl) (by kernel_rfl) (by kernel_rfl) (fun _ _ _ h => h) (Or.inl ⟨rfl, ?_⟩) (by assumption) ?_
      rotate_left
      · intro wz hSw; (try dsimp only at hSw); go_simp; try (with_reducible rfl)
      try simp only [Act.put, List.setIfInBounds_toArray, List.set_cons_zero, List.set_cons_succ]
      refine wpAnyH_take (i := 1) (oi := { dst := some 17, op := Go.Op.move (Go.Operand.tmp 5), type := 22, pos := "ref.go:70", after := #[], guard := none }) (v := ?_) rfl (by kernel_rfl) (by kernel_rfl) (by kernel_rfl) (fun _ _ _ h => h) (Or.inl ⟨rfl, ?_⟩) (by assumption) ?_
      rotate_left
      · intro wz hSw; (try dsimp only at hSw); go_simp; try (with_reducible rfl)
      try simp only [Act.put, List.setIfInBounds_toArray, List.set_cons_zero, List.set_cons_succ]
      refine wpAnyH_take (i := 2) (oi := { dst := some 18, op := Go.Op.move (Go.Operand.tmp 7), type := 3, pos := "ref.go:70", after := #[], guard := none }) (v := ?_) rfl (by kernel_rfl) (by kernel_rfl) (by kernel_rfl) (fun _ _ _ h => h) (Or.inl ⟨rfl, ?_⟩) (by assumption) ?_
      rotate_left
      · intro wz hSw; (try dsimp only at hSw); go_simp; try (with_reducible rfl)
      try simp only [Act.put, List.setIfInBounds_toArray, List.set_cons_zero, List.set_cons_succ]
      refine wpAnyH_take (i := 3) (oi := { dst := some 19, op := Go.Op.indexAddr 22 (Go.Operand.tmp 17) (Go.Operand.tmp 18), type := 0, pos := "ref.go:70", after := #[{ on := 1, ground := Go.Ground.data }, { on := 2, ground := Go.Ground.data }], guard := none }) (v := ?_) rfl (by kernel_rfl) (by kernel_rfl) (by kernel_rfl) (fun _ _ _ h => h) (Or.inl ⟨rfl, ?_⟩) (by assumption) ?_
      rotate_left
      · intro wz hSw; (try dsimp only at hSw); go_simp; try (with_reducible rfl)
      try simp only [Act.put, List.setIfInBounds_toArray, List.set_cons_zero, List.set_cons_succ]
      refine wpAnyH_take (i := 4) (oi := { dst := some 20, op := Go.Op.fieldAddr 28 (Go.Operand.tmp 19) 1, type := 0, pos := "ref.go:70", after := #[{ on := 3, ground := Go.Ground.data }], guard := none }) (v := ?_) rfl (by kernel_rfl) (by kernel_rfl) (by kernel_rfl) (fun _ _ _ h => h) (Or.inl ⟨rfl, ?_⟩) (by assumption) ?_
      rotate_left
      · intro wz hSw; (try dsimp only at hSw); go_simp; try (with_reducible rfl)
      try simp only [Act.put, List.setIfInBounds_toArray, List.set_cons_zero, List.set_cons_succ]
      refine wpAnyH_take (i := 5) (oi := { dst := some 21, op := Go.Op.fieldAddr 26 (Go.Operand.tmp 20) 0, type := 0, pos := "ref.go:70", after := #[{ on := 4, ground := Go.Ground.data }], guard := none }) (v := ?_) rfl (by kernel_rfl) (by kernel_rfl) (by kernel_rfl) (fun _ _ _ h => h) (Or.inl ⟨rfl, ?_⟩) (by assumption) ?_
      rotate_left
      · intro wz hSw; (try dsimp only at hSw); go_simp; try (with_reducible rfl)
      try simp only [Act.put, List.setIfInBounds_toArray, List.set_cons_zero, List.set_cons_succ]
      refine wpAnyH_take (i := 6) (oi := { dst := some 22, op := Go.Op.load 9 (Go.Operand.tmp 21), type := 9, pos := "ref.go:70", after := #[{ on := 5, ground := Go.Ground.data }], guard := none }) (v := ?_) rfl (by kernel_rfl) (by kernel_rfl) (by kernel_rfl) (fun _ _ _ h => h) (Or.inl ⟨rfl, ?_⟩) (by assumption) ?_
      rotate_left
      · intro wz hSw; (try dsimp only at hSw); go_simp; try (with_reducible rfl)
      try simp only [Act.put, List.setIfInBounds_toArray, List.set_cons_zero, List.set_cons_succ]
      refine wpAnyH_take (i := 7) (oi := { dst := some 23, op := Go.Op.move (Go.Operand.tmp 5), type := 22, pos := "ref.go:70", after := #[], guard := none }) (v := ?_) rfl (by kernel_rfl) (by kernel_rfl) (by kernel_rfl) (fun _ _ _ h => h) (Or.inl ⟨rfl, ?_⟩) (by assumption) ?_
      rotate_left
      · intro wz hSw; (try dsimp only at hSw); go_simp; try (with_reducible rfl)
      try simp only [Act.put, List.setIfInBounds_toArray, List.set_cons_zero, List.set_cons_succ]
      refine wpAnyH_take (i := 8) (oi := { dst := some 24, op := Go.Op.move (Go.Operand.tmp 7), type := 3, pos := "ref.go:70", after := #[], guard := none }) (v := ?_) rfl (by kernel_rfl) (by kernel_rfl) (by kernel_rfl) (fun _ _ _ h => h) (Or.inl ⟨rfl, ?_⟩) (by assumption) ?_
      rotate_left
      · intro wz hSw; (try dsimp only at hSw); go_simp; try (with_reducible rfl)
      try simp only [Act.put, List.setIfInBounds_toArray, List.set_cons_zero, List.set_cons_succ]
      refine wpAnyH_take (i := 9) (oi := { dst := some 25, op := Go.Op.indexAddr 22 (Go.Operand.tmp 23) (Go.Operand.tmp 24), type := 0, pos := "ref.go:70", after := #[{ on := 7, ground := Go.Ground.data }, { on := 8, ground := Go.Ground.data }], guard := none }) (v := ?_) rfl (by kernel_rfl) (by kernel_rfl) (by kernel_rfl) (fun _ _ _ h => h) (Or.inl ⟨rfl, ?_⟩) (by assumption) ?_
      rotate_left
      · intro wz hSw; (try dsimp only at hSw); go_simp; try (with_reducible rfl)
      try simp only [Act.put, List.setIfInBounds_toArray, List.set_cons_zero, List.set_cons_succ]
      refine wpAnyH_take (i := 10) (oi := { dst := some 26, op := Go.Op.fieldAddr 28 (Go.Operand.tmp 25) 1, type := 0, pos := "ref.go:70", after := #[{ on := 9, ground := Go.Ground.data }], guard := none }) (v := ?_) rfl (by kernel_rfl) (by kernel_rfl) (by kernel_rfl) (fun _ _ _ h => h) (Or.inl ⟨rfl, ?_⟩) (by assumption) ?_
      rotate_left
      · intro wz hSw; (try dsimp only at hSw); go_simp; try (with_reducible rfl)
      try simp only [Act.put, List.setIfInBounds_toArray, List.set_cons_zero, List.set_cons_succ]
      refine wpAnyH_take (i := 11) (oi := { dst := some 27, op := Go.Op.fieldAddr 26 (Go.Operand.tmp 26) 1, type := 0, pos := "ref.go:70", after := #[{ on := 10, ground := Go.Ground.data }], guard := none }) (v := ?_) rfl (by kernel_rfl) (by kernel_rfl) (by kernel_rfl) (fun _ _ _ h => h) (Or.inl ⟨rfl, ?_⟩) (by assumption) ?_
      rotate_left
      · intro wz hSw; (try dsimp only at hSw); go_simp; try (with_reducible rfl)
      try simp only [Act.put, List.setIfInBounds_toArray, List.set_cons_zero, List.set_cons_succ]
      refine wpAnyH_take (i := 12) (oi := { dst := some 28, op := Go.Op.load 3 (Go.Operand.tmp 27), type := 3, pos := "ref.go:70", after := #[{ on := 11, ground := Go.Ground.data }], guard := none }) (v := ?_) rfl (by kernel_rfl) (by kernel_rfl) (by kernel_rfl) (fun _ _ _ h => h) (Or.inl ⟨rfl, ?_⟩) (by assumption) ?_
      rotate_left
      · intro wz hSw; (try dsimp only at hSw); go_simp; try (with_reducible rfl)
      try simp only [Act.put, List.setIfInBounds_toArray, List.set_cons_zero, List.set_cons_succ]
      refine wpAnyH_ready (rs := [13]) (by kernel_rfl) (by simp) ?_
      refine AllReadyH.cons (o := { dst := some 29, op := Go.Op.call { callee := Go.Callee.value (Go.Operand.func 54), args := #[Go.Operand.tmp 16, Go.Operand.tmp 22, Go.Operand.tmp 28], argTypes := #[59, 9, 3] }, type := 4, pos := "ref.go:70", after := #[{ on := 0, ground := Go.Ground.data }, { on := 6, ground := Go.Ground.data }, { on := 12, ground := Go.Ground.data }], guard := none }) rfl (fun K hK => ?_) AllReadyH.nil
      go_simp
      go_at_call 54
      refine (HC.out _ (by exact HBT.out.trans ⟨rfl, rfl, rfl, Nat.le_refl _, fun _ _ => rfl⟩)).mono ?_
      rintro e v1 ⟨rfl, hb⟩
      replace e0 := (hb.cell (p := ⟨b1, o1 + k * 9, none⟩) hbl).trans e0
      replace e1 := (hb.cell (p := ⟨b1, o1 + k * 9 + 1, none⟩) hbl).trans e1
      replace e2 := (hb.cell (p := ⟨b1, o1 + k * 9 + 2, none⟩) hbl).trans e2
      replace e3 := (hb.cell (p := ⟨b1, o1 + k * 9 + 3, none⟩) hbl).trans e3
      replace e4 := (hb.cell (p := ⟨b1, o1 + k * 9 + 4, none⟩) hbl).trans e4
      replace e5 := (hb.cell (p := ⟨b1, o1 + k * 9 + 5, none⟩) hbl).trans e5
      replace e6 := (hb.cell (p := ⟨b1, o1 + k * 9 + 6, none⟩) hbl).trans e6
      replace e7 := (hb.cell (p := ⟨b1, o1 + k * 9 + 7, none⟩) hbl).trans e7
      replace e8 := (hb.cell (p := ⟨b1, o1 + k * 9 + 8, none⟩) hbl).trans e8
      replace HO := Lib.hid (rown_below HO.out (below_via (Below.refl _ _) hb (Nat.le_refl _) ⟨rfl, rfl, rfl, rfl⟩))
      replace HB1 := Lib.hid (below_via HB1.out hb HB1.out.size ⟨rfl, rfl, rfl, rfl⟩)
      replace hbl := Nat.lt_of_lt_of_le hbl hb.size
      clear hb HBT
      refine hK.out _ _ ⟨e0, e1, e2, e3, e4, e5, e6, e7, e8⟩ (fun hHeld => ?_)
      clear hK K
      try simp only [Act.put, List.setIfInBounds_toArray, List.set_cons_zero, List.set_cons_succ]
      refine wpAnyH_take (i := 14) (oi := { dst := some 30, op := Go.Op.unOp Go.UnOp.not 4 (Go.Operand.tmp 29), type := 4, pos := "ref.go:70", after := #[{ on := 13, ground := Go.Ground.data }], guard := none }) (v := ?_) rfl (by kernel_rfl) (by kernel_rfl) (by kernel_rfl) (fun _ _ _ h => h) (Or.inl ⟨rfl, ?_⟩) (by assumption) ?_
      rotate_left
      · intro wz hSw; (try dsimp only at hSw); go_simp; try (with_reducible rfl)
      try simp only [Act.put, List.setIfInBounds_toArray, List.set_cons_zero, List.set_cons_succ]
      refine wpAnyH_done (by kernel_rfl) ?_ _
      clear hHeld
      cases kn
      · rw [if_neg (by decide)] at HSN
        have hba : Below v1.heap.size v1 (v1.alloc (.cells #[.int .i64 x.key, .string x.ver.id, .int .i64 x.ver.seq, .int .i64 x.ver.stamp, .bool x.dead, .int .i64 x.x, .int .i64 x.y, .string x.text, .bool x.held] 28)) := (Below.refl _ _).alloc (Nat.le_refl _) _
        have HOA := Lib.hid (rown_below HO.out hba)
        have HBA := Lib.hid (HB1.out.trans (hba.mono HB1.out.size))
        have HX1 : Hid (RowAt cellsI 9 (v1.alloc (.cells #[.int .i64 x.key, .string x.ver.id, .int .i64 x.ver.seq, .int .i64 x.ver.stamp, .bool x.dead, .int .i64 x.x, .int .i64 x.y, .string x.text, .bool x.held] 28)) (v1.heap.size + 1) (some ⟨v1.heap.size, 0, none⟩) 1 [x]) := one_row rowI (heap_alloc_new v1 _)
        clear hba
        go_upto_region 5 with (at_builtin; refine wpList_append_row rowI (B := w1.heap.size) (v := .slice Av nv cv) (n := nv) (zs := unkF (hasR m) (ls.take k)) (m := 1) (ys := [x]) rfl _ _ rfl rfl HOA.out rfl HX1.out (by omega) HBA.out.size ?_; intro A3 c3 w3 hown3 hg3 _; have HO3 : Hid (w3.ownsRow w1.heap.size 28 9 (.slice A3 (nv + 1) c3) (nv + 1) (rowCells cellsI (unkF (hasR m) (ls.take (k + 1))))) := (by show World.ownsRow _ _ _ _ _ _ _; rw [HSN.out]; exact hown3); have HB3 : Hid (Below w1.heap.size w1 w3) := HBA.out.grown hg3 HBA.out.size (fun g e => (HOA.out.lt g e).1); clear hown3 hg3)
        have HL3 : Hid ((unkF (hasR m) (ls.take (k + 1))).length = nv + 1) := by show _ = _; rw [HSN.out, List.length_append, HLV.out]; rfl
        clear e0 e1 e2 e3 e4 e5 e6 e7 e8 HOA HBA HX1 hbl
        go_wp2
        go_roundw
        case rel => exact ⟨k + 1, A3, c3, nv + 1, by go_num, by first | rfl | go_num, by omega, HL3, HO3, HB3⟩
        case measure => simp [intOf]; omega
      · rw [if_pos rfl] at HSN
        clear e0 e1 e2 e3 e4 e5 e6 e7 e8 hbl
        go_wp2
        go_roundw
        case rel => exact ⟨k + 1, Av, cv, nv, by go_num, rfl, by omega, (by show _ = _; rw [HSN.out]; exact HLV.out), (by show World.ownsRow _ _ _ _ _ _ _; rw [HSN.out]; exact HO.out), HB1⟩
        case measure => simp [intOf]; omega
    · obtain rfl : k = q := by omega
      have q1 : ¬ ((k : Int) < k) := by omega
      have HE : Hid (ls.take k = ls) := List.take_of_length_le (by have := HLN.out; omega)
      rw [HE.out] at HO HLV
      go_wp2
      go_ret
      exact ⟨Av, cv, by rw [HLV.out]; rfl, by rw [HLV.out]; exact rown_base HO.out HB.out.size, HB.out.trans (HB1.out.mono HB.out.size)⟩
/- The closure, and what it captured: one variable that holds the Know. -/
set_option maxRecDepth 100000 in
set_option maxHeartbeats 2000000 in
theorem unkC_any (x : Itm) (Pk : Nat) (Ak : Option Addr) (nk ck : Nat) (m : Mat) (B : Nat) (w : World) (hB : B ≤ w.heap.size) (hPk : Pk < w.heap.size) (hcell : w.cell? ⟨Pk, 0, none⟩ = some (.slice Ak nk ck)) (hk : MatAt w B Ak nk m) (hnk : nk ≤ 1000000) (hs : RisingM m) (hl : ∀ a, OkS (mOf m a)) :
    Calls Try.prog 51 #[itmV x, .pointer (some ⟨Pk, 0, none⟩)] w fun e w' => e = .returned (.bool (hasP m x)) ∧ Below w.heap.size w w' := by
  have hb0 : Below w.heap.size w (w.alloc (.cells #[.int .i64 x.key, .string x.ver.id, .int .i64 x.ver.seq, .int .i64 x.ver.stamp, .bool x.dead, .complex .f64 (fl x.x) (fl x.y), .string x.text, .bool x.held] 46)) := (Below.refl _ _).alloc (Nat.le_refl _) _
  have HH : Hid (∀ u, Below w.heap.size w u → Calls Try.prog 52 #[.slice Ak nk ck, .string x.ver.id, .int .i64 x.ver.seq] u fun e w' => e = .returned (.bool (hasP m x)) ∧ Below u.heap.size u w') := fun u h => hasM_any Ak nk ck m x.ver.id x.ver.seq B u (Nat.le_trans hB h.size) (hk.keep (h.mono hB)) (by omega) hs (hl _)
  have c0 := (hb0.cell (p := ⟨Pk, 0, none⟩) hPk).trans hcell
  have k1 : (w.alloc (.cells #[.int .i64 x.key, .string x.ver.id, .int .i64 x.ver.seq, .int .i64 x.ver.stamp, .bool x.dead, .complex .f64 (fl x.x) (fl x.y), .string x.text, .bool x.held] 46)).cell? ⟨w.heap.size, 1, none⟩ = some (.string x.ver.id) := by simp [go_sem]
  have k2 : (w.alloc (.cells #[.int .i64 x.key, .string x.ver.id, .int .i64 x.ver.seq, .int .i64 x.ver.stamp, .bool x.dead, .complex .f64 (fl x.x) (fl x.y), .string x.text, .bool x.held] 46)).cell? ⟨w.heap.size, 2, none⟩ = some (.int .i64 x.ver.seq) := by simp [go_sem]
  have HB := Lib.hid hb0
  unfold itmV
  generalize hasP m x = b at *
  clear hb0 hk hs hl hcell
  go_enter Try.func51, Try.ntmps51
  go_upto_region 1 with fail
  generalize (w.alloc (.cells #[.int .i64 x.key, .string x.ver.id, .int .i64 x.ver.seq, .int .i64 x.ver.stamp, .bool x.dead, .complex .f64 (fl x.x) (fl x.y), .string x.text, .bool x.held] 46)) = W at *
  go_wp2_with fail
  refine (HH.out _ HB.out).mono ?_
  rintro e w1 ⟨rfl, hb⟩
  replace HB := Lib.hid (HB.out.trans (hb.mono HB.out.size))
  clear hb c0 k1 k2
  go_wp2
  go_ret
  exact ⟨rfl, HB.out⟩
end Go.Proofs.Ytpaiigminmakgaa

/- slices.IndexFunc and DeleteFunc of items. -/
namespace Go.Proofs.Ytpaiigminmakgaa
open Go.RowKit

/-- The place of the first one of which p holds; -1: there is none. -/
def ixI (p : Itm → Bool) (zs : List Itm) : Int := match zs.findIdx? p with
  | none => -1
  | some i => (i : Int)
theorem ix_none {p : Itm → Bool} {zs : List Itm} (h : ∀ z ∈ zs, p z = false) : ixI p zs = -1 := by
  have : zs.findIdx? p = none := List.findIdx?_eq_none_iff.mpr h
  unfold ixI
  rw [this]
theorem ix_some {p : Itm → Bool} {zs : List Itm} {k : Nat} {x : Itm} (hk : zs[k]? = some x) (h : ∀ z ∈ zs.take k, p z = false) (hx : p x = true) : ixI p zs = (k : Int) := by
  have hlt := (List.getElem?_eq_some_iff.mp hk).1
  have : zs.findIdx? p = some k := by
    rw [List.findIdx?_eq_some_iff_getElem]
    refine ⟨hlt, ?_, fun j hj => ?_⟩
    · rw [(List.getElem?_eq_some_iff.mp hk).2]; exact hx
    · have hm : zs[j]'(by omega) ∈ zs.take k := by
        rw [List.mem_take_iff_getElem]
        exact ⟨j, by omega, rfl⟩
      rw [h _ hm]; decide
  unfold ixI
  rw [this]
theorem take_no {p : Itm → Bool} {zs : List Itm} {k : Nat} {x : Itm} (hk : zs[k]? = some x) (h : ∀ z ∈ zs.take k, p z = false) (hx : p x = false) : ∀ z ∈ zs.take (k + 1), p z = false := fun z hz => by
  rw [snoc_of hk] at hz
  rcases List.mem_append.mp hz with hz | hz
  · exact h z hz
  · rw [List.mem_singleton] at hz; subst hz; exact hx
set_option maxRecDepth 100000 in
set_option maxHeartbeats 4000000 in
theorem ixf_any (p : Itm → Bool) (cap : Array Value) (A : Option Addr) (n c : Nat) (zs : List Itm) (B : Nat) (w : World) (hBw : B ≤ w.heap.size) (hz : RowAt cellsP 8 w w.heap.size A n zs) (hn : n ≤ 1000000) (P0 : Nat) (hcap : cap = #[.pointer (some ⟨P0, 0, none⟩)])
    (HC : Hid (∀ (x : Itm) (u : World), Below B w u → Calls Try.prog 51 #[itmV x, .pointer (some ⟨P0, 0, none⟩)] u fun e w' => e = .returned (.bool (p x)) ∧ Below u.heap.size u w')) :
    Calls Try.prog 68 #[.slice A n c, .func (.func 51) #[] cap] w fun e w' => e = .returned (.int .i64 (ixI p zs)) ∧ Below w.heap.size w w' := by
  have HZ := Lib.hid hz
  have HLN := Lib.hid hz.1
  subst hcap
  clear hz
  unfold itmV at HC
  go_enter Try.func68, Try.ntmps68
  go_wp2_with fail
  go_loopw [8] (fun i wr => ∃ k : Nat, i = .int .i64 k ∧ k ≤ n ∧ Hid (∀ z ∈ zs.take k, p z = false) ∧ Hid (Below w.heap.size w wr)) (fun i _ => n - (intOf i).toNat)
  case atStart => exact ⟨0, rfl, by omega, (by intro z h; simp at h), Below.refl _ _⟩
  case round =>
    obtain ⟨k, rfl, hk, HNO, HB⟩ := hrel
    by_cases hlt : k < n
    · obtain ⟨b1, o1, rfl, hb1, x, hx, hc1⟩ := HZ.out.get hlt
      obtain ⟨e0, e1, e2, e3, e4, e5, e6, e7⟩ := cellsP_at hc1
      replace e0 := (HB.out.cell (p := ⟨b1, o1 + k * 8, none⟩) hb1).trans e0
      replace e1 := (HB.out.cell (p := ⟨b1, o1 + k * 8 + 1, none⟩) hb1).trans e1
      replace e2 := (HB.out.cell (p := ⟨b1, o1 + k * 8 + 2, none⟩) hb1).trans e2
      replace e3 := (HB.out.cell (p := ⟨b1, o1 + k * 8 + 3, none⟩) hb1).trans e3
      replace e4 := (HB.out.cell (p := ⟨b1, o1 + k * 8 + 4, none⟩) hb1).trans e4
      replace e5 := (HB.out.cell (p := ⟨b1, o1 + k * 8 + 5, none⟩) hb1).trans e5
      replace e6 := (HB.out.cell (p := ⟨b1, o1 + k * 8 + 6, none⟩) hb1).trans e6
      replace e7 := (HB.out.cell (p := ⟨b1, o1 + k * 8 + 7, none⟩) hb1).trans e7
      have q1 : (k : Int) < n := by omega
      have q0 : (0 : Int) ≤ (k : Int) := by omega
      have HX := Lib.hid (HC.out x)
      have hst := store_complex
      have HPS : Hid (p x = true → ixI p zs = (k : Int)) := ix_some hx HNO.out
      have HPN : Hid (p x = false → ∀ z ∈ zs.take (k + 1), p z = false) := take_no hx HNO.out
      have HBm : Hid (Below B w wr) := HB.out.mono hBw
      generalize p x = px at *
      clear hc1 hx HNO
      go_wp2_with fail
      refine (HX.out _ HBm.out).mono ?_
      rintro e w1 ⟨rfl, hb⟩
      replace HB := Lib.hid (HB.out.trans (hb.mono HB.out.size))
      clear hb HX HBm e0 e1 e2 e3 e4 e5 e6 e7
      cases px
      · have HN := Lib.hid (HPN.out rfl)
        go_wp2
        go_roundw
        case rel => exact ⟨k + 1, by go_num, by omega, HN, HB⟩
        case measure => simp [intOf]; omega
      · have HE := Lib.hid (HPS.out rfl)
        go_wp2
        go_ret
        exact ⟨by rw [HE.out]; rfl, HB.out⟩
    · obtain rfl : k = n := by omega
      have q1 : ¬ ((k : Int) < k) := by omega
      have HE : Hid (ixI p zs = -1) := ix_none (by have h := HNO.out; rwa [List.take_of_length_le (by have := HLN.out; omega)] at h)
      go_wp2
      go_ret
      exact ⟨by rw [HE.out]; rfl, HB.out⟩
end Go.Proofs.Ytpaiigminmakgaa

/- clear of a row of items; a row that is cut. -/
namespace Go.Proofs.Ytpaiigminmakgaa
open Go.RowKit

theorem flZ : fl 0 = 0 := by decide
theorem cellsZero : zeroP.cells.toList = cellsP zeroIt := by
  show _ = [Value.int .i64 0, .string ⟨#[]⟩, .int .i64 0, .int .i64 0, .bool false, .complex .f64 (fl 0) (fl 0), .string ⟨#[]⟩, .bool false]
  rw [flZ]; rfl
theorem zeros_flat : ∀ n : Nat, (Builtin.zeroCells zeroP.cells n).toList = (List.replicate n (cellsP zeroIt)).flatten := by
  have h8 : zeroP.cells.size = 8 := rfl
  have hl : ∀ n : Nat, (Builtin.zeroCells zeroP.cells n).toList = (List.range (n * 8)).map fun i => zeroP.cells[i % 8]! := fun n => by
    unfold Builtin.zeroCells
    rw [h8]
    simp
  intro n
  induction n with
  | zero => rw [hl]; rfl
  | succ n ih =>
    rw [hl] at ih ⊢
    rw [show (n + 1) * 8 = 8 + n * 8 by omega, List.range_add, List.map_append, List.replicate_succ, List.flatten_cons, ← ih]
    congr 1
    rw [List.map_map]
    refine List.map_congr_left fun i _ => ?_
    show zeroP.cells[(8 + i) % 8]! = zeroP.cells[i % 8]!
    rw [Nat.add_mod_left]
theorem wsets_eq (g : Nat) : ∀ (vs : List Value) (o : Nat) (w : World), w.setCells g o vs = wsets w g o vs
  | [], _, _ => rfl
  | v :: r, o, w => wsets_eq g r (o + 1) (w.setCell ⟨g, o, none⟩ v)
theorem wsets_app (g : Nat) : ∀ (a b : List Value) (o : Nat) (w : World), wsets w g o (a ++ b) = wsets (wsets w g o a) g (o + a.length) b
  | [], _, _, _ => rfl
  | v :: r, b, o, w => by
    show wsets (w.setCell ⟨g, o, none⟩ v) g (o + 1) (r ++ b) = wsets (wsets (w.setCell ⟨g, o, none⟩ v) g (o + 1) r) g (o + (r.length + 1)) b
    rw [wsets_app g r b, show o + 1 + r.length = o + (r.length + 1) by omega]
/-- The rest is zero then. -/
theorem own_zeros {B g n c : Nat} : ∀ (r k : Nat) (zs : List Itm) (w : World), k + r = zs.length → w.ownsRow B 46 8 (.slice (some ⟨g, 0, none⟩) n c) n (rowCells cellsP zs) →
    (wsets w g (k * 8) (List.replicate r (cellsP zeroIt)).flatten).ownsRow B 46 8 (.slice (some ⟨g, 0, none⟩) n c) n (rowCells cellsP (zs.take k ++ List.replicate r zeroIt))
  | 0, k, zs, w, hk, h => by
    have e : zs.take k ++ List.replicate 0 zeroIt = zs := by rw [List.replicate_zero, List.append_nil, List.take_of_length_le (by omega)]
    rw [e]; exact h
  | r + 1, k, zs, w, hk, h => by
    have h1 := own_put rowP h (k := k) (by omega) zeroIt
    have h2 := own_zeros r (k + 1) (zs.set k zeroIt) _ (by rw [List.length_set]; omega) h1
    rw [List.replicate_succ, List.flatten_cons, wsets_app, show k * 8 + (cellsP zeroIt).length = (k + 1) * 8 by show k * 8 + 8 = _; omega]
    have e : (zs.set k zeroIt).take (k + 1) = zs.take k ++ [zeroIt] := by
      have hg : (zs.set k zeroIt)[k]? = some zeroIt := by rw [List.getElem?_set_self (by omega)]
      rw [snoc_of hg, List.take_set_of_le (Nat.le_refl _)]
    rw [e, List.append_assoc] at h2
    exact h2
/-- s[:q] of a row of the call's own. -/
theorem own_cut {w : World} {B : Nat} {A : Option Addr} {n c : Nat} {zs : List Itm} (h : w.ownsRow B 46 8 (.slice A n c) n (rowCells cellsP zs)) {q : Nat} (hq : q ≤ n) : w.ownsRow B 46 8 (.slice A q c) q (rowCells cellsP (zs.take q)) := by
  have hl : zs.length = n := by
    have := h.1
    rw [rowCells_length rowP.len] at this
    omega
  refine ⟨by rw [rowCells_length rowP.len, List.length_take]; omega, ?_⟩
  rcases h.2 with ⟨h1, rfl⟩ | ⟨g, cap, cur, h1, h2, h3, h4, h5, h6, h7⟩
  · obtain rfl : q = 0 := by omega
    exact .inl ⟨h1, rfl⟩
  · injection h1 with e1 e2 e3
    subst e1 e3
    refine .inr ⟨g, c, cur, rfl, h2, h3, by omega, h5, h6, ?_⟩
    have e : rowCells cellsP (zs.take q) = (rowCells cellsP zs).take (q * 8) := by
      have e1 : rowCells cellsP zs = rowCells cellsP (zs.take q) ++ rowCells cellsP (zs.drop q) := by rw [← rowCells_append, List.take_append_drop]
      rw [e1, List.take_left' (by rw [rowCells_length rowP.len, List.length_take]; rw [Nat.min_eq_left (by omega)])]
    rw [e, ← h7, List.take_take, Nat.min_eq_left (Nat.mul_le_mul_right _ hq)]
theorem run_clear_items (w : World) (ty : TypeId) (g o r c : Nat) (hr : 0 < r) (hc : ∀ j, j < r * 8 → (w.cell? ⟨g, o + j, none⟩).isSome = true) (hf : ∀ j, j < r * 8 → w.frozen? ⟨g, o + j, none⟩ = false) :
    (Builtin.clear_ #[32] ty #[.slice (some ⟨g, o, none⟩) r c]).run Try.prog w = .ok (.tuple #[]) (wsets w g o (List.replicate r (cellsP zeroIt)).flatten) := by
  obtain ⟨i0, hi, hz0, hz1, hz2⟩ := info_parts rowP.i
  have hlen : (List.replicate r (cellsP zeroIt)).flatten.length = r * 8 := by
    rw [List.length_flatten, List.map_replicate, List.sum_replicate_nat]; rfl
  have h1 : ∀ v ∈ (List.replicate r (cellsP zeroIt)).flatten, v.oneCell' = true := fun v hv => by
    obtain ⟨l, hl, hvl⟩ := List.mem_flatten.mp hv
    rw [List.eq_of_mem_replicate hl] at hvl
    exact cellsP_one _ v hvl
  have hst := run_storeCells_cells (P := Try.prog) g o (List.replicate r (cellsP zeroIt)).flatten 0 w (by rw [hlen]; simpa using hc) (by rw [hlen]; simpa using hf) h1
  simp only [Nat.add_zero] at hst
  rw [wsets_eq] at hst
  have hzc := zeros_flat r
  have hv : ∀ w, (zeroValue 46).run Try.prog w = .ok zeroP w := fun w => by simp [zeroValue, typeInfo, hi, hz0]
  obtain ⟨m, rfl⟩ : ∃ m, r = m + 1 := ⟨r - 1, by omega⟩
  simp [Builtin.clear_, run_underlying Try.underlying32, hv, hzc, hst]
end Go.Proofs.Ytpaiigminmakgaa

/- slices.DeleteFunc of items; store.Unknown. -/
namespace Go.Proofs.Ytpaiigminmakgaa
open Go.RowKit

theorem cutI_from (A : Option Addr) (n c p : Nat) (h1 : p < n) (h2 : n ≤ c) (g : Nat) (hA : A = some ⟨g, 0, none⟩) : ∀ W, (Instr.slice 32 (.slice A n c) (some (.int .i64 (p : Int))) none none).run Try.prog W = .ok (.slice (some ⟨g, p * 8, none⟩) (n - p) (c - p)) W := by
  have hel : Try.prog.elem 32 = 46 := by kernel_rfl
  have hsz : ∀ W, (sizeOf 46).run Try.prog W = .ok 8 W := fun W => by
    obtain ⟨i, hi, _, hz1, _⟩ := info_parts rowP.i
    simp [sizeOf, typeInfo, hi, hz1]
  intro W
  subst hA
  rw [run_slice_l (P := Try.prog) W 32 (some ⟨g, 0, none⟩) n c (by rw [hel]; exact Try.underlying32) .i64 (p : Int) (by omega) (by omega), hel, hsz]
  simp [sliced, Result.andThen, radd, show ¬ c = p by omega]
theorem cutI_upto (A : Option Addr) (n c p : Nat) (h1 : p ≤ n) (h2 : n ≤ c) : ∀ W, (Instr.slice 32 (.slice A n c) none (some (.int .i64 (p : Int))) none).run Try.prog W = .ok (.slice A p c) W := by
  intro W
  have hel : Try.prog.elem 32 = 46 := by kernel_rfl
  have hsz : ∀ W, (sizeOf 46).run Try.prog W = .ok 8 W := fun W => by
    obtain ⟨i, hi, _, hz1, _⟩ := info_parts rowP.i
    simp [sizeOf, typeInfo, hi, hz1]
  rw [run_slice_h (P := Try.prog) W 32 A n c (by rw [hel]; exact Try.underlying32) .i64 (p : Int) (by omega) (by omega), hel, hsz]
  cases A <;> simp [sliced, Result.andThen, Addr.add]
/-- Half way: the first i are those of which p doesn't hold; from j on all is as it was. -/
structure HalfD (p : Itm → Bool) (zs ys : List Itm) (i j : Nat) : Prop where
  len : ys.length = zs.length
  lt : i < j
  le : j ≤ zs.length
  kept : ys.take i = unkF p (zs.take j)
  rest : ys.drop j = zs.drop j
theorem HalfD.start {p : Itm → Bool} {zs : List Itm} {k : Nat} (h : ixI p zs = (k : Int)) : HalfD p zs zs k (k + 1) := by
  unfold ixI at h
  cases e : zs.findIdx? p with
  | none => rw [e] at h; simp only at h; omega
  | some i =>
    rw [e] at h
    simp only at h
    obtain rfl : i = k := by omega
    rw [List.findIdx?_eq_some_iff_getElem] at e
    obtain ⟨hlt, hp, hno⟩ := e
    refine ⟨rfl, by omega, by omega, ?_, rfl⟩
    have hk : zs[i]? = some zs[i] := List.getElem?_eq_getElem hlt
    rw [unk_snoc hk, if_pos hp]
    unfold unkF
    rw [List.filter_eq_self.mpr]
    intro z hz
    rw [List.mem_take_iff_getElem] at hz
    obtain ⟨j, hj, rfl⟩ := hz
    have := hno j (by omega)
    simpa using this
theorem HalfD.get {p : Itm → Bool} {zs ys : List Itm} {i j : Nat} (h : HalfD p zs ys i j) (hj : j < zs.length) : ∃ x, ys[j]? = some x ∧ zs[j]? = some x := by
  refine ⟨zs[j], ?_, List.getElem?_eq_getElem hj⟩
  have h1 : (ys.drop j)[0]? = (zs.drop j)[0]? := by rw [h.rest]
  rw [List.getElem?_drop, List.getElem?_drop, Nat.add_zero] at h1
  rw [h1, List.getElem?_eq_getElem hj]
theorem HalfD.skip {p : Itm → Bool} {zs ys : List Itm} {i j : Nat} {x : Itm} (h : HalfD p zs ys i j) (hx : zs[j]? = some x) (hp : p x = true) : HalfD p zs ys i (j + 1) := by
  have hlt := (List.getElem?_eq_some_iff.mp hx).1
  refine ⟨h.len, by have := h.lt; omega, by omega, by rw [unk_snoc hx, if_pos hp]; exact h.kept, ?_⟩
  have := congrArg (List.drop 1) h.rest
  rwa [List.drop_drop, List.drop_drop] at this
theorem HalfD.keep {p : Itm → Bool} {zs ys : List Itm} {i j : Nat} {x : Itm} (h : HalfD p zs ys i j) (hx : zs[j]? = some x) (hp : p x = false) : HalfD p zs (ys.set i x) (i + 1) (j + 1) := by
  have hlt := (List.getElem?_eq_some_iff.mp hx).1
  have hl := h.lt
  have hg : (ys.set i x)[i]? = some x := by rw [List.getElem?_set_self (by have := h.len; omega)]
  refine ⟨by rw [List.length_set]; exact h.len, by omega, by omega, ?_, ?_⟩
  · rw [snoc_of hg, List.take_set_of_le (Nat.le_refl _), h.kept, unk_snoc hx, if_neg (by rw [hp]; decide)]
  · rw [List.drop_set, if_pos (by omega)]
    have := congrArg (List.drop 1) h.rest
    rwa [List.drop_drop, List.drop_drop] at this
/-- What DeleteFunc answers. -/
def DelRet (p : Itm → Bool) (zs : List Itm) (B : Nat) (w : World) (e : Ending) (w' : World) : Prop :=
  ∃ A c nv, e = .returned (.slice A nv c) ∧ (unkF p zs).length = nv ∧ w'.ownsRow B 46 8 (.slice A nv c) nv (rowCells cellsP (unkF p zs)) ∧ Below B w w'
set_option maxRecDepth 100000 in
set_option maxHeartbeats 8000000 in
theorem del_any (p : Itm → Bool) (A : Option Addr) (n c : Nat) (zs : List Itm) (B : Nat) (w : World) (hBw : B ≤ w.heap.size) (ho : w.ownsRow B 46 8 (.slice A n c) n (rowCells cellsP zs)) (hl : zs.length = n) (hn : n ≤ 1000000) (P0 : Nat)
    (HC : Hid (∀ (x : Itm) (u : World), Below B w u → Calls Try.prog 51 #[itmV x, .pointer (some ⟨P0, 0, none⟩)] u fun e w' => e = .returned (.bool (p x)) ∧ Below u.heap.size u w')) :
    Calls Try.prog 50 #[.slice A n c, .func (.func 51) #[] #[.pointer (some ⟨P0, 0, none⟩)]] w (DelRet p zs B w) := by
  have HIX := Lib.hid (ixf_any p #[.pointer (some ⟨P0, 0, none⟩)] A n c zs B w hBw (own_row rowP ho) hn P0 rfl HC)
  have hnc := rown_cap ho
  have HO := Lib.hid ho
  have HLN := Lib.hid hl
  have HBw := Lib.hid hBw
  clear ho hl hBw
  by_cases hix : ixI p zs = -1
  · have HU : Hid (unkF p zs = zs) := by
      show _ = _
      unfold unkF
      rw [List.filter_eq_self.mpr]
      intro z hz
      unfold ixI at hix
      cases e : zs.findIdx? p with
      | none => have := List.findIdx?_eq_none_iff.mp e z hz; rw [this]; rfl
      | some i => rw [e] at hix; simp only at hix; omega
    rw [hix] at HIX
    clear hix
    go_enter Try.func50, Try.ntmps50
    go_wp2_with fail
    refine HIX.out.mono ?_
    rintro e w1 ⟨rfl, hb⟩
    replace HO := Lib.hid (rown_below HO.out hb)
    have HB : Hid (Below B w w1) := hb.mono HBw.out
    clear hb HIX
    go_wp2
    go_ret
    exact ⟨A, c, n, rfl, by rw [HU.out]; exact HLN.out, by rw [HU.out]; exact HO.out, HB.out⟩
  · obtain ⟨k0, hk0⟩ : ∃ k : Nat, ixI p zs = (k : Int) := by
      unfold ixI at hix ⊢
      cases e : zs.findIdx? p with
      | none => rw [e] at hix; exact absurd rfl hix
      | some i => exact ⟨i, rfl⟩
    have HD := Lib.hid (HalfD.start hk0)
    rw [hk0] at HIX
    clear hix hk0
    have hn0 : 0 < n := by have h1 := HD.out.lt; have h2 := HD.out.le; have h3 := HLN.out; omega
    obtain ⟨g, hgA, hgB⟩ : ∃ g, A = some ⟨g, 0, none⟩ ∧ B ≤ g := by
      obtain ⟨g, cap, hv, h1, h2⟩ := HO.out.form hn0
      injection hv with hA
      exact ⟨g, hA, h1⟩
    subst hgA
    have hk0n : k0 < n := by have h1 := HD.out.lt; have h2 := HD.out.le; have h3 := HLN.out; omega
    have r1 : ((k0 : Int) == -1) = false := by rw [beq_eq_false_iff_ne]; omega
    have r2 : ¬ (k0 : Int) = -1 := by omega
    go_enter Try.func50, Try.ntmps50
    go_wp2_with fail
    refine HIX.out.mono ?_
    rintro e w1 ⟨rfl, hb⟩
    replace HO := Lib.hid (rown_below HO.out hb)
    have HB : Hid (Below B w w1) := hb.mono HBw.out
    clear hb HIX
    go_wp2_with fail
    go_loopw [5, 6] (fun a b wr => ∃ (i j : Nat) (ys : List Itm), a = .int .i64 i ∧ b = .int .i64 j ∧ i < j ∧ j ≤ n ∧ Hid (HalfD p zs ys i j) ∧ Hid (wr.ownsRow B 46 8 (.slice (some ⟨g, 0, none⟩) n c) n (rowCells cellsP ys)) ∧ Hid (Below B w wr)) (fun _ b _ => n - (intOf b).toNat)
    case atStart => exact ⟨k0, k0 + 1, zs, rfl, by first | rfl | go_num, by omega, by omega, HD, HO, HB⟩
    case round =>
      clear HD HO HB r1 r2
      obtain ⟨i, j, ys, rfl, rfl, hij, hj, HD, HO, HB⟩ := hrel
      have hBr : B ≤ wr.heap.size := Nat.le_trans HBw.out HB.out.size
      by_cases hlt : j < n
      · obtain ⟨x, hyx, hx⟩ := HD.out.get (by have := HLN.out; omega)
        obtain ⟨b1, o1, hA1, hb1, z1, hz1, hc1⟩ := (own_row rowP HO.out).get hlt
        injection hA1 with hA1
        injection hA1 with s1 s2
        subst s1 s2
        obtain rfl : x = z1 := by rw [hyx] at hz1; injection hz1
        obtain ⟨e0, e1, e2, e3, e4, e5, e6, e7⟩ := cellsP_at hc1
        replace e0 : wr.cell? ⟨g, j * 8, none⟩ = some (.int .i64 x.key) := (by have h := e0; simpa using h)
        replace e1 : wr.cell? ⟨g, j * 8 + 1, none⟩ = some (.string x.ver.id) := (by have h := e1; simpa using h)
        replace e2 : wr.cell? ⟨g, j * 8 + 2, none⟩ = some (.int .i64 x.ver.seq) := (by have h := e2; simpa using h)
        replace e3 : wr.cell? ⟨g, j * 8 + 3, none⟩ = some (.int .i64 x.ver.stamp) := (by have h := e3; simpa using h)
        replace e4 : wr.cell? ⟨g, j * 8 + 4, none⟩ = some (.bool x.dead) := (by have h := e4; simpa using h)
        replace e5 : wr.cell? ⟨g, j * 8 + 5, none⟩ = some (.complex .f64 (fl x.x) (fl x.y)) := (by have h := e5; simpa using h)
        replace e6 : wr.cell? ⟨g, j * 8 + 6, none⟩ = some (.string x.text) := (by have h := e6; simpa using h)
        replace e7 : wr.cell? ⟨g, j * 8 + 7, none⟩ = some (.bool x.held) := (by have h := e7; simpa using h)
        have q1 : (j : Int) < n := by omega
        have q0 : (0 : Int) ≤ (j : Int) := by omega
        have hst := store_complex
        have HSK : Hid (p x = true → HalfD p zs ys i (j + 1)) := HD.out.skip hx
        have HKP : Hid (p x = false → HalfD p zs (ys.set i x) (i + 1) (j + 1)) := HD.out.keep hx
        have HX := Lib.hid (HC.out x)
        have HXC := Lib.hid (show cellsP x = [.int .i64 x.key, .string x.ver.id, .int .i64 x.ver.seq, .int .i64 x.ver.stamp, .bool x.dead, .complex .f64 (fl x.x) (fl x.y), .string x.text, .bool x.held] from rfl)
        have HYL : Hid (ys.length = n) := HD.out.len.trans HLN.out
        unfold itmV at HX
        generalize p x = px at *
        clear hc1 hyx hx hz1 HD
        go_upto_region 8 with fail
        have hb0 : Below wr.heap.size wr (wr.alloc (.cells #[.int .i64 x.key, .string x.ver.id, .int .i64 x.ver.seq, .int .i64 x.ver.stamp, .bool x.dead, .complex .f64 (fl x.x) (fl x.y), .string x.text, .bool x.held] 46)) := (Below.refl _ _).alloc (Nat.le_refl _) _
        replace HO := Lib.hid (rown_below HO.out hb0)
        replace HB := Lib.hid (HB.out.trans (hb0.mono hBr))
        have k0 : (wr.alloc (.cells #[.int .i64 x.key, .string x.ver.id, .int .i64 x.ver.seq, .int .i64 x.ver.stamp, .bool x.dead, .complex .f64 (fl x.x) (fl x.y), .string x.text, .bool x.held] 46)).cell? ⟨wr.heap.size, 0, none⟩ = some (.int .i64 x.key) := by simp [go_sem]
        have k1 : (wr.alloc (.cells #[.int .i64 x.key, .string x.ver.id, .int .i64 x.ver.seq, .int .i64 x.ver.stamp, .bool x.dead, .complex .f64 (fl x.x) (fl x.y), .string x.text, .bool x.held] 46)).cell? ⟨wr.heap.size, 1, none⟩ = some (.string x.ver.id) := by simp [go_sem]
        have k2 : (wr.alloc (.cells #[.int .i64 x.key, .string x.ver.id, .int .i64 x.ver.seq, .int .i64 x.ver.stamp, .bool x.dead, .complex .f64 (fl x.x) (fl x.y), .string x.text, .bool x.held] 46)).cell? ⟨wr.heap.size, 2, none⟩ = some (.int .i64 x.ver.seq) := by simp [go_sem]
        have k3 : (wr.alloc (.cells #[.int .i64 x.key, .string x.ver.id, .int .i64 x.ver.seq, .int .i64 x.ver.stamp, .bool x.dead, .complex .f64 (fl x.x) (fl x.y), .string x.text, .bool x.held] 46)).cell? ⟨wr.heap.size, 3, none⟩ = some (.int .i64 x.ver.stamp) := by simp [go_sem]
        have k4 : (wr.alloc (.cells #[.int .i64 x.key, .string x.ver.id, .int .i64 x.ver.seq, .int .i64 x.ver.stamp, .bool x.dead, .complex .f64 (fl x.x) (fl x.y), .string x.text, .bool x.held] 46)).cell? ⟨wr.heap.size, 4, none⟩ = some (.bool x.dead) := by simp [go_sem]
        have k5 : (wr.alloc (.cells #[.int .i64 x.key, .string x.ver.id, .int .i64 x.ver.seq, .int .i64 x.ver.stamp, .bool x.dead, .complex .f64 (fl x.x) (fl x.y), .string x.text, .bool x.held] 46)).cell? ⟨wr.heap.size, 5, none⟩ = some (.complex .f64 (fl x.x) (fl x.y)) := by simp [go_sem]
        have k6 : (wr.alloc (.cells #[.int .i64 x.key, .string x.ver.id, .int .i64 x.ver.seq, .int .i64 x.ver.stamp, .bool x.dead, .complex .f64 (fl x.x) (fl x.y), .string x.text, .bool x.held] 46)).cell? ⟨wr.heap.size, 6, none⟩ = some (.string x.text) := by simp [go_sem]
        have k7 : (wr.alloc (.cells #[.int .i64 x.key, .string x.ver.id, .int .i64 x.ver.seq, .int .i64 x.ver.stamp, .bool x.dead, .complex .f64 (fl x.x) (fl x.y), .string x.text, .bool x.held] 46)).cell? ⟨wr.heap.size, 7, none⟩ = some (.bool x.held) := by simp [go_sem]
        have kz : wr.heap.size < (wr.alloc (.cells #[.int .i64 x.key, .string x.ver.id, .int .i64 x.ver.seq, .int .i64 x.ver.stamp, .bool x.dead, .complex .f64 (fl x.x) (fl x.y), .string x.text, .bool x.held] 46)).heap.size := by simp
        clear hb0 e0 e1 e2 e3 e4 e5 e6 e7
        generalize (wr.alloc (.cells #[.int .i64 x.key, .string x.ver.id, .int .i64 x.ver.seq, .int .i64 x.ver.stamp, .bool x.dead, .complex .f64 (fl x.x) (fl x.y), .string x.text, .bool x.held] 46)) = W at *
        generalize wr.heap.size = Y at *
        go_wp2_with fail
        refine (HX.out _ HB.out).mono ?_
        rintro e v1 ⟨rfl, hb⟩
        replace k0 := (hb.cell (p := ⟨Y, 0, none⟩) kz).trans k0
        replace k1 := (hb.cell (p := ⟨Y, 1, none⟩) kz).trans k1
        replace k2 := (hb.cell (p := ⟨Y, 2, none⟩) kz).trans k2
        replace k3 := (hb.cell (p := ⟨Y, 3, none⟩) kz).trans k3
        replace k4 := (hb.cell (p := ⟨Y, 4, none⟩) kz).trans k4
        replace k5 := (hb.cell (p := ⟨Y, 5, none⟩) kz).trans k5
        replace k6 := (hb.cell (p := ⟨Y, 6, none⟩) kz).trans k6
        replace k7 := (hb.cell (p := ⟨Y, 7, none⟩) kz).trans k7
        replace HO := Lib.hid (rown_below HO.out hb)
        replace HB := Lib.hid (HB.out.trans (hb.mono (Nat.le_trans HBw.out HB.out.size)))
        clear hb HX kz
        cases px
        · have HN := Lib.hid (HKP.out rfl)
          have p1 : (i : Int) < n := by omega
          have p0 : (0 : Int) ≤ (i : Int) := by omega
          have ef0 : v1.frozen? ⟨g, i * 8, none⟩ = false := HO.out.frozenAt _
          have ef1 : v1.frozen? ⟨g, i * 8 + 1, none⟩ = false := HO.out.frozenAt _
          have ef2 : v1.frozen? ⟨g, i * 8 + 2, none⟩ = false := HO.out.frozenAt _
          have ef3 : v1.frozen? ⟨g, i * 8 + 3, none⟩ = false := HO.out.frozenAt _
          have ef4 : v1.frozen? ⟨g, i * 8 + 4, none⟩ = false := HO.out.frozenAt _
          have ef5 : v1.frozen? ⟨g, i * 8 + 5, none⟩ = false := HO.out.frozenAt _
          have ef6 : v1.frozen? ⟨g, i * 8 + 6, none⟩ = false := HO.out.frozenAt _
          have ef7 : v1.frozen? ⟨g, i * 8 + 7, none⟩ = false := HO.out.frozenAt _
          obtain ⟨z2, hz2⟩ : ∃ z, ys[i]? = some z := ⟨_, List.getElem?_eq_getElem (by have := HYL.out; omega)⟩
          obtain ⟨b4, o4, hA4, hb4, z4, hz4, hc4⟩ := (own_row rowP HO.out).get (k := i) (by omega)
          injection hA4 with hA4
          injection hA4 with s3 s4
          subst s3 s4
          obtain ⟨f0, f1, f2, f3, f4, f5, f6, f7⟩ := cellsP_at hc4
          replace f0 : v1.cell? ⟨g, i * 8, none⟩ = some (.int .i64 z4.key) := (by have h := f0; simpa using h)
          replace f1 : v1.cell? ⟨g, i * 8 + 1, none⟩ = some (.string z4.ver.id) := (by have h := f1; simpa using h)
          replace f2 : v1.cell? ⟨g, i * 8 + 2, none⟩ = some (.int .i64 z4.ver.seq) := (by have h := f2; simpa using h)
          replace f3 : v1.cell? ⟨g, i * 8 + 3, none⟩ = some (.int .i64 z4.ver.stamp) := (by have h := f3; simpa using h)
          replace f4 : v1.cell? ⟨g, i * 8 + 4, none⟩ = some (.bool z4.dead) := (by have h := f4; simpa using h)
          replace f5 : v1.cell? ⟨g, i * 8 + 5, none⟩ = some (.complex .f64 (fl z4.x) (fl z4.y)) := (by have h := f5; simpa using h)
          replace f6 : v1.cell? ⟨g, i * 8 + 6, none⟩ = some (.string z4.text) := (by have h := f6; simpa using h)
          replace f7 : v1.cell? ⟨g, i * 8 + 7, none⟩ = some (.bool z4.held) := (by have h := f7; simpa using h)
          clear hc4 hz2 hz4 hb4
          have HO2 : Hid (((((((((v1.setCell ⟨g, i * 8, none⟩ (.int .i64 x.key)).setCell ⟨g, i * 8 + 1, none⟩ (.string x.ver.id)).setCell ⟨g, i * 8 + 2, none⟩ (.int .i64 x.ver.seq)).setCell ⟨g, i * 8 + 3, none⟩ (.int .i64 x.ver.stamp)).setCell ⟨g, i * 8 + 4, none⟩ (.bool x.dead)).setCell ⟨g, i * 8 + 5, none⟩ (.complex .f64 (fl x.x) (fl x.y))).setCell ⟨g, i * 8 + 6, none⟩ (.string x.text)).setCell ⟨g, i * 8 + 7, none⟩ (.bool x.held)).ownsRow B 46 8 (.slice (some ⟨g, 0, none⟩) n c) n (rowCells cellsP (ys.set i x))) := by
            have h := own_put rowP HO.out (k := i) (by have := HYL.out; omega) x
            rw [HXC.out, wsets8] at h
            exact h
          have HB2 : Hid (Below B w ((((((((v1.setCell ⟨g, i * 8, none⟩ (.int .i64 x.key)).setCell ⟨g, i * 8 + 1, none⟩ (.string x.ver.id)).setCell ⟨g, i * 8 + 2, none⟩ (.int .i64 x.ver.seq)).setCell ⟨g, i * 8 + 3, none⟩ (.int .i64 x.ver.stamp)).setCell ⟨g, i * 8 + 4, none⟩ (.bool x.dead)).setCell ⟨g, i * 8 + 5, none⟩ (.complex .f64 (fl x.x) (fl x.y))).setCell ⟨g, i * 8 + 6, none⟩ (.string x.text)).setCell ⟨g, i * 8 + 7, none⟩ (.bool x.held))) := by
            have h := below_wsets hgB [.int .i64 x.key, .string x.ver.id, .int .i64 x.ver.seq, .int .i64 x.ver.stamp, .bool x.dead, .complex .f64 (fl x.x) (fl x.y), .string x.text, .bool x.held] (i * 8) v1 HB.out
            rw [wsets8] at h
            exact h
          go_upto_region 10 with fail
          clear k0 k1 k2 k3 k4 k5 k6 k7 f0 f1 f2 f3 f4 f5 f6 f7 ef0 ef1 ef2 ef3 ef4 ef5 ef6 ef7 HO HB
          generalize ((((((((v1.setCell ⟨g, i * 8, none⟩ (.int .i64 x.key)).setCell ⟨g, i * 8 + 1, none⟩ (.string x.ver.id)).setCell ⟨g, i * 8 + 2, none⟩ (.int .i64 x.ver.seq)).setCell ⟨g, i * 8 + 3, none⟩ (.int .i64 x.ver.stamp)).setCell ⟨g, i * 8 + 4, none⟩ (.bool x.dead)).setCell ⟨g, i * 8 + 5, none⟩ (.complex .f64 (fl x.x) (fl x.y))).setCell ⟨g, i * 8 + 6, none⟩ (.string x.text)).setCell ⟨g, i * 8 + 7, none⟩ (.bool x.held)) = W2 at *
          go_wp2
          go_roundw
          case rel => exact ⟨i + 1, j + 1, ys.set i x, by go_num, by go_num, by omega, by omega, HN, HO2, HB2⟩
          case measure => simp [intOf]; omega
        · have HN := Lib.hid (HSK.out rfl)
          clear k0 k1 k2 k3 k4 k5 k6 k7
          go_wp2
          go_roundw
          case rel => exact ⟨i, j + 1, ys, rfl, by go_num, by omega, by omega, HN, HO, HB⟩
          case measure => simp [intOf]; omega
      · obtain rfl : j = n := by omega
        have q1 : ¬ ((j : Int) < j) := by omega
        have HYL : Hid (ys.length = j) := HD.out.len.trans HLN.out
        have HKE : Hid (ys.take i = unkF p zs) := by
          have h := HD.out.kept
          have e : zs.take j = zs := List.take_of_length_le (by have := HLN.out; omega)
          rw [e] at h
          exact h
        have HKL : Hid ((unkF p zs).length = i) := by show _ = _; rw [← HKE.out, List.length_take, HYL.out]; omega
        have hs1 := cutI_from (some ⟨g, 0, none⟩) j c i hij hnc g rfl
        have hs2 := cutI_upto (some ⟨g, 0, none⟩) j c i (by omega) hnc
        have hcells : ∀ q, q < (j - i) * 8 → (wr.cell? ⟨g, i * 8 + q, none⟩).isSome = true := fun q hq => by
          have hq8 : i * 8 + q < (rowCells cellsP ys).length := by rw [rowCells_length rowP.len, HYL.out]; omega
          obtain ⟨b4, o4, hA4, hb4, z4, hz4, hc4⟩ := (own_row rowP HO.out).get (k := i + q / 8) (by omega)
          injection hA4 with hA4
          injection hA4 with s3 s4
          subst s3 s4
          have hlen : q % 8 < (cellsP z4).length := by show _ < 8; omega
          have := hc4 (q % 8) _ (List.getElem?_eq_getElem hlen)
          rw [show 0 + (i + q / 8) * 8 + q % 8 = i * 8 + q by omega] at this
          rw [this]; rfl
        have hcl := fun ty => run_clear_items wr ty g (i * 8) (j - i) (c - i) (by omega) hcells (fun q _ => HO.out.frozenAt _)
        have HZ := Lib.hid (own_cut (own_zeros (j - i) i ys wr (by have := HYL.out; omega) HO.out) (q := i) (by omega))
        have HBz := Lib.hid (below_wsets hgB (List.replicate (j - i) (cellsP zeroIt)).flatten (i * 8) wr HB.out)
        have HTE : Hid ((ys.take i ++ List.replicate (j - i) zeroIt).take i = unkF p zs) := by
          show _ = _
          rw [List.take_left' (by rw [List.length_take, HYL.out]; omega), HKE.out]
        rw [HTE.out] at HZ
        clear hcells HO HB HD
        generalize wsets wr g (i * 8) (List.replicate (j - i) (cellsP zeroIt)).flatten = wz at *
        go_wp2
        go_ret
        exact ⟨_, c, i, rfl, HKL.out, HZ.out, HBz.out⟩
set_option maxRecDepth 100000 in
set_option maxHeartbeats 2000000 in
theorem unkP_any (A : Option Addr) (n c : Nat) (zs : List Itm) (Ak : Option Addr) (nk ck : Nat) (m : Mat) (B : Nat) (w : World) (hB : B ≤ w.heap.size) (hz : RowAt cellsP 8 w B A n zs) (hn : n ≤ 19) (hk : MatAt w B Ak nk m) (hnk : nk ≤ 1000000) (hs : RisingM m) (hl : ∀ a, OkS (mOf m a)) :
    Calls Try.prog 28 #[.slice A n c, .slice Ak nk ck] w (DelRet (hasP m) (ageF zs) w.heap.size w) := by
  have hb0 : Below w.heap.size w (w.alloc (.cells #[.slice Ak nk ck] 64)) := (Below.refl _ _).alloc (Nat.le_refl _) _
  have hmf : ∀ (fn : Fn) (first cap : Array Value) (w : World), (Instr.makeFunc fn first cap).run Try.prog w = .ok (.func fn first cap) w := fun _ _ _ _ => rfl
  have HAGE := Lib.hid (byAge_any A n c zs B (w.alloc (.cells #[.slice Ak nk ck] 64)) (by have := hb0.size; omega) (hz.keep (hb0.mono hB)) hn)
  have c0 : (w.alloc (.cells #[.slice Ak nk ck] 64)).cell? ⟨w.heap.size, 0, none⟩ = some (.slice Ak nk ck) := by simp [go_sem]
  have hsz : (w.alloc (.cells #[.slice Ak nk ck] 64)).heap.size = w.heap.size + 1 := by simp
  have HMA := Lib.hid (hk.keep (hb0.mono hB))
  have HS := Lib.hid hs
  have HL := Lib.hid hl
  have HAL : Hid ((ageF zs).length = n) := by show _ = _; rw [ageF_len, hz.1]
  have HB := Lib.hid hb0
  clear hz hk hs hl hb0
  go_enter Try.func28, Try.ntmps28
  go_upto_region 1 with fail
  generalize (w.alloc (.cells #[.slice Ak nk ck] 64)) = W1 at *
  generalize hP : w.heap.size = P at *
  go_wp2_with fail
  refine HAGE.out.mono ?_
  rintro e w1 ⟨A1, c1, rfl, ho, hb⟩
  rw [HAL.out] at ho ⊢
  have c1' := (hb.cell (p := ⟨P, 0, none⟩) (by rw [hsz]; exact Nat.lt_succ_self P)).trans c0
  have HC : Hid (∀ (x : Itm) (u : World), Below W1.heap.size w1 u → Calls Try.prog 51 #[itmV x, .pointer (some ⟨P, 0, none⟩)] u fun e w' => e = .returned (.bool (hasP m x)) ∧ Below u.heap.size u w') := fun x u h => by
    have h1 := (h.cell (p := ⟨P, 0, none⟩) (by rw [hsz]; exact Nat.lt_succ_self P)).trans c1'
    have h2 : Below W1.heap.size W1 u := hb.trans h
    have h3 := h2.size
    exact unkC_any x P Ak nk ck m B u (by omega) (by omega) h1 (HMA.out.keep (h2.mono (by omega))) hnk HS.out HL.out
  have HD := Lib.hid (del_any (hasP m) A1 n c1 (ageF zs) W1.heap.size w1 hb.size ho HAL.out (by omega) P HC)
  have HB1 : Hid (Below P w w1) := HB.out.trans (hb.mono (by omega))
  clear ho hb HAGE c0 c1' HC HB
  generalize ageF zs = ls at *
  go_wp2_with fail
  refine HD.out.mono ?_
  rintro e w2 ⟨A2, c2, nv, rfl, hlv, ho, hb⟩
  have HO := Lib.hid (rown_base ho (by omega : P ≤ W1.heap.size))
  have HB2 : Hid (Below P w w2) := HB1.out.trans (hb.mono (by omega))
  have HLV := Lib.hid hlv
  clear ho hb hlv HD
  go_wp2
  go_ret
  exact ⟨A2, c2, nv, rfl, HLV.out, HO.out, HB2.out⟩
end Go.Proofs.Ytpaiigminmakgaa

/- Stores: what is under a key when an item came, and when one was dropped. -/
namespace Go.Proofs.Ytpaiigminmakgaa
open Go.RowKit

theorem getF_some {zs : List Itm} {k : Int} {z : Itm} (hs : Keys zs) (hz : z ∈ zs) (hk : z.key = k) : getF zs k = some z := by
  induction zs with
  | nil => simp at hz
  | cons y r ih =>
    obtain ⟨h1, h2⟩ := List.pairwise_cons.mp hs
    unfold getF
    rcases List.mem_cons.mp hz with rfl | hz
    · rw [List.find?_cons_of_pos (by simpa using hk)]
    · have := h1 z hz
      rw [List.find?_cons_of_neg (by simp; omega)]
      exact ih h2 hz
theorem getF_mem {zs : List Itm} {k : Int} {z : Itm} (h : getF zs k = some z) : z ∈ zs ∧ z.key = k := by
  unfold getF at h
  exact ⟨List.mem_of_find?_eq_some h, by simpa using List.find?_some h⟩
theorem getF_none {zs : List Itm} {k : Int} (h : ∀ z ∈ zs, z.key ≠ k) : getF zs k = none := by
  unfold getF
  exact List.find?_eq_none.mpr fun z hz => by simpa using h z hz
/-- Two rising rows with the same members of a key have the same under it. -/
theorem getF_same {zs ys : List Itm} {k : Int} (h1 : Keys zs) (h : ∀ z, z.key = k → (z ∈ zs ↔ z ∈ ys)) (h2 : Keys ys) : getF zs k = getF ys k := by
  rcases e : getF ys k with _ | z
  · refine getF_none fun z hz hk => ?_
    rw [getF_some h2 ((h z hk).mp hz) hk] at e
    cases e
  · obtain ⟨hz, hk⟩ := getF_mem e
    exact getF_some h1 ((h z hk).mpr hz) hk
theorem ins_other {zs : List Itm} {x z : Itm} (h : z.key ≠ x.key) : z ∈ insF zs x ↔ z ∈ zs := by
  unfold insF lowF highF
  simp only [List.mem_append, List.mem_cons, List.mem_filter, decide_eq_true_eq]
  constructor
  · rintro (h1 | h1 | h1)
    · exact h1.1
    · exact absurd (by rw [h1]) h
    · exact h1.1
  · intro h1
    rcases Int.lt_or_lt_of_ne h with h2 | h2
    · exact .inl ⟨h1, h2⟩
    · exact .inr (.inr ⟨h1, h2⟩)
theorem put_keys {zs : List Itm} {x : Itm} (hs : Keys zs) : Keys (putF zs x).1 := by
  unfold putF
  split
  · exact ins_keys hs
  · split
    · exact ins_keys hs
    · exact hs
theorem put_other {zs : List Itm} {x : Itm} {k : Int} (hs : Keys zs) (hk : k ≠ x.key) : getF (putF zs x).1 k = getF zs k := by
  refine getF_same (put_keys hs) (fun z hz => ?_) hs
  unfold putF
  split
  · exact ins_other (by omega)
  · split
    · exact ins_other (by omega)
    · exact Iff.rfl
theorem put_own {zs : List Itm} {x : Itm} (hs : Keys zs) : (getF (putF zs x).1 x.key).isSome = true := by
  have hin : (getF (insF zs x) x.key).isSome = true := by
    rw [getF_some (ins_keys hs) (z := x) (by unfold insF; simp) rfl]
    rfl
  unfold putF
  rcases e : getF zs x.key with _ | y
  · exact hin
  · simp only
    split
    · exact hin
    · rw [e]; rfl
theorem drop_other {zs : List Itm} {k k' : Int} (hs : Keys zs) (hk : k ≠ k') : getF (dropF zs k') k = getF zs k := by
  refine getF_same (drop_keys hs) (fun z hz => ?_) hs
  unfold dropF lowF highF
  simp only [List.mem_append, List.mem_filter, decide_eq_true_eq]
  constructor
  · rintro (h1 | h1)
    · exact h1.1
    · exact h1.1
  · intro h1
    rcases Int.lt_or_lt_of_ne (show z.key ≠ k' by omega) with h2 | h2
    · exact .inl ⟨h1, h2⟩
    · exact .inr ⟨h1, h2⟩
theorem drop_own (zs : List Itm) (k : Int) : getF (dropF zs k) k = none := by
  refine getF_none fun z hz => ?_
  unfold dropF at hz
  rcases List.mem_append.mp hz with h | h
  · have := low_keys z h; omega
  · have := high_keys z h; omega
theorem drop_le (zs : List Itm) (k : Int) : (dropF zs k).length ≤ zs.length := by
  unfold dropF lowF highF
  rw [List.length_append]
  induction zs with
  | nil => simp
  | cons y r ih =>
    simp only [List.filter_cons, List.length_cons]
    by_cases h1 : y.key < k
    · simp [h1, show ¬ k < y.key by omega]; omega
    · by_cases h2 : k < y.key
      · simp [h1, h2]; omega
      · simp [h1, h2]; omega
theorem put_ge {zs : List Itm} {x : Itm} (hs : Keys zs) : zs.length ≤ (putF zs x).1.length := by
  have hin : zs.length ≤ (insF zs x).length := by
    have h1 : (rdropF zs x.key).length = (lowF zs x.key).length + (highF zs x.key).length := by rw [rdrop_low_high hs, List.length_append]
    have h2 : zs.length ≤ (rdropF zs x.key).length + 1 := by
      clear h1
      induction zs with
      | nil => simp
      | cons y r ih =>
        obtain ⟨g1, g2⟩ := List.pairwise_cons.mp hs
        have ih := ih g2
        unfold rdropF at ih ⊢
        by_cases hk : y.key = x.key
        · have e : r.filter (fun z => z.key != x.key) = r := List.filter_eq_self.mpr fun z hz => by have := g1 z hz; simp; omega
          simp [hk, e]
        · simp [hk]; omega
    unfold insF
    simp only [List.length_append, List.length_cons]
    omega
  unfold putF
  split
  · exact hin
  · split
    · exact hin
    · exact Nat.le_refl _
theorem fixS_good (zs : List Itm) : GoodS (fixS zs) 12 := by
  have key : ∀ l : List Itm, ∀ acc m, GoodS acc m → GoodS (l.foldl stepS acc) (m + l.length) := fun l => by
    induction l with
    | nil => intro acc m h; simpa using h
    | cons z r ih =>
      intro acc m h
      have := ih _ _ (step_good (z := z) h)
      rw [List.foldl_cons, List.length_cons, show m + (r.length + 1) = m + 1 + r.length by omega]
      exact this
  have h := key (zs.take 12) [] 0 ⟨List.Pairwise.nil, fun _ h => by simp at h, by simp⟩
  refine ⟨h.keys, h.right, Nat.le_trans h.len ?_⟩
  have := List.length_take_le 12 zs
  omega
end Go.Proofs.Ytpaiigminmakgaa

/- The reference's Same of two Stores. -/
namespace Go.Proofs.Ytpaiigminmakgaa
open Go.RowKit

set_option maxRecDepth 100000 in
theorem neq_items (i j : Itm) (w : World) : (binOp .neq 28 (refV i) (refV j)).run Try.prog w = .ok (.bool (!eqI i j)) w := by
  have h := eql_ref i j w
  unfold refV at *
  rw [run_eql_struct] at h
  rw [run_neq_struct]
  generalize (Op.equalIn 10000 28 _ _).run Try.prog w = r at *
  rcases r with ⟨b, w'⟩ | ⟨h', w'⟩
  · simp only [Result.andThen] at h ⊢
    injection h with h1 h2
    injection h1 with h1
    subst h1 h2
    rfl
  · simp [Result.andThen] at h
def sameS (zs ys : List Itm) : Bool := decide (zs.length = ys.length) && (List.range zs.length).all fun j => match zs[j]?, ys[j]? with | some x, some y => eqI x y | _, _ => false
theorem sameS_iff (zs ys : List Itm) : sameS zs ys = true ↔ zs = ys := by
  unfold sameS
  rw [Bool.and_eq_true, decide_eq_true_eq, List.all_eq_true]
  constructor
  · rintro ⟨hl, h⟩
    apply List.ext_getElem?
    intro j
    rcases Nat.lt_or_ge j zs.length with hj | hj
    · have h1 := h j (List.mem_range.mpr hj)
      rw [List.getElem?_eq_getElem hj, List.getElem?_eq_getElem (by omega)] at h1 ⊢
      rw [(eqI_iff _ _).mp h1]
    · rw [List.getElem?_eq_none hj, List.getElem?_eq_none (by omega)]
  · rintro rfl
    refine ⟨rfl, fun j hj => ?_⟩
    rw [List.getElem?_eq_getElem (List.mem_range.mp hj)]
    exact eqI_same _
theorem same_no {zs ys : List Itm} {j : Nat} {x y : Itm} (h1 : zs[j]? = some x) (h2 : ys[j]? = some y) (h : eqI x y = false) : sameS zs ys = false := by
  rcases e : sameS zs ys with _ | _
  · rfl
  · have := (sameS_iff zs ys).mp e
    subst this
    rw [h1] at h2
    injection h2 with h2
    subst h2
    rw [eqI_same] at h
    cases h
set_option maxRecDepth 100000 in
set_option maxHeartbeats 4000000 in
theorem rsame_any (A : Option Addr) (n c : Nat) (zs : List Itm) (A' : Option Addr) (n' c' : Nat) (ys : List Itm) (B : Nat) (w : World) (hz : RowAt cellsI 9 w B A n zs) (hy : RowAt cellsI 9 w B A' n' ys) (hn : n ≤ 1099511627776) :
    Calls Try.prog 14 #[.slice A n c, .slice A' n' c'] w fun e w' => e = .returned (.bool (sameS zs ys)) ∧ Hid (Drawn w w') := by
  have HZ := Lib.hid hz
  have HY := Lib.hid hy
  have HL := Lib.hid hz.1
  have HL' := Lib.hid hy.1
  clear hz hy
  by_cases hnn : n = n'
  · subst hnn
    go_enter Try.func14, Try.ntmps14
    go_wp2
    go_loopw [5] (fun i wr => ∃ (j m : Nat), j ≤ n ∧ i = .int .i64 j ∧ Hid (∀ q, q < j → ∃ x y, zs[q]? = some x ∧ ys[q]? = some y ∧ eqI x y = true) ∧ wr = w.drewN m) (fun i _ => n - (intOf i).toNat)
    case atStart => exact ⟨0, 0, by omega, rfl, fun q hq => absurd hq (by omega), rfl⟩
    case round =>
      obtain ⟨j, m, hj, rfl, HE, rfl⟩ := hrel
      by_cases hlt : j < n
      · obtain ⟨b1, o1, rfl, _, x, hx, hc1⟩ := HZ.out.get hlt
        obtain ⟨b2, o2, rfl, _, y, hy, hc2⟩ := HY.out.get hlt
        obtain ⟨e0, e1, e2, e3, e4, e5, e6, e7, e8⟩ := cellsI_at hc1
        obtain ⟨f0, f1, f2, f3, f4, f5, f6, f7, f8⟩ := cellsI_at hc2
        have hi1 : (j : Int) < n := by omega
        have hne := neq_items x y
        unfold refV at hne
        rcases he : eqI x y with _ | _
        · have HN := Lib.hid (same_no hx hy he)
          rw [he] at hne
          clear hc1 hc2 hx hy he HE
          go_wp2
          go_quiet (fail)
          go_wp2
          go_ret
          exact ⟨ret_bool (by rw [HN.out]), ⟨_, World.drewN_drewN _ _ _⟩⟩
        · have HE' : Hid (∀ q, q < j + 1 → ∃ x y, zs[q]? = some x ∧ ys[q]? = some y ∧ eqI x y = true) := fun q hq => by
            rcases Nat.lt_or_ge q j with h | h
            · exact HE.out q h
            · obtain rfl : q = j := by omega
              exact ⟨x, y, hx, hy, he⟩
          rw [he] at hne
          clear hc1 hc2 hx hy he HE
          go_wp2
          go_quiet (fail)
          go_wp2
          go_roundw
          case rel => exact ⟨j + 1, _, by omega, by go_num, HE', rfl⟩
          case measure => simp [intOf]; omega
      · obtain rfl : j = n := by omega
        have HT : Hid (sameS zs ys = true) := by
          refine (sameS_iff zs ys).mpr (List.ext_getElem? fun q => ?_)
          rcases Nat.lt_or_ge q j with h | h
          · obtain ⟨x, y, h1, h2, h3⟩ := HE.out q h
            rw [h1, h2, (eqI_iff _ _).mp h3]
          · rw [List.getElem?_eq_none (by rw [HL.out]; exact h), List.getElem?_eq_none (by rw [HL'.out]; exact h)]
        go_wp2
        go_ret
        exact ⟨ret_bool (by rw [HT.out]), ⟨_, rfl⟩⟩
  · have HF : Hid (sameS zs ys = false) := by
      show _ = _
      unfold sameS
      rw [decide_eq_false (by rw [HL.out, HL'.out]; exact hnn)]
      rfl
    have hnn' : ((n : Int) != n') = true := by simp; omega
    go_enter Try.func14, Try.ntmps14
    go_wp2
    go_ret
    exact ⟨ret_bool (by rw [HF.out]), Drawn.refl w⟩
end Go.Proofs.Ytpaiigminmakgaa

/- The reference's put of a Know. -/
namespace Go.Proofs.Ytpaiigminmakgaa
open Go.RowKit

theorem frozenH {w : World} {B : Nat} {e : TypeId} {g n c : Nat} {rs : List Hd} (h : OwnsH w B e (some ⟨g, 0, none⟩) n c rs) (j : Nat) : w.frozen? ⟨g, j, none⟩ = false := by
  rcases h.own.2 with ⟨hv, _⟩ | ⟨g', cap, cur, hv, hB, hh, hnc, hm, hs, ht⟩
  · cases hv
  · injection hv with e1 _ e3
    injection e1 with e1
    injection e1 with e1
    subst e1
    simp [World.frozen?, hh]
/-- The Row that is put has gone left past post. -/
structure SinkH (w : World) (d : List Hd) (x : Hd) (g N c : Nat) (pre post : List Hd) (wr : World) : Prop where
  two : pre ++ post = d
  big : ∀ y ∈ post, 0 < cmpId y.id x.id
  own : OwnsH wr w.heap.size 88 (some ⟨g, 0, none⟩) N c (pre ++ x :: post)
  below : Below w.heap.size w wr
theorem SinkH.len {w : World} {d : List Hd} {x : Hd} {g N c : Nat} {pre post : List Hd} {wr : World} (h : SinkH w d x g N c pre post wr) : pre.length + 1 + post.length = N := by
  have := h.own.len
  simp at this
  omega
theorem sinkH_facts {w : World} {d : List Hd} {x y : Hd} {g N c : Nat} {pre post : List Hd} {wr : World} (h : SinkH w d x g N c (pre ++ [y]) post wr) {k : Nat} (hk : k = pre.length + 1) :
    (wr.cell? ⟨g, (k - 1) * 3, none⟩ = some (.string y.id) ∧ wr.cell? ⟨g, (k - 1) * 3 + 1, none⟩ = some (.int .i64 y.u) ∧ wr.cell? ⟨g, (k - 1) * 3 + 2, none⟩ = some (.slice y.A y.v.length y.c)) ∧ (wr.cell? ⟨g, k * 3, none⟩ = some (.string x.id) ∧ wr.cell? ⟨g, k * 3 + 1, none⟩ = some (.int .i64 x.u) ∧ wr.cell? ⟨g, k * 3 + 2, none⟩ = some (.slice x.A x.v.length x.c)) ∧ g < wr.heap.size ∧ w.heap.size ≤ g := by
  have hv := h.own.row
  have hl := h.len
  simp at hl
  have hg := h.own.own.lt g rfl
  subst hk
  obtain ⟨b, off, e, _, z, hz, hc⟩ := hv.get (k := pre.length) (by omega)
  injection e with e
  injection e with e1 e2
  subst e1 e2
  obtain ⟨b, off, e, _, z', hz', hc'⟩ := hv.get (k := pre.length + 1) (by omega)
  injection e with e
  injection e with e1 e2
  subst e1 e2
  simp at hz hz'
  subst hz hz'
  have q0 := hc 0 _ rfl
  have q1 := hc 1 _ rfl
  have q2 := hc 2 _ rfl
  have r0 := hc' 0 _ rfl
  have r1 := hc' 1 _ rfl
  have r2 := hc' 2 _ rfl
  simp only [Nat.zero_add, Nat.add_zero] at q0 q1 q2 r0 r1 r2
  rw [Nat.add_sub_cancel]
  exact ⟨⟨q0, q1, q2⟩, ⟨r0, r1, r2⟩, hg.2, hg.1⟩
theorem set_mid6 {α : Type} (P : List α) (a b c d e f : α) (S : List α) (a' b' c' d' e' f' : α) :
    ((((((P ++ a :: b :: c :: d :: e :: f :: S).set P.length a').set (P.length + 1) b').set (P.length + 2) c').set (P.length + 3) d').set (P.length + 4) e').set (P.length + 5) f' = P ++ a' :: b' :: c' :: d' :: e' :: f' :: S := by
  induction P with
  | nil => rfl
  | cons x P ih => simp
theorem swapH_cells (pre post : List Hd) (x y : Hd) :
    ((((((rowCells cellsH (pre ++ y :: x :: post)).set (pre.length * 3) (.string x.id)).set (pre.length * 3 + 1) (.int .i64 x.u)).set (pre.length * 3 + 2) (.slice x.A x.v.length x.c)).set (pre.length * 3 + 3) (.string y.id)).set (pre.length * 3 + 4) (.int .i64 y.u)).set (pre.length * 3 + 5) (.slice y.A y.v.length y.c) = rowCells cellsH (pre ++ x :: y :: post) := by
  have e1 : rowCells cellsH (pre ++ y :: x :: post) = rowCells cellsH pre ++ .string y.id :: .int .i64 y.u :: .slice y.A y.v.length y.c :: .string x.id :: .int .i64 x.u :: .slice x.A x.v.length x.c :: rowCells cellsH post := by rw [rowCells_append]; rfl
  have e2 : rowCells cellsH (pre ++ x :: y :: post) = rowCells cellsH pre ++ .string x.id :: .int .i64 x.u :: .slice x.A x.v.length x.c :: .string y.id :: .int .i64 y.u :: .slice y.A y.v.length y.c :: rowCells cellsH post := by rw [rowCells_append]; rfl
  rw [e1, e2, ← rowCells_length (cf := cellsH) (d := 3) (fun _ => rfl) pre]
  exact set_mid6 _ _ _ _ _ _ _ _ _ _ _ _ _ _
theorem fine_drew {W : World} {r : Hd} (h : Fine W W.heap.size r) : Fine W.drew W.drew.heap.size r := (h.keep (drew_below _ _)).more (Nat.le_refl _)
theorem sinkH_swap {w : World} {d : List Hd} {x y : Hd} {g N c : Nat} {pre post : List Hd} {wr wq w' : World} (h : SinkH w d x g N c (pre ++ [y]) post wr) {k : Nat} (hk : k = pre.length + 1) (hp : ∀ v ∈ y :: post, 0 < cmpId v.id x.id)
    (hq : wq.heap = wr.heap ∧ wq.os = wr.os ∧ wq.tape = wr.tape ∧ wq.output = wr.output)
    (hw : w' = ((((((wq.setCell ⟨g, (k - 1) * 3, none⟩ (.string x.id)).setCell ⟨g, (k - 1) * 3 + 1, none⟩ (.int .i64 x.u)).setCell ⟨g, (k - 1) * 3 + 2, none⟩ (.slice x.A x.v.length x.c)).setCell ⟨g, k * 3, none⟩ (.string y.id)).setCell ⟨g, k * 3 + 1, none⟩ (.int .i64 y.u)).setCell ⟨g, k * 3 + 2, none⟩ (.slice y.A y.v.length y.c)).drew) :
    SinkH w d x g N c pre (y :: post) w' := by
  obtain ⟨h1, h2, h3, h4⟩ := h
  have hbq : Below wr.heap.size wr wq := ⟨hq.2.1, hq.2.2.1, hq.2.2.2, by rw [hq.1]; exact Nat.le_refl _, fun k _ => by rw [hq.1]⟩
  have hg := (h3.own.lt g rfl).1
  have h5 := (h3.below hbq)
  have s1 := h5.own.stored ((k - 1) * 3) (.string x.id)
  have s2 := s1.1.stored ((k - 1) * 3 + 1) (.int .i64 x.u)
  have s3 := s2.1.stored ((k - 1) * 3 + 2) (.slice x.A x.v.length x.c)
  have s4 := s3.1.stored (k * 3) (.string y.id)
  have s5 := s4.1.stored (k * 3 + 1) (.int .i64 y.u)
  have s6 := s5.1.stored (k * 3 + 2) (.slice y.A y.v.length y.c)
  have hgr := ((((s1.2.trans s2.2).trans s3.2).trans s4.2).trans s5.2).trans s6.2
  have h6 := s6.1
  have e1 : (k - 1) * 3 = pre.length * 3 := by omega
  have e2 : k * 3 = pre.length * 3 + 3 := by omega
  rw [e1, e2] at h6 hgr
  rw [show pre.length * 3 + 3 + 1 = pre.length * 3 + 4 by omega, show pre.length * 3 + 3 + 2 = pre.length * 3 + 5 by omega] at h6 hgr
  rw [show pre ++ [y] ++ x :: post = pre ++ y :: x :: post by simp, swapH_cells] at h6
  subst hw
  rw [e1, e2, show pre.length * 3 + 3 + 1 = pre.length * 3 + 4 by omega, show pre.length * 3 + 3 + 2 = pre.length * 3 + 5 by omega]
  have hmem : ∀ r, r ∈ pre ++ x :: y :: post → r ∈ pre ++ [y] ++ x :: post := fun r hr => by simp at hr ⊢; rcases hr with h | h | h | h <;> simp [h]
  refine ⟨by rw [← h1]; simp, hp, ⟨h6.drew, fun r hr => ?_, fun r hr => h5.apart r (hmem r hr)⟩, ?_⟩
  · have := (h5.fine r (hmem r hr)).grown hgr (h5.apart r (hmem r hr))
    exact fine_drew this
  · have hset : ∀ (W : World) (o : Nat) (v : Value), Below w.heap.size w W → Below w.heap.size w (W.setCell ⟨g, o, none⟩ v) := fun W o v h => h.setCell (p := ⟨g, o, none⟩) hg v
    exact Below.drew (hset _ _ _ (hset _ _ _ (hset _ _ _ (hset _ _ _ (hset _ _ _ (hset _ _ _ (h4.trans (hbq.mono h4.size))))))))
/-- What stands behind the loop. -/
theorem sinkH_put {w : World} {m : Mat} {d : List Hd} {x : Hd} {g N c : Nat} {pre post : List Hd} {wr : World} (h : SinkH w d x g N c pre post wr) (hd : absH d = dropM m x.id) {k : Nat} (hm : GK k m) (hx : Num k (x.u, x.v)) (hr : rightL x.id.data.toList = true) (hne : (x.u, x.v) ≠ (0, [])) (hlast : ∀ y, pre.getLast? = some y → cmpId y.id x.id ≤ 0) :
    absH (pre ++ x :: post) = putK m x.id (x.u, x.v) := by
  have hgd : GK k (absH pre ++ absH post) := by rw [← absH_append, h.two, hd]; exact hm.drop _
  have hpost : ∀ y ∈ absH post, 0 < cmpId y.1 x.id := fun y hy => by
    simp only [absH, List.mem_map] at hy
    obtain ⟨r, hr, rfl⟩ := hy
    exact h.big r hr
  have hno : ∀ y ∈ absH pre ++ absH post, y.1 ≠ x.id := fun y hy => by
    rw [← absH_append, h.two, hd] at hy
    simpa [dropM] using (List.mem_filter.mp hy).2
  have hpre : ∀ y ∈ absH pre, cmpId y.1 x.id < 0 := fun y hy => by
    rcases List.eq_nil_or_concat pre with e | ⟨pre', z, e⟩
    · subst e; simp [absH] at hy
    · rw [List.concat_eq_append] at e
      subst e
      have hz := hlast z (by simp)
      have hzn : cmpId z.id x.id ≠ 0 := fun e => hno (z.id, (z.u, z.v)) (by simp [absH]) ((cmpId_zero _ _).mp e)
      rw [absH_append] at hy
      rcases List.mem_append.mp hy with hy' | hy'
      · have hri := List.pairwise_append.mp ((risingM_iff _).mp hgd.up)
        rw [absH_append] at hri
        have := (List.pairwise_append.mp hri.1).2.2 y hy' (z.id, (z.u, z.v)) (by simp [absH])
        exact cmpId_lt y.1 z.id x.id this (by omega)
      · simp [absH] at hy'
        subst hy'
        show cmpId z.id x.id < 0
        omega
  have hab : absH (pre ++ x :: post) = absH pre ++ (x.id, (x.u, x.v)) :: absH post := by simp [absH]
  rw [hab]
  refine putK_eq hm hr hx (Nat.le_refl _) (sunk_good hgd hr hx hne hpost hpre) fun b => ?_
  rw [mOf_sunk (fun y hy => hno y (by simp [hy]))]
  by_cases e : b = x.id
  · rw [if_pos e, if_pos e]
  · rw [if_neg e, if_neg e, ← absH_append, h.two, hd, mOf_drop, if_neg e]
theorem right_size {a : ByteArray} (h : rightL a.data.toList = true) : a.size ≤ 9223372036854775807 := by
  have := ((rightL_iff _).mp h).1
  have e : a.data.toList.length = a.size := by simp
  omega
set_option maxRecDepth 100000 in
set_option maxHeartbeats 8000000 in
theorem rputM_any (A : Option Addr) (n c : Nat) (m : Mat) (a : ByteArray) (u : Int) (A' : Option Addr) (c' : Nat) (v : List Int) (B : Nat) (w : World) (hB : B ≤ w.heap.size) (hz : MatAt w B A n m) (hy : Sp.IntsAt w B A' v.length v) (hvc : v.length ≤ c') (hn : n ≤ 10000) (q : Nat) (hm : GK q m) (hs : Num q (u, v)) (hq : q ≤ 100000) (ha : rightL a.data.toList = true) :
    Calls Try.prog 45 #[.slice A n c, .string a, .agg #[.int .i64 u, .slice A' v.length c']] w (OwnMat 88 (putK m a (u, v)) w) := by
  have HL := Lib.hid hz.len
  have HZ := Lib.hid hz
  have HY := Lib.hid hy
  have HM := Lib.hid hm
  have HN := Lib.hid hs
  have HR := Lib.hid ha
  have hu0 := hs.ok.1
  have hu1 := hs.hi
  have hvl := Nat.le_trans hs.len hq
  have HC := Lib.hid (num_count hs)
  simp only at hu0 hu1 hvl
  have HPK : Hid (putK m a (u, v) = if (u, v) = ((0 : Int), ([] : List Int)) then dropM m a else mergeF (dropM m a) [(a, (u, v))]) := rfl
  have HEQ : Hid (∀ (g N c4 : Nat) (rs pre post : List Hd) (A2 : Option Addr) (c2 : Nat) (wr : World), SinkH w rs ⟨a, u, A2, c2, v⟩ g N c4 pre post wr → absH rs = dropM m a → (u, v) ≠ ((0 : Int), ([] : List Int)) → (∀ y, pre.getLast? = some y → cmpId y.id a ≤ 0) → absH (pre ++ ⟨a, u, A2, c2, v⟩ :: post) = putK m a (u, v)) := fun g N c4 rs pre post A2 c2 wr h hd hne hl => sinkH_put (x := ⟨a, u, A2, c2, v⟩) h hd hm hs ha hne hl
  generalize hr : putK m a (u, v) = res at *
  clear hz hy hr hm hs ha
  have hb0 : Below w.heap.size w (w.alloc (.cells #[.int .i64 u, .slice A' v.length c'] 86)) := (Below.refl _ _).alloc (Nat.le_refl _) _
  have HB0 := Lib.hid hb0
  have k0 : (w.alloc (.cells #[.int .i64 u, .slice A' v.length c'] 86)).cell? ⟨w.heap.size, 0, none⟩ = some (.int .i64 u) := by simp [go_sem]
  have k1 : (w.alloc (.cells #[.int .i64 u, .slice A' v.length c'] 86)).cell? ⟨w.heap.size, 1, none⟩ = some (.slice A' v.length c') := by simp [go_sem]
  have hk : w.heap.size < (w.alloc (.cells #[.int .i64 u, .slice A' v.length c'] 86)).heap.size := by simp
  have HD0 := Lib.hid (rdropM_any A n c m a B (w.alloc (.cells #[.int .i64 u, .slice A' v.length c'] 86)) (Nat.le_trans hB hb0.size) (HZ.out.keep (hb0.mono hB)) (by omega))
  have HY0 := Lib.hid (HY.out.keep (hb0.mono hB))
  clear hb0
  go_enter Try.func45, Try.ntmps45
  go_wp2_with fail
  refine HD0.out.mono ?_
  generalize w.alloc (.cells #[.int .i64 u, .slice A' v.length c'] 86) = w1 at *
  rintro e w2 ⟨A3, c3, rfl, hom, hb⟩
  have hs1 := HB0.out.size
  replace k0 := (hb.cell (p := ⟨w.heap.size, 0, none⟩) hk).trans k0
  replace k1 := (hb.cell (p := ⟨w.heap.size, 1, none⟩) hk).trans k1
  replace hk := Nat.lt_of_lt_of_le hk hb.size
  have HY2 := Lib.hid (HY0.out.keep (hb.mono (Nat.le_trans hB hs1)))
  have HB2 := Lib.hid (HB0.out.trans (hb.mono hs1))
  have HOM := Lib.hid (hom.base hs1)
  clear hom hb HD0 HY0
  have hdl : (dropM m a).length ≤ 10000 := Nat.le_trans (dropM_len _ _) (by have := HL.out; omega)
  go_wp2_with fail
  refine (Sp.refCount_any u A' v.length c' _ hu0 hu1 (by omega)).mono ?_
  rintro e w3 ⟨rfl, hb⟩
  replace k0 := (hb.cell (p := ⟨w.heap.size, 0, none⟩) hk).trans k0
  replace k1 := (hb.cell (p := ⟨w.heap.size, 1, none⟩) hk).trans k1
  replace hk := Nat.lt_of_lt_of_le hk hb.size
  have HOM3 := Lib.hid (HOM.out.below hb)
  have hs2 := HB2.out.size
  have HY3 := Lib.hid (HY2.out.keep (hb.mono (Nat.le_trans hB hs2)))
  have HB3 := Lib.hid (HB2.out.trans (hb.mono hs2))
  clear hb HOM HY2 HB2
  by_cases h0 : u + (v.length : Int) < 1
  · have HE : Hid (res = dropM m a) := by show _ = _; rw [HPK.out, if_pos (HC.out.mp h0)]
    have hg : decide (u + (v.length : Int) < 1) = true := decide_eq_true h0
    clear HEQ HPK HC
    go_wp2
    go_ret
    rw [HE.out]
    exact ⟨A3, c3, rfl, HOM3.out, HB3.out⟩
  · have HNE : Hid ((u, v) ≠ ((0 : Int), ([] : List Int))) := fun e => h0 (HC.out.mpr e)
    have hg : decide (u + (v.length : Int) < 1) = false := decide_eq_false h0
    obtain ⟨rs, habs, hown⟩ := HOM3.out
    have HAB := Lib.hid habs
    have HDS : Hid (∀ x ∈ dropM m a, x.1.size ≤ 9223372036854775807) := fun x hx => right_size (HM.out.row x (List.mem_filter.mp hx).1).1
    have hs3 := HB3.out.size
    have HAP := Lib.hid (apart_old hown (show Fine w3 B ⟨a, u, A', c', v⟩ from ⟨HY3.out, hvc⟩) hB)
    have HF2 : Hid (Fine w3 w3.heap.size ⟨a, u, A', c', v⟩) := ⟨HY3.out.more (Nat.le_trans hB hs3), hvc⟩
    have hb3 : Below w3.heap.size w3 (w3.alloc (.cells #[.string a, .int .i64 u, .slice A' v.length c'] 88)) := (Below.refl _ _).alloc (Nat.le_refl _) _
    have HX : Hid (RowAt cellsH 3 (w3.alloc (.cells #[.string a, .int .i64 u, .slice A' v.length c'] 88)) (w3.heap.size + 1) (some ⟨w3.heap.size, 0, none⟩) 1 [⟨a, u, A', c', v⟩]) := one_row rowN (heap_alloc_new w3 _)
    have HO2 := Lib.hid (hown.below hb3)
    replace HF2 := Lib.hid ((HF2.out.keep hb3).more hb3.size)
    have HB2 := Lib.hid (HB3.out.trans (hb3.mono hs3))
    obtain ⟨d, hd⟩ : ∃ d, dropM m a = d := ⟨_, rfl⟩
    rw [hd] at HDS HAB hdl HO2 HEQ HAP ⊢
    clear habs hown hb3 HB3 HOM3 HPK HC hd
    go_wp2_with (at_builtin; refine wpList_append_row rowN (B := w.heap.size) (v := .slice A3 d.length c3) (n := d.length) (zs := rs) (m := 1) (ys := [⟨a, u, A', c', v⟩]) rfl _ _ rfl rfl HO2.out.own rfl HX.out (by omega) HB2.out.size ?_; intro A4 c4 w4 hown4 hg4 hat4; have HO4 := Lib.hid (HO2.out.snoc HF2.out HAP.out hown4 hg4 hat4); have HB4 := Lib.hid (HB2.out.grown hg4 HB2.out.size (fun g e => (HO2.out.own.lt g e).1)); clear hown4 hg4 hat4)
    obtain ⟨g, c5, hform, hgB, hglt⟩ := HO4.out.own.form (by omega)
    injection hform with hA hn4 hc4
    subst hA hc4
    have hrl : rs.length = d.length := by have := HO4.out.len; simp at this; omega
    have HI0 : Hid (SinkH w rs ⟨a, u, A', c', v⟩ g (d.length + 1) c4 rs [] w4) := ⟨by simp, fun y hy => by simp at hy, HO4.out, HB4.out⟩
    have HSI : Hid (∀ y ∈ rs, y.id.size ≤ 9223372036854775807) := fun y hy => by
      have hyd : (y.id, (y.u, y.v)) ∈ d := by rw [← HAB.out]; simp only [absH, List.mem_map]; exact ⟨y, hy, rfl⟩
      exact HDS.out _ hyd
    have HFIN : Hid (∀ pre post wr wq, SinkH w rs ⟨a, u, A', c', v⟩ g (d.length + 1) c4 pre post wr → (∀ y, pre.getLast? = some y → cmpId y.id a ≤ 0) → (wq.heap = wr.heap ∧ wq.os = wr.os ∧ wq.tape = wr.tape ∧ wq.output = wr.output) → OwnMat 88 res w (.returned (.slice (some ⟨g, 0, none⟩) (d.length + 1) c4)) wq) := fun pre post wr wq h hl hq => by
      have hbq : Below wr.heap.size wr wq := ⟨hq.2.1, hq.2.2.1, hq.2.2.2, by rw [hq.1]; exact Nat.le_refl _, fun k _ => by rw [hq.1]⟩
      have e := HEQ.out _ _ _ _ _ _ _ _ _ h HAB.out HNE.out hl
      have hlen : res.length = d.length + 1 := by rw [← e, absH_len]; exact h.own.len
      refine ⟨some ⟨g, 0, none⟩, c4, by rw [hlen], ?_, h.below.trans (hbq.mono h.below.size)⟩
      rw [hlen]
      exact ⟨_, e, h.own.below hbq⟩
    clear HO4 HB4 HX HF2 HAP HO2 HB2 HEQ HDS HAB HM HN HNE HY HY3 HZ HL
    go_loopw [8] (fun i wr => ∃ (k : Nat) (pre post : List Hd), pre.length = k ∧ k ≤ d.length ∧ i = .int .i64 k ∧ Hid (SinkH w rs ⟨a, u, A', c', v⟩ g (d.length + 1) c4 pre post wr)) (fun i _ => (intOf i).toNat)
    case atStart => exact ⟨d.length, rs, [], hrl, Nat.le_refl _, by go_num, HI0⟩
    case round =>
      obtain ⟨k, pre, post, hpk, hk, rfl, HI⟩ := hrel
      have hln := HI.out.len
      by_cases h0 : k = 0
      · have hgd : decide (0 < k) = false := by simp; omega
        have hpre : pre = [] := List.eq_nil_of_length_eq_zero (by omega)
        have HLast : Hid (∀ y, pre.getLast? = some y → cmpId y.id a ≤ 0) := fun y hy => by rw [hpre] at hy; simp at hy
        clear h0 hpk hpre
        go_wp2_with fail
        go_quiet (fail)
        go_wp2
        go_ret
        exact HFIN.out _ _ _ _ HI.out HLast.out ⟨rfl, rfl, rfl, rfl⟩
      · rcases List.eq_nil_or_concat pre with e | ⟨pre', y, e⟩
        · subst e; simp at hpk; omega
        · rw [List.concat_eq_append] at e
          subst e
          have hk' : k = pre'.length + 1 := by simpa using hpk.symm
          obtain ⟨⟨hy0, hy1, hy2⟩, ⟨hx0, hx1, hx2⟩, hglt2, hgw⟩ := sinkH_facts HI.out hk'
          simp at hln
          have hyo : y ∈ rs := by rw [← HI.out.two]; simp
          have HSZ : Hid (y.id.size ≤ 9223372036854775807) := HSI.out y hyo
          have hgd : decide (0 < k) = true := by simp; omega
          have hj0 : (1 : Int) ≤ (k : Int) := by omega
          have hj1 : (0 : Int) ≤ (k : Int) - 1 := by omega
          have hj2 : (k : Int) - 1 < (d.length : Int) + 1 := by omega
          have hj3 : ((k : Int) - 1).toNat = k - 1 := by omega
          have hj4 : IntKind.i64.wrap ((k : Int) - 1) = (k : Int) - 1 := IntWalk.i64_in _ (by omega)
          have hj5 : (0 : Int) ≤ (k : Int) := by omega
          have hj6 : (k : Int) < (d.length : Int) + 1 := by omega
          obtain ⟨q, hq⟩ : ∃ q, cmpId y.id a = q := ⟨_, rfl⟩
          have HYQ : Hid (Lib.compareBytes y.id.data.toList a.data.toList = q) := hq
          by_cases hgt : 0 < q
          · have HPost : Hid (∀ v ∈ y :: post, 0 < cmpId v.id a) := by
              intro v hv
              rcases List.mem_cons.mp hv with rfl | hv
              · rw [hq]; exact hgt
              · exact HI.out.big v hv
            have HK := Lib.hid hk'
            clear hq hyo h0 hpk hk' hln
            have hF := frozenH HI.out.own
            obtain ⟨idy, uy, Ay, cy, vy⟩ := y
            simp only at hy0 hy1 hy2 hx0 hx1 hx2 HYQ HSZ
            go_wp2_with fail
            go_quiet ((go_at_call 55; exact quiet_drawn (rcompare_is _ _ _ HYQ _ HSZ)))
            go_wp2_with fail
            generalize hwq : wr.drewN _ = wq
            have ey0 : wq.cell? ⟨g, (k - 1) * 3, none⟩ = some (.string idy) := by rw [← hwq]; exact hy0
            have fy0 : wq.frozen? ⟨g, (k - 1) * 3, none⟩ = false := by rw [← hwq]; exact hF _
            have ey1 : wq.cell? ⟨g, (k - 1) * 3 + 1, none⟩ = some (.int .i64 uy) := by rw [← hwq]; exact hy1
            have fy1 : wq.frozen? ⟨g, (k - 1) * 3 + 1, none⟩ = false := by rw [← hwq]; exact hF _
            have ey2 : wq.cell? ⟨g, (k - 1) * 3 + 2, none⟩ = some (.slice Ay vy.length cy) := by rw [← hwq]; exact hy2
            have fy2 : wq.frozen? ⟨g, (k - 1) * 3 + 2, none⟩ = false := by rw [← hwq]; exact hF _
            have ex0 : wq.cell? ⟨g, k * 3, none⟩ = some (.string a) := by rw [← hwq]; exact hx0
            have fx0 : wq.frozen? ⟨g, k * 3, none⟩ = false := by rw [← hwq]; exact hF _
            have ex1 : wq.cell? ⟨g, k * 3 + 1, none⟩ = some (.int .i64 u) := by rw [← hwq]; exact hx1
            have fx1 : wq.frozen? ⟨g, k * 3 + 1, none⟩ = false := by rw [← hwq]; exact hF _
            have ex2 : wq.cell? ⟨g, k * 3 + 2, none⟩ = some (.slice A' v.length c') := by rw [← hwq]; exact hx2
            have fx2 : wq.frozen? ⟨g, k * 3 + 2, none⟩ = false := by rw [← hwq]; exact hF _
            have n1 : ((k - 1) * 3 = k * 3) = False := eq_false (by omega)
            have n2 : (k * 3 = (k - 1) * 3) = False := eq_false (by omega)
            have n3 : ((k - 1) * 3 = k * 3 + 1) = False := eq_false (by omega)
            have n4 : (k * 3 + 1 = (k - 1) * 3) = False := eq_false (by omega)
            have n5 : ((k - 1) * 3 = k * 3 + 2) = False := eq_false (by omega)
            have n6 : (k * 3 + 2 = (k - 1) * 3) = False := eq_false (by omega)
            have n7 : ((k - 1) * 3 + 1 = k * 3) = False := eq_false (by omega)
            have n8 : (k * 3 = (k - 1) * 3 + 1) = False := eq_false (by omega)
            have n9 : ((k - 1) * 3 + 1 = k * 3 + 1) = False := eq_false (by omega)
            have n10 : (k * 3 + 1 = (k - 1) * 3 + 1) = False := eq_false (by omega)
            have n11 : ((k - 1) * 3 + 1 = k * 3 + 2) = False := eq_false (by omega)
            have n12 : (k * 3 + 2 = (k - 1) * 3 + 1) = False := eq_false (by omega)
            have n13 : ((k - 1) * 3 + 2 = k * 3) = False := eq_false (by omega)
            have n14 : (k * 3 = (k - 1) * 3 + 2) = False := eq_false (by omega)
            have n15 : ((k - 1) * 3 + 2 = k * 3 + 1) = False := eq_false (by omega)
            have n16 : (k * 3 + 1 = (k - 1) * 3 + 2) = False := eq_false (by omega)
            have n17 : ((k - 1) * 3 + 2 = k * 3 + 2) = False := eq_false (by omega)
            have n18 : (k * 3 + 2 = (k - 1) * 3 + 2) = False := eq_false (by omega)
            have HWQ := Lib.hid hwq
            clear hwq hy0 hy1 hy2 hx0 hx1 hx2 hF
            go_region
            go_wp2_with fail
            go_roundw
            case rel => exact ⟨k - 1, pre', ⟨idy, uy, Ay, cy, vy⟩ :: post, by have := HK.out; omega, by omega, by go_num, sinkH_swap HI.out HK.out HPost.out (by rw [← HWQ.out]; exact ⟨rfl, rfl, rfl, rfl⟩) rfl⟩
            case measure => simp [intOf]; omega
          · have HLast : Hid (∀ v, (pre' ++ [y]).getLast? = some v → cmpId v.id a ≤ 0) := fun v hv => by simp at hv; subst hv; omega
            clear hq hyo h0 hpk hk' hln
            go_wp2_with fail
            go_quiet ((go_at_call 55; exact quiet_drawn (rcompare_is _ _ _ HYQ _ HSZ)))
            go_wp2
            go_ret
            exact HFIN.out _ _ _ _ HI.out HLast.out ⟨rfl, rfl, rfl, rfl⟩
end Go.Proofs.Ytpaiigminmakgaa

/- The reference's Right of a Know. -/
namespace Go.Proofs.Ytpaiigminmakgaa
open Go.RowKit

/-- No text is longer than a machine may have it. -/
def ShortM (m : Mat) : Prop := ∀ x ∈ m, x.1.size ≤ 9223372036854775807 ∧ x.2.2.length ≤ 9223372036854775807
end Go.Proofs.Ytpaiigminmakgaa

/- The reference's Fix and Add of a Know. -/
namespace Go.Proofs.Ytpaiigminmakgaa
open Go.RowKit

theorem small_num {s : Int × List Int} (h : Sp.Small s) : Num 60 s := ⟨h.1, fun x hx => by have := h.2.1 x hx; omega, h.2.2.2⟩
theorem small_nil : Sp.Small (0, []) := ⟨ok_nil, fun _ h => (mem_nil h).elim, by simp, by simp⟩
/-- Rows as Fix makes them. -/
structure SM (m : Mat) : Prop where
  gk : GK 60 m
  sm : ∀ a, Sp.Small (mOf m a)
theorem SM.nil : SM [] := ⟨GK.nil _, fun _ => small_nil⟩
theorem SM.put {m : Mat} (h : SM m) {a : ByteArray} {s : Int × List Int} (ha : rightL a.data.toList = true) (hs : Sp.Small s) : SM (putK m a s) := by
  have h1 := h.gk.put ha (small_num hs) (Nat.le_refl _)
  refine ⟨h1.1, fun b => ?_⟩
  rw [h1.2 b]
  split
  · exact hs
  · exact h.sm b
theorem SM.row {m : Mat} (h : SM m) {x : ByteArray × (Int × List Int)} (hx : x ∈ m) : Sp.Small x.2 := by
  rw [← mOf_mem h.gk.up hx]; exact h.sm x.1
theorem SM.okS {m : Mat} (h : SM m) : ∀ x ∈ m, OkS x.2 := h.gk.okS (by omega)
theorem SM.merge {x y : Mat} (hx : SM x) (hy : SM y) : SM (mergeF x y) := by
  have h1 := hx.gk.merge hy.gk
  have h2 : ∀ a, Sp.Small (mOf (mergeF x y) a) := fun a => by rw [mOf_merge hx.gk hy.gk a]; exact (Sp.union_small (hx.sm a) (hy.sm a)).1
  exact ⟨⟨h1.up, fun z hz => ⟨(h1.row z hz).1, by have := h2 z.1; rw [mOf_mem h1.up hz] at this; exact small_num this, (h1.row z hz).2.2⟩⟩, h2⟩
/-- Rows that may be, at most 10, of the call's own. -/
def GoodKn (e : TypeId) (w : World) (en : Ending) (w' : World) : Prop := ∃ r, SM r ∧ List.length r ≤ 10 ∧ OwnMat e r w en w'
theorem putK_len (m : Mat) (a : ByteArray) (s : Int × List Int) : (putK m a s).length ≤ m.length + 1 := by
  unfold putK
  have h1 := dropM_len m a
  split
  · omega
  · have := merge_len (dropM m a) [(a, s)]
    simp at this
    omega
set_option maxRecDepth 100000 in
set_option maxHeartbeats 8000000 in
theorem rfixM_any (A : Option Addr) (n c : Nat) (m : Mat) (B : Nat) (w : World) (hB : B ≤ w.heap.size) (hz : MatAt w B A n m) (hsh : ShortM m) :
    Calls Try.prog 25 #[.slice A n c] w (GoodKn 88 w) := by
  have HZ := Lib.hid hz
  have HSH := Lib.hid hsh
  clear hz hsh
  go_enter Try.func25, Try.ntmps25
  go_wp2
  go_loopw [3, 4] (fun v i wr => ∃ (k : Nat) (Av : Option Addr) (cv : Nat) (o : Mat), k ≤ n ∧ k ≤ 10 ∧ List.length o ≤ k ∧ i = .int .i64 k ∧ v = .slice Av (List.length o) cv ∧ Hid (SM o) ∧ Hid (OwnsM wr w.heap.size 88 Av (List.length o) cv o) ∧ Hid (Below w.heap.size w wr)) (fun _ i _ => 10 - (intOf i).toNat)
  case atStart => exact ⟨0, none, 0, [], by omega, by omega, by simp, rfl, rfl, SM.nil, OwnsM.nil _ _ _, Below.refl _ _⟩
  case round =>
    obtain ⟨k, Av, cv, o, hk, hk8, hol, rfl, rfl, HG, HO, HB⟩ := hrel
    by_cases hlt : k < n
    · by_cases hl8 : k < 10
      · obtain ⟨blk, off, r, rfl, hbB, hmk, e0, e1, e2, hf⟩ := HZ.out.get (HB.out.mono hB) hlt
        have hi0 : (0 : Int) ≤ (k : Int) := by omega
        have hi1 : (k : Int) < (n : Int) := by omega
        have hl3 : (k : Int) < 10 := by omega
        have hsz := HB.out.size
        have hbl : blk < wr.heap.size := by omega
        have hBr := Nat.le_trans hB hsz
        have HVC := Lib.hid hf.vec
        have hvl0 : r.v.length ≤ 9223372036854775807 := (HSH.out _ (List.mem_of_getElem? hmk)).2
        obtain ⟨id, u, Ar, cr, v⟩ := r
        obtain ⟨s, hs⟩ : ∃ s, ByteArray.mk (fixL id.data.toList).toArray = s := ⟨_, rfl⟩
        have HS := Lib.hid hs
        have HSR : Hid (rightL s.data.toList = true) := by show _ = _; rw [← hs]; exact fixL_right _
        obtain ⟨t, ht⟩ : ∃ t, Sp.fixF u v = t := ⟨_, rfl⟩
        have HT := Lib.hid ht
        have HTS : Hid (Sp.Small t) := ht ▸ Sp.fix_small u v
        simp only at e0 e1 e2 HVC hvl0
        clear hmk hf hs ht
        generalize hvl : v.length = L at *
        go_upto_region 5 with fail
        refine wp_region_held_drew (S := fun w' => w'.cell? ⟨blk, off + k * 3, none⟩ = some (.string id) ∧ w'.cell? ⟨blk, off + k * 3 + 1, none⟩ = some (.int .i64 u) ∧ w'.cell? ⟨blk, off + k * 3 + 2, none⟩ = some (.slice Ar L cr)) (by kernel_rfl) ⟨e0, e1, e2⟩ (fun hHeld => ?_)
        refine wpAnyH_take (i := 0) (oi := { dst := some 15, op := Go.Op.move (Go.Operand.tmp 3), type := 59, pos := "ref.go:155", after := #[], guard := none }) (v := ?_) rfl (by kernel_rfl) (by kernel_rfl) (by kernel_rfl) (fun _ _ _ h => h) (Or.inl ⟨rfl, ?_⟩) (by assumption) ?_
        rotate_left
        · intro wz hSw; (try dsimp only at hSw); go_simp; try (with_reducible rfl)
        try simp only [Act.put, List.setIfInBounds_toArray, List.set_cons_zero, List.set_cons_succ]
        refine wpAnyH_take (i := 1) (oi := { dst := some 16, op := Go.Op.move (Go.Operand.tmp 0), type := 59, pos := "ref.go:155", after := #[], guard := none }) (v := ?_) rfl (by kernel_rfl) (by kernel_rfl) (by kernel_rfl) (fun _ _ _ h => h) (Or.inl ⟨rfl, ?_⟩) (by assumption) ?_
        rotate_left
        · intro wz hSw; (try dsimp only at hSw); go_simp; try (with_reducible rfl)
        try simp only [Act.put, List.setIfInBounds_toArray, List.set_cons_zero, List.set_cons_succ]
        refine wpAnyH_take (i := 2) (oi := { dst := some 17, op := Go.Op.move (Go.Operand.tmp 4), type := 3, pos := "ref.go:155", after := #[], guard := none }) (v := ?_) rfl (by kernel_rfl) (by kernel_rfl) (by kernel_rfl) (fun _ _ _ h => h) (Or.inl ⟨rfl, ?_⟩) (by assumption) ?_
        rotate_left
        · intro wz hSw; (try dsimp only at hSw); go_simp; try (with_reducible rfl)
        try simp only [Act.put, List.setIfInBounds_toArray, List.set_cons_zero, List.set_cons_succ]
        refine wpAnyH_take (i := 3) (oi := { dst := some 18, op := Go.Op.indexAddr 59 (Go.Operand.tmp 16) (Go.Operand.tmp 17), type := 0, pos := "ref.go:155", after := #[{ on := 1, ground := Go.Ground.data }, { on := 2, ground := Go.Ground.data }], guard := none }) (v := ?_) rfl (by kernel_rfl) (by kernel_rfl) (by kernel_rfl) (fun _ _ _ h => h) (Or.inl ⟨rfl, ?_⟩) (by assumption) ?_
        rotate_left
        · intro wz hSw; (try dsimp only at hSw); go_simp; try (with_reducible rfl)
        try simp only [Act.put, List.setIfInBounds_toArray, List.set_cons_zero, List.set_cons_succ]
        refine wpAnyH_take (i := 4) (oi := { dst := some 19, op := Go.Op.fieldAddr 88 (Go.Operand.tmp 18) 0, type := 0, pos := "ref.go:155", after := #[{ on := 3, ground := Go.Ground.data }], guard := none }) (v := ?_) rfl (by kernel_rfl) (by kernel_rfl) (by kernel_rfl) (fun _ _ _ h => h) (Or.inl ⟨rfl, ?_⟩) (by assumption) ?_
        rotate_left
        · intro wz hSw; (try dsimp only at hSw); go_simp; try (with_reducible rfl)
        try simp only [Act.put, List.setIfInBounds_toArray, List.set_cons_zero, List.set_cons_succ]
        refine wpAnyH_take (i := 5) (oi := { dst := some 20, op := Go.Op.load 9 (Go.Operand.tmp 19), type := 9, pos := "ref.go:155", after := #[{ on := 4, ground := Go.Ground.data }], guard := none }) (v := ?_) rfl (by kernel_rfl) (by kernel_rfl) (by kernel_rfl) (fun _ _ _ h => h) (Or.inl ⟨rfl, ?_⟩) (by assumption) ?_
        rotate_left
        · intro wz hSw; (try dsimp only at hSw); go_simp; try (with_reducible rfl)
        try simp only [Act.put, List.setIfInBounds_toArray, List.set_cons_zero, List.set_cons_succ]
        refine wpAnyH_take (i := 7) (oi := { dst := some 22, op := Go.Op.move (Go.Operand.tmp 0), type := 59, pos := "ref.go:155", after := #[], guard := none }) (v := ?_) rfl (by kernel_rfl) (by kernel_rfl) (by kernel_rfl) (fun _ _ _ h => h) (Or.inl ⟨rfl, ?_⟩) (by assumption) ?_
        rotate_left
        · intro wz hSw; (try dsimp only at hSw); go_simp; try (with_reducible rfl)
        try simp only [Act.put, List.setIfInBounds_toArray, List.set_cons_zero, List.set_cons_succ]
        refine wpAnyH_take (i := 8) (oi := { dst := some 23, op := Go.Op.move (Go.Operand.tmp 4), type := 3, pos := "ref.go:155", after := #[], guard := none }) (v := ?_) rfl (by kernel_rfl) (by kernel_rfl) (by kernel_rfl) (fun _ _ _ h => h) (Or.inl ⟨rfl, ?_⟩) (by assumption) ?_
        rotate_left
        · intro wz hSw; (try dsimp only at hSw); go_simp; try (with_reducible rfl)
        try simp only [Act.put, List.setIfInBounds_toArray, List.set_cons_zero, List.set_cons_succ]
        refine wpAnyH_take (i := 9) (oi := { dst := some 24, op := Go.Op.indexAddr 59 (Go.Operand.tmp 22) (Go.Operand.tmp 23), type := 0, pos := "ref.go:155", after := #[{ on := 7, ground := Go.Ground.data }, { on := 8, ground := Go.Ground.data }], guard := none }) (v := ?_) rfl (by kernel_rfl) (by kernel_rfl) (by kernel_rfl) (fun _ _ _ h => h) (Or.inl ⟨rfl, ?_⟩) (by assumption) ?_
        rotate_left
        · intro wz hSw; (try dsimp only at hSw); go_simp; try (with_reducible rfl)
        try simp only [Act.put, List.setIfInBounds_toArray, List.set_cons_zero, List.set_cons_succ]
        refine wpAnyH_take (i := 10) (oi := { dst := some 25, op := Go.Op.fieldAddr 88 (Go.Operand.tmp 24) 1, type := 0, pos := "ref.go:155", after := #[{ on := 9, ground := Go.Ground.data }], guard := none }) (v := ?_) rfl (by kernel_rfl) (by kernel_rfl) (by kernel_rfl) (fun _ _ _ h => h) (Or.inl ⟨rfl, ?_⟩) (by assumption) ?_
        rotate_left
        · intro wz hSw; (try dsimp only at hSw); go_simp; try (with_reducible rfl)
        try simp only [Act.put, List.setIfInBounds_toArray, List.set_cons_zero, List.set_cons_succ]
        refine wpAnyH_take (i := 11) (oi := { dst := some 26, op := Go.Op.load 86 (Go.Operand.tmp 25), type := 86, pos := "ref.go:155", after := #[{ on := 10, ground := Go.Ground.data }], guard := none }) (v := ?_) rfl (by kernel_rfl) (by kernel_rfl) (by kernel_rfl) (fun _ _ _ h => h) (Or.inl ⟨rfl, ?_⟩) (by assumption) ?_
        rotate_left
        · intro wz hSw; (try dsimp only at hSw); go_simp; try (with_reducible rfl)
        try simp only [Act.put, List.setIfInBounds_toArray, List.set_cons_zero, List.set_cons_succ]
        refine wpAnyH_ready (rs := [6]) (by kernel_rfl) (by simp) ?_
        refine (AllReadyH.cons (o := { dst := some 21, op := Go.Op.call { callee := Go.Callee.value (Go.Operand.func 36), args := #[Go.Operand.tmp 20], argTypes := #[9] }, type := 9, pos := "ref.go:155", after := #[{ on := 5, ground := Go.Ground.data }], guard := none }) rfl (fun K hK => ?_) AllReadyH.nil)
        go_simp
        go_at_call 36
        refine (put1_is _ _ HS _).mono ?_
        rintro e u1 ⟨rfl, hd⟩
        have hb : Below wr.heap.size wr u1 := (drew_below _ _).trans (drawn_below hd.out _)
        clear hd
        replace e0 := (hb.cell (p := ⟨blk, off + k * 3, none⟩) hbl).trans e0
        replace e1 := (hb.cell (p := ⟨blk, off + k * 3 + 1, none⟩) hbl).trans e1
        replace e2 := (hb.cell (p := ⟨blk, off + k * 3 + 2, none⟩) hbl).trans e2
        replace HO := Lib.hid (HO.out.below hb)
        replace HVC := Lib.hid (HVC.out.keep (hb.mono hBr))
        replace HB := Lib.hid (HB.out.trans (hb.mono HB.out.size))
        replace hbl := Nat.lt_of_lt_of_le hbl hb.size
        replace hBr := Nat.le_trans hBr hb.size
        clear hb
        refine hK.out _ _ ⟨e0, e1, e2⟩ (fun hHeld => ?_)
        clear hK K
        try simp only [Act.put, List.setIfInBounds_toArray, List.set_cons_zero, List.set_cons_succ]
        refine wpAnyH_ready (rs := [12]) (by kernel_rfl) (by simp) ?_
        refine (AllReadyH.cons (o := { dst := some 27, op := Go.Op.call { callee := Go.Callee.value (Go.Operand.func 46), args := #[Go.Operand.tmp 26], argTypes := #[86] }, type := 86, pos := "ref.go:155", after := #[{ on := 11, ground := Go.Ground.data }, { on := 6, ground := Go.Ground.chain }], guard := none }) rfl (fun K hK => ?_) AllReadyH.nil)
        go_simp
        go_at_call 46
        refine (Sp.cFix u Ar L cr v (B := B) (W := u1) hBr HVC.out hvl0).mono ?_
        rw [HT.out]
        rintro e u2 ⟨A2, c2, rfl, hin, hb⟩
        have HV2 := Lib.hid hin.1
        have hc2 := hin.2
        replace e0 := (hb.cell (p := ⟨blk, off + k * 3, none⟩) hbl).trans e0
        replace e1 := (hb.cell (p := ⟨blk, off + k * 3 + 1, none⟩) hbl).trans e1
        replace e2 := (hb.cell (p := ⟨blk, off + k * 3 + 2, none⟩) hbl).trans e2
        replace HO := Lib.hid (HO.out.below hb)
        replace HVC := Lib.hid (HVC.out.keep (hb.mono hBr))
        replace HB := Lib.hid (HB.out.trans (hb.mono HB.out.size))
        replace hbl := Nat.lt_of_lt_of_le hbl hb.size
        replace hBr := Nat.le_trans hBr hb.size
        clear hin hb
        refine hK.out _ _ ⟨e0, e1, e2⟩ (fun hHeld => ?_)
        clear hK K
        try simp only [Act.put, List.setIfInBounds_toArray, List.set_cons_zero, List.set_cons_succ]
        refine wpAnyH_ready (rs := [13]) (by kernel_rfl) (by simp) ?_
        refine (AllReadyH.cons (o := { dst := some 28, op := Go.Op.call { callee := Go.Callee.value (Go.Operand.func 45), args := #[Go.Operand.tmp 15, Go.Operand.tmp 21, Go.Operand.tmp 27], argTypes := #[59, 9, 86] }, type := 59, pos := "ref.go:155", after := #[{ on := 0, ground := Go.Ground.data }, { on := 6, ground := Go.Ground.data }, { on := 12, ground := Go.Ground.data }, { on := 12, ground := Go.Ground.chain }], guard := none }) rfl (fun K hK => ?_) AllReadyH.nil)
        go_simp
        go_at_call 45
        refine (rputM_any Av (List.length o) cv o s t.1 A2 c2 t.2 u2.heap.size u2 (Nat.le_refl _) HO.out.mat HV2.out hc2 (by omega) 60 HG.out.gk (small_num HTS.out) (by omega) HSR.out).mono ?_
        rintro e u3 ⟨A3, c3, rfl, ho, hb⟩
        have HO3 := Lib.hid (ho.base HB.out.size)
        replace e0 := (hb.cell (p := ⟨blk, off + k * 3, none⟩) hbl).trans e0
        replace e1 := (hb.cell (p := ⟨blk, off + k * 3 + 1, none⟩) hbl).trans e1
        replace e2 := (hb.cell (p := ⟨blk, off + k * 3 + 2, none⟩) hbl).trans e2
        replace HB := Lib.hid (HB.out.trans (hb.mono HB.out.size))
        clear ho hb
        refine hK.out _ _ ⟨e0, e1, e2⟩ (fun hHeld => ?_)
        clear hK K
        try simp only [Act.put, List.setIfInBounds_toArray, List.set_cons_zero, List.set_cons_succ]
        refine wpAnyH_take (i := 14) (oi := { dst := some 3, op := Go.Op.assign (Go.Operand.tmp 28), type := 59, pos := "ref.go:155", after := #[{ on := 13, ground := Go.Ground.data }, { on := 13, ground := Go.Ground.chain }, { on := 0, ground := Go.Ground.phase }, { on := 1, ground := Go.Ground.phase }, { on := 2, ground := Go.Ground.phase }, { on := 3, ground := Go.Ground.phase }, { on := 4, ground := Go.Ground.phase }, { on := 5, ground := Go.Ground.phase }, { on := 6, ground := Go.Ground.phase }, { on := 7, ground := Go.Ground.phase }, { on := 8, ground := Go.Ground.phase }, { on := 9, ground := Go.Ground.phase }, { on := 10, ground := Go.Ground.phase }, { on := 11, ground := Go.Ground.phase }, { on := 12, ground := Go.Ground.phase }, { on := 13, ground := Go.Ground.phase }], guard := none }) (v := ?_) rfl (by kernel_rfl) (by kernel_rfl) (by kernel_rfl) (fun _ _ _ h => h) (Or.inl ⟨rfl, ?_⟩) (by assumption) ?_
        rotate_left
        · intro wz hSw; (try dsimp only at hSw); go_simp; try (with_reducible rfl)
        try simp only [Act.put, List.setIfInBounds_toArray, List.set_cons_zero, List.set_cons_succ]
        refine wpAnyH_done (by kernel_rfl) ?_ _
        have HG2 : Hid (SM (putK o s (t.1, t.2))) := HG.out.put HSR.out HTS.out
        have hln := putK_len o s (t.1, t.2)
        generalize putK o s (t.1, t.2) = o2 at *
        clear hHeld e0 e1 e2 HO HVC HV2
        go_wp2_with fail
        go_roundw
        case rel => exact ⟨k + 1, A3, c3, o2, by omega, by omega, by omega, by go_num, rfl, HG2, HO3, HB⟩
        case measure => simp [intOf]; omega
      · have h3 : decide ((k : Int) < 10) = false := by simp; omega
        go_wp2
        go_ret
        exact ⟨o, HG.out, by omega, Av, cv, rfl, HO.out, HB.out⟩
    · skip
      go_wp2
      go_ret
      exact ⟨o, HG.out, by omega, Av, cv, rfl, HO.out, HB.out⟩
/-- One event more, as the reference has it. -/
def raddK (m : Mat) (a : ByteArray) (n : Int) : Mat := if rightL a.data.toList = true then putK m a (Sp.refAddF (mOf m a) n) else m
theorem refAdd_num {k : Nat} {s : Int × List Int} (h : Num k s) (n : Int) : Num (k + 1) (Sp.refAddF s n) := by
  obtain ⟨a, b⟩ := Sp.refAdd_ok h.ok n
  refine ⟨a, fun x hx => ?_, by have := (Sp.refAdd_bd s n).2.2; have := h.len; omega⟩
  rcases (b x).mp hx with h1 | h1
  · exact h.top x h1
  · omega
theorem raddK_eq {k : Nat} {m : Mat} (h : GK k m) (a : ByteArray) (n : Int) : raddK m a n = addK m a n := by
  unfold raddK addK
  by_cases hr : rightL a.data.toList = true
  · rw [if_pos hr]
    have hn := oneS_num n
    have hp := h.put hr (refAdd_num (h.of a) n) (by omega)
    by_cases h0 : oneS n = (0, [])
    · rw [if_neg (fun hh => hh.2 h0)]
      refine hp.1.ext h fun b => ?_
      rw [hp.2 b]
      split
      · rename_i e
        subst e
        refine (refAdd_num (h.of b) n).ext (h.of b) fun x => ?_
        rw [(Sp.refAdd_ok (h.of b).ok n).2 x]
        refine ⟨fun hh => hh.elim id fun hh => ?_, .inl⟩
        have := (hn.2 n).mpr ⟨rfl, hh.2⟩
        rw [h0] at this
        exact (mem_nil this).elim
      · rfl
    · rw [if_pos ⟨hr, h0⟩]
      have h1 := gk_one hr hn.1 h0
      refine hp.1.ext (h.merge h1) fun b => ?_
      rw [hp.2 b, mOf_merge h h1]
      by_cases e : b = a
      · subst e
        rw [if_pos rfl, mOf_head (b, oneS n) []]
        refine (refAdd_num (h.of b) n).ext ((h.of b).union hn.1) fun x => ?_
        rw [(Sp.refAdd_ok (h.of b).ok n).2 x, (h.of b).mem_union hn.1 x, hn.2 x]
      · rw [if_neg e, mOf_cons_ne (x := (a, oneS n)) (fun h => e h.symm), show mOf ([] : Mat) b = (0, []) from rfl, (h.of b).union_nil]
  · rw [if_neg hr, if_neg (fun hh => hr hh.1)]
end Go.Proofs.Ytpaiigminmakgaa

/- The document's Within and Union. -/
namespace Go.Proofs.Ytpaiigminmakgaa.Sp
open Go.RowKit

theorem ref_has_eq {s : Int × List Int} (h : Ok s) (x : Int) : refHasF s x = hasOf s.1 s.2 x := by
  have h1 := refHas_mem s x
  have h2 := has_mem h x
  rcases e : refHasF s x with _ | _ <;> rcases e' : hasOf s.1 s.2 x with _ | _ <;> simp_all

end Go.Proofs.Ytpaiigminmakgaa.Sp

/- The law StoreAges. -/
namespace Go.Proofs.Ytpaiigminmakgaa
open Go.RowKit

theorem has_same {m : Mat} (h : SM m) : hasP m = hasR m := by
  funext x
  exact (Sp.ref_has_eq (h.sm x.ver.id).1 x.ver.seq).symm
theorem right_idsz {z : Itm} (h : rightI z = true) : z.ver.id.size ≤ 9223372036854775807 := by
  have := (rightV_bounds (right_bounds h).2.2.1).2.1
  omega
set_option maxRecDepth 100000 in
set_option maxHeartbeats 4000000 in
theorem storeAges_walk (A0 : Option Addr) (n0 c0 : Nat) (z0 : List Itm) (A1 : Option Addr) (n1 c1 : Nat) (m1 : Mat) (w : World) (hz0 : RowAt cellsI 9 w w.heap.size A0 n0 z0) (hz1 : MatAt w w.heap.size A1 n1 m1) (_hc1 : n1 ≤ c1) (hs1 : ShortM m1) (_hn1 : c1 ≤ 9223372036854775807) :
    Calls Try.prog 5 #[.slice A0 n0 c0, .slice A1 n1 c1] w fun e w' => e = .returned (.bool true) ∧ Below w.heap.size w w' := by
  have HG := Lib.hid (fixS_good z0)
  have HRF := Lib.hid (rfix_any A0 n0 c0 z0 w hz0)
  have HKF : Hid (∀ u, Below w.heap.size w u → Calls Try.prog 25 #[.slice A1 n1 c1] u (GoodKn 88 u)) := fun u h => rfixM_any A1 n1 c1 m1 w.heap.size u h.size (hz1.keep h) hs1
  clear hz0 hz1 hs1
  generalize fixS z0 = ys at *
  go_enter Try.func5, Try.ntmps5
  go_wp2_with fail
  refine HRF.out.mono ?_
  rintro e u1 ⟨Ay, cy, rfl, ho, hb⟩
  have HO := Lib.hid ho
  have HB1 := Lib.hid hb
  clear ho hb HRF
  go_wp2_with fail
  refine (HKF.out _ HB1.out).mono ?_
  rintro e u2 ⟨m, hm, hml, Ak, ck, rfl, hk, hb⟩
  have HSM := Lib.hid hm
  have HY0 := Lib.hid (own_row rowI (rown_below HO.out hb))
  have HK0 := Lib.hid hk.mat
  have HB0 : Hid (Below w.heap.size w u2) := HB1.out.trans (hb.mono HB1.out.size)
  have hyl : ys.length ≤ 12 := HG.out.len
  have HYI : Hid (∀ z ∈ ys, z.ver.id.size ≤ 9223372036854775807) := fun z hz => right_idsz (HG.out.right z hz)
  have HYS : Hid (∀ z ∈ ys, z.x.natAbs < 2 ^ 53 ∧ z.y.natAbs < 2 ^ 53) := fun z hz => right_small (HG.out.right z hz)
  have HAS : Hid (∀ z ∈ ageF ys, z.x.natAbs < 2 ^ 53 ∧ z.y.natAbs < 2 ^ 53) := fun z hz => HYS.out z (ageF_mem hz)
  have HUS : Hid (∀ z ∈ unkF (hasP m) (ageF ys), z.x.natAbs < 2 ^ 53 ∧ z.y.natAbs < 2 ^ 53) := fun z hz => HAS.out z (List.mem_filter.mp hz).1
  have HAL : Hid ((ageF ys).length = ys.length) := ageF_len ys
  have HUL : Hid ((unkF (hasP m) (ageF ys)).length ≤ ys.length) := by have h := unk_len (hasP m) (ageF ys); have h2 := HAL.out; show _ ≤ _; omega
  have HOK : Hid (∀ a, OkS (mOf m a)) := fun a => mOf_okS HSM.out.gk.up HSM.out.okS a
  have HPR := Lib.hid (has_same HSM.out)
  have HTO : Hid (∀ u, Below u2.heap.size u2 u → Calls Try.prog 11 #[.slice Ay ys.length cy] u (OwnRow cellsP 8 46 ys u)) := fun u h => rowTo_any Ay ys.length cy ys u2.heap.size u h.size (HY0.out.keep h) (by omega)
  have HRB : Hid (∀ u, Below u2.heap.size u2 u → Calls Try.prog 27 #[.slice Ay ys.length cy] u (OwnRow cellsI 9 28 (ageF ys) u)) := fun u h => rage_any Ay ys.length cy ys u2.heap.size u h.size (HY0.out.keep h) (by omega) HYI.out
  have HRU : Hid (∀ u, Below u2.heap.size u2 u → Calls Try.prog 30 #[.slice Ay ys.length cy, .slice Ak m.length ck] u (OwnRow cellsI 9 28 (unkF (hasP m) (ageF ys)) u)) := fun u h => by
    have h1 := runk_any Ay ys.length cy ys Ak m.length ck m u2.heap.size u h.size (HY0.out.keep h) (by omega) HYI.out (HK0.out.keep h) (by omega) (fun a => (HOK.out a).len)
    rw [← HPR.out] at h1
    exact h1
  have HKT : Hid (∀ u, Below u2.heap.size u2 u → Calls Try.prog 29 #[.slice Ak m.length ck] u (OwnMat 98 m u)) := fun u h => toM_any Ak m.length ck m u2.heap.size u h.size (HK0.out.keep h) (by omega) (fun x hx => by have := (HSM.out.okS x hx).len; omega)
  have HKR : Hid (RisingM m) := HSM.out.gk.up
  have HB : Hid (Below u2.heap.size u2 u2) := Below.refl _ _
  clear hm hk hb HO HB1 HKF HG HY0 HK0 HYI HYS HPR
  go_wp2_with fail
  refine (told_any _).mono ?_
  rintro e u3 ⟨rfl, hb⟩
  replace HB := Lib.hid (HB.out.trans (hb.mono HB.out.size))
  clear hb
  go_wp2_with fail
  refine (HTO.out _ HB.out).mono ?_
  rintro e u4 ⟨A4, c4, rfl, ho, hb⟩
  have H4 := Lib.hid (own_row rowS ho)
  clear ho
  replace HB := Lib.hid (HB.out.trans (hb.mono HB.out.size))
  clear hb
  go_wp2_with fail
  refine (byAge_any A4 ys.length c4 ys _ _ (Nat.le_refl _) H4.out (by omega)).mono ?_
  rintro e u5 ⟨A5, c5, rfl, ho, hb⟩
  have H5 := Lib.hid (own_row rowP ho)
  clear ho
  clear H4
  replace HB := Lib.hid (HB.out.trans (hb.mono HB.out.size))
  clear hb
  go_wp2_with fail
  refine (rowFrom_any A5 (ageF ys).length c5 (ageF ys) _ _ (Nat.le_refl _) H5.out (by have := HAL.out; omega) HAS.out).mono ?_
  rintro e u6 ⟨A6, c6, rfl, ho, hb⟩
  have H6 := Lib.hid (own_row rowI ho)
  clear ho
  clear H5
  replace HB := Lib.hid (HB.out.trans (hb.mono HB.out.size))
  clear hb
  go_wp2_with fail
  refine (HRB.out _ HB.out).mono ?_
  rintro e u7 ⟨A7, c7, rfl, ho, hb⟩
  have H7 := Lib.hid (own_row rowI ho)
  clear ho
  replace H6 := Lib.hid ((H6.out.keep hb).more hb.size)
  replace HB := Lib.hid (HB.out.trans (hb.mono HB.out.size))
  clear hb
  have HSS := Lib.hid (rsame_any A6 (ageF ys).length c6 (ageF ys) A7 (ageF ys).length c7 (ageF ys) u7.heap.size u7 H6.out H7.out (by have h1 := HAL.out; have h2 := HUL.out; omega))
  rw [(sameS_iff (ageF ys) (ageF ys)).mpr rfl] at HSS
  go_wp2_with fail
  refine HSS.out.mono ?_
  rintro e u8 ⟨rfl, hd⟩
  have hb : Below u7.heap.size u7 u8 := drawn_below hd.out _
  replace HB := Lib.hid (HB.out.trans (by exact hb.mono HB.out.size))
  clear hb hd HSS H6 H7
  go_wp2_with fail
  refine (HTO.out _ HB.out).mono ?_
  rintro e u9 ⟨A9, c9, rfl, ho, hb⟩
  have H9 := Lib.hid (own_row rowS ho)
  clear ho
  replace HB := Lib.hid (HB.out.trans (hb.mono HB.out.size))
  clear hb
  go_wp2_with fail
  refine (HKT.out _ HB.out).mono ?_
  rintro e v1 ⟨B1, d1, rfl, ho, hb⟩
  have H1 := Lib.hid ho.mat
  clear ho
  replace H9 := Lib.hid ((H9.out.keep hb).more hb.size)
  replace HB := Lib.hid (HB.out.trans (hb.mono HB.out.size))
  clear hb
  go_wp2_with fail
  refine (unkP_any A9 ys.length c9 ys B1 m.length d1 m _ _ (Nat.le_refl _) H9.out (by omega) H1.out (by omega) HKR.out HOK.out).mono ?_
  rintro e v2 ⟨B2, d2, nv, rfl, hlv, ho, hb⟩
  have H2 := Lib.hid (own_row rowP ho)
  clear ho
  have HLV := Lib.hid hlv
  clear hlv H9 H1
  replace HB := Lib.hid (HB.out.trans (hb.mono HB.out.size))
  clear hb
  go_wp2_with fail
  refine (rowFrom_any B2 nv d2 (unkF (hasP m) (ageF ys)) _ _ (Nat.le_refl _) H2.out (by have h1 := HUL.out; have h2 := HLV.out; omega) HUS.out).mono ?_
  rintro e v3 ⟨B3, d3, rfl, ho, hb⟩
  have H3 := Lib.hid (own_row rowI ho)
  clear ho
  clear H2
  replace HB := Lib.hid (HB.out.trans (hb.mono HB.out.size))
  clear hb
  go_wp2_with fail
  refine (HRU.out _ HB.out).mono ?_
  rintro e v4 ⟨B4, d4, rfl, ho, hb⟩
  have H4 := Lib.hid (own_row rowI ho)
  clear ho
  replace H3 := Lib.hid ((H3.out.keep hb).more hb.size)
  replace HB := Lib.hid (HB.out.trans (hb.mono HB.out.size))
  clear hb
  have HSS := Lib.hid (rsame_any B3 (unkF (hasP m) (ageF ys)).length d3 (unkF (hasP m) (ageF ys)) B4 (unkF (hasP m) (ageF ys)).length d4 (unkF (hasP m) (ageF ys)) v4.heap.size v4 H3.out H4.out (by have h1 := HAL.out; have h2 := HUL.out; omega))
  rw [(sameS_iff (unkF (hasP m) (ageF ys)) (unkF (hasP m) (ageF ys))).mpr rfl] at HSS
  go_wp2_with fail
  refine HSS.out.mono ?_
  rintro e v5 ⟨rfl, hd⟩
  have hb : Below v4.heap.size v4 v5 := drawn_below hd.out _
  replace HB := Lib.hid (HB.out.trans (by exact hb.mono HB.out.size))
  clear hb hd HSS H3 H4
  go_wp2
  go_ret
  exact ⟨rfl, HB0.out.trans (HB.out.mono HB0.out.size)⟩
end Go.Proofs.Ytpaiigminmakgaa

/- An argument that is a version, opened. -/
namespace Go.Proofs.Ytpaiigminmakgaa
open Go.ChangeShapes Go.WideShapes Go.ChangeAt Go.RowKit Go.Joins

theorem Try.own : ownKnob Try.prog.godebug = none := by kernel_rfl
theorem Try.laidOut : laidOutB Try.prog = true := by kernel_rfl
theorem cellsVT : Try.prog.cellsOf 26 = 3 := by kernel_rfl
end Go.Proofs.Ytpaiigminmakgaa

/- An argument that is an item, opened. -/
namespace Go.Proofs.Ytpaiigminmakgaa
open Go.ChangeShapes Go.WideShapes Go.ChangeAt Go.RowKit Go.Joins

theorem list9 {α : Type} {l : List α} (h : l.length = 9) : ∃ a b c d e f g i j, l = [a, b, c, d, e, f, g, i, j] := by
  match l, h with
  | [a, b, c, d, e, f, g, i, j], _ => exact ⟨a, b, c, d, e, f, g, i, j, rfl⟩
theorem list3 {α : Type} {l : List α} (h : l.length = 3) : ∃ a b c, l = [a, b, c] := by
  match l, h with
  | [a, b, c], _ => exact ⟨a, b, c, rfl⟩
theorem list2 {α : Type} {l : List α} (h : l.length = 2) : ∃ a b, l = [a, b] := by
  match l, h with
  | [a, b], _ => exact ⟨a, b, rfl⟩
theorem cellsRIT : Try.prog.cellsOf 28 = 9 := by kernel_rfl
theorem cellsPL : Try.prog.cellsOf 24 = 2 := by kernel_rfl
theorem cellsINT : Try.prog.cellsOf 3 = 1 := by kernel_rfl
theorem cellsSTR : Try.prog.cellsOf 9 = 1 := by kernel_rfl
theorem cellsBL : Try.prog.cellsOf 4 = 1 := by kernel_rfl
set_option maxRecDepth 100000 in
theorem trod_struct6 {P : Program} {H : Type} {enc : TypeId × Value → H} {W : World} {base fuel : Nat} {spare : Nat → Bool} {held : Bool} {t : TypeId} {f0 f1 f2 f3 f4 f5 : Field} {cs : List Value} {x : DataW H × List MemPlace} (ht : P.underlying t = some (.struct #[f0, f1, f2, f3, f4, f5])) (h : DataW.trod enc P W base spare held fuel t cs = some x) :
    ∃ y0 y1 y2 y3 y4 y5 n, cs.length = P.cellsOf t ∧ DataW.trod enc P W base spare held n f0.type ((cs.drop f0.offset).take (P.cellsOf f0.type)) = some y0 ∧
      DataW.trod enc P W base spare held n f1.type ((cs.drop f1.offset).take (P.cellsOf f1.type)) = some y1 ∧ DataW.trod enc P W base spare held n f2.type ((cs.drop f2.offset).take (P.cellsOf f2.type)) = some y2 ∧
      DataW.trod enc P W base spare held n f3.type ((cs.drop f3.offset).take (P.cellsOf f3.type)) = some y3 ∧ DataW.trod enc P W base spare held n f4.type ((cs.drop f4.offset).take (P.cellsOf f4.type)) = some y4 ∧ DataW.trod enc P W base spare held n f5.type ((cs.drop f5.offset).take (P.cellsOf f5.type)) = some y5 := by
  obtain ⟨xs, n, _, rfl, hl, hlen, hf⟩ := DataW.trod_struct ht h
  match xs, hlen with
  | [y0, y1, y2, y3, y4, y5], _ => exact ⟨y0, y1, y2, y3, y4, y5, n, hl, by simpa using hf 0 f0 rfl, by simpa using hf 1 f1 rfl, by simpa using hf 2 f2 rfl, by simpa using hf 3 f3 rfl, by simpa using hf 4 f4 rfl, by simpa using hf 5 f5 rfl⟩
set_option maxRecDepth 100000 in
theorem trod_ver {H : Type} {enc : TypeId × Value → H} {W : World} {base n : Nat} {spare : Nat → Bool} {held : Bool} {cs : List Value} {x : DataW H × List MemPlace} (h : DataW.trod enc Try.prog W base spare held n 26 cs = some x) :
    ∃ (b : ByteArray) (a s : Int), cs = [.string b, .int .i64 a, .int .i64 s] ∧ b.size ≤ maxLen := by
  obtain ⟨y0, y1, y2, n, _, hl, g0, g1, g2⟩ := Go.Deep.trod_struct3 Try.underlying26 h
  obtain ⟨c0, c1, c2, rfl⟩ := list3 (hl.trans cellsVT)
  dsimp only at g0 g1 g2
  simp only [cellsINT, cellsSTR, List.drop_zero, List.drop_succ_cons, List.take_succ_cons, List.take_zero] at g0 g1 g2
  obtain ⟨b, e0, _, hb⟩ := DataW.trod_string Try.underlying9 g0
  obtain ⟨a, e1, _, _⟩ := DataW.trod_int Try.underlying3 g1
  obtain ⟨s, e2, _, _⟩ := DataW.trod_int Try.underlying3 g2
  simp only [List.cons.injEq, and_true] at e0 e1 e2
  subst e0 e1 e2
  exact ⟨b, a, s, rfl, hb⟩
set_option maxRecDepth 100000 in
theorem trod_place {H : Type} {enc : TypeId × Value → H} {W : World} {base n : Nat} {spare : Nat → Bool} {held : Bool} {cs : List Value} {x : DataW H × List MemPlace} (h : DataW.trod enc Try.prog W base spare held n 24 cs = some x) :
    ∃ (a s : Int), cs = [.int .i64 a, .int .i64 s] := by
  obtain ⟨y0, y1, n, _, hl, g0, g1⟩ := trod_struct2 Try.underlying24 h
  obtain ⟨c0, c1, rfl⟩ := list2 (hl.trans cellsPL)
  dsimp only at g0 g1
  simp only [cellsINT, List.drop_zero, List.drop_succ_cons, List.take_succ_cons, List.take_zero] at g0 g1
  obtain ⟨a, e0, _, _⟩ := DataW.trod_int Try.underlying3 g0
  obtain ⟨s, e1, _, _⟩ := DataW.trod_int Try.underlying3 g1
  simp only [List.cons.injEq, and_true] at e0 e1
  subst e0 e1
  exact ⟨a, s, rfl⟩
set_option maxRecDepth 100000 in
theorem trod_item {H : Type} {enc : TypeId × Value → H} {W : World} {base n : Nat} {spare : Nat → Bool} {held : Bool} {cs : List Value} {x : DataW H × List MemPlace} (h : DataW.trod enc Try.prog W base spare held n 28 cs = some x) :
    ∃ i : Itm, cs = cellsI i ∧ i.ver.id.size ≤ maxLen ∧ i.text.size ≤ maxLen := by
  obtain ⟨y0, y1, y2, y3, y4, y5, n, hl, g0, g1, g2, g3, g4, g5⟩ := trod_struct6 Try.underlying28 h
  obtain ⟨c0, c1, c2, c3, c4, c5, c6, c7, c8, rfl⟩ := list9 (hl.trans cellsRIT)
  dsimp only at g0 g1 g2 g3 g4 g5
  simp only [cellsINT, cellsSTR, cellsBL, cellsPL, cellsVT, List.drop_zero, List.drop_succ_cons, List.take_succ_cons, List.take_zero] at g0 g1 g2 g3 g4 g5
  obtain ⟨key, e0, _, _⟩ := DataW.trod_int Try.underlying3 g0
  obtain ⟨b, a, s, e1, hb⟩ := trod_ver g1
  obtain ⟨dead, e2, _⟩ := DataW.trod_bool Try.underlying4 g2
  obtain ⟨px, py, e3⟩ := trod_place g3
  obtain ⟨text, e4, _, ht⟩ := DataW.trod_string Try.underlying9 g4
  obtain ⟨hd, e5, _⟩ := DataW.trod_bool Try.underlying4 g5
  simp only [List.cons.injEq, and_true] at e0 e1 e2 e3 e4 e5
  obtain ⟨rfl, rfl, rfl⟩ := e1
  obtain ⟨rfl, rfl⟩ := e3
  subst e0 e2 e4 e5
  exact ⟨⟨key, ⟨b, a, s⟩, dead, px, py, text, hd⟩, rfl, hb, ht⟩
set_option maxRecDepth 100000 in
theorem open_item {H : Type} {enc : TypeId × Value → H} {W : World} {base : Nat} {v : Value} {d : DataW H} {p : List MemPlace} (hv : Value.okWide Try.prog W .any base 28 v) (h : DataW.Trod enc Try.prog W 0 (fun _ => true) true 28 v d p) :
    ∃ i : Itm, v = refV i := by
  obtain ⟨cs, rfl, hsz⟩ := okWide_struct Try.underlying28 hv
  obtain ⟨fuel, hf⟩ := h
  obtain ⟨i, hi, _⟩ := trod_item hf
  refine ⟨i, ?_⟩
  simp only [Value.cells] at hi
  obtain ⟨l⟩ := cs
  simp only at hi
  rw [hi]
  rfl
end Go.Proofs.Ytpaiigminmakgaa

/- An argument that is a row of items, opened. -/
namespace Go.Proofs.Ytpaiigminmakgaa
open Go.ChangeShapes Go.WideShapes Go.ChangeAt Go.RowKit Go.Deep

theorem adds (b o i j : Nat) : ((⟨b, o, none⟩ : Addr).add i).add j = ⟨b, o + i + j, none⟩ := by rw [radd, radd]
set_option maxRecDepth 100000 in
theorem open_items {H : Type} {enc : TypeId × Value → H} {W : World} {base : Nat} {v : Value} {d : DataW H} {p : List MemPlace} (hv : Value.okWide Try.prog W .any base 22 v) (h : DataW.Trod enc Try.prog W 0 (fun _ => true) true 22 v d p) :
    ∃ (A : Option Addr) (n c : Nat) (zs : List Itm), v = .slice A n c ∧ RowAt cellsI 9 W W.heap.size A n zs ∧ n ≤ c ∧ c ≤ 9223372036854775807 := by
  obtain ⟨A, n, c, rfl⟩ := okWide_slice Try.underlying22 hv
  obtain ⟨fuel, hf⟩ := h
  rcases open_slice Try.underlying22 hf with ⟨hcs, _⟩ | ⟨a, len, cap, m, k, D, Pl, hcs, _, hl, hm, hmm, _, hi⟩
  · simp only [Value.cells, List.cons.injEq, and_true] at hcs
    injection hcs with e1 e2 e3
    subst e1 e2 e3
    exact ⟨none, 0, 0, [], rfl, RowAt.nil, Nat.le_refl _, by omega⟩
  · simp only [Value.cells, List.cons.injEq, and_true] at hcs
    injection hcs with e1 e2 e3
    subst e1 e2 e3
    simp only [if_true] at hmm
    subst hmm
    rw [cellsRIT] at hi
    have key : ∀ i, i < m → ∃ z : Itm, ∀ j u, (cellsI z)[j]? = some u → W.cell? ((a.add (i * 9)).add j) = some u := fun i him => by
      obtain ⟨cs', hc, ht'⟩ := hi i him
      obtain ⟨z, hz, _, _⟩ := trod_item ht'
      obtain ⟨_, hcl, hat⟩ := World.cells?_some hc
      refine ⟨z, fun j u hu => ?_⟩
      have hj : j < 9 := by
        have := (List.getElem?_eq_some_iff.mp hu).1
        have e9 : (cellsI z).length = 9 := rfl
        omega
      rw [hat j hj, hz]
      exact hu
    let zs : List Itm := (List.range n).map fun i => if h : i < m then (key i h).choose else ⟨0, ⟨⟨#[]⟩, 0, 0⟩, false, 0, 0, ⟨#[]⟩, false⟩
    have hlen : zs.length = n := by simp [zs]
    obtain ⟨b, off, spot⟩ := a
    refine ⟨_, n, m, zs, rfl, ⟨hlen, fun hp => ?_⟩, hl, by unfold maxLen at hm; omega⟩
    have hspot : spot = none := by
      obtain ⟨z, hz⟩ := key 0 (by omega)
      have h0 := hz 0 _ rfl
      have := World.cell?_spot h0
      simpa [Addr.add] using this
    subst hspot
    refine ⟨b, off, rfl, ?_, fun i hi' j u hu => ?_⟩
    · obtain ⟨z, hz⟩ := key 0 (by omega)
      have h0 := hz 0 _ rfl
      have := World.block_lt_of_cell? W _ h0
      rwa [adds] at this
    · have him : i < m := by omega
      have e : zs[i] = (key i him).choose := by simp [zs, him]
      rw [e] at hu
      have := (key i him).choose_spec j u hu
      rwa [adds] at this
/-- The cells of one of them. -/
theorem item_cells {w : World} {b o : Nat} {z : Itm} (h : ∀ j u, (cellsI z)[j]? = some u → w.cell? ⟨b, o + j, none⟩ = some u) :
    w.cell? ⟨b, o, none⟩ = some (.int .i64 z.key) ∧ w.cell? ⟨b, o + 1, none⟩ = some (.string z.ver.id) ∧ w.cell? ⟨b, o + 2, none⟩ = some (.int .i64 z.ver.seq) ∧ w.cell? ⟨b, o + 3, none⟩ = some (.int .i64 z.ver.stamp) ∧ w.cell? ⟨b, o + 4, none⟩ = some (.bool z.dead) ∧ w.cell? ⟨b, o + 5, none⟩ = some (.int .i64 z.x) ∧ w.cell? ⟨b, o + 6, none⟩ = some (.int .i64 z.y) ∧ w.cell? ⟨b, o + 7, none⟩ = some (.string z.text) ∧ w.cell? ⟨b, o + 8, none⟩ = some (.bool z.held) :=
  ⟨h 0 _ rfl, h 1 _ rfl, h 2 _ rfl, h 3 _ rfl, h 4 _ rfl, h 5 _ rfl, h 6 _ rfl, h 7 _ rfl, h 8 _ rfl⟩
end Go.Proofs.Ytpaiigminmakgaa
