/- know.clone; the law's To and From; know.push. -/
import Derived.Test.YthfdjebeblmmdaaHEa
import Derived.Lib.SliceRun
import Derived.Deep.MidRow
import Derived.Deep.CutBlock
import Derived.Deep.DeepCutAuto
import Derived.Deep.RegionHeld3
namespace Go.Proofs.Ythfdjebeblmmdaa
open Go.RowKit

theorem below_via {B : Nat} {a w W w1 : World} (h : Below B a w) (hb : Below W.heap.size W w1) (hB : B ≤ w.heap.size) (hs : W.os = w.os ∧ W.tape = w.tape ∧ W.output = w.output ∧ W.heap = w.heap) : Below B a w1 := by
  obtain ⟨h1, h2, h3, h4⟩ := hs
  exact ⟨hb.os.trans (h1.trans h.os), hb.tape.trans (h2.trans h.tape), hb.output.trans (h3.trans h.output), Nat.le_trans h.size (by rw [← h4]; exact hb.size), fun k hk => (hb.block k (by rw [h4]; omega)).trans (by rw [h4]; exact h.block k hk)⟩
/-- A Span of the call's own is answered. -/
def OwnS (s : Int × List Int) (w : World) (e : Ending) (w' : World) : Prop :=
  ∃ A c, e = .returned (.agg #[.int .i64 s.1, .slice A s.2.length c]) ∧ s.2.length ≤ c ∧ w'.ownsRow w.heap.size 3 1 (.slice A s.2.length c) s.2.length (s.2.map (.int .i64)) ∧ Below w.heap.size w w'
theorem ownS_of {s : Int × List Int} {w w' : World} {e : Ending} (h : Sp.OwnSpan w.heap.size none s w e w') : OwnS s w e w' := by
  obtain ⟨A, c, rfl, ho, hg, _⟩ := h
  exact ⟨A, c, rfl, rown_cap ho, ho, ⟨hg.os, hg.tape, hg.output, hg.size, fun k hk => hg.block k hk (by simp)⟩⟩
/-- A Span that may be, as far as it counts here. -/
structure OkS (s : Int × List Int) : Prop where
  ok : Sp.Ok s
  hi : s.1 ≤ 1048576
  len : s.2.length ≤ 100000
theorem clone_same {s : Int × List Int} (h : Sp.Ok s) (hb : s.1 ≤ 1048576) : Sp.unionF s (0, []) = s := by
  have h0 : Sp.Ok (0, []) := ⟨Int.le_refl _, List.Pairwise.nil, by simp⟩
  obtain ⟨a, b⟩ := Sp.union_ok h h0 hb (by simp)
  refine Sp.Ok.ext a h fun x => ?_
  rw [b x]
  constructor
  · rintro (h | h)
    · exact h
    · rcases h with h | h
      · simp at h; omega
      · simp at h
  · exact Or.inl
set_option maxRecDepth 100000 in
set_option maxHeartbeats 1000000 in
theorem clone_any (u : Int) (A : Option Addr) (n c : Nat) (zs : List Int) (B : Nat) (w : World) (hB : B ≤ w.heap.size) (hz : Sp.IntsAt w B A n zs) (hnc : n ≤ c) (hn : n ≤ 1000000) :
    Calls Try.prog 62 #[.agg #[.int .i64 u, .slice A n c]] w (OwnS (Sp.unionF (u, zs) (0, [])) w) := by
  have HU : Hid (∀ w2, Below w.heap.size w w2 → Calls Try.prog 67 #[.agg #[.int .i64 u, .slice A n c], .agg #[.int .i64 0, .slice none 0 0]] w2 (OwnS (Sp.unionF (u, zs) (0, [])) w2)) := fun w2 hb =>
    (Sp.union_any u 0 A n c zs none 0 0 [] B w2 (Nat.le_trans hB hb.size) (hz.keep (hb.mono hB)) (Sp.IntsAt.nil _ _ _) hnc (Nat.le_refl 0) (by omega) (by omega)).mono fun _ _ h => ownS_of h
  generalize Sp.unionF (u, zs) (0, []) = s at *
  clear hz
  go_enter Try.func62, Try.ntmps62
  go_wp2_with fail
  refine (HU.out _ (((Below.refl _ _).alloc (Nat.le_refl _) _).alloc (by simp) _)).mono ?_
  rintro e w1 ⟨A1, c1, rfl, hc1, ho, hb⟩
  have HB : Hid (Below w.heap.size w w1) := (((Below.refl _ _).alloc (Nat.le_refl _) _).alloc (by simp) _).trans (hb.mono (by simp; omega))
  obtain ⟨hc, hf⟩ := Sp.below_cells hb
  have hz : w.heap.size + 1 < w1.heap.size := by have := hb.size; simp at this; omega
  have HO : Hid (w1.ownsRow (w.heap.size + 2) 3 1 (.slice A1 s.2.length c1) s.2.length (s.2.map (.int .i64))) := rown_base ho (by simp)
  clear hb ho
  have k10 : w1.cell? ⟨w.heap.size + 1, 0, none⟩ = some (.int .i64 0) := (hc _ _ (by simp)).trans (by simp [go_sem])
  have k11 : w1.cell? ⟨w.heap.size + 1, 1, none⟩ = some (.slice none 0 0) := (hc _ _ (by simp)).trans (by simp [go_sem])
  have f10 : w1.frozen? ⟨w.heap.size + 1, 0, none⟩ = false := (hf _ _ (by simp)).trans (by simp [go_sem])
  have f11 : w1.frozen? ⟨w.heap.size + 1, 1, none⟩ = false := (hf _ _ (by simp)).trans (by simp [go_sem])
  clear hc hf
  go_wp2
  refine bodyPost_ret (v := .agg #[.int .i64 s.1, .slice A1 s.2.length c1]) ?_ rfl ?_
  · simp [results, Try.results62, go_sem, k10, k11]
  · have hne : ∀ p : Addr, p.block = w.heap.size + 1 → Value.ownBlock (.slice A1 s.2.length c1) ≠ some p.block := fun p hp e => by
      have := (HO.out.lt _ e).1
      omega
    have hB2 := (HB.out.setCell (p := ⟨w.heap.size + 1, 0, none⟩) (by simp) (.int .i64 s.1)).setCell (p := ⟨w.heap.size + 1, 1, none⟩) (by simp) (.slice A1 s.2.length c1)
    have hO2 := Sp.own_setCell (Sp.own_setCell HO.out (p := ⟨w.heap.size + 1, 0, none⟩) (hne _ rfl) (.int .i64 s.1)) (p := ⟨w.heap.size + 1, 1, none⟩) (hne _ rfl) (.slice A1 s.2.length c1)
    exact ⟨A1, c1, rfl, hc1, rown_base hO2 (by omega), hB2⟩
theorem cloneS_any (u : Int) (A : Option Addr) (c : Nat) (zs : List Int) (B : Nat) (w : World) (hB : B ≤ w.heap.size) (hz : Sp.IntsAt w B A zs.length zs) (hnc : zs.length ≤ c) (hs : OkS (u, zs)) :
    Calls Try.prog 62 #[.agg #[.int .i64 u, .slice A zs.length c]] w (OwnS (u, zs) w) := by
  have h := clone_any u A zs.length c zs B w hB hz hnc (by have := hs.len; simp at this; omega)
  rwa [clone_same hs.ok hs.hi] at h
theorem toS_any (u : Int) (A : Option Addr) (n c : Nat) (zs : List Int) (B : Nat) (w : World) (hB : B ≤ w.heap.size) (hz : Sp.IntsAt w B A n zs) (hn : n ≤ 1073741824) :
    Calls Try.prog 51 #[.agg #[.int .i64 u, .slice A n c]] w (OwnS (u, zs) w) := (Sp.to_any u A n c zs B w hB hz hn).mono fun _ _ h => ownS_of h
theorem fromS_any (u : Int) (A : Option Addr) (n c : Nat) (zs : List Int) (B : Nat) (w : World) (hB : B ≤ w.heap.size) (hz : Sp.IntsAt w B A n zs) (hn : n ≤ 1073741824) :
    Calls Try.prog 21 #[.agg #[.int .i64 u, .slice A n c]] w (OwnS (u, zs) w) := (Sp.from_any u A n c zs B w hB hz hn).mono fun _ _ h => ownS_of h

theorem apart_new {w w1 : World} {B : Nat} {e e2 : TypeId} {d2 : Nat} {A : Option Addr} {n c : Nat} {rs : List Hd} {r : Hd} {xs : List Value} (h : OwnsH w B e A n c rs) (ho : w1.ownsRow w.heap.size e2 d2 (.slice r.A r.v.length r.c) r.v.length xs) : Apart r (Value.ownBlock (.slice A n c)) := fun _ ad e1 e2 => by
  have h1 := (h.own.lt ad.block e2).2
  have h2 := (ho.lt ad.block (by rw [e1]; rfl)).1
  omega
/-- A Know that is being made: k Rows are there. -/
def CopyM (e : TypeId) (w : World) (m : Mat) (k : Nat) (Av : Option Addr) (cv : Nat) (wr : World) : Prop := OwnsM wr w.heap.size e Av k cv (m.take k) ∧ Below w.heap.size w wr
set_option maxRecDepth 100000 in
set_option maxHeartbeats 4000000 in
theorem toM_any (A : Option Addr) (n c : Nat) (m : Mat) (B : Nat) (w : World) (hB : B ≤ w.heap.size) (hz : MatAt w B A n m) (hn : n ≤ 1000000) (hv : ∀ x ∈ m, x.2.2.length ≤ 1000000) :
    Calls Try.prog 11 #[.slice A n c] w (OwnMat 77 m w) := by
  have HL := Lib.hid hz.len
  have HZ := Lib.hid hz
  have HV := Lib.hid hv
  clear hz hv
  go_enter Try.func11, Try.ntmps11
  go_wp2
  go_loopw [3, 4] (fun v i wr => ∃ (k : Nat) (Av : Option Addr) (cv : Nat), k ≤ n ∧ i = .int .i64 k ∧ v = .slice Av k cv ∧ Hid (CopyM 77 w m k Av cv wr)) (fun _ i _ => n - (intOf i).toNat)
  case atStart => exact ⟨0, none, 0, by omega, rfl, rfl, OwnsM.nil _ _ _, Below.refl _ _⟩
  case round =>
    obtain ⟨k, Av, cv, hk, rfl, rfl, HC⟩ := hrel
    obtain ⟨⟨rs, habs, hown⟩, hbel⟩ := HC.out
    have HO := Lib.hid hown
    have HB := Lib.hid hbel
    have HAB := Lib.hid habs
    clear hown hbel HC habs
    by_cases hlt : k < n
    · obtain ⟨blk, off, r, rfl, hbB, hmk, e0, e1, e2, hf⟩ := HZ.out.get (HB.out.mono hB) hlt
      have HTS := Lib.hid (takeM hmk)
      have hi1 : (k : Int) < (n : Int) := by omega
      have hvl : r.v.length ≤ 1000000 := HV.out _ (List.mem_of_getElem? hmk)
      have hbl : blk < wr.heap.size := by have := HB.out.size; omega
      have HF := Lib.hid hf
      obtain ⟨id, u, Ar, cr, v⟩ := r
      simp only at e0 e1 e2 hvl HTS
      clear hmk hf
      go_upto_region 5 with fail
      refine wp_region_held_drew (S := fun w' => w'.cell? ⟨blk, off + k * 3, none⟩ = some (.string id) ∧ w'.cell? ⟨blk, off + k * 3 + 1, none⟩ = some (.int .i64 u) ∧ w'.cell? ⟨blk, off + k * 3 + 2, none⟩ = some (.slice Ar v.length cr)) (by kernel_rfl) ⟨e0, e1, e2⟩ (fun hHeld => ?_)
      refine wpAnyH_take (i := 0) (oi := { dst := some 11, op := Go.Op.move (Go.Operand.tmp 3), type := 31, pos := "law.go:20", after := #[], guard := none }) (v := ?_) rfl (by kernel_rfl) (by kernel_rfl) (by kernel_rfl) (fun _ _ _ h => h) (Or.inl ⟨rfl, ?_⟩) (by assumption) ?_
      rotate_left
      · intro wz hSw; (try dsimp only at hSw); go_simp; try (with_reducible rfl)
      try simp only [Act.put, List.setIfInBounds_toArray, List.set_cons_zero, List.set_cons_succ]
      refine wpAnyH_take (i := 1) (oi := { dst := some 12, op := Go.Op.move (Go.Operand.tmp 0), type := 22, pos := "law.go:20", after := #[], guard := none }) (v := ?_) rfl (by kernel_rfl) (by kernel_rfl) (by kernel_rfl) (fun _ _ _ h => h) (Or.inl ⟨rfl, ?_⟩) (by assumption) ?_
      rotate_left
      · intro wz hSw; (try dsimp only at hSw); go_simp; try (with_reducible rfl)
      try simp only [Act.put, List.setIfInBounds_toArray, List.set_cons_zero, List.set_cons_succ]
      refine wpAnyH_take (i := 2) (oi := { dst := some 13, op := Go.Op.move (Go.Operand.tmp 4), type := 3, pos := "law.go:20", after := #[], guard := none }) (v := ?_) rfl (by kernel_rfl) (by kernel_rfl) (by kernel_rfl) (fun _ _ _ h => h) (Or.inl ⟨rfl, ?_⟩) (by assumption) ?_
      rotate_left
      · intro wz hSw; (try dsimp only at hSw); go_simp; try (with_reducible rfl)
      try simp only [Act.put, List.setIfInBounds_toArray, List.set_cons_zero, List.set_cons_succ]
      refine wpAnyH_take (i := 3) (oi := { dst := some 14, op := Go.Op.indexAddr 22 (Go.Operand.tmp 12) (Go.Operand.tmp 13), type := 0, pos := "law.go:20", after := #[{ on := 1, ground := Go.Ground.data }, { on := 2, ground := Go.Ground.data }], guard := none }) (v := ?_) rfl (by kernel_rfl) (by kernel_rfl) (by kernel_rfl) (fun _ _ _ h => h) (Or.inl ⟨rfl, ?_⟩) (by assumption) ?_
      rotate_left
      · intro wz hSw; (try dsimp only at hSw); go_simp; try (with_reducible rfl)
      try simp only [Act.put, List.setIfInBounds_toArray, List.set_cons_zero, List.set_cons_succ]
      refine wpAnyH_take (i := 4) (oi := { dst := some 15, op := Go.Op.fieldAddr 27 (Go.Operand.tmp 14) 0, type := 0, pos := "law.go:20", after := #[{ on := 3, ground := Go.Ground.data }], guard := none }) (v := ?_) rfl (by kernel_rfl) (by kernel_rfl) (by kernel_rfl) (fun _ _ _ h => h) (Or.inl ⟨rfl, ?_⟩) (by assumption) ?_
      rotate_left
      · intro wz hSw; (try dsimp only at hSw); go_simp; try (with_reducible rfl)
      try simp only [Act.put, List.setIfInBounds_toArray, List.set_cons_zero, List.set_cons_succ]
      refine wpAnyH_take (i := 5) (oi := { dst := some 16, op := Go.Op.load 9 (Go.Operand.tmp 15), type := 9, pos := "law.go:20", after := #[{ on := 4, ground := Go.Ground.data }], guard := none }) (v := ?_) rfl (by kernel_rfl) (by kernel_rfl) (by kernel_rfl) (fun _ _ _ h => h) (Or.inl ⟨rfl, ?_⟩) (by assumption) ?_
      rotate_left
      · intro wz hSw; (try dsimp only at hSw); go_simp; try (with_reducible rfl)
      try simp only [Act.put, List.setIfInBounds_toArray, List.set_cons_zero, List.set_cons_succ]
      refine wpAnyH_take (i := 6) (oi := { dst := some 17, op := Go.Op.move (Go.Operand.tmp 0), type := 22, pos := "law.go:20", after := #[], guard := none }) (v := ?_) rfl (by kernel_rfl) (by kernel_rfl) (by kernel_rfl) (fun _ _ _ h => h) (Or.inl ⟨rfl, ?_⟩) (by assumption) ?_
      rotate_left
      · intro wz hSw; (try dsimp only at hSw); go_simp; try (with_reducible rfl)
      try simp only [Act.put, List.setIfInBounds_toArray, List.set_cons_zero, List.set_cons_succ]
      refine wpAnyH_take (i := 7) (oi := { dst := some 18, op := Go.Op.move (Go.Operand.tmp 4), type := 3, pos := "law.go:20", after := #[], guard := none }) (v := ?_) rfl (by kernel_rfl) (by kernel_rfl) (by kernel_rfl) (fun _ _ _ h => h) (Or.inl ⟨rfl, ?_⟩) (by assumption) ?_
      rotate_left
      · intro wz hSw; (try dsimp only at hSw); go_simp; try (with_reducible rfl)
      try simp only [Act.put, List.setIfInBounds_toArray, List.set_cons_zero, List.set_cons_succ]
      refine wpAnyH_take (i := 8) (oi := { dst := some 19, op := Go.Op.indexAddr 22 (Go.Operand.tmp 17) (Go.Operand.tmp 18), type := 0, pos := "law.go:20", after := #[{ on := 6, ground := Go.Ground.data }, { on := 7, ground := Go.Ground.data }], guard := none }) (v := ?_) rfl (by kernel_rfl) (by kernel_rfl) (by kernel_rfl) (fun _ _ _ h => h) (Or.inl ⟨rfl, ?_⟩) (by assumption) ?_
      rotate_left
      · intro wz hSw; (try dsimp only at hSw); go_simp; try (with_reducible rfl)
      try simp only [Act.put, List.setIfInBounds_toArray, List.set_cons_zero, List.set_cons_succ]
      refine wpAnyH_take (i := 9) (oi := { dst := some 20, op := Go.Op.fieldAddr 27 (Go.Operand.tmp 19) 1, type := 0, pos := "law.go:20", after := #[{ on := 8, ground := Go.Ground.data }], guard := none }) (v := ?_) rfl (by kernel_rfl) (by kernel_rfl) (by kernel_rfl) (fun _ _ _ h => h) (Or.inl ⟨rfl, ?_⟩) (by assumption) ?_
      rotate_left
      · intro wz hSw; (try dsimp only at hSw); go_simp; try (with_reducible rfl)
      try simp only [Act.put, List.setIfInBounds_toArray, List.set_cons_zero, List.set_cons_succ]
      refine wpAnyH_take (i := 10) (oi := { dst := some 21, op := Go.Op.load 25 (Go.Operand.tmp 20), type := 25, pos := "law.go:20", after := #[{ on := 9, ground := Go.Ground.data }], guard := none }) (v := ?_) rfl (by kernel_rfl) (by kernel_rfl) (by kernel_rfl) (fun _ _ _ h => h) (Or.inl ⟨rfl, ?_⟩) (by assumption) ?_
      rotate_left
      · intro wz hSw; (try dsimp only at hSw); go_simp; try (with_reducible rfl)
      try simp only [Act.put, List.setIfInBounds_toArray, List.set_cons_zero, List.set_cons_succ]
      refine wpAnyH_ready (rs := [11]) (by kernel_rfl) (by simp) ?_
      refine (AllReadyH.cons (o := { dst := some 22, op := Go.Op.call { callee := Go.Callee.value (Go.Operand.func 51), args := #[Go.Operand.tmp 21], argTypes := #[25] }, type := 44, pos := "law.go:20", after := #[{ on := 10, ground := Go.Ground.data }], guard := none }) rfl (fun K hK => ?_) AllReadyH.nil)
      go_simp
      go_at_call 51
      refine (toS_any u Ar v.length cr v B _ (by have := HB.out.size; exact Nat.le_trans hB this) (by exact HF.out.vec) (by omega)).mono ?_
      rintro e u1 ⟨A1, c1, rfl, hc1, ho, hb⟩
      dsimp only at hc1 ho ⊢
      replace e0 := (hb.cell (p := ⟨blk, off + k * 3, none⟩) hbl).trans e0
      replace e1 := (hb.cell (p := ⟨blk, off + k * 3 + 1, none⟩) hbl).trans e1
      replace e2 := (hb.cell (p := ⟨blk, off + k * 3 + 2, none⟩) hbl).trans e2
      replace hbl := Nat.lt_of_lt_of_le hbl hb.size
      have HA1 : Hid (Apart ⟨id, u, A1, c1, v⟩ (Value.ownBlock (.slice Av k cv))) := apart_new (r := ⟨id, u, A1, c1, v⟩) HO.out (by exact ho)
      have HF1 : Hid (Fine u1 u1.heap.size ⟨id, u, A1, c1, v⟩) := ⟨Sp.own_ints ho, hc1⟩
      replace HO := Lib.hid (HO.out.below (below_via (Below.refl _ _) hb (Nat.le_refl _) ⟨rfl, rfl, rfl, rfl⟩))
      replace HB := Lib.hid (below_via HB.out hb HB.out.size ⟨rfl, rfl, rfl, rfl⟩)
      clear ho hb hc1
      refine hK.out _ _ ⟨e0, e1, e2⟩ (fun hHeld => ?_)
      clear hK K
      try simp only [Act.put, List.setIfInBounds_toArray, List.set_cons_zero, List.set_cons_succ]
      refine wpAnyH_take (i := 12) (oi := { dst := some 23, op := Go.Op.build 77 #[(0, Go.Operand.tmp 16), (1, Go.Operand.tmp 22)], type := 77, pos := "law.go:20", after := #[{ on := 5, ground := Go.Ground.data }, { on := 11, ground := Go.Ground.data }], guard := none }) (v := ?_) rfl (by kernel_rfl) (by kernel_rfl) (by kernel_rfl) (fun _ _ _ h => h) (Or.inl ⟨rfl, ?_⟩) (by assumption) ?_
      rotate_left
      · intro wz hSw; (try dsimp only at hSw); go_simp; try (with_reducible rfl)
      try simp only [Act.put, List.setIfInBounds_toArray, List.set_cons_zero, List.set_cons_succ]
      refine wpAnyH_ready (rs := [13]) (by kernel_rfl) (by simp) ?_
      refine (AllReadyH.cons (o := { dst := some 24, op := Go.Op.buildSlice 31 1 #[(0, Go.Operand.tmp 23)], type := 31, pos := "law.go:20", after := #[{ on := 12, ground := Go.Ground.data }], guard := none }) rfl (fun K hK => ?_) AllReadyH.nil)
      go_simp
      have hb1 : Below u1.heap.size u1 (u1.alloc (.cells #[.string id, .int .i64 u, .slice A1 v.length c1] 77)) := (Below.refl _ _).alloc (Nat.le_refl _) _
      replace e0 := (hb1.cell (p := ⟨blk, off + k * 3, none⟩) hbl).trans e0
      replace e1 := (hb1.cell (p := ⟨blk, off + k * 3 + 1, none⟩) hbl).trans e1
      replace e2 := (hb1.cell (p := ⟨blk, off + k * 3 + 2, none⟩) hbl).trans e2
      replace hbl := Nat.lt_of_lt_of_le hbl hb1.size
      have HX1 : Hid (RowAt cellsH 3 (u1.alloc (.cells #[.string id, .int .i64 u, .slice A1 v.length c1] 77)) (u1.heap.size + 1) (some ⟨u1.heap.size, 0, none⟩) 1 [⟨id, u, A1, c1, v⟩]) := one_row rowM (heap_alloc_new u1 _)
      replace HO := Lib.hid (HO.out.below hb1)
      replace HF1 := Lib.hid ((HF1.out.keep hb1).more hb1.size)
      replace HB := Lib.hid (HB.out.trans (hb1.mono HB.out.size))
      clear hb1
      generalize (u1.alloc (.cells #[.string id, .int .i64 u, .slice A1 v.length c1] 77)) = u2 at *
      generalize u1.heap.size = G1 at *
      refine hK.out _ _ ⟨e0, e1, e2⟩ (fun hHeld => ?_)
      clear hK K
      try simp only [Act.put, List.setIfInBounds_toArray, List.set_cons_zero, List.set_cons_succ]
      refine wpAnyH_ready (rs := [14]) (by kernel_rfl) (by simp) ?_
      refine (AllReadyH.cons (o := { dst := some 25, op := Go.Op.call { callee := Go.Callee.builtin Go.Builtin.append, args := #[Go.Operand.tmp 11, Go.Operand.tmp 24], argTypes := #[31, 31] }, type := 31, pos := "law.go:20", after := #[{ on := 0, ground := Go.Ground.data }, { on := 13, ground := Go.Ground.data }, { on := 11, ground := Go.Ground.chain }], guard := none }) rfl (fun K hK => ?_) AllReadyH.nil)
      refine step_append_row rowM (B := w.heap.size) (v := .slice Av k cv) (n := k) (zs := rs) (m := 1) (ys := [⟨id, u, A1, c1, v⟩]) (by rfl) _ _ (by rfl) (by rfl) HO.out.own (by rfl) HX1.out (by omega) (by exact HB.out.size) ?_
      intro A3 c3 w3 hown3 hg3 hat3
      have nk : some blk ≠ Value.ownBlock (.slice Av k cv) := fun e => by have := (HO.out.own.lt blk e.symm).1; omega
      replace e0 := (World.cell?_of_block (a := ⟨blk, off + k * 3, none⟩) (hg3.block blk hbl nk)).trans e0
      replace e1 := (World.cell?_of_block (a := ⟨blk, off + k * 3 + 1, none⟩) (hg3.block blk hbl nk)).trans e1
      replace e2 := (World.cell?_of_block (a := ⟨blk, off + k * 3 + 2, none⟩) (hg3.block blk hbl nk)).trans e2
      have HO3 := Lib.hid (HO.out.snoc HF1.out HA1.out hown3 hg3 hat3)
      replace HB := Lib.hid (HB.out.grown hg3 HB.out.size (fun g e => (HO.out.own.lt g e).1))
      clear hown3 hg3 hat3 nk HO HX1 HF1 HA1
      refine hK.out _ _ ⟨e0, e1, e2⟩ (fun hHeld => ?_)
      clear hK K
      try simp only [Act.put, List.setIfInBounds_toArray, List.set_cons_zero, List.set_cons_succ]
      refine wpAnyH_take (i := 15) (oi := { dst := some 3, op := Go.Op.assign (Go.Operand.tmp 25), type := 31, pos := "law.go:20", after := #[{ on := 14, ground := Go.Ground.data }, { on := 14, ground := Go.Ground.chain }, { on := 0, ground := Go.Ground.phase }, { on := 1, ground := Go.Ground.phase }, { on := 2, ground := Go.Ground.phase }, { on := 3, ground := Go.Ground.phase }, { on := 4, ground := Go.Ground.phase }, { on := 5, ground := Go.Ground.phase }, { on := 6, ground := Go.Ground.phase }, { on := 7, ground := Go.Ground.phase }, { on := 8, ground := Go.Ground.phase }, { on := 9, ground := Go.Ground.phase }, { on := 10, ground := Go.Ground.phase }, { on := 11, ground := Go.Ground.phase }, { on := 12, ground := Go.Ground.phase }, { on := 13, ground := Go.Ground.phase }, { on := 14, ground := Go.Ground.phase }], guard := none }) (v := ?_) rfl (by kernel_rfl) (by kernel_rfl) (by kernel_rfl) (fun _ _ _ h => h) (Or.inl ⟨rfl, ?_⟩) (by assumption) ?_
      rotate_left
      · intro wz hSw; (try dsimp only at hSw); go_simp; try (with_reducible rfl)
      try simp only [Act.put, List.setIfInBounds_toArray, List.set_cons_zero, List.set_cons_succ]
      refine wpAnyH_done (by kernel_rfl) ?_ _
      have HC3 : Hid (CopyM 77 w m (k + 1) A3 c3 w3) := ⟨⟨rs ++ [⟨id, u, A1, c1, v⟩], by rw [absH_append, HAB.out, HTS.out]; rfl, HO3.out⟩, HB.out⟩
      clear HO3 hHeld e0 e1 e2
      go_wp2
      go_roundw
      case rel => exact ⟨k + 1, A3, c3, by omega, by go_num, rfl, HC3⟩
      case measure => simp [intOf]; omega
    · obtain rfl : k = n := by omega
      have HT : Hid (m.take k = m) := List.take_of_length_le (by have := HL.out; omega)
      go_wp2
      go_ret
      rw [← HL.out] at HO ⊢
      exact ⟨Av, cv, rfl, ⟨rs, by rw [HAB.out, HT.out], HO.out⟩, HB.out⟩
set_option maxRecDepth 100000 in
set_option maxHeartbeats 4000000 in
theorem fromM_any (A : Option Addr) (n c : Nat) (m : Mat) (B : Nat) (w : World) (hB : B ≤ w.heap.size) (hz : MatAt w B A n m) (hn : n ≤ 1000000) (hv : ∀ x ∈ m, x.2.2.length ≤ 1000000) :
    Calls Try.prog 17 #[.slice A n c] w (OwnMat 27 m w) := by
  have HL := Lib.hid hz.len
  have HZ := Lib.hid hz
  have HV := Lib.hid hv
  clear hz hv
  go_enter Try.func17, Try.ntmps17
  go_wp2
  go_loopw [3, 4] (fun v i wr => ∃ (k : Nat) (Av : Option Addr) (cv : Nat), k ≤ n ∧ i = .int .i64 k ∧ v = .slice Av k cv ∧ Hid (CopyM 27 w m k Av cv wr)) (fun _ i _ => n - (intOf i).toNat)
  case atStart => exact ⟨0, none, 0, by omega, rfl, rfl, OwnsM.nil _ _ _, Below.refl _ _⟩
  case round =>
    obtain ⟨k, Av, cv, hk, rfl, rfl, HC⟩ := hrel
    obtain ⟨⟨rs, habs, hown⟩, hbel⟩ := HC.out
    have HO := Lib.hid hown
    have HB := Lib.hid hbel
    have HAB := Lib.hid habs
    clear hown hbel HC habs
    by_cases hlt : k < n
    · obtain ⟨blk, off, r, rfl, hbB, hmk, e0, e1, e2, hf⟩ := HZ.out.get (HB.out.mono hB) hlt
      have HTS := Lib.hid (takeM hmk)
      have hi1 : (k : Int) < (n : Int) := by omega
      have hvl : r.v.length ≤ 1000000 := HV.out _ (List.mem_of_getElem? hmk)
      have hbl : blk < wr.heap.size := by have := HB.out.size; omega
      have HF := Lib.hid hf
      obtain ⟨id, u, Ar, cr, v⟩ := r
      simp only at e0 e1 e2 hvl HTS
      clear hmk hf
      go_upto_region 5 with fail
      refine wp_region_held_drew (S := fun w' => w'.cell? ⟨blk, off + k * 3, none⟩ = some (.string id) ∧ w'.cell? ⟨blk, off + k * 3 + 1, none⟩ = some (.int .i64 u) ∧ w'.cell? ⟨blk, off + k * 3 + 2, none⟩ = some (.slice Ar v.length cr)) (by kernel_rfl) ⟨e0, e1, e2⟩ (fun hHeld => ?_)
      refine wpAnyH_take (i := 0) (oi := { dst := some 11, op := Go.Op.move (Go.Operand.tmp 3), type := 22, pos := "law.go:28", after := #[], guard := none }) (v := ?_) rfl (by kernel_rfl) (by kernel_rfl) (by kernel_rfl) (fun _ _ _ h => h) (Or.inl ⟨rfl, ?_⟩) (by assumption) ?_
      rotate_left
      · intro wz hSw; (try dsimp only at hSw); go_simp; try (with_reducible rfl)
      try simp only [Act.put, List.setIfInBounds_toArray, List.set_cons_zero, List.set_cons_succ]
      refine wpAnyH_take (i := 1) (oi := { dst := some 12, op := Go.Op.move (Go.Operand.tmp 0), type := 31, pos := "law.go:28", after := #[], guard := none }) (v := ?_) rfl (by kernel_rfl) (by kernel_rfl) (by kernel_rfl) (fun _ _ _ h => h) (Or.inl ⟨rfl, ?_⟩) (by assumption) ?_
      rotate_left
      · intro wz hSw; (try dsimp only at hSw); go_simp; try (with_reducible rfl)
      try simp only [Act.put, List.setIfInBounds_toArray, List.set_cons_zero, List.set_cons_succ]
      refine wpAnyH_take (i := 2) (oi := { dst := some 13, op := Go.Op.move (Go.Operand.tmp 4), type := 3, pos := "law.go:28", after := #[], guard := none }) (v := ?_) rfl (by kernel_rfl) (by kernel_rfl) (by kernel_rfl) (fun _ _ _ h => h) (Or.inl ⟨rfl, ?_⟩) (by assumption) ?_
      rotate_left
      · intro wz hSw; (try dsimp only at hSw); go_simp; try (with_reducible rfl)
      try simp only [Act.put, List.setIfInBounds_toArray, List.set_cons_zero, List.set_cons_succ]
      refine wpAnyH_take (i := 3) (oi := { dst := some 14, op := Go.Op.indexAddr 31 (Go.Operand.tmp 12) (Go.Operand.tmp 13), type := 0, pos := "law.go:28", after := #[{ on := 1, ground := Go.Ground.data }, { on := 2, ground := Go.Ground.data }], guard := none }) (v := ?_) rfl (by kernel_rfl) (by kernel_rfl) (by kernel_rfl) (fun _ _ _ h => h) (Or.inl ⟨rfl, ?_⟩) (by assumption) ?_
      rotate_left
      · intro wz hSw; (try dsimp only at hSw); go_simp; try (with_reducible rfl)
      try simp only [Act.put, List.setIfInBounds_toArray, List.set_cons_zero, List.set_cons_succ]
      refine wpAnyH_take (i := 4) (oi := { dst := some 15, op := Go.Op.fieldAddr 77 (Go.Operand.tmp 14) 0, type := 0, pos := "law.go:28", after := #[{ on := 3, ground := Go.Ground.data }], guard := none }) (v := ?_) rfl (by kernel_rfl) (by kernel_rfl) (by kernel_rfl) (fun _ _ _ h => h) (Or.inl ⟨rfl, ?_⟩) (by assumption) ?_
      rotate_left
      · intro wz hSw; (try dsimp only at hSw); go_simp; try (with_reducible rfl)
      try simp only [Act.put, List.setIfInBounds_toArray, List.set_cons_zero, List.set_cons_succ]
      refine wpAnyH_take (i := 5) (oi := { dst := some 16, op := Go.Op.load 36 (Go.Operand.tmp 15), type := 36, pos := "law.go:28", after := #[{ on := 4, ground := Go.Ground.data }], guard := none }) (v := ?_) rfl (by kernel_rfl) (by kernel_rfl) (by kernel_rfl) (fun _ _ _ h => h) (Or.inl ⟨rfl, ?_⟩) (by assumption) ?_
      rotate_left
      · intro wz hSw; (try dsimp only at hSw); go_simp; try (with_reducible rfl)
      try simp only [Act.put, List.setIfInBounds_toArray, List.set_cons_zero, List.set_cons_succ]
      refine wpAnyH_take (i := 6) (oi := { dst := some 17, op := Go.Op.move (Go.Operand.tmp 0), type := 31, pos := "law.go:28", after := #[], guard := none }) (v := ?_) rfl (by kernel_rfl) (by kernel_rfl) (by kernel_rfl) (fun _ _ _ h => h) (Or.inl ⟨rfl, ?_⟩) (by assumption) ?_
      rotate_left
      · intro wz hSw; (try dsimp only at hSw); go_simp; try (with_reducible rfl)
      try simp only [Act.put, List.setIfInBounds_toArray, List.set_cons_zero, List.set_cons_succ]
      refine wpAnyH_take (i := 7) (oi := { dst := some 18, op := Go.Op.move (Go.Operand.tmp 4), type := 3, pos := "law.go:28", after := #[], guard := none }) (v := ?_) rfl (by kernel_rfl) (by kernel_rfl) (by kernel_rfl) (fun _ _ _ h => h) (Or.inl ⟨rfl, ?_⟩) (by assumption) ?_
      rotate_left
      · intro wz hSw; (try dsimp only at hSw); go_simp; try (with_reducible rfl)
      try simp only [Act.put, List.setIfInBounds_toArray, List.set_cons_zero, List.set_cons_succ]
      refine wpAnyH_take (i := 8) (oi := { dst := some 19, op := Go.Op.indexAddr 31 (Go.Operand.tmp 17) (Go.Operand.tmp 18), type := 0, pos := "law.go:28", after := #[{ on := 6, ground := Go.Ground.data }, { on := 7, ground := Go.Ground.data }], guard := none }) (v := ?_) rfl (by kernel_rfl) (by kernel_rfl) (by kernel_rfl) (fun _ _ _ h => h) (Or.inl ⟨rfl, ?_⟩) (by assumption) ?_
      rotate_left
      · intro wz hSw; (try dsimp only at hSw); go_simp; try (with_reducible rfl)
      try simp only [Act.put, List.setIfInBounds_toArray, List.set_cons_zero, List.set_cons_succ]
      refine wpAnyH_take (i := 9) (oi := { dst := some 20, op := Go.Op.fieldAddr 77 (Go.Operand.tmp 19) 1, type := 0, pos := "law.go:28", after := #[{ on := 8, ground := Go.Ground.data }], guard := none }) (v := ?_) rfl (by kernel_rfl) (by kernel_rfl) (by kernel_rfl) (fun _ _ _ h => h) (Or.inl ⟨rfl, ?_⟩) (by assumption) ?_
      rotate_left
      · intro wz hSw; (try dsimp only at hSw); go_simp; try (with_reducible rfl)
      try simp only [Act.put, List.setIfInBounds_toArray, List.set_cons_zero, List.set_cons_succ]
      refine wpAnyH_take (i := 10) (oi := { dst := some 21, op := Go.Op.load 44 (Go.Operand.tmp 20), type := 44, pos := "law.go:28", after := #[{ on := 9, ground := Go.Ground.data }], guard := none }) (v := ?_) rfl (by kernel_rfl) (by kernel_rfl) (by kernel_rfl) (fun _ _ _ h => h) (Or.inl ⟨rfl, ?_⟩) (by assumption) ?_
      rotate_left
      · intro wz hSw; (try dsimp only at hSw); go_simp; try (with_reducible rfl)
      try simp only [Act.put, List.setIfInBounds_toArray, List.set_cons_zero, List.set_cons_succ]
      refine wpAnyH_ready (rs := [11]) (by kernel_rfl) (by simp) ?_
      refine (AllReadyH.cons (o := { dst := some 22, op := Go.Op.call { callee := Go.Callee.value (Go.Operand.func 21), args := #[Go.Operand.tmp 21], argTypes := #[44] }, type := 25, pos := "law.go:28", after := #[{ on := 10, ground := Go.Ground.data }], guard := none }) rfl (fun K hK => ?_) AllReadyH.nil)
      go_simp
      go_at_call 21
      refine (fromS_any u Ar v.length cr v B _ (by have := HB.out.size; exact Nat.le_trans hB this) (by exact HF.out.vec) (by omega)).mono ?_
      rintro e u1 ⟨A1, c1, rfl, hc1, ho, hb⟩
      dsimp only at hc1 ho ⊢
      replace e0 := (hb.cell (p := ⟨blk, off + k * 3, none⟩) hbl).trans e0
      replace e1 := (hb.cell (p := ⟨blk, off + k * 3 + 1, none⟩) hbl).trans e1
      replace e2 := (hb.cell (p := ⟨blk, off + k * 3 + 2, none⟩) hbl).trans e2
      replace hbl := Nat.lt_of_lt_of_le hbl hb.size
      have HA1 : Hid (Apart ⟨id, u, A1, c1, v⟩ (Value.ownBlock (.slice Av k cv))) := apart_new (r := ⟨id, u, A1, c1, v⟩) HO.out (by exact ho)
      have HF1 : Hid (Fine u1 u1.heap.size ⟨id, u, A1, c1, v⟩) := ⟨Sp.own_ints ho, hc1⟩
      replace HO := Lib.hid (HO.out.below (below_via (Below.refl _ _) hb (Nat.le_refl _) ⟨rfl, rfl, rfl, rfl⟩))
      replace HB := Lib.hid (below_via HB.out hb HB.out.size ⟨rfl, rfl, rfl, rfl⟩)
      clear ho hb hc1
      refine hK.out _ _ ⟨e0, e1, e2⟩ (fun hHeld => ?_)
      clear hK K
      try simp only [Act.put, List.setIfInBounds_toArray, List.set_cons_zero, List.set_cons_succ]
      refine wpAnyH_take (i := 12) (oi := { dst := some 23, op := Go.Op.build 27 #[(0, Go.Operand.tmp 16), (1, Go.Operand.tmp 22)], type := 27, pos := "law.go:28", after := #[{ on := 5, ground := Go.Ground.data }, { on := 11, ground := Go.Ground.data }], guard := none }) (v := ?_) rfl (by kernel_rfl) (by kernel_rfl) (by kernel_rfl) (fun _ _ _ h => h) (Or.inl ⟨rfl, ?_⟩) (by assumption) ?_
      rotate_left
      · intro wz hSw; (try dsimp only at hSw); go_simp; try (with_reducible rfl)
      try simp only [Act.put, List.setIfInBounds_toArray, List.set_cons_zero, List.set_cons_succ]
      refine wpAnyH_ready (rs := [13]) (by kernel_rfl) (by simp) ?_
      refine (AllReadyH.cons (o := { dst := some 24, op := Go.Op.buildSlice 22 1 #[(0, Go.Operand.tmp 23)], type := 22, pos := "law.go:28", after := #[{ on := 12, ground := Go.Ground.data }], guard := none }) rfl (fun K hK => ?_) AllReadyH.nil)
      go_simp
      have hb1 : Below u1.heap.size u1 (u1.alloc (.cells #[.string id, .int .i64 u, .slice A1 v.length c1] 27)) := (Below.refl _ _).alloc (Nat.le_refl _) _
      replace e0 := (hb1.cell (p := ⟨blk, off + k * 3, none⟩) hbl).trans e0
      replace e1 := (hb1.cell (p := ⟨blk, off + k * 3 + 1, none⟩) hbl).trans e1
      replace e2 := (hb1.cell (p := ⟨blk, off + k * 3 + 2, none⟩) hbl).trans e2
      replace hbl := Nat.lt_of_lt_of_le hbl hb1.size
      have HX1 : Hid (RowAt cellsH 3 (u1.alloc (.cells #[.string id, .int .i64 u, .slice A1 v.length c1] 27)) (u1.heap.size + 1) (some ⟨u1.heap.size, 0, none⟩) 1 [⟨id, u, A1, c1, v⟩]) := one_row rowN (heap_alloc_new u1 _)
      replace HO := Lib.hid (HO.out.below hb1)
      replace HF1 := Lib.hid ((HF1.out.keep hb1).more hb1.size)
      replace HB := Lib.hid (HB.out.trans (hb1.mono HB.out.size))
      clear hb1
      generalize (u1.alloc (.cells #[.string id, .int .i64 u, .slice A1 v.length c1] 27)) = u2 at *
      generalize u1.heap.size = G1 at *
      refine hK.out _ _ ⟨e0, e1, e2⟩ (fun hHeld => ?_)
      clear hK K
      try simp only [Act.put, List.setIfInBounds_toArray, List.set_cons_zero, List.set_cons_succ]
      refine wpAnyH_ready (rs := [14]) (by kernel_rfl) (by simp) ?_
      refine (AllReadyH.cons (o := { dst := some 25, op := Go.Op.call { callee := Go.Callee.builtin Go.Builtin.append, args := #[Go.Operand.tmp 11, Go.Operand.tmp 24], argTypes := #[22, 22] }, type := 22, pos := "law.go:28", after := #[{ on := 0, ground := Go.Ground.data }, { on := 13, ground := Go.Ground.data }, { on := 11, ground := Go.Ground.chain }], guard := none }) rfl (fun K hK => ?_) AllReadyH.nil)
      refine step_append_row rowN (B := w.heap.size) (v := .slice Av k cv) (n := k) (zs := rs) (m := 1) (ys := [⟨id, u, A1, c1, v⟩]) (by rfl) _ _ (by rfl) (by rfl) HO.out.own (by rfl) HX1.out (by omega) (by exact HB.out.size) ?_
      intro A3 c3 w3 hown3 hg3 hat3
      have nk : some blk ≠ Value.ownBlock (.slice Av k cv) := fun e => by have := (HO.out.own.lt blk e.symm).1; omega
      replace e0 := (World.cell?_of_block (a := ⟨blk, off + k * 3, none⟩) (hg3.block blk hbl nk)).trans e0
      replace e1 := (World.cell?_of_block (a := ⟨blk, off + k * 3 + 1, none⟩) (hg3.block blk hbl nk)).trans e1
      replace e2 := (World.cell?_of_block (a := ⟨blk, off + k * 3 + 2, none⟩) (hg3.block blk hbl nk)).trans e2
      have HO3 := Lib.hid (HO.out.snoc HF1.out HA1.out hown3 hg3 hat3)
      replace HB := Lib.hid (HB.out.grown hg3 HB.out.size (fun g e => (HO.out.own.lt g e).1))
      clear hown3 hg3 hat3 nk HO HX1 HF1 HA1
      refine hK.out _ _ ⟨e0, e1, e2⟩ (fun hHeld => ?_)
      clear hK K
      try simp only [Act.put, List.setIfInBounds_toArray, List.set_cons_zero, List.set_cons_succ]
      refine wpAnyH_take (i := 15) (oi := { dst := some 3, op := Go.Op.assign (Go.Operand.tmp 25), type := 22, pos := "law.go:28", after := #[{ on := 14, ground := Go.Ground.data }, { on := 14, ground := Go.Ground.chain }, { on := 0, ground := Go.Ground.phase }, { on := 1, ground := Go.Ground.phase }, { on := 2, ground := Go.Ground.phase }, { on := 3, ground := Go.Ground.phase }, { on := 4, ground := Go.Ground.phase }, { on := 5, ground := Go.Ground.phase }, { on := 6, ground := Go.Ground.phase }, { on := 7, ground := Go.Ground.phase }, { on := 8, ground := Go.Ground.phase }, { on := 9, ground := Go.Ground.phase }, { on := 10, ground := Go.Ground.phase }, { on := 11, ground := Go.Ground.phase }, { on := 12, ground := Go.Ground.phase }, { on := 13, ground := Go.Ground.phase }, { on := 14, ground := Go.Ground.phase }], guard := none }) (v := ?_) rfl (by kernel_rfl) (by kernel_rfl) (by kernel_rfl) (fun _ _ _ h => h) (Or.inl ⟨rfl, ?_⟩) (by assumption) ?_
      rotate_left
      · intro wz hSw; (try dsimp only at hSw); go_simp; try (with_reducible rfl)
      try simp only [Act.put, List.setIfInBounds_toArray, List.set_cons_zero, List.set_cons_succ]
      refine wpAnyH_done (by kernel_rfl) ?_ _
      have HC3 : Hid (CopyM 27 w m (k + 1) A3 c3 w3) := ⟨⟨rs ++ [⟨id, u, A1, c1, v⟩], by rw [absH_append, HAB.out, HTS.out]; rfl, HO3.out⟩, HB.out⟩
      clear HO3 hHeld e0 e1 e2
      go_wp2
      go_roundw
      case rel => exact ⟨k + 1, A3, c3, by omega, by go_num, rfl, HC3⟩
      case measure => simp [intOf]; omega
    · obtain rfl : k = n := by omega
      have HT : Hid (m.take k = m) := List.take_of_length_le (by have := HL.out; omega)
      go_wp2
      go_ret
      rw [← HL.out] at HO ⊢
      exact ⟨Av, cv, rfl, ⟨rs, by rw [HAB.out, HT.out], HO.out⟩, HB.out⟩
/-- What push leaves: one Row more; only the block of the Rows may have changed. -/
def PushRet (B : Nat) (n : Nat) (A : Option Addr) (c : Nat) (rs : List Hd) (id : ByteArray) (s : Int × List Int) (w : World) (e : Ending) (w' : World) : Prop :=
  ∃ A3 c3 r, e = .returned (.slice A3 (n + 1) c3) ∧ r.id = id ∧ (r.u, r.v) = s ∧ OwnsH w' B 77 A3 (n + 1) c3 (rs ++ [r]) ∧ w.grownBy w' (Value.ownBlock (.slice A n c))
set_option maxRecDepth 100000 in
set_option maxHeartbeats 4000000 in
theorem push_any (A : Option Addr) (n c : Nat) (rs : List Hd) (id : ByteArray) (u : Int) (Ar : Option Addr) (cr : Nat) (v : List Int) (B : Nat) (w : World) (hB : B ≤ w.heap.size) (hO : OwnsH w B 77 A n c rs) (hv : Sp.IntsAt w w.heap.size Ar v.length v) (hcr : v.length ≤ cr) (hn : n ≤ 1000000) (hs : OkS (u, v)) :
    Calls Try.prog 60 #[.slice A n c, .agg #[.string id, .int .i64 u, .slice Ar v.length cr]] w (PushRet B n A c rs id (u, v) w) := by
  have HO := Lib.hid hO
  have HV := Lib.hid hv
  have HS := Lib.hid hs
  have HLT : Hid (∀ g, Value.ownBlock (.slice A n c) = some g → B ≤ g ∧ g < w.heap.size) := fun g e => hO.own.lt g e
  clear hO hv hs
  go_enter Try.func60, Try.ntmps60
  go_upto_region 1 with fail
  have hb0 : Below w.heap.size w (w.alloc (.cells #[.string id, .int .i64 u, .slice Ar v.length cr] 77)) := (Below.refl _ _).alloc (Nat.le_refl _) _
  have e0 : (w.alloc (.cells #[.string id, .int .i64 u, .slice Ar v.length cr] 77)).cell? ⟨w.heap.size, 0, none⟩ = some (.string id) := by simp [go_sem]
  have e1 : (w.alloc (.cells #[.string id, .int .i64 u, .slice Ar v.length cr] 77)).cell? ⟨w.heap.size, 1, none⟩ = some (.int .i64 u) := by simp [go_sem]
  have e2 : (w.alloc (.cells #[.string id, .int .i64 u, .slice Ar v.length cr] 77)).cell? ⟨w.heap.size, 2, none⟩ = some (.slice Ar v.length cr) := by simp [go_sem]
  have hbl : w.heap.size < (w.alloc (.cells #[.string id, .int .i64 u, .slice Ar v.length cr] 77)).heap.size := by simp
  replace HO := Lib.hid (HO.out.below hb0)
  have HV0 := Lib.hid (HV.out.keep hb0)
  have HG : Hid (w.grownBy (w.alloc (.cells #[.string id, .int .i64 u, .slice Ar v.length cr] 77)) (Value.ownBlock (.slice A n c))) := rgrown_of_below hb0 _
  generalize (w.alloc (.cells #[.string id, .int .i64 u, .slice Ar v.length cr] 77)) = W at *
  refine wp_region_held_drew (S := fun w' => w'.cell? ⟨w.heap.size, 0, none⟩ = some (.string id) ∧ w'.cell? ⟨w.heap.size, 1, none⟩ = some (.int .i64 u) ∧ w'.cell? ⟨w.heap.size, 2, none⟩ = some (.slice Ar v.length cr)) (by kernel_rfl) ⟨e0, e1, e2⟩ (fun hHeld => ?_)
  refine wpAnyH_take (i := 0) (oi := { dst := some 5, op := Go.Op.move (Go.Operand.tmp 0), type := 31, pos := "know.go:81", after := #[], guard := none }) (v := ?_) rfl (by kernel_rfl) (by kernel_rfl) (by kernel_rfl) (fun _ _ _ h => h) (Or.inl ⟨rfl, ?_⟩) (by assumption) ?_
  rotate_left
  · intro wz hSw; (try dsimp only at hSw); go_simp; try (with_reducible rfl)
  try simp only [Act.put, List.setIfInBounds_toArray, List.set_cons_zero, List.set_cons_succ]
  refine wpAnyH_take (i := 1) (oi := { dst := some 6, op := Go.Op.fieldAddr 77 (Go.Operand.tmp 3) 0, type := 0, pos := "know.go:81", after := #[], guard := none }) (v := ?_) rfl (by kernel_rfl) (by kernel_rfl) (by kernel_rfl) (fun _ _ _ h => h) (Or.inl ⟨rfl, ?_⟩) (by assumption) ?_
  rotate_left
  · intro wz hSw; (try dsimp only at hSw); go_simp; try (with_reducible rfl)
  try simp only [Act.put, List.setIfInBounds_toArray, List.set_cons_zero, List.set_cons_succ]
  refine wpAnyH_take (i := 2) (oi := { dst := some 7, op := Go.Op.load 36 (Go.Operand.tmp 6), type := 36, pos := "know.go:81", after := #[{ on := 1, ground := Go.Ground.data }], guard := none }) (v := ?_) rfl (by kernel_rfl) (by kernel_rfl) (by kernel_rfl) (fun _ _ _ h => h) (Or.inl ⟨rfl, ?_⟩) (by assumption) ?_
  rotate_left
  · intro wz hSw; (try dsimp only at hSw); go_simp; try (with_reducible rfl)
  try simp only [Act.put, List.setIfInBounds_toArray, List.set_cons_zero, List.set_cons_succ]
  refine wpAnyH_take (i := 3) (oi := { dst := some 8, op := Go.Op.fieldAddr 77 (Go.Operand.tmp 3) 1, type := 0, pos := "know.go:81", after := #[], guard := none }) (v := ?_) rfl (by kernel_rfl) (by kernel_rfl) (by kernel_rfl) (fun _ _ _ h => h) (Or.inl ⟨rfl, ?_⟩) (by assumption) ?_
  rotate_left
  · intro wz hSw; (try dsimp only at hSw); go_simp; try (with_reducible rfl)
  try simp only [Act.put, List.setIfInBounds_toArray, List.set_cons_zero, List.set_cons_succ]
  refine wpAnyH_take (i := 4) (oi := { dst := some 9, op := Go.Op.load 44 (Go.Operand.tmp 8), type := 44, pos := "know.go:81", after := #[{ on := 3, ground := Go.Ground.data }], guard := none }) (v := ?_) rfl (by kernel_rfl) (by kernel_rfl) (by kernel_rfl) (fun _ _ _ h => h) (Or.inl ⟨rfl, ?_⟩) (by assumption) ?_
  rotate_left
  · intro wz hSw; (try dsimp only at hSw); go_simp; try (with_reducible rfl)
  try simp only [Act.put, List.setIfInBounds_toArray, List.set_cons_zero, List.set_cons_succ]
  refine wpAnyH_ready (rs := [5]) (by kernel_rfl) (by simp) ?_
  refine (AllReadyH.cons (o := { dst := some 10, op := Go.Op.call { callee := Go.Callee.value (Go.Operand.func 62), args := #[Go.Operand.tmp 9], argTypes := #[44] }, type := 44, pos := "know.go:81", after := #[{ on := 4, ground := Go.Ground.data }], guard := none }) rfl (fun K hK => ?_) AllReadyH.nil)
  go_simp
  go_at_call 62
  refine (cloneS_any u Ar cr v w.heap.size _ (by exact Nat.le_of_lt hbl) (by exact HV0.out) hcr HS.out).mono ?_
  rintro e u1 ⟨A1, c1, rfl, hc1, ho, hb⟩
  dsimp only at hc1 ho ⊢
  replace e0 := (hb.cell (p := ⟨w.heap.size, 0, none⟩) hbl).trans e0
  replace e1 := (hb.cell (p := ⟨w.heap.size, 1, none⟩) hbl).trans e1
  replace e2 := (hb.cell (p := ⟨w.heap.size, 2, none⟩) hbl).trans e2
  replace hbl := Nat.lt_of_lt_of_le hbl hb.size
  have HA1 : Hid (Apart ⟨id, u, A1, c1, v⟩ (Value.ownBlock (.slice A n c))) := apart_new (r := ⟨id, u, A1, c1, v⟩) HO.out (by exact ho)
  have HF1 : Hid (Fine u1 u1.heap.size ⟨id, u, A1, c1, v⟩) := ⟨Sp.own_ints ho, hc1⟩
  have hbv := below_via (Below.refl W.heap.size W) hb (Nat.le_refl _) ⟨rfl, rfl, rfl, rfl⟩
  replace HO := Lib.hid (HO.out.below hbv)
  replace HG := Lib.hid (HG.out.trans (rgrown_of_below hbv _))
  clear ho hb hbv hc1
  refine hK.out _ _ ⟨e0, e1, e2⟩ (fun hHeld => ?_)
  clear hK K
  try simp only [Act.put, List.setIfInBounds_toArray, List.set_cons_zero, List.set_cons_succ]
  refine wpAnyH_take (i := 6) (oi := { dst := some 11, op := Go.Op.build 77 #[(0, Go.Operand.tmp 7), (1, Go.Operand.tmp 10)], type := 77, pos := "know.go:81", after := #[{ on := 2, ground := Go.Ground.data }, { on := 5, ground := Go.Ground.data }], guard := none }) (v := ?_) rfl (by kernel_rfl) (by kernel_rfl) (by kernel_rfl) (fun _ _ _ h => h) (Or.inl ⟨rfl, ?_⟩) (by assumption) ?_
  rotate_left
  · intro wz hSw; (try dsimp only at hSw); go_simp; try (with_reducible rfl)
  try simp only [Act.put, List.setIfInBounds_toArray, List.set_cons_zero, List.set_cons_succ]
  refine wpAnyH_ready (rs := [7]) (by kernel_rfl) (by simp) ?_
  refine (AllReadyH.cons (o := { dst := some 12, op := Go.Op.buildSlice 31 1 #[(0, Go.Operand.tmp 11)], type := 31, pos := "know.go:81", after := #[{ on := 6, ground := Go.Ground.data }], guard := none }) rfl (fun K hK => ?_) AllReadyH.nil)
  go_simp
  have hb1 : Below u1.heap.size u1 (u1.alloc (.cells #[.string id, .int .i64 u, .slice A1 v.length c1] 77)) := (Below.refl _ _).alloc (Nat.le_refl _) _
  replace e0 := (hb1.cell (p := ⟨w.heap.size, 0, none⟩) hbl).trans e0
  replace e1 := (hb1.cell (p := ⟨w.heap.size, 1, none⟩) hbl).trans e1
  replace e2 := (hb1.cell (p := ⟨w.heap.size, 2, none⟩) hbl).trans e2
  replace hbl := Nat.lt_of_lt_of_le hbl hb1.size
  have HX1 : Hid (RowAt cellsH 3 (u1.alloc (.cells #[.string id, .int .i64 u, .slice A1 v.length c1] 77)) (u1.heap.size + 1) (some ⟨u1.heap.size, 0, none⟩) 1 [⟨id, u, A1, c1, v⟩]) := one_row rowM (heap_alloc_new u1 _)
  replace HO := Lib.hid (HO.out.below hb1)
  replace HF1 := Lib.hid ((HF1.out.keep hb1).more hb1.size)
  replace HG := Lib.hid (HG.out.trans (rgrown_of_below hb1 _))
  clear hb1
  generalize (u1.alloc (.cells #[.string id, .int .i64 u, .slice A1 v.length c1] 77)) = u2 at *
  generalize u1.heap.size = G1 at *
  refine hK.out _ _ ⟨e0, e1, e2⟩ (fun hHeld => ?_)
  clear hK K
  try simp only [Act.put, List.setIfInBounds_toArray, List.set_cons_zero, List.set_cons_succ]
  refine wpAnyH_ready (rs := [8]) (by kernel_rfl) (by simp) ?_
  refine (AllReadyH.cons (o := { dst := some 13, op := Go.Op.call { callee := Go.Callee.builtin Go.Builtin.append, args := #[Go.Operand.tmp 5, Go.Operand.tmp 12], argTypes := #[31, 31] }, type := 31, pos := "know.go:81", after := #[{ on := 0, ground := Go.Ground.data }, { on := 7, ground := Go.Ground.data }, { on := 5, ground := Go.Ground.chain }], guard := none }) rfl (fun K hK => ?_) AllReadyH.nil)
  refine step_append_row rowM (B := B) (v := .slice A n c) (n := n) (zs := rs) (m := 1) (ys := [⟨id, u, A1, c1, v⟩]) (by rfl) _ _ (by rfl) (by rfl) HO.out.own (by rfl) HX1.out (by omega) (by have := HG.out.size; exact Nat.le_trans hB this) ?_
  intro A3 c3 w3 hown3 hg3 hat3
  have nk : some w.heap.size ≠ Value.ownBlock (.slice A n c) := fun e => by have := (HLT.out _ e.symm).2; omega
  replace e0 := (World.cell?_of_block (a := ⟨w.heap.size, 0, none⟩) (hg3.block w.heap.size hbl nk)).trans e0
  replace e1 := (World.cell?_of_block (a := ⟨w.heap.size, 1, none⟩) (hg3.block w.heap.size hbl nk)).trans e1
  replace e2 := (World.cell?_of_block (a := ⟨w.heap.size, 2, none⟩) (hg3.block w.heap.size hbl nk)).trans e2
  have HO3 := Lib.hid (HO.out.snoc HF1.out HA1.out hown3 hg3 hat3)
  replace HG := Lib.hid (HG.out.trans hg3)
  clear hown3 hg3 hat3 nk HO HX1 HF1 HA1
  refine hK.out _ _ ⟨e0, e1, e2⟩ (fun hHeld => ?_)
  clear hK K
  try simp only [Act.put, List.setIfInBounds_toArray, List.set_cons_zero, List.set_cons_succ]
  refine wpAnyH_take (i := 9) (oi := { dst := some 4, op := Go.Op.assign (Go.Operand.tmp 13), type := 31, pos := "know.go:81", after := #[{ on := 8, ground := Go.Ground.data }, { on := 8, ground := Go.Ground.chain }, { on := 0, ground := Go.Ground.phase }, { on := 1, ground := Go.Ground.phase }, { on := 2, ground := Go.Ground.phase }, { on := 3, ground := Go.Ground.phase }, { on := 4, ground := Go.Ground.phase }, { on := 5, ground := Go.Ground.phase }, { on := 6, ground := Go.Ground.phase }, { on := 7, ground := Go.Ground.phase }, { on := 8, ground := Go.Ground.phase }], guard := none }) (v := ?_) rfl (by kernel_rfl) (by kernel_rfl) (by kernel_rfl) (fun _ _ _ h => h) (Or.inl ⟨rfl, ?_⟩) (by assumption) ?_
  rotate_left
  · intro wz hSw; (try dsimp only at hSw); go_simp; try (with_reducible rfl)
  try simp only [Act.put, List.setIfInBounds_toArray, List.set_cons_zero, List.set_cons_succ]
  refine wpAnyH_done (by kernel_rfl) ?_ _
  clear hHeld e0 e1 e2
  go_wp2
  go_ret
  exact ⟨A3, c3, ⟨id, u, A1, c1, v⟩, rfl, rfl, rfl, HO3.out, HG.out⟩
end Go.Proofs.Ythfdjebeblmmdaa
