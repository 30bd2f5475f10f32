/- The reference's Fix and Add of a Know. -/
import Derived.Test.YthfdjebeblmmdaaHEm
import Derived.Test.YthfdjebeblmmdaaHEj
namespace Go.Proofs.Ythfdjebeblmmdaa
open Go.RowKit

theorem small_num {s : Int × List Int} (h : Sp.Small s) : Num 60 s := ⟨h.1, fun x hx => by have := h.2.1 x hx; omega, h.2.2.2⟩
theorem small_nil : Sp.Small (0, []) := ⟨ok_nil, fun _ h => (mem_nil h).elim, by simp, by simp⟩
/-- Rows as Fix makes them. -/
structure SM (m : Mat) : Prop where
  gk : GK 60 m
  sm : ∀ a, Sp.Small (mOf m a)
theorem SM.nil : SM [] := ⟨GK.nil _, fun _ => small_nil⟩
theorem SM.put {m : Mat} (h : SM m) {a : ByteArray} {s : Int × List Int} (ha : rightL a.data.toList = true) (hs : Sp.Small s) : SM (putK m a s) := by
  have h1 := h.gk.put ha (small_num hs) (Nat.le_refl _)
  refine ⟨h1.1, fun b => ?_⟩
  rw [h1.2 b]
  split
  · exact hs
  · exact h.sm b
theorem SM.row {m : Mat} (h : SM m) {x : ByteArray × (Int × List Int)} (hx : x ∈ m) : Sp.Small x.2 := by
  rw [← mOf_mem h.gk.up hx]; exact h.sm x.1
theorem SM.okS {m : Mat} (h : SM m) : ∀ x ∈ m, OkS x.2 := h.gk.okS (by omega)
theorem SM.merge {x y : Mat} (hx : SM x) (hy : SM y) : SM (mergeF x y) := by
  have h1 := hx.gk.merge hy.gk
  have h2 : ∀ a, Sp.Small (mOf (mergeF x y) a) := fun a => by rw [mOf_merge hx.gk hy.gk a]; exact (Sp.union_small (hx.sm a) (hy.sm a)).1
  exact ⟨⟨h1.up, fun z hz => ⟨(h1.row z hz).1, by have := h2 z.1; rw [mOf_mem h1.up hz] at this; exact small_num this, (h1.row z hz).2.2⟩⟩, h2⟩
/-- Rows that may be, at most 10, of the call's own. -/
def GoodKn (e : TypeId) (w : World) (en : Ending) (w' : World) : Prop := ∃ r, SM r ∧ List.length r ≤ 10 ∧ OwnMat e r w en w'
theorem putK_len (m : Mat) (a : ByteArray) (s : Int × List Int) : (putK m a s).length ≤ m.length + 1 := by
  unfold putK
  have h1 := dropM_len m a
  split
  · omega
  · have := merge_len (dropM m a) [(a, s)]
    simp at this
    omega
set_option maxRecDepth 100000 in
set_option maxHeartbeats 8000000 in
theorem rfixM_any (A : Option Addr) (n c : Nat) (m : Mat) (B : Nat) (w : World) (hB : B ≤ w.heap.size) (hz : MatAt w B A n m) (hsh : ShortM m) :
    Calls Try.prog 13 #[.slice A n c] w (GoodKn 27 w) := by
  have HZ := Lib.hid hz
  have HSH := Lib.hid hsh
  clear hz hsh
  go_enter Try.func13, Try.ntmps13
  go_wp2
  go_loopw [3, 4] (fun v i wr => ∃ (k : Nat) (Av : Option Addr) (cv : Nat) (o : Mat), k ≤ n ∧ k ≤ 10 ∧ List.length o ≤ k ∧ i = .int .i64 k ∧ v = .slice Av (List.length o) cv ∧ Hid (SM o) ∧ Hid (OwnsM wr w.heap.size 27 Av (List.length o) cv o) ∧ Hid (Below w.heap.size w wr)) (fun _ i _ => 10 - (intOf i).toNat)
  case atStart => exact ⟨0, none, 0, [], by omega, by omega, by simp, rfl, rfl, SM.nil, OwnsM.nil _ _ _, Below.refl _ _⟩
  case round =>
    obtain ⟨k, Av, cv, o, hk, hk8, hol, rfl, rfl, HG, HO, HB⟩ := hrel
    by_cases hlt : k < n
    · by_cases hl8 : k < 10
      · obtain ⟨blk, off, r, rfl, hbB, hmk, e0, e1, e2, hf⟩ := HZ.out.get (HB.out.mono hB) hlt
        have hi0 : (0 : Int) ≤ (k : Int) := by omega
        have hi1 : (k : Int) < (n : Int) := by omega
        have hl3 : (k : Int) < 10 := by omega
        have hsz := HB.out.size
        have hbl : blk < wr.heap.size := by omega
        have hBr := Nat.le_trans hB hsz
        have HVC := Lib.hid hf.vec
        have hvl0 : r.v.length ≤ 9223372036854775807 := (HSH.out _ (List.mem_of_getElem? hmk)).2
        obtain ⟨id, u, Ar, cr, v⟩ := r
        obtain ⟨s, hs⟩ : ∃ s, ByteArray.mk (fixL id.data.toList).toArray = s := ⟨_, rfl⟩
        have HS := Lib.hid hs
        have HSR : Hid (rightL s.data.toList = true) := by show _ = _; rw [← hs]; exact fixL_right _
        obtain ⟨t, ht⟩ : ∃ t, Sp.fixF u v = t := ⟨_, rfl⟩
        have HT := Lib.hid ht
        have HTS : Hid (Sp.Small t) := ht ▸ Sp.fix_small u v
        simp only at e0 e1 e2 HVC hvl0
        clear hmk hf hs ht
        generalize hvl : v.length = L at *
        go_upto_region 5 with fail
        refine wp_region_held_drew (S := fun w' => w'.cell? ⟨blk, off + k * 3, none⟩ = some (.string id) ∧ w'.cell? ⟨blk, off + k * 3 + 1, none⟩ = some (.int .i64 u) ∧ w'.cell? ⟨blk, off + k * 3 + 2, none⟩ = some (.slice Ar L cr)) (by kernel_rfl) ⟨e0, e1, e2⟩ (fun hHeld => ?_)
        refine wpAnyH_take (i := 0) (oi := { dst := some 15, op := Go.Op.move (Go.Operand.tmp 3), type := 22, pos := "ref.go:155", after := #[], guard := none }) (v := ?_) rfl (by kernel_rfl) (by kernel_rfl) (by kernel_rfl) (fun _ _ _ h => h) (Or.inl ⟨rfl, ?_⟩) (by assumption) ?_
        rotate_left
        · intro wz hSw; (try dsimp only at hSw); go_simp; try (with_reducible rfl)
        try simp only [Act.put, List.setIfInBounds_toArray, List.set_cons_zero, List.set_cons_succ]
        refine wpAnyH_take (i := 1) (oi := { dst := some 16, op := Go.Op.move (Go.Operand.tmp 0), type := 22, pos := "ref.go:155", after := #[], guard := none }) (v := ?_) rfl (by kernel_rfl) (by kernel_rfl) (by kernel_rfl) (fun _ _ _ h => h) (Or.inl ⟨rfl, ?_⟩) (by assumption) ?_
        rotate_left
        · intro wz hSw; (try dsimp only at hSw); go_simp; try (with_reducible rfl)
        try simp only [Act.put, List.setIfInBounds_toArray, List.set_cons_zero, List.set_cons_succ]
        refine wpAnyH_take (i := 2) (oi := { dst := some 17, op := Go.Op.move (Go.Operand.tmp 4), type := 3, pos := "ref.go:155", after := #[], guard := none }) (v := ?_) rfl (by kernel_rfl) (by kernel_rfl) (by kernel_rfl) (fun _ _ _ h => h) (Or.inl ⟨rfl, ?_⟩) (by assumption) ?_
        rotate_left
        · intro wz hSw; (try dsimp only at hSw); go_simp; try (with_reducible rfl)
        try simp only [Act.put, List.setIfInBounds_toArray, List.set_cons_zero, List.set_cons_succ]
        refine wpAnyH_take (i := 3) (oi := { dst := some 18, op := Go.Op.indexAddr 22 (Go.Operand.tmp 16) (Go.Operand.tmp 17), type := 0, pos := "ref.go:155", after := #[{ on := 1, ground := Go.Ground.data }, { on := 2, ground := Go.Ground.data }], guard := none }) (v := ?_) rfl (by kernel_rfl) (by kernel_rfl) (by kernel_rfl) (fun _ _ _ h => h) (Or.inl ⟨rfl, ?_⟩) (by assumption) ?_
        rotate_left
        · intro wz hSw; (try dsimp only at hSw); go_simp; try (with_reducible rfl)
        try simp only [Act.put, List.setIfInBounds_toArray, List.set_cons_zero, List.set_cons_succ]
        refine wpAnyH_take (i := 4) (oi := { dst := some 19, op := Go.Op.fieldAddr 27 (Go.Operand.tmp 18) 0, type := 0, pos := "ref.go:155", after := #[{ on := 3, ground := Go.Ground.data }], guard := none }) (v := ?_) rfl (by kernel_rfl) (by kernel_rfl) (by kernel_rfl) (fun _ _ _ h => h) (Or.inl ⟨rfl, ?_⟩) (by assumption) ?_
        rotate_left
        · intro wz hSw; (try dsimp only at hSw); go_simp; try (with_reducible rfl)
        try simp only [Act.put, List.setIfInBounds_toArray, List.set_cons_zero, List.set_cons_succ]
        refine wpAnyH_take (i := 5) (oi := { dst := some 20, op := Go.Op.load 9 (Go.Operand.tmp 19), type := 9, pos := "ref.go:155", after := #[{ on := 4, ground := Go.Ground.data }], guard := none }) (v := ?_) rfl (by kernel_rfl) (by kernel_rfl) (by kernel_rfl) (fun _ _ _ h => h) (Or.inl ⟨rfl, ?_⟩) (by assumption) ?_
        rotate_left
        · intro wz hSw; (try dsimp only at hSw); go_simp; try (with_reducible rfl)
        try simp only [Act.put, List.setIfInBounds_toArray, List.set_cons_zero, List.set_cons_succ]
        refine wpAnyH_take (i := 7) (oi := { dst := some 22, op := Go.Op.move (Go.Operand.tmp 0), type := 22, pos := "ref.go:155", after := #[], guard := none }) (v := ?_) rfl (by kernel_rfl) (by kernel_rfl) (by kernel_rfl) (fun _ _ _ h => h) (Or.inl ⟨rfl, ?_⟩) (by assumption) ?_
        rotate_left
        · intro wz hSw; (try dsimp only at hSw); go_simp; try (with_reducible rfl)
        try simp only [Act.put, List.setIfInBounds_toArray, List.set_cons_zero, List.set_cons_succ]
        refine wpAnyH_take (i := 8) (oi := { dst := some 23, op := Go.Op.move (Go.Operand.tmp 4), type := 3, pos := "ref.go:155", after := #[], guard := none }) (v := ?_) rfl (by kernel_rfl) (by kernel_rfl) (by kernel_rfl) (fun _ _ _ h => h) (Or.inl ⟨rfl, ?_⟩) (by assumption) ?_
        rotate_left
        · intro wz hSw; (try dsimp only at hSw); go_simp; try (with_reducible rfl)
        try simp only [Act.put, List.setIfInBounds_toArray, List.set_cons_zero, List.set_cons_succ]
        refine wpAnyH_take (i := 9) (oi := { dst := some 24, op := Go.Op.indexAddr 22 (Go.Operand.tmp 22) (Go.Operand.tmp 23), type := 0, pos := "ref.go:155", after := #[{ on := 7, ground := Go.Ground.data }, { on := 8, ground := Go.Ground.data }], guard := none }) (v := ?_) rfl (by kernel_rfl) (by kernel_rfl) (by kernel_rfl) (fun _ _ _ h => h) (Or.inl ⟨rfl, ?_⟩) (by assumption) ?_
        rotate_left
        · intro wz hSw; (try dsimp only at hSw); go_simp; try (with_reducible rfl)
        try simp only [Act.put, List.setIfInBounds_toArray, List.set_cons_zero, List.set_cons_succ]
        refine wpAnyH_take (i := 10) (oi := { dst := some 25, op := Go.Op.fieldAddr 27 (Go.Operand.tmp 24) 1, type := 0, pos := "ref.go:155", after := #[{ on := 9, ground := Go.Ground.data }], guard := none }) (v := ?_) rfl (by kernel_rfl) (by kernel_rfl) (by kernel_rfl) (fun _ _ _ h => h) (Or.inl ⟨rfl, ?_⟩) (by assumption) ?_
        rotate_left
        · intro wz hSw; (try dsimp only at hSw); go_simp; try (with_reducible rfl)
        try simp only [Act.put, List.setIfInBounds_toArray, List.set_cons_zero, List.set_cons_succ]
        refine wpAnyH_take (i := 11) (oi := { dst := some 26, op := Go.Op.load 25 (Go.Operand.tmp 25), type := 25, pos := "ref.go:155", after := #[{ on := 10, ground := Go.Ground.data }], guard := none }) (v := ?_) rfl (by kernel_rfl) (by kernel_rfl) (by kernel_rfl) (fun _ _ _ h => h) (Or.inl ⟨rfl, ?_⟩) (by assumption) ?_
        rotate_left
        · intro wz hSw; (try dsimp only at hSw); go_simp; try (with_reducible rfl)
        try simp only [Act.put, List.setIfInBounds_toArray, List.set_cons_zero, List.set_cons_succ]
        refine wpAnyH_ready (rs := [6]) (by kernel_rfl) (by simp) ?_
        refine (AllReadyH.cons (o := { dst := some 21, op := Go.Op.call { callee := Go.Callee.value (Go.Operand.func 57), args := #[Go.Operand.tmp 20], argTypes := #[9] }, type := 9, pos := "ref.go:155", after := #[{ on := 5, ground := Go.Ground.data }], guard := none }) rfl (fun K hK => ?_) AllReadyH.nil)
        go_simp
        go_at_call 57
        refine (put1_is _ _ HS _).mono ?_
        rintro e u1 ⟨rfl, hd⟩
        have hb : Below wr.heap.size wr u1 := (drew_below _ _).trans (drawn_below hd.out _)
        clear hd
        replace e0 := (hb.cell (p := ⟨blk, off + k * 3, none⟩) hbl).trans e0
        replace e1 := (hb.cell (p := ⟨blk, off + k * 3 + 1, none⟩) hbl).trans e1
        replace e2 := (hb.cell (p := ⟨blk, off + k * 3 + 2, none⟩) hbl).trans e2
        replace HO := Lib.hid (HO.out.below hb)
        replace HVC := Lib.hid (HVC.out.keep (hb.mono hBr))
        replace HB := Lib.hid (HB.out.trans (hb.mono HB.out.size))
        replace hbl := Nat.lt_of_lt_of_le hbl hb.size
        replace hBr := Nat.le_trans hBr hb.size
        clear hb
        refine hK.out _ _ ⟨e0, e1, e2⟩ (fun hHeld => ?_)
        clear hK K
        try simp only [Act.put, List.setIfInBounds_toArray, List.set_cons_zero, List.set_cons_succ]
        refine wpAnyH_ready (rs := [12]) (by kernel_rfl) (by simp) ?_
        refine (AllReadyH.cons (o := { dst := some 27, op := Go.Op.call { callee := Go.Callee.value (Go.Operand.func 58), args := #[Go.Operand.tmp 26], argTypes := #[25] }, type := 25, pos := "ref.go:155", after := #[{ on := 11, ground := Go.Ground.data }, { on := 6, ground := Go.Ground.chain }], guard := none }) rfl (fun K hK => ?_) AllReadyH.nil)
        go_simp
        go_at_call 58
        refine (Sp.cFix u Ar L cr v (B := B) (W := u1) hBr HVC.out hvl0).mono ?_
        rw [HT.out]
        rintro e u2 ⟨A2, c2, rfl, hin, hb⟩
        have HV2 := Lib.hid hin.1
        have hc2 := hin.2
        replace e0 := (hb.cell (p := ⟨blk, off + k * 3, none⟩) hbl).trans e0
        replace e1 := (hb.cell (p := ⟨blk, off + k * 3 + 1, none⟩) hbl).trans e1
        replace e2 := (hb.cell (p := ⟨blk, off + k * 3 + 2, none⟩) hbl).trans e2
        replace HO := Lib.hid (HO.out.below hb)
        replace HVC := Lib.hid (HVC.out.keep (hb.mono hBr))
        replace HB := Lib.hid (HB.out.trans (hb.mono HB.out.size))
        replace hbl := Nat.lt_of_lt_of_le hbl hb.size
        replace hBr := Nat.le_trans hBr hb.size
        clear hin hb
        refine hK.out _ _ ⟨e0, e1, e2⟩ (fun hHeld => ?_)
        clear hK K
        try simp only [Act.put, List.setIfInBounds_toArray, List.set_cons_zero, List.set_cons_succ]
        refine wpAnyH_ready (rs := [13]) (by kernel_rfl) (by simp) ?_
        refine (AllReadyH.cons (o := { dst := some 28, op := Go.Op.call { callee := Go.Callee.value (Go.Operand.func 56), args := #[Go.Operand.tmp 15, Go.Operand.tmp 21, Go.Operand.tmp 27], argTypes := #[22, 9, 25] }, type := 22, pos := "ref.go:155", after := #[{ on := 0, ground := Go.Ground.data }, { on := 6, ground := Go.Ground.data }, { on := 12, ground := Go.Ground.data }, { on := 12, ground := Go.Ground.chain }], guard := none }) rfl (fun K hK => ?_) AllReadyH.nil)
        go_simp
        go_at_call 56
        refine (rputM_any Av (List.length o) cv o s t.1 A2 c2 t.2 u2.heap.size u2 (Nat.le_refl _) HO.out.mat HV2.out hc2 (by omega) 60 HG.out.gk (small_num HTS.out) (by omega) HSR.out).mono ?_
        rintro e u3 ⟨A3, c3, rfl, ho, hb⟩
        have HO3 := Lib.hid (ho.base HB.out.size)
        replace e0 := (hb.cell (p := ⟨blk, off + k * 3, none⟩) hbl).trans e0
        replace e1 := (hb.cell (p := ⟨blk, off + k * 3 + 1, none⟩) hbl).trans e1
        replace e2 := (hb.cell (p := ⟨blk, off + k * 3 + 2, none⟩) hbl).trans e2
        replace HB := Lib.hid (HB.out.trans (hb.mono HB.out.size))
        clear ho hb
        refine hK.out _ _ ⟨e0, e1, e2⟩ (fun hHeld => ?_)
        clear hK K
        try simp only [Act.put, List.setIfInBounds_toArray, List.set_cons_zero, List.set_cons_succ]
        refine wpAnyH_take (i := 14) (oi := { dst := some 3, op := Go.Op.assign (Go.Operand.tmp 28), type := 22, pos := "ref.go:155", after := #[{ on := 13, ground := Go.Ground.data }, { on := 13, ground := Go.Ground.chain }, { on := 0, ground := Go.Ground.phase }, { on := 1, ground := Go.Ground.phase }, { on := 2, ground := Go.Ground.phase }, { on := 3, ground := Go.Ground.phase }, { on := 4, ground := Go.Ground.phase }, { on := 5, ground := Go.Ground.phase }, { on := 6, ground := Go.Ground.phase }, { on := 7, ground := Go.Ground.phase }, { on := 8, ground := Go.Ground.phase }, { on := 9, ground := Go.Ground.phase }, { on := 10, ground := Go.Ground.phase }, { on := 11, ground := Go.Ground.phase }, { on := 12, ground := Go.Ground.phase }, { on := 13, ground := Go.Ground.phase }], guard := none }) (v := ?_) rfl (by kernel_rfl) (by kernel_rfl) (by kernel_rfl) (fun _ _ _ h => h) (Or.inl ⟨rfl, ?_⟩) (by assumption) ?_
        rotate_left
        · intro wz hSw; (try dsimp only at hSw); go_simp; try (with_reducible rfl)
        try simp only [Act.put, List.setIfInBounds_toArray, List.set_cons_zero, List.set_cons_succ]
        refine wpAnyH_done (by kernel_rfl) ?_ _
        have HG2 : Hid (SM (putK o s (t.1, t.2))) := HG.out.put HSR.out HTS.out
        have hln := putK_len o s (t.1, t.2)
        generalize putK o s (t.1, t.2) = o2 at *
        clear hHeld e0 e1 e2 HO HVC HV2
        go_wp2_with fail
        go_roundw
        case rel => exact ⟨k + 1, A3, c3, o2, by omega, by omega, by omega, by go_num, rfl, HG2, HO3, HB⟩
        case measure => simp [intOf]; omega
      · have h3 : decide ((k : Int) < 10) = false := by simp; omega
        go_wp2
        go_ret
        exact ⟨o, HG.out, by omega, Av, cv, rfl, HO.out, HB.out⟩
    · skip
      go_wp2
      go_ret
      exact ⟨o, HG.out, by omega, Av, cv, rfl, HO.out, HB.out⟩
/-- One event more, as the reference has it. -/
def raddK (m : Mat) (a : ByteArray) (n : Int) : Mat := if rightL a.data.toList = true then putK m a (Sp.refAddF (mOf m a) n) else m
theorem refAdd_num {k : Nat} {s : Int × List Int} (h : Num k s) (n : Int) : Num (k + 1) (Sp.refAddF s n) := by
  obtain ⟨a, b⟩ := Sp.refAdd_ok h.ok n
  refine ⟨a, fun x hx => ?_, by have := (Sp.refAdd_bd s n).2.2; have := h.len; omega⟩
  rcases (b x).mp hx with h1 | h1
  · exact h.top x h1
  · omega
theorem raddK_eq {k : Nat} {m : Mat} (h : GK k m) (a : ByteArray) (n : Int) : raddK m a n = addK m a n := by
  unfold raddK addK
  by_cases hr : rightL a.data.toList = true
  · rw [if_pos hr]
    have hn := oneS_num n
    have hp := h.put hr (refAdd_num (h.of a) n) (by omega)
    by_cases h0 : oneS n = (0, [])
    · rw [if_neg (fun hh => hh.2 h0)]
      refine hp.1.ext h fun b => ?_
      rw [hp.2 b]
      split
      · rename_i e
        subst e
        refine (refAdd_num (h.of b) n).ext (h.of b) fun x => ?_
        rw [(Sp.refAdd_ok (h.of b).ok n).2 x]
        refine ⟨fun hh => hh.elim id fun hh => ?_, .inl⟩
        have := (hn.2 n).mpr ⟨rfl, hh.2⟩
        rw [h0] at this
        exact (mem_nil this).elim
      · rfl
    · rw [if_pos ⟨hr, h0⟩]
      have h1 := gk_one hr hn.1 h0
      refine hp.1.ext (h.merge h1) fun b => ?_
      rw [hp.2 b, mOf_merge h h1]
      by_cases e : b = a
      · subst e
        rw [if_pos rfl, mOf_head (b, oneS n) []]
        refine (refAdd_num (h.of b) n).ext ((h.of b).union hn.1) fun x => ?_
        rw [(Sp.refAdd_ok (h.of b).ok n).2 x, (h.of b).mem_union hn.1 x, hn.2 x]
      · rw [if_neg e, mOf_cons_ne (x := (a, oneS n)) (fun h => e h.symm), show mOf ([] : Mat) b = (0, []) from rfl, (h.of b).union_nil]
  · rw [if_neg hr, if_neg (fun hh => hr hh.1)]
end Go.Proofs.Ythfdjebeblmmdaa
