/- The law's To of a Know: its inner lists lie in memory of the call's own. -/
import Derived.Test.YtbookbgfipbaoaaGreatDoorH18
import Derived.Lib.SliceRun
import Derived.Deep.MidRow
import Derived.Deep.CutBlock
import Derived.Deep.DeepCutAuto
import Derived.Deep.RegionHeld3
import Derived.Test.YtbookbgfipbaoaaGreatDoorH20
import Derived.Test.YtbookbgfipbaoaaGreatDoorH6
import Derived.Test.YtbookbgfipbaoaaGreatDoorH5
import Derived.Lib.AppendZerosOnto
namespace Go.Proofs.YtbookbgfipbaoaaGreatDoor.Kn
open Go.RowKit

def CopyFar (e : TypeId) (w : World) (m : Mat) (k : Nat) (Av : Option Addr) (cv : Nat) (wr : World) : Prop := (∃ rs, absH rs = m.take k ∧ OwnsH wr w.heap.size e Av k cv rs ∧ ∀ r ∈ rs, UpK w.heap.size r) ∧ Below w.heap.size w wr
def FarMat (m : Mat) (w : World) (en : Ending) (w' : World) : Prop := ∃ A c rs, absH rs = m ∧ en = .returned (.slice A m.length c) ∧ OwnsH w' w.heap.size 100 A m.length c rs ∧ (∀ r ∈ rs, UpK w.heap.size r) ∧ Below w.heap.size w w'
set_option maxRecDepth 100000 in
set_option maxHeartbeats 4000000 in
theorem toM_far (A : Option Addr) (n c : Nat) (m : Mat) (B : Nat) (w : World) (hB : B ≤ w.heap.size) (hz : MatAt w B A n m) (hn : n ≤ 1000000) (hv : ∀ x ∈ m, x.2.2.length ≤ 1000000) :
    Calls Tryz.prog 27 #[.slice A n c] w (FarMat m w) := by
  have HL := Lib.hid hz.len
  have HZ := Lib.hid hz
  have HV := Lib.hid hv
  clear hz hv
  go_enter Tryz.func27, Tryz.ntmps27
  go_wp2
  go_loopw [3, 4] (fun v i wr => ∃ (k : Nat) (Av : Option Addr) (cv : Nat), k ≤ n ∧ i = .int .i64 k ∧ v = .slice Av k cv ∧ Hid (CopyFar 100 w m k Av cv wr)) (fun _ i _ => n - (intOf i).toNat)
  case atStart => exact ⟨0, none, 0, by omega, rfl, rfl, ⟨[], rfl, OwnsH.nil _ _ _, fun r hr => by simp at hr⟩, Below.refl _ _⟩
  case round =>
    obtain ⟨k, Av, cv, hk, rfl, rfl, HC⟩ := hrel
    obtain ⟨⟨rs, habs, hown, hup⟩, hbel⟩ := HC.out
    have HUP := Lib.hid hup
    clear hup
    have HO := Lib.hid hown
    have HB := Lib.hid hbel
    have HAB := Lib.hid habs
    clear hown hbel HC habs
    by_cases hlt : k < n
    · obtain ⟨blk, off, r, rfl, hbB, hmk, e0, e1, e2, hf⟩ := HZ.out.get (HB.out.mono hB) hlt
      have HTS := Lib.hid (takeM hmk)
      have hi1 : (k : Int) < (n : Int) := by omega
      have hvl : r.v.length ≤ 1000000 := HV.out _ (List.mem_of_getElem? hmk)
      have hbl : blk < wr.heap.size := by have := HB.out.size; omega
      have HF := Lib.hid hf
      obtain ⟨id, u, Ar, cr, v⟩ := r
      simp only at e0 e1 e2 hvl HTS
      clear hmk hf
      go_upto_region 5 with fail
      refine wp_region_held_drew (S := fun w' => w'.cell? ⟨blk, off + k * 3, none⟩ = some (.string id) ∧ w'.cell? ⟨blk, off + k * 3 + 1, none⟩ = some (.int .i64 u) ∧ w'.cell? ⟨blk, off + k * 3 + 2, none⟩ = some (.slice Ar v.length cr)) (by kernel_rfl) ⟨e0, e1, e2⟩ (fun hHeld => ?_)
      refine tk 0 ?_
      refine tk 1 ?_
      refine tk 2 ?_
      refine tk 3 ?_
      refine tk 4 ?_
      refine tk 5 ?_
      refine tk 6 ?_
      refine tk 7 ?_
      refine tk 8 ?_
      refine tk 9 ?_
      refine tk 10 ?_
      refine wpAnyH_ready (rs := [11]) (by kernel_rfl) (by simp) ?_
      refine (ac (fun K hK => ?_) AllReadyH.nil)
      go_simp
      go_at_call 99
      refine (toS_any u Ar v.length cr v B _ (by have := HB.out.size; exact Nat.le_trans hB this) (by exact HF.out.vec) (by omega)).mono ?_
      rintro e u1 ⟨A1, c1, rfl, hc1, ho, hb⟩
      dsimp only at hc1 ho ⊢
      replace e0 := (hb.cell (p := ⟨blk, off + k * 3, none⟩) hbl).trans e0
      replace e1 := (hb.cell (p := ⟨blk, off + k * 3 + 1, none⟩) hbl).trans e1
      replace e2 := (hb.cell (p := ⟨blk, off + k * 3 + 2, none⟩) hbl).trans e2
      replace hbl := Nat.lt_of_lt_of_le hbl hb.size
      have HU1 : Hid (UpK w.heap.size ⟨id, u, A1, c1, v⟩) := fun _ ad e => Nat.le_trans (by exact HB.out.size) (ho.lt ad.block (by rw [show A1 = some ad from e]; rfl)).1
      have HA1 : Hid (Apart ⟨id, u, A1, c1, v⟩ (Value.ownBlock (.slice Av k cv))) := apart_new (r := ⟨id, u, A1, c1, v⟩) HO.out (by exact ho)
      have HF1 : Hid (Fine u1 u1.heap.size ⟨id, u, A1, c1, v⟩) := ⟨Sp.own_ints ho, hc1⟩
      replace HO := Lib.hid (HO.out.below (below_via (Below.refl _ _) hb (Nat.le_refl _) ⟨rfl, rfl, rfl, rfl⟩))
      replace HB := Lib.hid (below_via HB.out hb HB.out.size ⟨rfl, rfl, rfl, rfl⟩)
      clear ho hb hc1
      refine hK.out _ _ ⟨e0, e1, e2⟩ (fun hHeld => ?_)
      clear hK K
      try simp only [Act.put, List.setIfInBounds_toArray, List.set_cons_zero, List.set_cons_succ]
      refine tk 12 ?_
      refine wpAnyH_ready (rs := [13]) (by kernel_rfl) (by simp) ?_
      refine (ac (fun K hK => ?_) AllReadyH.nil)
      go_simp
      have hb1 : Below u1.heap.size u1 (u1.alloc (.cells #[.string id, .int .i64 u, .slice A1 v.length c1] 100)) := (Below.refl _ _).alloc (Nat.le_refl _) _
      replace e0 := (hb1.cell (p := ⟨blk, off + k * 3, none⟩) hbl).trans e0
      replace e1 := (hb1.cell (p := ⟨blk, off + k * 3 + 1, none⟩) hbl).trans e1
      replace e2 := (hb1.cell (p := ⟨blk, off + k * 3 + 2, none⟩) hbl).trans e2
      replace hbl := Nat.lt_of_lt_of_le hbl hb1.size
      have HX1 : Hid (RowAt cellsH 3 (u1.alloc (.cells #[.string id, .int .i64 u, .slice A1 v.length c1] 100)) (u1.heap.size + 1) (some ⟨u1.heap.size, 0, none⟩) 1 [⟨id, u, A1, c1, v⟩]) := one_row rowM (heap_alloc_new u1 _)
      replace HO := Lib.hid (HO.out.below hb1)
      replace HF1 := Lib.hid ((HF1.out.keep hb1).more hb1.size)
      replace HB := Lib.hid (HB.out.trans (hb1.mono HB.out.size))
      clear hb1
      generalize (u1.alloc (.cells #[.string id, .int .i64 u, .slice A1 v.length c1] 100)) = u2 at *
      generalize u1.heap.size = G1 at *
      refine hK.out _ _ ⟨e0, e1, e2⟩ (fun hHeld => ?_)
      clear hK K
      try simp only [Act.put, List.setIfInBounds_toArray, List.set_cons_zero, List.set_cons_succ]
      refine wpAnyH_ready (rs := [14]) (by kernel_rfl) (by simp) ?_
      refine (ac (fun K hK => ?_) AllReadyH.nil)
      refine step_append_row rowM (B := w.heap.size) (v := .slice Av k cv) (n := k) (zs := rs) (m := 1) (ys := [⟨id, u, A1, c1, v⟩]) (by rfl) _ _ (by rfl) (by rfl) HO.out.own (by rfl) HX1.out (by omega) (by exact HB.out.size) ?_
      intro A3 c3 w3 hown3 hg3 hat3
      have nk : some blk ≠ Value.ownBlock (.slice Av k cv) := fun e => by have := (HO.out.own.lt blk e.symm).1; omega
      replace e0 := (World.cell?_of_block (a := ⟨blk, off + k * 3, none⟩) (hg3.block blk hbl nk)).trans e0
      replace e1 := (World.cell?_of_block (a := ⟨blk, off + k * 3 + 1, none⟩) (hg3.block blk hbl nk)).trans e1
      replace e2 := (World.cell?_of_block (a := ⟨blk, off + k * 3 + 2, none⟩) (hg3.block blk hbl nk)).trans e2
      have HO3 := Lib.hid (HO.out.snoc HF1.out HA1.out hown3 hg3 hat3)
      replace HB := Lib.hid (HB.out.grown hg3 HB.out.size (fun g e => (HO.out.own.lt g e).1))
      clear hown3 hg3 hat3 nk HO HX1 HF1 HA1
      refine hK.out _ _ ⟨e0, e1, e2⟩ (fun hHeld => ?_)
      clear hK K
      try simp only [Act.put, List.setIfInBounds_toArray, List.set_cons_zero, List.set_cons_succ]
      refine tk 15 ?_
      refine wpAnyH_done (by kernel_rfl) ?_ _
      have HC3 : Hid (CopyFar 100 w m (k + 1) A3 c3 w3) := ⟨⟨rs ++ [⟨id, u, A1, c1, v⟩], by rw [absH_append, HAB.out, HTS.out]; rfl, HO3.out, fun r hr => by
        rcases List.mem_append.mp hr with hr | hr
        · exact HUP.out r hr
        · simp at hr; subst hr; exact HU1.out⟩, HB.out⟩
      clear HO3 hHeld e0 e1 e2
      go_wp2
      go_roundw
      case rel => exact ⟨k + 1, A3, c3, by omega, by go_num, rfl, HC3⟩
      case measure => simp [intOf]; omega
    · obtain rfl : k = n := by omega
      have HT : Hid (m.take k = m) := List.take_of_length_le (by have := HL.out; omega)
      go_wp2
      go_ret
      rw [← HL.out] at HO ⊢
      exact ⟨Av, cv, rs, by rw [HAB.out, HT.out], rfl, HO.out, HUP.out, HB.out⟩
end Go.Proofs.YtbookbgfipbaoaaGreatDoor.Kn

/- The law's To of a Matrix: its inner lists lie in memory of the call's own. -/
namespace Go.Proofs.YtbookbgfipbaoaaGreatDoor.Mx
open Go.RowKit

def CopyFar (e : TypeId) (w : World) (m : Mat) (k : Nat) (Av : Option Addr) (cv : Nat) (wr : World) : Prop := (∃ rs, absH rs = m.take k ∧ OwnsH wr w.heap.size e Av k cv rs ∧ ∀ r ∈ rs, UpM w.heap.size r) ∧ Below w.heap.size w wr
def FarMat (m : Mat) (w : World) (en : Ending) (w' : World) : Prop := ∃ A c rs, absH rs = m ∧ en = .returned (.slice A m.length c) ∧ OwnsH w' w.heap.size 105 A m.length c rs ∧ (∀ r ∈ rs, UpM w.heap.size r) ∧ Below w.heap.size w w'
set_option maxRecDepth 100000 in
set_option maxHeartbeats 4000000 in
theorem toM_far (A : Option Addr) (n c : Nat) (m : Mat) (B : Nat) (w : World) (hB : B ≤ w.heap.size) (hz : MatAt w B A n m) (hn : n ≤ 1000000) (hv : ∀ x ∈ m, x.2.length ≤ 1000000) :
    Calls Tryz.prog 30 #[.slice A n c] w (FarMat m w) := by
  have HL := Lib.hid hz.len
  have HZ := Lib.hid hz
  have HV := Lib.hid hv
  clear hz hv
  go_enter Tryz.func30, Tryz.ntmps30
  go_wp2
  go_loopw [3, 4] (fun v i wr => ∃ (k : Nat) (Av : Option Addr) (cv : Nat), k ≤ n ∧ i = .int .i64 k ∧ v = .slice Av k cv ∧ Hid (CopyFar 105 w m k Av cv wr)) (fun _ i _ => n - (intOf i).toNat)
  case atStart => exact ⟨0, none, 0, by omega, rfl, rfl, ⟨[], rfl, OwnsH.nil _ _ _, fun r hr => by simp at hr⟩, Below.refl _ _⟩
  case round =>
    obtain ⟨k, Av, cv, hk, rfl, rfl, HC⟩ := hrel
    obtain ⟨⟨rs, habs, hown, hup⟩, hbel⟩ := HC.out
    have HUP := Lib.hid hup
    clear hup
    have HO := Lib.hid hown
    have HB := Lib.hid hbel
    have HAB := Lib.hid habs
    clear hown hbel HC habs
    by_cases hlt : k < n
    · obtain ⟨blk, off, r, rfl, hbB, hmk, e0, e1, hf⟩ := HZ.out.get (HB.out.mono hB) hlt
      have HTS := Lib.hid (takeM hmk)
      have hi1 : (k : Int) < (n : Int) := by omega
      have hvl : r.v.length ≤ 1000000 := HV.out _ (List.mem_of_getElem? hmk)
      have hbl : blk < wr.heap.size := by have := HB.out.size; omega
      have HF := Lib.hid hf
      obtain ⟨id, Ar, cr, v⟩ := r
      simp only at e0 e1 hvl HTS
      clear hmk hf
      go_upto_region 5 with fail
      refine wp_region_held_drew (S := fun w' => w'.cell? ⟨blk, off + k * 2, none⟩ = some (.string id) ∧ w'.cell? ⟨blk, off + k * 2 + 1, none⟩ = some (.slice Ar v.length cr)) (by kernel_rfl) ⟨e0, e1⟩ (fun hHeld => ?_)
      refine tk 0 ?_
      refine tk 1 ?_
      refine tk 2 ?_
      refine tk 3 ?_
      refine tk 4 ?_
      refine tk 5 ?_
      refine tk 6 ?_
      refine tk 7 ?_
      refine tk 8 ?_
      refine tk 9 ?_
      refine tk 10 ?_
      refine wpAnyH_ready (rs := [11]) (by kernel_rfl) (by simp) ?_
      refine (ac (fun K hK => ?_) AllReadyH.nil)
      go_simp
      go_at_call 29
      refine (to_any Ar v.length cr v B _ (by have := HB.out.size; exact Nat.le_trans hB this) (by exact HF.out.vec) (by omega)).mono ?_
      rintro e u1 ⟨A1, c1, rfl, hc1, ho, hb⟩
      replace e0 := (hb.cell (p := ⟨blk, off + k * 2, none⟩) hbl).trans e0
      replace e1 := (hb.cell (p := ⟨blk, off + k * 2 + 1, none⟩) hbl).trans e1
      replace hbl := Nat.lt_of_lt_of_le hbl hb.size
      have HU1 : Hid (UpM w.heap.size ⟨id, A1, c1, v⟩) := fun _ ad e => Nat.le_trans (by exact HB.out.size) (ho.lt ad.block (by rw [show A1 = some ad from e]; rfl)).1
      have HA1 : Hid (Apart ⟨id, A1, c1, v⟩ (Value.ownBlock (.slice Av k cv))) := apart_new (r := ⟨id, A1, c1, v⟩) HO.out (by exact ho)
      have HF1 : Hid (Fine u1 u1.heap.size ⟨id, A1, c1, v⟩) := ⟨own_vec ho, hc1⟩
      replace HO := Lib.hid (HO.out.below (below_via (Below.refl _ _) hb (Nat.le_refl _) ⟨rfl, rfl, rfl, rfl⟩))
      replace HB := Lib.hid (below_via HB.out hb HB.out.size ⟨rfl, rfl, rfl, rfl⟩)
      clear ho hb hc1
      refine hK.out _ _ ⟨e0, e1⟩ (fun hHeld => ?_)
      clear hK K
      try simp only [Act.put, List.setIfInBounds_toArray, List.set_cons_zero, List.set_cons_succ]
      refine tk 12 ?_
      refine wpAnyH_ready (rs := [13]) (by kernel_rfl) (by simp) ?_
      refine (ac (fun K hK => ?_) AllReadyH.nil)
      go_simp
      have hb1 : Below u1.heap.size u1 (u1.alloc (.cells #[.string id, .slice A1 v.length c1] 105)) := (Below.refl _ _).alloc (Nat.le_refl _) _
      replace e0 := (hb1.cell (p := ⟨blk, off + k * 2, none⟩) hbl).trans e0
      replace e1 := (hb1.cell (p := ⟨blk, off + k * 2 + 1, none⟩) hbl).trans e1
      replace hbl := Nat.lt_of_lt_of_le hbl hb1.size
      have HX1 : Hid (RowAt cellsH 2 (u1.alloc (.cells #[.string id, .slice A1 v.length c1] 105)) (u1.heap.size + 1) (some ⟨u1.heap.size, 0, none⟩) 1 [⟨id, A1, c1, v⟩]) := one_row rowM (heap_alloc_new u1 _)
      replace HO := Lib.hid (HO.out.below hb1)
      replace HF1 := Lib.hid ((HF1.out.keep hb1).more hb1.size)
      replace HB := Lib.hid (HB.out.trans (hb1.mono HB.out.size))
      clear hb1
      generalize (u1.alloc (.cells #[.string id, .slice A1 v.length c1] 105)) = u2 at *
      generalize u1.heap.size = G1 at *
      refine hK.out _ _ ⟨e0, e1⟩ (fun hHeld => ?_)
      clear hK K
      try simp only [Act.put, List.setIfInBounds_toArray, List.set_cons_zero, List.set_cons_succ]
      refine wpAnyH_ready (rs := [14]) (by kernel_rfl) (by simp) ?_
      refine (ac (fun K hK => ?_) AllReadyH.nil)
      refine step_append_row rowM (B := w.heap.size) (v := .slice Av k cv) (n := k) (zs := rs) (m := 1) (ys := [⟨id, A1, c1, v⟩]) (by rfl) _ _ (by rfl) (by rfl) HO.out.own (by rfl) HX1.out (by omega) (by exact HB.out.size) ?_
      intro A3 c3 w3 hown3 hg3 hat3
      have nk : some blk ≠ Value.ownBlock (.slice Av k cv) := fun e => by have := (HO.out.own.lt blk e.symm).1; omega
      replace e0 := (World.cell?_of_block (a := ⟨blk, off + k * 2, none⟩) (hg3.block blk hbl nk)).trans e0
      replace e1 := (World.cell?_of_block (a := ⟨blk, off + k * 2 + 1, none⟩) (hg3.block blk hbl nk)).trans e1
      have HO3 := Lib.hid (HO.out.snoc HF1.out HA1.out hown3 hg3 hat3)
      replace HB := Lib.hid (HB.out.grown hg3 HB.out.size (fun g e => (HO.out.own.lt g e).1))
      clear hown3 hg3 hat3 nk HO HX1 HF1 HA1
      refine hK.out _ _ ⟨e0, e1⟩ (fun hHeld => ?_)
      clear hK K
      try simp only [Act.put, List.setIfInBounds_toArray, List.set_cons_zero, List.set_cons_succ]
      refine tk 15 ?_
      refine wpAnyH_done (by kernel_rfl) ?_ _
      have HC3 : Hid (CopyFar 105 w m (k + 1) A3 c3 w3) := ⟨⟨rs ++ [⟨id, A1, c1, v⟩], by rw [absH_append, HAB.out, HTS.out]; rfl, HO3.out, fun r hr => by
        rcases List.mem_append.mp hr with hr | hr
        · exact HUP.out r hr
        · simp at hr; subst hr; exact HU1.out⟩, HB.out⟩
      clear HO3 hHeld e0 e1
      go_wp2
      go_roundw
      case rel => exact ⟨k + 1, A3, c3, by omega, by go_num, rfl, HC3⟩
      case measure => simp [intOf]; omega
    · obtain rfl : k = n := by omega
      have HT : Hid (m.take k = m) := List.take_of_length_le (by have := HL.out; omega)
      go_wp2
      go_ret
      rw [← HL.out] at HO ⊢
      exact ⟨Av, cv, rs, by rw [HAB.out, HT.out], rfl, HO.out, HUP.out, HB.out⟩
end Go.Proofs.YtbookbgfipbaoaaGreatDoor.Mx

/- the law of frames: To. -/
namespace Go.Proofs.YtbookbgfipbaoaaGreatDoor
open Go.RowKit

theorem blk_twelve {w : World} {b : Nat} {u0 u1 u2 u3 u4 u5 u6 u7 u8 u9 u10 u11 v0 v1 v2 v3 v4 v5 v6 v7 v8 v9 v10 v11 : Value} (h : Blk w b [u0, u1, u2, u3, u4, u5, u6, u7, u8, u9, u10, u11]) : Blk (sets12 w b v0 v1 v2 v3 v4 v5 v6 v7 v8 v9 v10 v11) b [v0, v1, v2, v3, v4, v5, v6, v7, v8, v9, v10, v11] :=
  (((((((((((h.set 0 (by simp) v0).set 1 (by simp) v1).set 2 (by simp) v2).set 3 (by simp) v3).set 4 (by simp) v4).set 5 (by simp) v5).set 6 (by simp) v6).set 7 (by simp) v7).set 8 (by simp) v8).set 9 (by simp) v9).set 10 (by simp) v10).set 11 (by simp) v11
/-- The lists of a Frame as the document has it lie there. -/
structure RFrmAt (w : World) (B : Nat) (f : Frm) (h : Lie) : Prop where
  know : Kn.MatAt w B h.kA f.know.length f.know
  members : RowAt cellsT 1 w B h.mA f.members.length f.members
  certs : VecAt w B h.cA f.certs.length f.certs
  rows : Mx.MatAt w B h.rA f.rows.length f.rows
  zone : RowAt Zo.cellsR 4 w B h.zA f.zone.length f.zone
  items : RowAt By.cellsI 9 w B h.iA f.items.length f.items
  floor : VecAt w B h.fA f.floor.length f.floor
theorem RFrmAt.keep {w w' : World} {B : Nat} {f : Frm} {h : Lie} (k : RFrmAt w B f h) (hb : Below B w w') : RFrmAt w' B f h :=
  ⟨k.know.keep hb, k.members.keep hb, k.certs.keep hb, k.rows.keep hb, k.zone.keep hb, k.items.keep hb, k.floor.keep hb⟩
def LFrom (X : World → Option Addr → Nat → Prop) (n : Nat) (W : World) (e : Ending) (w' : World) : Prop := ∃ A c, e = .returned (.slice A n c) ∧ X w' A n ∧ Below W.heap.size W w'
def FrmRet (f : Frm) (w : World) (e : Ending) (w' : World) : Prop := ∃ h : Lie, e = .returned (frmV f h) ∧ FrmAt w' w'.heap.size f h ∧ Below w.heap.size w w'
theorem low_v {B B' : Nat} {w : World} {A : Option Addr} {n : Nat} {zs : List At} (h : VecFrom B w A n zs) (hB : B' ≤ B) : VecFrom B' w A n zs := ⟨h.1, fun hn ad e => Nat.le_trans hB (h.2 hn ad e)⟩
theorem low_k {B B' : Nat} {w : World} {A : Option Addr} {n : Nat} {m : Kn.Mat} (h : MatKFrom B w A n m) (hB : B' ≤ B) : MatKFrom B' w A n m := by
  obtain ⟨rs, e, h1, h2⟩ := h
  exact ⟨rs, e, row_low h1 hB, fun r hr => ⟨(h2 r hr).1, fun hn ad e => Nat.le_trans hB ((h2 r hr).2 hn ad e)⟩⟩
theorem low_m {B B' : Nat} {w : World} {A : Option Addr} {n : Nat} {m : Mx.Mat} (h : MatMFrom B w A n m) (hB : B' ≤ B) : MatMFrom B' w A n m := by
  obtain ⟨rs, e, h1, h2⟩ := h
  exact ⟨rs, e, row_low h1 hB, fun r hr => ⟨(h2 r hr).1, fun hn ad e => Nat.le_trans hB ((h2 r hr).2 hn ad e)⟩⟩
set_option maxRecDepth 100000 in
set_option maxHeartbeats 8000000 in
theorem to12_any (f : Frm) (h : Lie) (B : Nat) (w : World) (hB : B ≤ w.heap.size) (ha : RFrmAt w B f h) (na : FewF f) :
    Calls Tryz.prog 11 #[frmV f h] w (FrmRet f w) := by
  have HC1 : Hid (∀ W, Below w.heap.size w W → Calls Tryz.prog 27 #[.slice h.kA f.know.length h.kc] W (LFrom (fun u A n => MatKFrom W.heap.size u A n f.know) f.know.length W)) := fun W hb => by
      refine (Kn.toM_far _ _ h.kc f.know B W (Nat.le_trans hB hb.size) (ha.know.keep (hb.mono hB)) (by have := na.know.1; omega) (fun x hx => by have := na.know.2 x hx; omega)).mono ?_
      rintro e w1 ⟨A, c, rs, e1, rfl, h1, h2, h3⟩
      exact ⟨A, c, rfl, MatKFrom.own e1 h1 h2 (Nat.le_refl _), h3⟩
  have HC2 : Hid (∀ W, Below w.heap.size w W → Calls Tryz.prog 28 #[.slice h.mA f.members.length h.mc] W (LFrom (fun u A n => RowFrom cellsT 1 W.heap.size u A n f.members) f.members.length W)) := fun W hb => by
      refine (idTo_any _ _ h.mc f.members B W (Nat.le_trans hB hb.size) (ha.members.keep (hb.mono hB)) (by have := na.members; omega)).mono ?_
      rintro e w1 ⟨A, c, rfl, h1, h3⟩
      exact ⟨A, c, rfl, RowFrom.own rowT h1 (Nat.le_refl _), h3⟩
  have HC3 : Hid (∀ W, Below w.heap.size w W → Calls Tryz.prog 29 #[.slice h.cA f.certs.length h.cc] W (LFrom (fun u A n => VecFrom W.heap.size u A n f.certs) f.certs.length W)) := fun W hb => by
      refine (to_any _ _ h.cc f.certs B W (Nat.le_trans hB hb.size) (ha.certs.keep (hb.mono hB)) (by have := na.certs; omega)).mono ?_
      rintro e w1 ⟨A, c, rfl, _, h1, h3⟩
      exact ⟨A, c, rfl, VecFrom.own h1 (Nat.le_refl _), h3⟩
  have HC4 : Hid (∀ W, Below w.heap.size w W → Calls Tryz.prog 30 #[.slice h.rA f.rows.length h.rc] W (LFrom (fun u A n => MatMFrom W.heap.size u A n f.rows) f.rows.length W)) := fun W hb => by
      refine (Mx.toM_far _ _ h.rc f.rows B W (Nat.le_trans hB hb.size) (ha.rows.keep (hb.mono hB)) (by have := na.rows.1; omega) (fun x hx => by have := na.rows.2 x hx; omega)).mono ?_
      rintro e w1 ⟨A, c, rs, e1, rfl, h1, h2, h3⟩
      exact ⟨A, c, rfl, MatMFrom.own e1 h1 h2 (Nat.le_refl _), h3⟩
  have HC5 : Hid (∀ W, Below w.heap.size w W → Calls Tryz.prog 31 #[.slice h.zA f.zone.length h.zc] W (LFrom (fun u A n => RowFrom Zo.cellsZ 3 W.heap.size u A n (f.zone.map Zo.toS)) f.zone.length W)) := fun W hb => by
      refine (Zo.to_any _ _ h.zc f.zone B W (Nat.le_trans hB hb.size) (ha.zone.keep (hb.mono hB)) (by have := na.zone.1; omega)).mono ?_
      rintro e w1 ⟨A, c, rfl, h1, h3⟩
      rw [List.length_map] at h1
      exact ⟨A, c, by rw [List.length_map], RowFrom.own Zo.rowZ h1 (Nat.le_refl _), h3⟩
  have HC6 : Hid (∀ W, Below w.heap.size w W → Calls Tryz.prog 32 #[.slice h.iA f.items.length h.ic] W (LFrom (fun u A n => RowFrom By.cellsP 8 W.heap.size u A n f.items) f.items.length W)) := fun W hb => by
      refine (By.rowTo_any _ _ h.ic f.items B W (Nat.le_trans hB hb.size) (ha.items.keep (hb.mono hB)) (by have := na.items.1; omega)).mono ?_
      rintro e w1 ⟨A, c, rfl, h1, h3⟩
      exact ⟨A, c, rfl, RowFrom.own By.rowP h1 (Nat.le_refl _), h3⟩
  have HC7 : Hid (∀ W, Below w.heap.size w W → Calls Tryz.prog 29 #[.slice h.fA f.floor.length h.fc] W (LFrom (fun u A n => VecFrom W.heap.size u A n f.floor) f.floor.length W)) := fun W hb => by
      refine (to_any _ _ h.fc f.floor B W (Nat.le_trans hB hb.size) (ha.floor.keep (hb.mono hB)) (by have := na.floor; omega)).mono ?_
      rintro e w1 ⟨A, c, rfl, _, h1, h3⟩
      exact ⟨A, c, rfl, VecFrom.own h1 (Nat.le_refl _), h3⟩
  have HD : Hid (∀ (h' : Lie) (w' : World), Kn.MatAt w' w'.heap.size h'.kA f.know.length f.know → RowAt cellsT 1 w' w'.heap.size h'.mA f.members.length f.members → VecAt w' w'.heap.size h'.cA f.certs.length f.certs → Mx.MatAt w' w'.heap.size h'.rA f.rows.length f.rows → RowAt Zo.cellsZ 3 w' w'.heap.size h'.zA f.zone.length (f.zone.map Zo.toS) → RowAt By.cellsP 8 w' w'.heap.size h'.iA f.items.length f.items → VecAt w' w'.heap.size h'.fA f.floor.length f.floor → Below w.heap.size w w' → FrmRet f w (.returned (frmV f h')) w') := fun h' w' a1 a2 a3 a4 a5 a6 a7 a8 => ⟨h', rfl, ⟨a1, a2, a3, a4, ⟨_, a5, Zo.to_like fun r hr => Zo.small_64 (na.zone.2 r hr)⟩, a6, a7⟩, a8⟩
  generalize FrmRet f w = PR at *
  clear ha na hB
  unfold LFrom at HC1 HC2 HC3 HC4 HC5 HC6 HC7
  unfold frmV at HD ⊢
  obtain ⟨p1, p2, p3, p4, p5, p6, p7, p8, p9, p10, p11, p12⟩ := f
  simp only at HC1 HC2 HC3 HC4 HC5 HC6 HC7 HD ⊢
  generalize h = hh at *
  go_enter Tryz.func11, Tryz.ntmps11
  go_upto_region 1 with fail
  have HKB : Hid (Blk ((w.alloc (.cells #[.int .i64 p1, .string p2, .string p3, .slice hh.kA p4.length hh.kc, .int .i64 p5, .slice hh.mA p6.length hh.mc, .slice hh.cA p7.length hh.cc, .slice hh.rA p8.length hh.rc, .slice hh.zA p9.length hh.zc, .slice hh.iA p10.length hh.ic, .bool p11, .slice hh.fA p12.length hh.fc] 29)).alloc (.cells #[.int .i64 0, .string ⟨#[]⟩, .string ⟨#[]⟩, .slice none 0 0, .int .i64 0, .slice none 0 0, .slice none 0 0, .slice none 0 0, .slice none 0 0, .slice none 0 0, .bool false, .slice none 0 0] 45)) w.heap.size [.int .i64 p1, .string p2, .string p3, .slice hh.kA p4.length hh.kc, .int .i64 p5, .slice hh.mA p6.length hh.mc, .slice hh.cA p7.length hh.cc, .slice hh.rA p8.length hh.rc, .slice hh.zA p9.length hh.zc, .slice hh.iA p10.length hh.ic, .bool p11, .slice hh.fA p12.length hh.fc]) := (Blk.new w [.int .i64 p1, .string p2, .string p3, .slice hh.kA p4.length hh.kc, .int .i64 p5, .slice hh.mA p6.length hh.mc, .slice hh.cA p7.length hh.cc, .slice hh.rA p8.length hh.rc, .slice hh.zA p9.length hh.zc, .slice hh.iA p10.length hh.ic, .bool p11, .slice hh.fA p12.length hh.fc] 29).below ((Below.refl _ _).alloc (Nat.le_refl _) _)
  have HZB : Hid (Blk ((w.alloc (.cells #[.int .i64 p1, .string p2, .string p3, .slice hh.kA p4.length hh.kc, .int .i64 p5, .slice hh.mA p6.length hh.mc, .slice hh.cA p7.length hh.cc, .slice hh.rA p8.length hh.rc, .slice hh.zA p9.length hh.zc, .slice hh.iA p10.length hh.ic, .bool p11, .slice hh.fA p12.length hh.fc] 29)).alloc (.cells #[.int .i64 0, .string ⟨#[]⟩, .string ⟨#[]⟩, .slice none 0 0, .int .i64 0, .slice none 0 0, .slice none 0 0, .slice none 0 0, .slice none 0 0, .slice none 0 0, .bool false, .slice none 0 0] 45)) (w.heap.size + 1) [.int .i64 0, .string ⟨#[]⟩, .string ⟨#[]⟩, .slice none 0 0, .int .i64 0, .slice none 0 0, .slice none 0 0, .slice none 0 0, .slice none 0 0, .slice none 0 0, .bool false, .slice none 0 0]) := by have := Blk.new (w.alloc (.cells #[.int .i64 p1, .string p2, .string p3, .slice hh.kA p4.length hh.kc, .int .i64 p5, .slice hh.mA p6.length hh.mc, .slice hh.cA p7.length hh.cc, .slice hh.rA p8.length hh.rc, .slice hh.zA p9.length hh.zc, .slice hh.iA p10.length hh.ic, .bool p11, .slice hh.fA p12.length hh.fc] 29)) [.int .i64 0, .string ⟨#[]⟩, .string ⟨#[]⟩, .slice none 0 0, .int .i64 0, .slice none 0 0, .slice none 0 0, .slice none 0 0, .slice none 0 0, .slice none 0 0, .bool false, .slice none 0 0] 45; exact Lib.hid (by simpa using this)
  have HB : Hid (Below w.heap.size w ((w.alloc (.cells #[.int .i64 p1, .string p2, .string p3, .slice hh.kA p4.length hh.kc, .int .i64 p5, .slice hh.mA p6.length hh.mc, .slice hh.cA p7.length hh.cc, .slice hh.rA p8.length hh.rc, .slice hh.zA p9.length hh.zc, .slice hh.iA p10.length hh.ic, .bool p11, .slice hh.fA p12.length hh.fc] 29)).alloc (.cells #[.int .i64 0, .string ⟨#[]⟩, .string ⟨#[]⟩, .slice none 0 0, .int .i64 0, .slice none 0 0, .slice none 0 0, .slice none 0 0, .slice none 0 0, .slice none 0 0, .bool false, .slice none 0 0] 45))) := ((Below.refl _ _).alloc (Nat.le_refl _) _).alloc (by simp) _
  generalize ((w.alloc (.cells #[.int .i64 p1, .string p2, .string p3, .slice hh.kA p4.length hh.kc, .int .i64 p5, .slice hh.mA p6.length hh.mc, .slice hh.cA p7.length hh.cc, .slice hh.rA p8.length hh.rc, .slice hh.zA p9.length hh.zc, .slice hh.iA p10.length hh.ic, .bool p11, .slice hh.fA p12.length hh.fc] 29)).alloc (.cells #[.int .i64 0, .string ⟨#[]⟩, .string ⟨#[]⟩, .slice none 0 0, .int .i64 0, .slice none 0 0, .slice none 0 0, .slice none 0 0, .slice none 0 0, .slice none 0 0, .bool false, .slice none 0 0] 45)) = W0 at *
  generalize hP1 : w.heap.size + 1 = P1 at *
  obtain ⟨k0, k1, k2, k3, k4, k5, k6, k7, k8, k9, k10, k11⟩ := HKB.out.cs
  have hPP : ¬ w.heap.size = P1 := by omega
  have hPP' : ¬ P1 = w.heap.size := by omega
  refine wp_region_held_drew (S := fun w' => w'.cell? ⟨w.heap.size, 0, none⟩ = some (.int .i64 p1) ∧ w'.cell? ⟨w.heap.size, 1, none⟩ = some (.string p2) ∧ w'.cell? ⟨w.heap.size, 2, none⟩ = some (.string p3) ∧ w'.cell? ⟨w.heap.size, 3, none⟩ = some (.slice hh.kA p4.length hh.kc) ∧ w'.cell? ⟨w.heap.size, 4, none⟩ = some (.int .i64 p5) ∧ w'.cell? ⟨w.heap.size, 5, none⟩ = some (.slice hh.mA p6.length hh.mc) ∧ w'.cell? ⟨w.heap.size, 6, none⟩ = some (.slice hh.cA p7.length hh.cc) ∧ w'.cell? ⟨w.heap.size, 7, none⟩ = some (.slice hh.rA p8.length hh.rc) ∧ w'.cell? ⟨w.heap.size, 8, none⟩ = some (.slice hh.zA p9.length hh.zc) ∧ w'.cell? ⟨w.heap.size, 9, none⟩ = some (.slice hh.iA p10.length hh.ic) ∧ w'.cell? ⟨w.heap.size, 10, none⟩ = some (.bool p11) ∧ w'.cell? ⟨w.heap.size, 11, none⟩ = some (.slice hh.fA p12.length hh.fc)) (by kernel_rfl) ⟨k0, k1, k2, k3, k4, k5, k6, k7, k8, k9, k10, k11⟩ (fun hHeld => ?_)
  refine tk 0 ?_
  refine tk 1 ?_
  refine tk 2 ?_
  refine tk 3 ?_
  refine tk 4 ?_
  refine tk 5 ?_
  refine tk 6 ?_
  refine tk 7 ?_
  refine tk 9 ?_
  refine tk 10 ?_
  refine tk 11 ?_
  refine tk 12 ?_
  refine tk 14 ?_
  refine tk 15 ?_
  refine tk 17 ?_
  refine tk 18 ?_
  refine tk 20 ?_
  refine tk 21 ?_
  refine tk 23 ?_
  refine tk 24 ?_
  refine tk 26 ?_
  refine tk 27 ?_
  refine tk 28 ?_
  refine tk 29 ?_
  refine wpAnyH_ready (rs := [8]) (by kernel_rfl) (by simp) ?_
  refine ac (fun K hK => ?_) AllReadyH.nil
  go_simp
  go_at_call 27
  refine (HC1.out _ (by exact Zo.below_drewish HB.out)).mono ?_
  rintro e u1 ⟨A1, c1, rfl, hx, hb⟩
  replace hb := Kn.below_via (Below.refl W0.heap.size W0) hb (Nat.le_refl _) ⟨rfl, rfl, rfl, rfl⟩
  have hzq : P1 + 1 ≤ W0.heap.size := HZB.out.z
  clear k0 k1 k2 k3 k4 k5 k6 k7 k8 k9 k10 k11
  replace HKB := Lib.hid (HKB.out.below hb)
  replace HZB := Lib.hid (HZB.out.below hb)
  obtain ⟨k0, k1, k2, k3, k4, k5, k6, k7, k8, k9, k10, k11⟩ := HKB.out.cs
  have F1 := Lib.hid (low_k hx hzq)
  replace HB := Lib.hid (HB.out.trans (hb.mono HB.out.size))
  clear hb hx hzq HC1
  refine hK.out _ _ ⟨k0, k1, k2, k3, k4, k5, k6, k7, k8, k9, k10, k11⟩ (fun hHeld => ?_)
  clear hK K
  try simp only [Act.put, List.setIfInBounds_toArray, List.set_cons_zero, List.set_cons_succ]
  refine wpAnyH_ready (rs := [13]) (by kernel_rfl) (by simp) ?_
  refine ac (fun K hK => ?_) AllReadyH.nil
  go_simp
  go_at_call 28
  refine (HC2.out _ (by exact HB.out)).mono ?_
  rintro e u2 ⟨A2, c2, rfl, hx, hb⟩
  replace hb := Kn.below_via (Below.refl u1.heap.size u1) hb (Nat.le_refl _) ⟨rfl, rfl, rfl, rfl⟩
  have hzq : P1 + 1 ≤ u1.heap.size := HZB.out.z
  clear k0 k1 k2 k3 k4 k5 k6 k7 k8 k9 k10 k11
  replace HKB := Lib.hid (HKB.out.below hb)
  replace HZB := Lib.hid (HZB.out.below hb)
  obtain ⟨k0, k1, k2, k3, k4, k5, k6, k7, k8, k9, k10, k11⟩ := HKB.out.cs
  replace F1 := Lib.hid (F1.out.above (Above.below hb))
  have F2 := Lib.hid (row_low hx hzq)
  replace HB := Lib.hid (HB.out.trans (hb.mono HB.out.size))
  clear hb hx hzq HC2
  refine hK.out _ _ ⟨k0, k1, k2, k3, k4, k5, k6, k7, k8, k9, k10, k11⟩ (fun hHeld => ?_)
  clear hK K
  try simp only [Act.put, List.setIfInBounds_toArray, List.set_cons_zero, List.set_cons_succ]
  refine wpAnyH_ready (rs := [16]) (by kernel_rfl) (by simp) ?_
  refine ac (fun K hK => ?_) AllReadyH.nil
  go_simp
  go_at_call 29
  refine (HC3.out _ (by exact HB.out)).mono ?_
  rintro e u3 ⟨A3, c3, rfl, hx, hb⟩
  replace hb := Kn.below_via (Below.refl u2.heap.size u2) hb (Nat.le_refl _) ⟨rfl, rfl, rfl, rfl⟩
  have hzq : P1 + 1 ≤ u2.heap.size := HZB.out.z
  clear k0 k1 k2 k3 k4 k5 k6 k7 k8 k9 k10 k11
  replace HKB := Lib.hid (HKB.out.below hb)
  replace HZB := Lib.hid (HZB.out.below hb)
  obtain ⟨k0, k1, k2, k3, k4, k5, k6, k7, k8, k9, k10, k11⟩ := HKB.out.cs
  replace F1 := Lib.hid (F1.out.above (Above.below hb))
  replace F2 := Lib.hid (F2.out.above (Above.below hb))
  have F3 := Lib.hid (low_v hx hzq)
  replace HB := Lib.hid (HB.out.trans (hb.mono HB.out.size))
  clear hb hx hzq HC3
  refine hK.out _ _ ⟨k0, k1, k2, k3, k4, k5, k6, k7, k8, k9, k10, k11⟩ (fun hHeld => ?_)
  clear hK K
  try simp only [Act.put, List.setIfInBounds_toArray, List.set_cons_zero, List.set_cons_succ]
  refine wpAnyH_ready (rs := [19]) (by kernel_rfl) (by simp) ?_
  refine ac (fun K hK => ?_) AllReadyH.nil
  go_simp
  go_at_call 30
  refine (HC4.out _ (by exact HB.out)).mono ?_
  rintro e u4 ⟨A4, c4, rfl, hx, hb⟩
  replace hb := Kn.below_via (Below.refl u3.heap.size u3) hb (Nat.le_refl _) ⟨rfl, rfl, rfl, rfl⟩
  have hzq : P1 + 1 ≤ u3.heap.size := HZB.out.z
  clear k0 k1 k2 k3 k4 k5 k6 k7 k8 k9 k10 k11
  replace HKB := Lib.hid (HKB.out.below hb)
  replace HZB := Lib.hid (HZB.out.below hb)
  obtain ⟨k0, k1, k2, k3, k4, k5, k6, k7, k8, k9, k10, k11⟩ := HKB.out.cs
  replace F1 := Lib.hid (F1.out.above (Above.below hb))
  replace F2 := Lib.hid (F2.out.above (Above.below hb))
  replace F3 := Lib.hid (F3.out.above (Above.below hb))
  have F4 := Lib.hid (low_m hx hzq)
  replace HB := Lib.hid (HB.out.trans (hb.mono HB.out.size))
  clear hb hx hzq HC4
  refine hK.out _ _ ⟨k0, k1, k2, k3, k4, k5, k6, k7, k8, k9, k10, k11⟩ (fun hHeld => ?_)
  clear hK K
  try simp only [Act.put, List.setIfInBounds_toArray, List.set_cons_zero, List.set_cons_succ]
  refine wpAnyH_ready (rs := [22]) (by kernel_rfl) (by simp) ?_
  refine ac (fun K hK => ?_) AllReadyH.nil
  go_simp
  go_at_call 31
  refine (HC5.out _ (by exact HB.out)).mono ?_
  rintro e u5 ⟨A5, c5, rfl, hx, hb⟩
  replace hb := Kn.below_via (Below.refl u4.heap.size u4) hb (Nat.le_refl _) ⟨rfl, rfl, rfl, rfl⟩
  have hzq : P1 + 1 ≤ u4.heap.size := HZB.out.z
  clear k0 k1 k2 k3 k4 k5 k6 k7 k8 k9 k10 k11
  replace HKB := Lib.hid (HKB.out.below hb)
  replace HZB := Lib.hid (HZB.out.below hb)
  obtain ⟨k0, k1, k2, k3, k4, k5, k6, k7, k8, k9, k10, k11⟩ := HKB.out.cs
  replace F1 := Lib.hid (F1.out.above (Above.below hb))
  replace F2 := Lib.hid (F2.out.above (Above.below hb))
  replace F3 := Lib.hid (F3.out.above (Above.below hb))
  replace F4 := Lib.hid (F4.out.above (Above.below hb))
  have F5 := Lib.hid (row_low hx hzq)
  replace HB := Lib.hid (HB.out.trans (hb.mono HB.out.size))
  clear hb hx hzq HC5
  refine hK.out _ _ ⟨k0, k1, k2, k3, k4, k5, k6, k7, k8, k9, k10, k11⟩ (fun hHeld => ?_)
  clear hK K
  try simp only [Act.put, List.setIfInBounds_toArray, List.set_cons_zero, List.set_cons_succ]
  refine wpAnyH_ready (rs := [25]) (by kernel_rfl) (by simp) ?_
  refine ac (fun K hK => ?_) AllReadyH.nil
  go_simp
  go_at_call 32
  refine (HC6.out _ (by exact HB.out)).mono ?_
  rintro e u6 ⟨A6, c6, rfl, hx, hb⟩
  replace hb := Kn.below_via (Below.refl u5.heap.size u5) hb (Nat.le_refl _) ⟨rfl, rfl, rfl, rfl⟩
  have hzq : P1 + 1 ≤ u5.heap.size := HZB.out.z
  clear k0 k1 k2 k3 k4 k5 k6 k7 k8 k9 k10 k11
  replace HKB := Lib.hid (HKB.out.below hb)
  replace HZB := Lib.hid (HZB.out.below hb)
  obtain ⟨k0, k1, k2, k3, k4, k5, k6, k7, k8, k9, k10, k11⟩ := HKB.out.cs
  replace F1 := Lib.hid (F1.out.above (Above.below hb))
  replace F2 := Lib.hid (F2.out.above (Above.below hb))
  replace F3 := Lib.hid (F3.out.above (Above.below hb))
  replace F4 := Lib.hid (F4.out.above (Above.below hb))
  replace F5 := Lib.hid (F5.out.above (Above.below hb))
  have F6 := Lib.hid (row_low hx hzq)
  replace HB := Lib.hid (HB.out.trans (hb.mono HB.out.size))
  clear hb hx hzq HC6
  refine hK.out _ _ ⟨k0, k1, k2, k3, k4, k5, k6, k7, k8, k9, k10, k11⟩ (fun hHeld => ?_)
  clear hK K
  try simp only [Act.put, List.setIfInBounds_toArray, List.set_cons_zero, List.set_cons_succ]
  refine wpAnyH_ready (rs := [30]) (by kernel_rfl) (by simp) ?_
  refine ac (fun K hK => ?_) AllReadyH.nil
  go_simp
  go_at_call 29
  refine (HC7.out _ (by exact HB.out)).mono ?_
  rintro e u7 ⟨A7, c7, rfl, hx, hb⟩
  replace hb := Kn.below_via (Below.refl u6.heap.size u6) hb (Nat.le_refl _) ⟨rfl, rfl, rfl, rfl⟩
  have hzq : P1 + 1 ≤ u6.heap.size := HZB.out.z
  clear k0 k1 k2 k3 k4 k5 k6 k7 k8 k9 k10 k11
  replace HKB := Lib.hid (HKB.out.below hb)
  replace HZB := Lib.hid (HZB.out.below hb)
  obtain ⟨k0, k1, k2, k3, k4, k5, k6, k7, k8, k9, k10, k11⟩ := HKB.out.cs
  obtain ⟨z0, z1, z2, z3, z4, z5, z6, z7, z8, z9, z10, z11⟩ := HZB.out.cs
  obtain ⟨y0, y1, y2, y3, y4, y5, y6, y7, y8, y9, y10, y11⟩ := HZB.out.fs
  replace F1 := Lib.hid (F1.out.above (Above.below hb))
  replace F2 := Lib.hid (F2.out.above (Above.below hb))
  replace F3 := Lib.hid (F3.out.above (Above.below hb))
  replace F4 := Lib.hid (F4.out.above (Above.below hb))
  replace F5 := Lib.hid (F5.out.above (Above.below hb))
  replace F6 := Lib.hid (F6.out.above (Above.below hb))
  have F7 := Lib.hid (low_v hx hzq)
  replace HB := Lib.hid (HB.out.trans (hb.mono HB.out.size))
  clear hb hx hzq HC7
  refine hK.out _ _ ⟨k0, k1, k2, k3, k4, k5, k6, k7, k8, k9, k10, k11⟩ (fun hHeld => ?_)
  clear hK K
  try simp only [Act.put, List.setIfInBounds_toArray, List.set_cons_zero, List.set_cons_succ]
  refine tk 31 ?_
  refine wpAnyH_ready (rs := [32]) (by kernel_rfl) (by simp) ?_
  refine ac (fun K hK => ?_) AllReadyH.nil
  go_simp
  clear k0 k1 k2 k3 k4 k5 k6 k7 k8 k9 k10 k11 z0 z1 z2 z3 z4 z5 z6 z7 z8 z9 z10 z11 y0 y1 y2 y3 y4 y5 y6 y7 y8 y9 y10 y11
  have HK9 : Hid (Blk ((((((((((((u7.setCell ⟨P1, 0, none⟩ (.int .i64 p1)).setCell ⟨P1, 1, none⟩ (.string p2)).setCell ⟨P1, 2, none⟩ (.string p3)).setCell ⟨P1, 3, none⟩ (.slice A1 p4.length c1)).setCell ⟨P1, 4, none⟩ (.int .i64 p5)).setCell ⟨P1, 5, none⟩ (.slice A2 p6.length c2)).setCell ⟨P1, 6, none⟩ (.slice A3 p7.length c3)).setCell ⟨P1, 7, none⟩ (.slice A4 p8.length c4)).setCell ⟨P1, 8, none⟩ (.slice A5 p9.length c5)).setCell ⟨P1, 9, none⟩ (.slice A6 p10.length c6)).setCell ⟨P1, 10, none⟩ (.bool p11)).setCell ⟨P1, 11, none⟩ (.slice A7 p12.length c7)) w.heap.size [.int .i64 p1, .string p2, .string p3, .slice hh.kA p4.length hh.kc, .int .i64 p5, .slice hh.mA p6.length hh.mc, .slice hh.cA p7.length hh.cc, .slice hh.rA p8.length hh.rc, .slice hh.zA p9.length hh.zc, .slice hh.iA p10.length hh.ic, .bool p11, .slice hh.fA p12.length hh.fc]) := sets12_any (P := fun u => Blk u w.heap.size _) (fun _ o v k => k.other (p := ⟨P1, o, none⟩) (by show P1 ≠ w.heap.size; omega) v) HKB.out
  have HZ9 : Hid (Blk ((((((((((((u7.setCell ⟨P1, 0, none⟩ (.int .i64 p1)).setCell ⟨P1, 1, none⟩ (.string p2)).setCell ⟨P1, 2, none⟩ (.string p3)).setCell ⟨P1, 3, none⟩ (.slice A1 p4.length c1)).setCell ⟨P1, 4, none⟩ (.int .i64 p5)).setCell ⟨P1, 5, none⟩ (.slice A2 p6.length c2)).setCell ⟨P1, 6, none⟩ (.slice A3 p7.length c3)).setCell ⟨P1, 7, none⟩ (.slice A4 p8.length c4)).setCell ⟨P1, 8, none⟩ (.slice A5 p9.length c5)).setCell ⟨P1, 9, none⟩ (.slice A6 p10.length c6)).setCell ⟨P1, 10, none⟩ (.bool p11)).setCell ⟨P1, 11, none⟩ (.slice A7 p12.length c7)) P1 [.int .i64 p1, .string p2, .string p3, .slice A1 p4.length c1, .int .i64 p5, .slice A2 p6.length c2, .slice A3 p7.length c3, .slice A4 p8.length c4, .slice A5 p9.length c5, .slice A6 p10.length c6, .bool p11, .slice A7 p12.length c7]) := blk_twelve HZB.out
  have HB9 : Hid (Below w.heap.size w ((((((((((((u7.setCell ⟨P1, 0, none⟩ (.int .i64 p1)).setCell ⟨P1, 1, none⟩ (.string p2)).setCell ⟨P1, 2, none⟩ (.string p3)).setCell ⟨P1, 3, none⟩ (.slice A1 p4.length c1)).setCell ⟨P1, 4, none⟩ (.int .i64 p5)).setCell ⟨P1, 5, none⟩ (.slice A2 p6.length c2)).setCell ⟨P1, 6, none⟩ (.slice A3 p7.length c3)).setCell ⟨P1, 7, none⟩ (.slice A4 p8.length c4)).setCell ⟨P1, 8, none⟩ (.slice A5 p9.length c5)).setCell ⟨P1, 9, none⟩ (.slice A6 p10.length c6)).setCell ⟨P1, 10, none⟩ (.bool p11)).setCell ⟨P1, 11, none⟩ (.slice A7 p12.length c7))) := below_sets HB.out (by omega)
  have ha : Above (P1 + 1) u7 ((((((((((((u7.setCell ⟨P1, 0, none⟩ (.int .i64 p1)).setCell ⟨P1, 1, none⟩ (.string p2)).setCell ⟨P1, 2, none⟩ (.string p3)).setCell ⟨P1, 3, none⟩ (.slice A1 p4.length c1)).setCell ⟨P1, 4, none⟩ (.int .i64 p5)).setCell ⟨P1, 5, none⟩ (.slice A2 p6.length c2)).setCell ⟨P1, 6, none⟩ (.slice A3 p7.length c3)).setCell ⟨P1, 7, none⟩ (.slice A4 p8.length c4)).setCell ⟨P1, 8, none⟩ (.slice A5 p9.length c5)).setCell ⟨P1, 9, none⟩ (.slice A6 p10.length c6)).setCell ⟨P1, 10, none⟩ (.bool p11)).setCell ⟨P1, 11, none⟩ (.slice A7 p12.length c7)) := above_sets (Nat.lt_succ_self _)
  replace F1 := Lib.hid (F1.out.above ha)
  replace F2 := Lib.hid (F2.out.above ha)
  replace F3 := Lib.hid (F3.out.above ha)
  replace F4 := Lib.hid (F4.out.above ha)
  replace F5 := Lib.hid (F5.out.above ha)
  replace F6 := Lib.hid (F6.out.above ha)
  replace F7 := Lib.hid (F7.out.above ha)
  clear ha HB HKB HZB
  generalize ((((((((((((u7.setCell ⟨P1, 0, none⟩ (.int .i64 p1)).setCell ⟨P1, 1, none⟩ (.string p2)).setCell ⟨P1, 2, none⟩ (.string p3)).setCell ⟨P1, 3, none⟩ (.slice A1 p4.length c1)).setCell ⟨P1, 4, none⟩ (.int .i64 p5)).setCell ⟨P1, 5, none⟩ (.slice A2 p6.length c2)).setCell ⟨P1, 6, none⟩ (.slice A3 p7.length c3)).setCell ⟨P1, 7, none⟩ (.slice A4 p8.length c4)).setCell ⟨P1, 8, none⟩ (.slice A5 p9.length c5)).setCell ⟨P1, 9, none⟩ (.slice A6 p10.length c6)).setCell ⟨P1, 10, none⟩ (.bool p11)).setCell ⟨P1, 11, none⟩ (.slice A7 p12.length c7)) = W9 at *
  obtain ⟨k0, k1, k2, k3, k4, k5, k6, k7, k8, k9, k10, k11⟩ := HK9.out.cs
  refine hK.out _ _ ⟨k0, k1, k2, k3, k4, k5, k6, k7, k8, k9, k10, k11⟩ (fun hHeld => ?_)
  clear hK K
  try simp only [Act.put, List.setIfInBounds_toArray, List.set_cons_zero, List.set_cons_succ]
  refine wpAnyH_done (by kernel_rfl) ?_ _
  obtain ⟨z0, z1, z2, z3, z4, z5, z6, z7, z8, z9, z10, z11⟩ := HZ9.out.cs
  go_wp2
  refine bodyPost_ret (v := .agg #[.int .i64 p1, .string p2, .string p3, .slice A1 p4.length c1, .int .i64 p5, .slice A2 p6.length c2, .slice A3 p7.length c3, .slice A4 p8.length c4, .slice A5 p9.length c5, .slice A6 p10.length c6, .bool p11, .slice A7 p12.length c7]) ?_ rfl ?_
  · simp [results, Tryz.results11, go_sem, z0, z1, z2, z3, z4, z5, z6, z7, z8, z9, z10, z11]
  · exact HD.out ⟨A1, c1, A2, c2, A3, c3, A4, c4, A5, c5, A6, c6, A7, c7⟩ W9 F1.out.at F2.out.1 F3.out.1 F4.out.at F5.out.1 F6.out.1 F7.out.1 HB9.out
end Go.Proofs.YtbookbgfipbaoaaGreatDoor

/- Knows that may be: what Union says of each id; two that say the same are the same. Plain mathematics. -/
namespace Go.Proofs.YtbookbgfipbaoaaGreatDoor.Kn
open Go.RowKit

end Go.Proofs.YtbookbgfipbaoaaGreatDoor.Kn

/- know.Within, Firsts and From. -/
namespace Go.Proofs.YtbookbgfipbaoaaGreatDoor.Kn
open Go.RowKit

end Go.Proofs.YtbookbgfipbaoaaGreatDoor.Kn

/- SpanHoles: the walk. -/
namespace Go.Proofs.YtbookbgfipbaoaaGreatDoor.Sp
open Go.RowKit

end Go.Proofs.YtbookbgfipbaoaaGreatDoor.Sp

/- The library's Grow of no slice, its Concat of one, and span.Add of a number that can't be: a copy. -/
namespace Go.Proofs.YtbookbgfipbaoaaGreatDoor.Sp
open Go.RowKit

end Go.Proofs.YtbookbgfipbaoaaGreatDoor.Sp

/- span.Add of a number that can't be: a copy. -/
namespace Go.Proofs.YtbookbgfipbaoaaGreatDoor.Sp
open Go.RowKit

end Go.Proofs.YtbookbgfipbaoaaGreatDoor.Sp

/- know.Add. -/
namespace Go.Proofs.YtbookbgfipbaoaaGreatDoor.Kn
open Go.RowKit

end Go.Proofs.YtbookbgfipbaoaaGreatDoor.Kn

/- The law's own little check 'told' of layer 4. -/
namespace Go.Proofs.YtbookbgfipbaoaaGreatDoor.Kn
open Go.RowKit

def z0 : ByteArray := ByteArray.mk #[48]
end Go.Proofs.YtbookbgfipbaoaaGreatDoor.Kn
