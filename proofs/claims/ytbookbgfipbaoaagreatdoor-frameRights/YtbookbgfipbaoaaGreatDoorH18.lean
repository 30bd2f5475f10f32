/- frame: what is taken of a Reader: rows of rows, items. -/
import Derived.Test.YtbookbgfipbaoaaGreatDoorH17
import Derived.Test.YtbookbgfipbaoaaGreatDoorH13
namespace Go.Proofs.YtbookbgfipbaoaaGreatDoor
open Go.RowKit
open By (Rd ReaderAt)
set_option maxRecDepth 100000 in
set_option maxHeartbeats 2000000 in
theorem takeRow_any {R g N : Nat} {st : Rd} (w : World) (h : Rdr w R g N st) : Calls Tryz.prog 132 #[.pointer (some ⟨R, 0, none⟩)] w (fun e w' => ∃ A c, e = .returned (.agg #[.string (tkRow st).1.1, .slice A (tkRow st).1.2.length c]) ∧ w'.ownsRow w.heap.size 95 2 (.slice A (tkRow st).1.2.length c) (tkRow st).1.2.length (atCells (tkRow st).1.2) ∧ (tkRow st).1.2.length ≤ c ∧ Rdr w' R g N (tkRow st).2 ∧ w.grownBy w' (some R)) := by
  have HR := Lib.hid (h.below ((Below.refl _ _).alloc (Nat.le_refl _) (.cells #[.string ⟨#[]⟩, .slice none 0 0] 105)))
  have hRlt := h.lt
  have hle := h.le
  have HG : Hid (w.grownBy (w.alloc (.cells #[.string ⟨#[]⟩, .slice none 0 0] 105)) (some R)) := By.grown_alloc w _ _
  clear h
  go_enter Tryz.func132, Tryz.ntmps132
  go_upto_region 1 with fail
  have k0 : (w.alloc (.cells #[.string ⟨#[]⟩, .slice none 0 0] 105)).cell? ⟨w.heap.size, 0, none⟩ = some (.string ⟨#[]⟩) := by simp [go_sem]
  have kf0 : (w.alloc (.cells #[.string ⟨#[]⟩, .slice none 0 0] 105)).frozen? ⟨w.heap.size, 0, none⟩ = false := by simp [go_sem]
  have k1 : (w.alloc (.cells #[.string ⟨#[]⟩, .slice none 0 0] 105)).cell? ⟨w.heap.size, 1, none⟩ = some (.slice none 0 0) := by simp [go_sem]
  have kf1 : (w.alloc (.cells #[.string ⟨#[]⟩, .slice none 0 0] 105)).frozen? ⟨w.heap.size, 1, none⟩ = false := by simp [go_sem]
  have kz : w.heap.size < (w.alloc (.cells #[.string ⟨#[]⟩, .slice none 0 0] 105)).heap.size := by simp <;> omega
  have HN : Hid (some w.heap.size ≠ (some R : Option Nat)) := fun e => by injection e with e; omega
  have hP : w.heap.size < (w.alloc (.cells #[.string ⟨#[]⟩, .slice none 0 0] 105)).heap.size := by simp
  generalize (w.alloc (.cells #[.string ⟨#[]⟩, .slice none 0 0] 105)) = W0 at *
  generalize hPP : w.heap.size = P at *
  go_wp2_with fail
  refine (takeId_any _ (by exact HR.out)).mono ?_
  rintro e w1 ⟨rfl, hr, hg⟩
  replace k0 := (hg.cell_far ⟨P, 0, none⟩ kz HN.out).trans k0
  replace kf0 := (hg.frozen_far ⟨P, 0, none⟩ kz HN.out).trans kf0
  replace k1 := (hg.cell_far ⟨P, 1, none⟩ kz HN.out).trans k1
  replace kf1 := (hg.frozen_far ⟨P, 1, none⟩ kz HN.out).trans kf1
  replace kz := Nat.lt_of_lt_of_le kz hg.size
  have HR1 := Lib.hid hr
  replace HG := Lib.hid (HG.out.trans hg)
  clear hr hg HR
  go_wp2_with fail
  refine (takeAllAt_any 64 (by omega) (by omega) _ (by exact HR1.out)).mono ?_
  rintro e w2 ⟨A1, c1, rfl, ho, hr, hg⟩
  have hPq : P + 1 ≤ _ := kz
  have hcap := rown_cap ho
  have HO := Lib.hid ho
  clear ho
  replace k0 := (hg.cell_far ⟨P, 0, none⟩ kz HN.out).trans k0
  replace kf0 := (hg.frozen_far ⟨P, 0, none⟩ kz HN.out).trans kf0
  replace k1 := (hg.cell_far ⟨P, 1, none⟩ kz HN.out).trans k1
  replace kf1 := (hg.frozen_far ⟨P, 1, none⟩ kz HN.out).trans kf1
  replace kz := Nat.lt_of_lt_of_le kz hg.size
  have HR2 := Lib.hid hr
  replace HG := Lib.hid (HG.out.trans hg)
  clear hr hg HR1
  
  go_wp2
  refine bodyPost_ret (v := .agg #[.string (tkId st).1, .slice A1 (tkAll tkAt 64 (tkId st).2).1.length c1]) ?_ rfl ?_
  · simp [results, Tryz.results132, go_sem, k0, k1]
  · exact ⟨A1, c1, rfl, rown_base (B := P + 1) (own_setP (own_setP (rown_base HO.out hPq) (p := ⟨P, 0, none⟩) (by show P < P + 1; omega) _) (p := ⟨P, 1, none⟩) (by show P < P + 1; omega) _) (by rw [hPP]; omega), hcap, ((HR2.out.set (p := ⟨P, _, none⟩) (by show N ≤ P; omega) _).set (p := ⟨P, _, none⟩) (by show N ≤ P; omega) _), (By.grown_own (By.grown_own HG.out (by show _ ≤ P; omega) _) (by show _ ≤ P; omega) _)⟩

set_option maxRecDepth 100000 in
set_option maxHeartbeats 2000000 in
theorem takeKnown_any {R g N : Nat} {st : Rd} (w : World) (h : Rdr w R g N st) : Calls Tryz.prog 128 #[.pointer (some ⟨R, 0, none⟩)] w (fun e w' => ∃ A c, e = .returned (.agg #[.string (tkKnown st).1.1, .int .i64 (tkKnown st).1.2.1, .slice A (tkKnown st).1.2.2.length c]) ∧ w'.ownsRow w.heap.size 3 1 (.slice A (tkKnown st).1.2.2.length c) (tkKnown st).1.2.2.length (rowCells cellsN (tkKnown st).1.2.2) ∧ (tkKnown st).1.2.2.length ≤ c ∧ Rdr w' R g N (tkKnown st).2 ∧ w.grownBy w' (some R)) := by
  have HR := Lib.hid (h.below ((Below.refl _ _).alloc (Nat.le_refl _) (.cells #[.string ⟨#[]⟩, .int .i64 0, .slice none 0 0] 100)))
  have hRlt := h.lt
  have hle := h.le
  have HG : Hid (w.grownBy (w.alloc (.cells #[.string ⟨#[]⟩, .int .i64 0, .slice none 0 0] 100)) (some R)) := By.grown_alloc w _ _
  clear h
  go_enter Tryz.func128, Tryz.ntmps128
  go_upto_region 1 with fail
  have k0 : (w.alloc (.cells #[.string ⟨#[]⟩, .int .i64 0, .slice none 0 0] 100)).cell? ⟨w.heap.size, 0, none⟩ = some (.string ⟨#[]⟩) := by simp [go_sem]
  have kf0 : (w.alloc (.cells #[.string ⟨#[]⟩, .int .i64 0, .slice none 0 0] 100)).frozen? ⟨w.heap.size, 0, none⟩ = false := by simp [go_sem]
  have k1 : (w.alloc (.cells #[.string ⟨#[]⟩, .int .i64 0, .slice none 0 0] 100)).cell? ⟨w.heap.size, 1, none⟩ = some (.int .i64 0) := by simp [go_sem]
  have kf1 : (w.alloc (.cells #[.string ⟨#[]⟩, .int .i64 0, .slice none 0 0] 100)).frozen? ⟨w.heap.size, 1, none⟩ = false := by simp [go_sem]
  have k2 : (w.alloc (.cells #[.string ⟨#[]⟩, .int .i64 0, .slice none 0 0] 100)).cell? ⟨w.heap.size, 2, none⟩ = some (.slice none 0 0) := by simp [go_sem]
  have kf2 : (w.alloc (.cells #[.string ⟨#[]⟩, .int .i64 0, .slice none 0 0] 100)).frozen? ⟨w.heap.size, 2, none⟩ = false := by simp [go_sem]
  have kz : w.heap.size < (w.alloc (.cells #[.string ⟨#[]⟩, .int .i64 0, .slice none 0 0] 100)).heap.size := by simp <;> omega
  have HN : Hid (some w.heap.size ≠ (some R : Option Nat)) := fun e => by injection e with e; omega
  have hP : w.heap.size < (w.alloc (.cells #[.string ⟨#[]⟩, .int .i64 0, .slice none 0 0] 100)).heap.size := by simp
  generalize (w.alloc (.cells #[.string ⟨#[]⟩, .int .i64 0, .slice none 0 0] 100)) = W0 at *
  generalize hPP : w.heap.size = P at *
  go_wp2_with fail
  refine (takeId_any _ (by exact HR.out)).mono ?_
  rintro e w1 ⟨rfl, hr, hg⟩
  replace k0 := (hg.cell_far ⟨P, 0, none⟩ kz HN.out).trans k0
  replace kf0 := (hg.frozen_far ⟨P, 0, none⟩ kz HN.out).trans kf0
  replace k1 := (hg.cell_far ⟨P, 1, none⟩ kz HN.out).trans k1
  replace kf1 := (hg.frozen_far ⟨P, 1, none⟩ kz HN.out).trans kf1
  replace k2 := (hg.cell_far ⟨P, 2, none⟩ kz HN.out).trans k2
  replace kf2 := (hg.frozen_far ⟨P, 2, none⟩ kz HN.out).trans kf2
  replace kz := Nat.lt_of_lt_of_le kz hg.size
  have HR1 := Lib.hid hr
  replace HG := Lib.hid (HG.out.trans hg)
  clear hr hg HR
  go_wp2_with fail
  refine (takeNum_any _ (by exact HR1.out)).mono ?_
  rintro e w2 ⟨rfl, hr, hg⟩
  replace k0 := (hg.cell_far ⟨P, 0, none⟩ kz HN.out).trans k0
  replace kf0 := (hg.frozen_far ⟨P, 0, none⟩ kz HN.out).trans kf0
  replace k1 := (hg.cell_far ⟨P, 1, none⟩ kz HN.out).trans k1
  replace kf1 := (hg.frozen_far ⟨P, 1, none⟩ kz HN.out).trans kf1
  replace k2 := (hg.cell_far ⟨P, 2, none⟩ kz HN.out).trans k2
  replace kf2 := (hg.frozen_far ⟨P, 2, none⟩ kz HN.out).trans kf2
  replace kz := Nat.lt_of_lt_of_le kz hg.size
  have HR2 := Lib.hid hr
  replace HG := Lib.hid (HG.out.trans hg)
  clear hr hg HR1
  go_wp2_with fail
  refine (takeAllNum_any 4096 (by omega) (by omega) _ (by exact HR2.out)).mono ?_
  rintro e w3 ⟨A1, c1, rfl, ho, hr, hg⟩
  have hPq : P + 1 ≤ _ := kz
  have hcap := rown_cap ho
  have HO := Lib.hid ho
  clear ho
  replace k0 := (hg.cell_far ⟨P, 0, none⟩ kz HN.out).trans k0
  replace kf0 := (hg.frozen_far ⟨P, 0, none⟩ kz HN.out).trans kf0
  replace k1 := (hg.cell_far ⟨P, 1, none⟩ kz HN.out).trans k1
  replace kf1 := (hg.frozen_far ⟨P, 1, none⟩ kz HN.out).trans kf1
  replace k2 := (hg.cell_far ⟨P, 2, none⟩ kz HN.out).trans k2
  replace kf2 := (hg.frozen_far ⟨P, 2, none⟩ kz HN.out).trans kf2
  replace kz := Nat.lt_of_lt_of_le kz hg.size
  have HR3 := Lib.hid hr
  replace HG := Lib.hid (HG.out.trans hg)
  clear hr hg HR2
  
  go_wp2
  refine bodyPost_ret (v := .agg #[.string (tkId st).1, .int .i64 (tkNum (tkId st).2).1, .slice A1 (tkAll tkNum 4096 (tkNum (tkId st).2).2).1.length c1]) ?_ rfl ?_
  · simp [results, Tryz.results128, go_sem, k0, k1, k2]
  · exact ⟨A1, c1, rfl, rown_base (B := P + 1) (own_setP (own_setP (own_setP (rown_base HO.out hPq) (p := ⟨P, 0, none⟩) (by show P < P + 1; omega) _) (p := ⟨P, 1, none⟩) (by show P < P + 1; omega) _) (p := ⟨P, 2, none⟩) (by show P < P + 1; omega) _) (by rw [hPP]; omega), hcap, (((HR3.out.set (p := ⟨P, _, none⟩) (by show N ≤ P; omega) _).set (p := ⟨P, _, none⟩) (by show N ≤ P; omega) _).set (p := ⟨P, _, none⟩) (by show N ≤ P; omega) _), (By.grown_own (By.grown_own (By.grown_own HG.out (by show _ ≤ P; omega) _) (by show _ ≤ P; omega) _) (by show _ ≤ P; omega) _)⟩
/-- Its inner list lies from B on. -/
def UpM (B : Nat) (r : Mx.Hd) : Prop := 0 < r.v.length → ∀ ad, r.A = some ad → B ≤ ad.block
def UpK (B : Nat) (r : Kn.Hd) : Prop := 0 < r.v.length → ∀ ad, r.A = some ad → B ≤ ad.block
theorem UpM.apart {B b : Nat} {r : Mx.Hd} (h : UpM B r) (hb : b < B) : Mx.Apart r (some b) := fun hn ad e e2 => by
  have := h hn ad e
  injection e2 with e2
  omega
theorem UpK.apart {B b : Nat} {r : Kn.Hd} (h : UpK B r) (hb : b < B) : Kn.Apart r (some b) := fun hn ad e e2 => by
  have := h hn ad e
  injection e2 with e2
  omega
def TkMatM (l : Mx.Mat) (R g N : Nat) (st : Rd) (w : World) (en : Ending) (w' : World) : Prop :=
  ∃ A c rs, Mx.absH rs = l ∧ en = .returned (.slice A l.length c) ∧ Mx.OwnsH w' w.heap.size 105 A l.length c rs ∧ (∀ r ∈ rs, UpM w.heap.size r) ∧ Rdr w' R g N st ∧ w.grownBy w' (some R)
def TkMatK (l : Kn.Mat) (R g N : Nat) (st : Rd) (w : World) (en : Ending) (w' : World) : Prop :=
  ∃ A c rs, Kn.absH rs = l ∧ en = .returned (.slice A l.length c) ∧ Kn.OwnsH w' w.heap.size 100 A l.length c rs ∧ (∀ r ∈ rs, UpK w.heap.size r) ∧ Rdr w' R g N st ∧ w.grownBy w' (some R)
set_option maxRecDepth 100000 in
set_option maxHeartbeats 2000000 in
theorem takeAllRow_any {R g N : Nat} {st : Rd} (most : Int) (hm : 0 ≤ most) (hm2 : most ≤ 5000) (w : World) (h : Rdr w R g N st) :
    Calls Tryz.prog 131 #[.pointer (some ⟨R, 0, none⟩), .int .i64 most, .func (.func 132) #[] #[]] w (TkMatM (tkAll tkRow most st).1 R g N (tkAll tkRow most st).2 w) := by
  obtain ⟨n, hn, hnm⟩ := num_count st most hm
  have HC := Lib.hid (rnum_rdr most w h)
  have hRlt := h.lt
  have hle := h.le
  clear h
  rw [hn] at HC
  have HT : Hid (tkAll tkRow most st = many tkRow n (By.numF st most).2) := by show tkAll tkRow most st = _; unfold tkAll; rw [hn]; rfl
  generalize (By.numF st most).2 = s0 at *
  clear hn
  go_enter Tryz.func131, Tryz.ntmps131
  go_wp2_with fail
  refine HC.out.mono ?_
  rintro e w1 ⟨rfl, hr, hg⟩
  have HR := Lib.hid hr
  have HG := Lib.hid hg
  clear hr hg HC
  go_wp2
  go_loopw [7, 11] (fun v i wr => ∃ (k : Nat) (A : Option Addr) (c : Nat) (rs : List Mx.Hd), k ≤ n ∧ i = .int .i64 k ∧ v = .slice A k c ∧ Hid (Mx.absH rs = (many tkRow k s0).1) ∧ Hid (Mx.OwnsH wr w.heap.size 105 A k c rs) ∧ Hid (∀ r ∈ rs, UpM w.heap.size r) ∧ Hid (Rdr wr R g N (many tkRow k s0).2) ∧ Hid (w.grownBy wr (some R))) (fun _ i _ => n - (intOf i).toNat)
  case atStart => exact ⟨0, none, 0, [], by omega, rfl, rfl, rfl, Mx.OwnsH.nil _ _ _, fun r hr => by simp at hr, HR, HG⟩
  case round =>
    clear HR HG
    obtain ⟨k, A, c, rs, hk, rfl, rfl, HA, HO, HU, HR, HG⟩ := hrel
    by_cases hlt : k < n
    · have hi1 : (k : Int) < (n : Int) := by omega
      have hS : many tkRow (k + 1) s0 = ((many tkRow k s0).1 ++ [(tkRow (many tkRow k s0).2).1], (tkRow (many tkRow k s0).2).2) := rfl
      have HS := Lib.hid hS
      clear hS
      generalize many tkRow k s0 = M0 at *
      obtain ⟨l0, t0⟩ := M0
      simp only at HO HR HS HA
      have HC := Lib.hid (takeRow_any _ HR.out)
      go_wp2_with fail
      refine HC.out.mono ?_
      rintro e w2 ⟨A1, c1, rfl, ho, hc1, hr, hg⟩
      generalize hX : (tkRow t0).1 = X at *
      generalize (tkRow t0).2 = t1 at *
      obtain ⟨xi, xv⟩ := X
      simp only at ho hc1 HS
      have hsz1 := HG.out.size
      have HR2 := Lib.hid hr
      have HO2 : Hid (Mx.OwnsH w2 w.heap.size 105 A k c rs) := ⟨own_read HO.out.own (by omega) hg, fun r hr => (HO.out.fine r hr).grown hg ((HU.out r hr).apart (by omega)), HO.out.apart⟩
      have HF : Hid (Mx.Fine w2 w2.heap.size ⟨xi, A1, c1, xv⟩) := ⟨own_vec ho, hc1⟩
      have HAP : Hid (Mx.Apart ⟨xi, A1, c1, xv⟩ (Value.ownBlock (.slice A k c))) := Mx.apart_new (r := ⟨xi, A1, c1, xv⟩) HO.out (by exact ho)
      have HUX : Hid (UpM w.heap.size ⟨xi, A1, c1, xv⟩) := fun _ ad e => Nat.le_trans hsz1 (ho.lt ad.block (by rw [show A1 = some ad from e]; rfl)).1
      have HG2 := Lib.hid (HG.out.trans hg)
      clear hr hg ho hc1 HC HR HO HG hX
      have HX : Hid (RowAt Mx.cellsH 2 (w2.alloc (.cells #[.string xi, .slice A1 xv.length c1] 105)) (w2.heap.size + 1) (some ⟨w2.heap.size, 0, none⟩) 1 [⟨xi, A1, c1, xv⟩]) := one_row tyR (heap_alloc_new w2 _)
      have hb2 : Below w2.heap.size w2 (w2.alloc (.cells #[.string xi, .slice A1 xv.length c1] 105)) := (Below.refl _ _).alloc (Nat.le_refl _) _
      have HO3 := Lib.hid (HO2.out.below hb2)
      have HF3 := Lib.hid ((HF.out.keep hb2).more hb2.size)
      have HR3 := Lib.hid (HR2.out.below hb2)
      have HG3 := Lib.hid (HG2.out.trans (By.grown_of_below hb2 _))
      clear HR2 HO2 HG2 HF hb2
      have hsz := HG3.out.size
      go_wp2_with (at_builtin; refine wpList_append_row tyR (B := w.heap.size) (B' := w2.heap.size + 1) (v := .slice A k c) (n := k) (zs := rs) (A := some ⟨w2.heap.size, 0, none⟩) (m := 1) (c := 1) (ys := [⟨xi, A1, c1, xv⟩]) rfl _ _ rfl rfl HO3.out.own rfl HX.out (by omega) (by exact hsz) ?_; intro A3 c3 w3 hown3 hg3 hat3; have HR4 := Lib.hid (HR3.out.grown hg3 (fun b e => Nat.le_trans hle (HO3.out.own.lt b e).1)); have HG4 := Lib.hid (grown_row HG3.out hg3 (fun b e => (HO3.out.own.lt b e).1)); have HO4 := Lib.hid (HO3.out.snoc HF3.out HAP.out hown3 hg3 hat3); clear hown3 hg3 hat3 HO3 HR3 HG3 HX HF3 HAP)
      go_roundw
      case rel =>
        refine ⟨k + 1, A3, c3, rs ++ [⟨xi, A1, c1, xv⟩], by omega, by go_num, rfl, ?_, HO4, ?_, ?_, HG4⟩
        · rw [HS.out, Mx.absH_append, HA.out]; rfl
        · intro r hr
          rcases List.mem_append.mp hr with hr | hr
          · exact HU.out r hr
          · simp at hr; subst hr; exact HUX.out
        · rw [HS.out]; exact HR4
      case measure => simp [intOf]; omega
    · obtain rfl : k = n := by omega
      have hi1 : ¬ (k : Int) < k := by omega
      go_wp2
      go_ret
      have hl := many_len tkRow k s0
      rw [HT.out]
      refine ⟨A, c, rs, HA.out, by rw [hl]; rfl, by rw [hl]; exact HO.out, HU.out, HR.out, HG.out⟩
set_option maxRecDepth 100000 in
set_option maxHeartbeats 2000000 in
theorem takeAllKnown_any {R g N : Nat} {st : Rd} (most : Int) (hm : 0 ≤ most) (hm2 : most ≤ 5000) (w : World) (h : Rdr w R g N st) :
    Calls Tryz.prog 127 #[.pointer (some ⟨R, 0, none⟩), .int .i64 most, .func (.func 128) #[] #[]] w (TkMatK (tkAll tkKnown most st).1 R g N (tkAll tkKnown most st).2 w) := by
  obtain ⟨n, hn, hnm⟩ := num_count st most hm
  have HC := Lib.hid (rnum_rdr most w h)
  have hRlt := h.lt
  have hle := h.le
  clear h
  rw [hn] at HC
  have HT : Hid (tkAll tkKnown most st = many tkKnown n (By.numF st most).2) := by show tkAll tkKnown most st = _; unfold tkAll; rw [hn]; rfl
  generalize (By.numF st most).2 = s0 at *
  clear hn
  go_enter Tryz.func127, Tryz.ntmps127
  go_wp2_with fail
  refine HC.out.mono ?_
  rintro e w1 ⟨rfl, hr, hg⟩
  have HR := Lib.hid hr
  have HG := Lib.hid hg
  clear hr hg HC
  go_wp2
  go_loopw [7, 11] (fun v i wr => ∃ (k : Nat) (A : Option Addr) (c : Nat) (rs : List Kn.Hd), k ≤ n ∧ i = .int .i64 k ∧ v = .slice A k c ∧ Hid (Kn.absH rs = (many tkKnown k s0).1) ∧ Hid (Kn.OwnsH wr w.heap.size 100 A k c rs) ∧ Hid (∀ r ∈ rs, UpK w.heap.size r) ∧ Hid (Rdr wr R g N (many tkKnown k s0).2) ∧ Hid (w.grownBy wr (some R))) (fun _ i _ => n - (intOf i).toNat)
  case atStart => exact ⟨0, none, 0, [], by omega, rfl, rfl, rfl, Kn.OwnsH.nil _ _ _, fun r hr => by simp at hr, HR, HG⟩
  case round =>
    clear HR HG
    obtain ⟨k, A, c, rs, hk, rfl, rfl, HA, HO, HU, HR, HG⟩ := hrel
    by_cases hlt : k < n
    · have hi1 : (k : Int) < (n : Int) := by omega
      have hS : many tkKnown (k + 1) s0 = ((many tkKnown k s0).1 ++ [(tkKnown (many tkKnown k s0).2).1], (tkKnown (many tkKnown k s0).2).2) := rfl
      have HS := Lib.hid hS
      clear hS
      generalize many tkKnown k s0 = M0 at *
      obtain ⟨l0, t0⟩ := M0
      simp only at HO HR HS HA
      have HC := Lib.hid (takeKnown_any _ HR.out)
      go_wp2_with fail
      refine HC.out.mono ?_
      rintro e w2 ⟨A1, c1, rfl, ho, hc1, hr, hg⟩
      generalize hX : (tkKnown t0).1 = X at *
      generalize (tkKnown t0).2 = t1 at *
      obtain ⟨xi, xu, xv⟩ := X
      simp only at ho hc1 HS
      have hsz1 := HG.out.size
      have HR2 := Lib.hid hr
      have HO2 : Hid (Kn.OwnsH w2 w.heap.size 100 A k c rs) := ⟨own_read HO.out.own (by omega) hg, fun r hr => (HO.out.fine r hr).grown hg ((HU.out r hr).apart (by omega)), HO.out.apart⟩
      have HF : Hid (Kn.Fine w2 w2.heap.size ⟨xi, xu, A1, c1, xv⟩) := ⟨Sp.own_ints (by rw [← intRow]; exact ho), hc1⟩
      have HAP : Hid (Kn.Apart ⟨xi, xu, A1, c1, xv⟩ (Value.ownBlock (.slice A k c))) := Kn.apart_new (r := ⟨xi, xu, A1, c1, xv⟩) HO.out (by exact ho)
      have HUX : Hid (UpK w.heap.size ⟨xi, xu, A1, c1, xv⟩) := fun _ ad e => Nat.le_trans hsz1 (ho.lt ad.block (by rw [show A1 = some ad from e]; rfl)).1
      have HG2 := Lib.hid (HG.out.trans hg)
      clear hr hg ho hc1 HC HR HO HG hX
      have HX : Hid (RowAt Kn.cellsH 3 (w2.alloc (.cells #[.string xi, .int .i64 xu, .slice A1 xv.length c1] 100)) (w2.heap.size + 1) (some ⟨w2.heap.size, 0, none⟩) 1 [⟨xi, xu, A1, c1, xv⟩]) := one_row tyK (heap_alloc_new w2 _)
      have hb2 : Below w2.heap.size w2 (w2.alloc (.cells #[.string xi, .int .i64 xu, .slice A1 xv.length c1] 100)) := (Below.refl _ _).alloc (Nat.le_refl _) _
      have HO3 := Lib.hid (HO2.out.below hb2)
      have HF3 := Lib.hid ((HF.out.keep hb2).more hb2.size)
      have HR3 := Lib.hid (HR2.out.below hb2)
      have HG3 := Lib.hid (HG2.out.trans (By.grown_of_below hb2 _))
      clear HR2 HO2 HG2 HF hb2
      have hsz := HG3.out.size
      go_wp2_with (at_builtin; refine wpList_append_row tyK (B := w.heap.size) (B' := w2.heap.size + 1) (v := .slice A k c) (n := k) (zs := rs) (A := some ⟨w2.heap.size, 0, none⟩) (m := 1) (c := 1) (ys := [⟨xi, xu, A1, c1, xv⟩]) rfl _ _ rfl rfl HO3.out.own rfl HX.out (by omega) (by exact hsz) ?_; intro A3 c3 w3 hown3 hg3 hat3; have HR4 := Lib.hid (HR3.out.grown hg3 (fun b e => Nat.le_trans hle (HO3.out.own.lt b e).1)); have HG4 := Lib.hid (grown_row HG3.out hg3 (fun b e => (HO3.out.own.lt b e).1)); have HO4 := Lib.hid (HO3.out.snoc HF3.out HAP.out hown3 hg3 hat3); clear hown3 hg3 hat3 HO3 HR3 HG3 HX HF3 HAP)
      go_roundw
      case rel =>
        refine ⟨k + 1, A3, c3, rs ++ [⟨xi, xu, A1, c1, xv⟩], by omega, by go_num, rfl, ?_, HO4, ?_, ?_, HG4⟩
        · rw [HS.out, Kn.absH_append, HA.out]; rfl
        · intro r hr
          rcases List.mem_append.mp hr with hr | hr
          · exact HU.out r hr
          · simp at hr; subst hr; exact HUX.out
        · rw [HS.out]; exact HR4
      case measure => simp [intOf]; omega
    · obtain rfl : k = n := by omega
      have hi1 : ¬ (k : Int) < k := by omega
      go_wp2
      go_ret
      have hl := many_len tkKnown k s0
      rw [HT.out]
      refine ⟨A, c, rs, HA.out, by rw [hl]; rfl, by rw [hl]; exact HO.out, HU.out, HR.out, HG.out⟩
end Go.Proofs.YtbookbgfipbaoaaGreatDoor

/- zone.Parse: what it answers lies in memory of the call's own. -/
namespace Go.Proofs.YtbookbgfipbaoaaGreatDoor.Zo
open Go.RowKit

def ParseFar (s : ByteArray) (w : World) (e : Ending) (w' : World) : Prop :=
  ∃ A n c zs, e = .returned (.tuple #[.slice A n c, .bool (rightZ (parseQ s))]) ∧ RowAt cellsZ 3 w' w'.heap.size A n zs ∧ LikeL zs (if rightZ (parseQ s) then parseQ s else []) ∧ Below w.heap.size w w' ∧ ∀ ad, A = some ad → w.heap.size ≤ ad.block
set_option maxRecDepth 100000 in
set_option maxHeartbeats 4000000 in
theorem parse_far (s : ByteArray) (w : World) (hg : Glob w) (hs : s.size < 4294967281) : Calls Tryz.prog 175 #[.string s] w (ParseFar s w) := by
  have HG := Lib.hid hg
  have HS := Lib.hid (split_any s ⟨#[44]⟩ w hg hs (by decide))
  have HL := Lib.hid (parse_like s)
  have HPL : Hid ((parseP s).length = (pieces ⟨#[44]⟩ s).length) := by show _ = _; unfold parseP; rw [List.length_map]
  have HPG : Hid (∀ k p, (pieces ⟨#[44]⟩ s)[k]? = some p → (parseP s)[k]? = some (stepP (pieces ⟨#[32]⟩ p)) ∧ p.size < 4294967281) := fun k p hp => ⟨by unfold parseP; rw [List.getElem?_map, hp]; rfl, Nat.lt_of_le_of_lt (pieces_size (List.mem_of_getElem? hp)) hs⟩
  have hn : (pieces ⟨#[44]⟩ s).length ≤ 4294967282 := by
    rw [pieces_len _ _ (by decide)]
    have := Lib.countB_le ⟨#[44]⟩ (by decide) s.size s (Nat.le_refl _)
    omega
  generalize hps : pieces ⟨#[44]⟩ s = ps at *
  clear hg hs hps
  go_enter Tryz.func175, Tryz.ntmps175
  go_wp2_with fail
  refine HS.out.mono ?_
  rintro e w1 ⟨rfl, hrow, hb0⟩
  have HR := Lib.hid hrow
  have HB1 := Lib.hid hb0
  have HG1 := Lib.hid (HG.out.below hb0)
  clear hrow hb0 HS
  generalize hn' : ps.length = n at *
  generalize hX : w.heap.size = X at *
  go_wp2
  go_loopw [4, 10] (fun v i wr => ∃ (k : Nat) (Av : Option Addr) (cv : Nat), k ≤ n ∧ i = .int .i64 k ∧ v = .slice Av k cv ∧ Hid (HalfP s w1 k Av cv wr)) (fun _ i _ => n - (intOf i).toNat)
  case atStart => exact ⟨0, none, 0, by omega, rfl, rfl, rown_nil _ _, Below.refl _ _⟩
  case round =>
    obtain ⟨k, Av, cv, hk, rfl, rfl, HC⟩ := hrel
    obtain ⟨hown, hbel⟩ := HC.out
    have HO := Lib.hid hown
    have HB := Lib.hid hbel
    clear hown hbel HC
    by_cases hlt : k < n
    · obtain ⟨p, hp⟩ : ∃ p, ps[k]? = some p := ⟨_, List.getElem?_eq_getElem (by omega)⟩
      obtain ⟨b', o', e', hbl, c0⟩ := text_at HR.out hp
      obtain ⟨rfl, rfl⟩ : X = b' ∧ 0 = o' := by injection e' with e'; injection e' with e1 e2; exact ⟨e1, e2⟩
      replace c0 := (HB.out.cell (p := ⟨X, 0 + k, none⟩) hbl).trans c0
      rw [Nat.zero_add] at c0
      have hi1 : (k : Int) < n := by omega
      obtain ⟨hz, hpz⟩ := HPG.out k p hp
      have HTS := Lib.hid (snocR hz)
      have HGr := Lib.hid (HG1.out.below HB.out)
      have HSP := Lib.hid (split_any p ⟨#[32]⟩ wr HGr.out hpz (by decide))
      have HPS := Lib.hid (fun (w2 : World) (hb : Below wr.heap.size wr w2) (hr : RowAt cellsS 1 w2 w2.heap.size (some ⟨wr.heap.size, 0, none⟩) (pieces ⟨#[32]⟩ p).length (pieces ⟨#[32]⟩ p)) => parseStep_any wr.heap.size 0 (pieces ⟨#[32]⟩ p).length (pieces ⟨#[32]⟩ p) w2.heap.size w2 (Nat.le_refl _) hr (by rw [pieces_len _ _ (by decide)]; omega) (fun x hx => by have := pieces_size hx; omega) (HGr.out.below hb))
      generalize hzz : stepP (pieces ⟨#[32]⟩ p) = z at *
      generalize pieces ⟨#[32]⟩ p = qs at *
      generalize hql : qs.length = q at *
      clear hp hz hpz e' hql hzz
      obtain ⟨op, re, im, sz⟩ := z
      unfold stpV at HPS
      simp only at HPS
      go_wp2_with fail
      refine HSP.out.mono ?_
      rintro e w2 ⟨rfl, hr2, hb2⟩
      have HPS2 := Lib.hid (HPS.out w2 hb2 hr2)
      replace HO := Lib.hid (rown_below HO.out hb2)
      replace HB := Lib.hid (HB.out.trans (hb2.mono HB.out.size))
      clear hr2 hb2 HSP c0
      go_wp2_with fail
      refine HPS2.out.mono ?_
      rintro e w3 ⟨rfl, hb3⟩
      replace HO := Lib.hid (rown_below HO.out hb3)
      replace HB := Lib.hid (HB.out.trans (hb3.mono HB.out.size))
      clear hb3
      have hsz := HB.out.size
      have HR1 : Hid (RowAt cellsZ 3 (w3.alloc (.cells #[.int .i64 op, .complex .f64 re im, .float .f64 sz] 165)) (w3.heap.size + 1) (some ⟨w3.heap.size, 0, none⟩) 1 [⟨op, re, im, sz⟩]) := one_row rowZ (heap_alloc_new w3 _)
      have HO1 := Lib.hid (HO.out.alloc (.cells #[.int .i64 op, .complex .f64 re im, .float .f64 sz] 165))
      go_wp2_with (at_builtin; refine wpList_append_row rowZ (B := w1.heap.size) (v := .slice Av k cv) (n := k) (zs := (parseP s).take k) (m := 1) (ys := [⟨op, re, im, sz⟩]) rfl _ _ rfl rfl HO1.out rfl HR1.out (by omega) (by simp; omega) ?_; intro A3 c3 w4 hown3 hg3 hat3)
      rw [← HTS.out] at hown3
      have HC3 : Hid (HalfP s w1 (k + 1) A3 c3 w4) := ⟨hown3, (HB.out.alloc hsz _).grown hg3 (Nat.le_trans hsz (by simp)) (fun g e => (HO.out.lt g e).1)⟩
      clear hown3 hg3 hat3
      go_wp2
      go_roundw
      case rel => exact ⟨k + 1, A3, c3, by omega, by go_num, rfl, HC3⟩
      case measure => simp [intOf]; omega
    · obtain rfl : k = n := by omega
      have hT : (parseP s).take k = parseP s := List.take_of_length_le (by have := HPL.out; omega)
      rw [hT] at HO
      have HROW := Lib.hid (own_row rowZ HO.out)
      have HRZ := Lib.hid (rightZ_any Av k cv (parseP s) (parseQ s) wr.heap.size wr (Nat.le_refl _) HROW.out HL.out)
      have HFR : Hid (ParseFar s w = fun e w' => ∃ A n c zs, e = .returned (.tuple #[.slice A n c, .bool (rightZ (parseQ s))]) ∧ RowAt cellsZ 3 w' w'.heap.size A n zs ∧ LikeL zs (if rightZ (parseQ s) then parseQ s else []) ∧ Below w.heap.size w w' ∧ ∀ ad, A = some ad → w.heap.size ≤ ad.block) := rfl
      generalize ParseFar s w = PR at *
      have HBB : Hid (Below w.heap.size w wr) := by show Below w.heap.size w wr; rw [hX]; exact HB1.out.trans (HB.out.mono (by have := HB1.out.size; omega))
      generalize hrz : rightZ (parseQ s) = R at *
      clear hT
      cases R
      · go_wp2_with fail
        refine HRZ.out.mono ?_
        rintro e w5 ⟨rfl, hb5⟩
        go_wp2
        rw [HFR.out]
        exact ⟨none, 0, 0, [], rfl, RowAt.nil, ⟨rfl, fun k z r h => by simp at h⟩, HBB.out.trans (hb5.mono HBB.out.size), fun ad e => by cases e⟩
      · go_wp2_with fail
        refine HRZ.out.mono ?_
        rintro e w5 ⟨rfl, hb5⟩
        go_wp2
        rw [HFR.out]
        exact ⟨Av, k, cv, parseP s, rfl, (HROW.out.keep hb5).more hb5.size, HL.out, HBB.out.trans (hb5.mono HBB.out.size), fun ad e => by
          have h1 := (HO.out.lt ad.block (by rw [e]; rfl)).1
          have h2 := HB1.out.size
          omega⟩
end Go.Proofs.YtbookbgfipbaoaaGreatDoor.Zo

/- frame: what stays while a Reader reads on; items. -/
namespace Go.Proofs.YtbookbgfipbaoaaGreatDoor
open Go.RowKit
open By (Rd ReaderAt)

/-- From B on nothing has turned. -/
structure Above (B : Nat) (w w' : World) : Prop where
  size : w.heap.size ≤ w'.heap.size
  block : ∀ b, B ≤ b → b < w.heap.size → w'.heap[b]? = w.heap[b]?
theorem Above.refl (B : Nat) (w : World) : Above B w w := ⟨Nat.le_refl _, fun _ _ _ => rfl⟩
theorem Above.trans {B : Nat} {a b c : World} (h : Above B a b) (k : Above B b c) : Above B a c :=
  ⟨Nat.le_trans h.size k.size, fun x hx hl => (k.block x hx (Nat.lt_of_lt_of_le hl h.size)).trans (h.block x hx hl)⟩
theorem Above.read {B R : Nat} {w w' : World} (hg : w.grownBy w' (some R)) (hR : R < B) : Above B w w' := ⟨hg.size, fun b hb hl => hg.block b hl (fun e => by injection e with e; omega)⟩
theorem Above.below {B : Nat} {w w' : World} (h : Below w.heap.size w w') : Above B w w' := ⟨h.size, fun b _ hl => h.block b hl⟩
theorem Above.set {B : Nat} {w : World} {p : Addr} (hp : p.block < B) (u : Value) : Above B w (w.setCell p u) :=
  ⟨by simp, fun b hb hl => (By.grown_set u).block b hl (fun e => by injection e with e; omega)⟩
theorem Above.cell {B : Nat} {w w' : World} (h : Above B w w') {b o : Nat} (hb : B ≤ b) (hl : b < w.heap.size) : w'.cell? ⟨b, o, none⟩ = w.cell? ⟨b, o, none⟩ := World.cell?_of_block (a := ⟨b, o, none⟩) (h.block b hb hl)
/-- Lists that lie from B on. -/
def RowFrom {α : Type} (cf : α → List Value) (d : Nat) (B : Nat) (w : World) (A : Option Addr) (n : Nat) (zs : List α) : Prop := RowAt cf d w w.heap.size A n zs ∧ (0 < n → ∀ ad, A = some ad → B ≤ ad.block)
theorem RowFrom.above {α : Type} {cf : α → List Value} {d B : Nat} {w w' : World} {A : Option Addr} {n : Nat} {zs : List α} (h : RowFrom cf d B w A n zs) (k : Above B w w') : RowFrom cf d B w' A n zs :=
  ⟨⟨h.1.1, fun hn => by
    obtain ⟨b, off, e, hlt, hc⟩ := h.1.2 hn
    have hb := h.2 hn _ e
    exact ⟨b, off, e, Nat.lt_of_lt_of_le hlt k.size, fun i hi j u hu => (k.cell hb hlt).trans (hc i hi j u hu)⟩⟩, h.2⟩
theorem RowFrom.nil {α : Type} {cf : α → List Value} {d B : Nat} {w : World} {A : Option Addr} : RowFrom cf d B w A 0 ([] : List α) := ⟨RowAt.nil, fun h => absurd h (by omega)⟩
theorem RowFrom.own {α : Type} {cf : α → List Value} {d by' : Nat} {z : Value} {sl e : TypeId} (T : RowTy cf d by' z sl e) {B B' : Nat} {w : World} {A : Option Addr} {n c : Nat} {zs : List α} (h : w.ownsRow B' e d (.slice A n c) n (rowCells cf zs)) (hB : B ≤ B') : RowFrom cf d B w A n zs :=
  ⟨own_row T h, fun _ ad e1 => Nat.le_trans hB (h.lt ad.block (by rw [e1]; rfl)).1⟩
def VecFrom (B : Nat) (w : World) (A : Option Addr) (n : Nat) (zs : List At) : Prop := VecAt w w.heap.size A n zs ∧ (0 < n → ∀ ad, A = some ad → B ≤ ad.block)
theorem vec_above {B : Nat} {w w' : World} {A : Option Addr} {n : Nat} {zs : List At} (h : VecAt w w.heap.size A n zs) (hb : 0 < n → ∀ ad, A = some ad → B ≤ ad.block) (k : Above B w w') : VecAt w' w'.heap.size A n zs :=
  ⟨h.1, fun hn => by
    obtain ⟨b, off, e, hlt, hc⟩ := h.2 hn
    have hb := hb hn _ e
    exact ⟨b, off, e, Nat.lt_of_lt_of_le hlt k.size, fun i hi => ⟨(k.cell hb hlt).trans (hc i hi).1, (k.cell hb hlt).trans (hc i hi).2⟩⟩⟩
theorem VecFrom.above {B : Nat} {w w' : World} {A : Option Addr} {n : Nat} {zs : List At} (h : VecFrom B w A n zs) (k : Above B w w') : VecFrom B w' A n zs := ⟨vec_above h.1 h.2 k, h.2⟩
theorem VecFrom.nil {B : Nat} {w : World} {A : Option Addr} : VecFrom B w A 0 [] := ⟨VecAt.nil _ _ _, fun h => absurd h (by omega)⟩
theorem VecFrom.own {B B' : Nat} {w : World} {A : Option Addr} {n c : Nat} {zs : List At} (h : w.ownsRow B' 95 2 (.slice A n c) n (atCells zs)) (hB : B ≤ B') : VecFrom B w A n zs :=
  ⟨own_vec h, fun _ ad e1 => Nat.le_trans hB (h.lt ad.block (by rw [e1]; rfl)).1⟩
theorem ints_above {B : Nat} {w w' : World} {A : Option Addr} {n : Nat} {zs : List Int} (h : Sp.IntsAt w w.heap.size A n zs) (hb : 0 < n → ∀ ad, A = some ad → B ≤ ad.block) (k : Above B w w') : Sp.IntsAt w' w'.heap.size A n zs :=
  ⟨h.1, fun hn => by
    obtain ⟨b, off, e, hlt, hc⟩ := h.2 hn
    have hb := hb hn _ e
    exact ⟨b, off, e, Nat.lt_of_lt_of_le hlt k.size, fun i hi => (k.cell hb hlt).trans (hc i hi)⟩⟩
def MatMFrom (B : Nat) (w : World) (A : Option Addr) (n : Nat) (m : Mx.Mat) : Prop := ∃ rs, Mx.absH rs = m ∧ RowFrom Mx.cellsH 2 B w A n rs ∧ ∀ r ∈ rs, Mx.Fine w w.heap.size r ∧ UpM B r
theorem MatMFrom.above {B : Nat} {w w' : World} {A : Option Addr} {n : Nat} {m : Mx.Mat} (h : MatMFrom B w A n m) (k : Above B w w') : MatMFrom B w' A n m := by
  obtain ⟨rs, e, hr, hf⟩ := h
  exact ⟨rs, e, hr.above k, fun r hr => ⟨⟨vec_above (hf r hr).1.vec (hf r hr).2 k, (hf r hr).1.cap⟩, (hf r hr).2⟩⟩
theorem MatMFrom.at {B : Nat} {w : World} {A : Option Addr} {n : Nat} {m : Mx.Mat} (h : MatMFrom B w A n m) : Mx.MatAt w w.heap.size A n m := by
  obtain ⟨rs, e, hr, hf⟩ := h
  exact ⟨rs, e, hr.1, fun r hr => (hf r hr).1⟩
theorem MatMFrom.nil {B : Nat} {w : World} {A : Option Addr} : MatMFrom B w A 0 [] := ⟨[], rfl, RowFrom.nil, fun r h => by simp at h⟩
theorem MatMFrom.own {B B' : Nat} {w : World} {A : Option Addr} {n c : Nat} {rs : List Mx.Hd} {m : Mx.Mat} (e : Mx.absH rs = m) (h : Mx.OwnsH w B' 105 A n c rs) (hu : ∀ r ∈ rs, UpM B' r) (hB : B ≤ B') : MatMFrom B w A n m :=
  ⟨rs, e, RowFrom.own tyR h.own hB, fun r hr => ⟨h.fine r hr, fun hn ad e2 => Nat.le_trans hB (hu r hr hn ad e2)⟩⟩
def MatKFrom (B : Nat) (w : World) (A : Option Addr) (n : Nat) (m : Kn.Mat) : Prop := ∃ rs, Kn.absH rs = m ∧ RowFrom Kn.cellsH 3 B w A n rs ∧ ∀ r ∈ rs, Kn.Fine w w.heap.size r ∧ UpK B r
theorem MatKFrom.above {B : Nat} {w w' : World} {A : Option Addr} {n : Nat} {m : Kn.Mat} (h : MatKFrom B w A n m) (k : Above B w w') : MatKFrom B w' A n m := by
  obtain ⟨rs, e, hr, hf⟩ := h
  exact ⟨rs, e, hr.above k, fun r hr => ⟨⟨ints_above (hf r hr).1.vec (hf r hr).2 k, (hf r hr).1.cap⟩, (hf r hr).2⟩⟩
theorem MatKFrom.at {B : Nat} {w : World} {A : Option Addr} {n : Nat} {m : Kn.Mat} (h : MatKFrom B w A n m) : Kn.MatAt w w.heap.size A n m := by
  obtain ⟨rs, e, hr, hf⟩ := h
  exact ⟨rs, e, hr.1, fun r hr => (hf r hr).1⟩
theorem MatKFrom.nil {B : Nat} {w : World} {A : Option Addr} : MatKFrom B w A 0 [] := ⟨[], rfl, RowFrom.nil, fun r h => by simp at h⟩
theorem MatKFrom.own {B B' : Nat} {w : World} {A : Option Addr} {n c : Nat} {rs : List Kn.Hd} {m : Kn.Mat} (e : Kn.absH rs = m) (h : Kn.OwnsH w B' 100 A n c rs) (hu : ∀ r ∈ rs, UpK B' r) (hB : B ≤ B') : MatKFrom B w A n m :=
  ⟨rs, e, RowFrom.own tyK h.own hB, fun r hr => ⟨h.fine r hr, fun hn ad e2 => Nat.le_trans hB (hu r hr hn ad e2)⟩⟩

def itsF : Nat → Rd → (Bool × List By.Itm) × Rd
  | 0, st => ((true, []), st)
  | n + 1, st => if (itsF n st).1.1 then (if By.okI (itsF n st).2 then ((true, (itsF n st).1.2 ++ [By.rawI (itsF n st).2]), By.tkE (itsF n st).2) else ((false, []), By.tkE (itsF n st).2)) else itsF n st
def tkItems (st : Rd) : (Bool × List By.Itm) × Rd := itsF (By.numF st 32).1.toNat (By.numF st 32).2
theorem its_ok {n : Nat} {st t : Rd} {l : List By.Itm} (h : itsF n st = ((true, l), t)) (hk : By.okI t = true) : itsF (n + 1) st = ((true, l ++ [By.rawI t]), By.tkE t) := by
  show (if (itsF n st).1.1 then _ else _) = _
  rw [h]
  simp only [if_true, hk]
theorem its_no {n : Nat} {st t : Rd} {l : List By.Itm} (h : itsF n st = ((true, l), t)) (hk : By.okI t = false) : itsF (n + 1) st = ((false, []), By.tkE t) := by
  show (if (itsF n st).1.1 then _ else _) = _
  rw [h]
  simp [hk]
theorem its_stop {n : Nat} {st : Rd} (h : (itsF n st).1.1 = false) : ∀ m, n ≤ m → itsF m st = itsF n st := fun m hm => by
  induction m with
  | zero => rw [show n = 0 by omega]
  | succ k ih =>
    rcases Nat.lt_or_ge k n with hk | hk
    · rw [show n = k + 1 by omega]
    · have e := ih hk
      show (if (itsF k st).1.1 then _ else itsF k st) = _
      rw [e, h]
      rfl
theorem its_len : ∀ (n : Nat) (st : Rd), (itsF n st).1.2.length ≤ n
  | 0, _ => by simp [itsF]
  | n + 1, st => by
    have ih := its_len n st
    show (if (itsF n st).1.1 then (if By.okI (itsF n st).2 then ((true, (itsF n st).1.2 ++ [By.rawI (itsF n st).2]), By.tkE (itsF n st).2) else ((false, []), By.tkE (itsF n st).2)) else itsF n st).1.2.length ≤ _
    split
    · split
      · simp; omega
      · simp
    · omega
theorem its_right : ∀ (n : Nat) (st : Rd), ∀ x ∈ (itsF n st).1.2, By.rightI x = true
  | 0, _ => by simp [itsF]
  | n + 1, st => by
    have ih := its_right n st
    show ∀ x ∈ (if (itsF n st).1.1 then (if By.okI (itsF n st).2 then ((true, (itsF n st).1.2 ++ [By.rawI (itsF n st).2]), By.tkE (itsF n st).2) else ((false, []), By.tkE (itsF n st).2)) else itsF n st).1.2, By.rightI x = true
    split
    · split
      · rename_i hok
        intro x hx
        simp only [List.mem_append, List.mem_singleton] at hx
        rcases hx with hx | rfl
        · exact ih x hx
        · unfold By.okI at hok
          rw [Bool.and_eq_true] at hok
          exact hok.2
      · intro x hx; simp at hx
    · exact ih
def TkItems (st : Rd) (R g N : Nat) (w : World) (en : Ending) (w' : World) : Prop :=
  ∃ A c, en = .returned (.tuple #[.slice A (tkItems st).1.2.length c, .bool (tkItems st).1.1]) ∧ RowFrom By.cellsP 8 w.heap.size w' A (tkItems st).1.2.length (tkItems st).1.2 ∧ Rdr w' R g N (tkItems st).2 ∧ w.grownBy w' (some R)
set_option maxRecDepth 100000 in
set_option maxHeartbeats 4000000 in
theorem takeItems_any {R g N : Nat} {st : Rd} (w : World) (h : Rdr w R g N st) :
    Calls Tryz.prog 176 #[.pointer (some ⟨R, 0, none⟩)] w (TkItems st R g N w) := by
  obtain ⟨n, hn, hnm⟩ := num_count st 32 (by omega)
  have HC := Lib.hid (rnum_rdr 32 w h)
  have hRlt := h.lt
  have hle := h.le
  clear h
  rw [hn] at HC
  have HT : Hid (tkItems st = itsF n (By.numF st 32).2) := by show tkItems st = _; unfold tkItems; rw [hn]; rfl
  have HFR : Hid (TkItems st R g N w = fun en w' => ∃ A c, en = .returned (.tuple #[.slice A (tkItems st).1.2.length c, .bool (tkItems st).1.1]) ∧ RowFrom By.cellsP 8 w.heap.size w' A (tkItems st).1.2.length (tkItems st).1.2 ∧ Rdr w' R g N (tkItems st).2 ∧ w.grownBy w' (some R)) := rfl
  rw [HT.out] at HFR
  generalize TkItems st R g N w = PR at *
  generalize (By.numF st 32).2 = s0 at *
  clear hn HT
  go_enter Tryz.func176, Tryz.ntmps176
  go_wp2_with fail
  refine HC.out.mono ?_
  rintro e w1 ⟨rfl, hr, hg⟩
  have HR := Lib.hid hr
  have HG := Lib.hid hg
  clear hr hg HC
  go_wp2
  go_loopw [4, 9] (fun v i wr => ∃ (k : Nat) (A : Option Addr) (c : Nat) (l : List By.Itm) (t : Rd), k ≤ n ∧ i = .int .i64 k ∧ v = .slice A k c ∧ Hid (itsF k s0 = ((true, l), t)) ∧ Hid (wr.ownsRow w.heap.size 114 8 (.slice A k c) k (rowCells By.cellsP l)) ∧ Hid (Rdr wr R g N t) ∧ Hid (w.grownBy wr (some R))) (fun _ i _ => n - (intOf i).toNat)
  case atStart => exact ⟨0, none, 0, [], s0, by omega, rfl, rfl, rfl, rown_nil _ _, HR, HG⟩
  case round =>
    clear HR HG
    obtain ⟨k, A, c, l0, t0, hk, rfl, rfl, HS, HO, HR, HG⟩ := hrel
    by_cases hlt : k < n
    · have hi1 : (k : Int) < (n : Int) := by omega
      have HC := Lib.hid (ritem_rdr _ HR.out)
      have hsz1 := HG.out.size
      cases hok : By.okI t0 with
      | false =>
        have HF := Lib.hid ((its_stop (by rw [its_no HS.out hok]) n (by omega)).trans (its_no HS.out hok))
        rw [hok] at HC
        generalize (if false = true then By.rawI t0 else By.zeroI) = I at *
        obtain ⟨key, ⟨d, a, s⟩, dead, x, y, text, held⟩ := I
        unfold By.itmV at HC
        simp only at HC
        generalize fl x = fx at *
        generalize fl y = fy at *
        have hst := By.store_complex
        go_wp2_with fail
        refine HC.out.mono ?_
        rintro e w2 ⟨rfl, hr, hg⟩
        have HR2 := Lib.hid (hr.below ((Below.refl _ _).alloc (Nat.le_refl _) (.cells #[.int .i64 key, .string d, .int .i64 a, .int .i64 s, .bool dead, .complex .f64 fx fy, .string text, .bool held] 114)))
        have HG2 := Lib.hid ((HG.out.trans hg).trans (By.grown_alloc w2 (.cells #[.int .i64 key, .string d, .int .i64 a, .int .i64 s, .bool dead, .complex .f64 fx fy, .string text, .bool held] 114) (some R)))
        clear hr hg HC HR HO HG
        go_wp2
        rw [HFR.out, HF.out]
        exact ⟨none, 0, rfl, RowFrom.nil, HR2.out, HG2.out⟩
      | true =>
        have HF := Lib.hid (its_ok HS.out hok)
        rw [hok] at HC
        simp only [if_true] at HC
        generalize By.rawI t0 = I at *
        generalize By.tkE t0 = t1 at *
        have hI : By.cellsP I = [.int .i64 I.key, .string I.ver.id, .int .i64 I.ver.seq, .int .i64 I.ver.stamp, .bool I.dead, .complex .f64 (fl I.x) (fl I.y), .string I.text, .bool I.held] := rfl
        have HI := Lib.hid hI
        clear hI
        generalize hII : I = J at HF
        obtain ⟨key, ⟨d, a, s⟩, dead, x, y, text, held⟩ := I
        unfold By.itmV at HC
        simp only at HC HI
        generalize fl x = fx at *
        generalize fl y = fy at *
        rw [hII] at HI
        clear hII
        have hst := By.store_complex
        have hst2 := By.store_complex
        go_wp2_with fail
        refine HC.out.mono ?_
        rintro e w2 ⟨rfl, hr, hg⟩
        have hb0 : Below w2.heap.size w2 ((w2.alloc (.cells #[.int .i64 key, .string d, .int .i64 a, .int .i64 s, .bool dead, .complex .f64 fx fy, .string text, .bool held] 114)).alloc (.cells #[.int .i64 key, .string d, .int .i64 a, .int .i64 s, .bool dead, .complex .f64 fx fy, .string text, .bool held] 114)) := ((Below.refl _ _).alloc (Nat.le_refl _) _).alloc (by simp) _
        have HX : Hid (RowAt By.cellsP 8 ((w2.alloc (.cells #[.int .i64 key, .string d, .int .i64 a, .int .i64 s, .bool dead, .complex .f64 fx fy, .string text, .bool held] 114)).alloc (.cells #[.int .i64 key, .string d, .int .i64 a, .int .i64 s, .bool dead, .complex .f64 fx fy, .string text, .bool held] 114)) (w2.heap.size + 1 + 1) (some ⟨w2.heap.size + 1, 0, none⟩) 1 [J]) := one_row By.rowP (x := J) (by rw [HI.out, show w2.heap.size + 1 = (w2.alloc (.cells #[.int .i64 key, .string d, .int .i64 a, .int .i64 s, .bool dead, .complex .f64 fx fy, .string text, .bool held] 114)).heap.size by simp]; exact heap_alloc_new _ _)
        have HR3 := Lib.hid (hr.below hb0)
        have HO3 := Lib.hid (rown_below (own_read HO.out (by omega) hg) hb0)
        have HG3 := Lib.hid ((HG.out.trans hg).trans (By.grown_of_below hb0 (some R)))
        have hsz := HG3.out.size
        clear hr hg HC HR HO HG hb0
        go_wp2_with (at_builtin; refine wpList_append_row By.rowP (B := w.heap.size) (B' := w2.heap.size + 1 + 1) (v := .slice A k c) (n := k) (zs := l0) (A := some ⟨w2.heap.size + 1, 0, none⟩) (m := 1) (c := 1) (ys := [J]) rfl _ _ rfl rfl HO3.out rfl HX.out (by omega) (by exact hsz) ?_; intro A3 c3 w3 hown3 hg3 _; have HR4 := Lib.hid (HR3.out.grown hg3 (fun b e => Nat.le_trans hle (HO3.out.lt b e).1)); have HG4 := Lib.hid (grown_row HG3.out hg3 (fun b e => (HO3.out.lt b e).1)); have HO4 := Lib.hid hown3; clear hown3 hg3 HO3 HR3 HG3 HX)
        go_roundw
        case rel => exact ⟨k + 1, A3, c3, l0 ++ [J], t1, by omega, by go_num, rfl, HF, HO4, HR4, HG4⟩
        case measure => simp [intOf]; omega
    · obtain rfl : k = n := by omega
      have hi1 : ¬ (k : Int) < k := by omega
      go_wp2
      rw [HFR.out, HS.out]
      have hl : l0.length = k := by
        have := HO.out.1
        rw [rowCells_length (d := 8) (fun _ => rfl)] at this
        omega
      exact ⟨A, c, by rw [hl], by rw [hl]; exact RowFrom.own By.rowP HO.out (Nat.le_refl _), HR.out, HG.out⟩
end Go.Proofs.YtbookbgfipbaoaaGreatDoor
