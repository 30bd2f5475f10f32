/- item.Take. -/
import Derived.Test.YtbookbgfipbaoaaGreatDoorH6
import Derived.Deep.MidRow
import Derived.Deep.CutBlock
import Derived.Deep.DeepCutAuto
namespace Go.Proofs.YtbookbgfipbaoaaGreatDoor.By
open Go.RowKit

theorem store_complex (W : World) (a : Addr) (k : FloatKind) (x y : Nat) (m : Mode) : (store a (.complex k x y) m).run Tryz.prog W = stored Tryz.prog W a (.complex k x y) m := run_store _ W a _ m rfl
theorem zero_fl : fl 0 = 0 := by decide
theorem grown_below {w w1 w2 : World} {row : Option Nat} (h : w.grownBy w1 row) (hb : Below w1.heap.size w1 w2) : w.grownBy w2 row := h.trans (grown_of_below hb row)
set_option maxRecDepth 100000 in
set_option maxHeartbeats 16000000 in
theorem take_any {R g : Nat} {st : Rd} (w : World) (h : ReaderAt w R g st) :
    Calls Tryz.prog 193 #[.pointer (some ⟨R, 0, none⟩)] w (RdRet (.tuple #[itmV (if okI st then rawI st else zeroI), .bool (okI st)]) R g (tkE st) w) := by
  have hRlt := h.lt
  have hglt := h.glt
  have HR0 := Lib.hid (h.allocd (.cells #[.int .i64 0, .string ⟨#[]⟩, .int .i64 0, .int .i64 0, .bool false, .complex .f64 0 0, .string ⟨#[]⟩, .bool false] 114))
  clear h
  obtain ⟨V, hV⟩ : ∃ V, V = itmV (if okI st then rawI st else zeroI) := ⟨_, rfl⟩
  rw [← hV]
  have HV := Lib.hid hV
  clear hV
  obtain ⟨ok, hok⟩ : ∃ b, b = okI st := ⟨_, rfl⟩
  rw [← hok] at HV ⊢
  have HOK := Lib.hid hok
  clear hok
  obtain ⟨sE, hsE⟩ : ∃ s, s = tkE st := ⟨_, rfl⟩
  rw [← hsE]
  have HSE := Lib.hid hsE
  clear hsE
  have HT1 := Lib.hid (show tk1 st = numF st 31 from rfl)
  have HG0 : Hid (∀ s : Rd, (s.1 ≠ [] → st.1 ≠ []) → ∀ b, w.heap.size ≤ b → s.1 ≠ [] → g ≠ b) := fun s h b hb hn e => by have := hglt (h hn); omega
  clear hglt
  have hst := store_complex
  go_enter Tryz.func193, Tryz.ntmps193
  go_wp2_with fail
  refine (num_any 31 _ HR0.out).mono ?_
  have HC1 : Hid ((numF st 31).2.1 ≠ [] → st.1 ≠ []) := num_rest
  generalize numF st 31 = N1 at *
  obtain ⟨n1, s1⟩ := N1
  rintro e w1 ⟨rfl, hR, hg, hdel⟩
  clear hdel
  simp only at hR HC1 ⊢
  have hb0 : w.heap.size < w1.heap.size := by have := hg.size; simp at this; omega
  have hRb : w.heap.size ≠ R := by omega
  have hRb' : some w.heap.size ≠ (some R : Option Nat) := fun e => by injection e with e; omega
  have z0 := (own_cell hg (b := w.heap.size) (by simp) hRb' 0).1.trans (show _ = some (.int .i64 0) by simp [go_sem])
  have y0 := (own_cell hg (b := w.heap.size) (by simp) hRb' 0).2.trans (show _ = false by simp [go_sem])
  have z1 := (own_cell hg (b := w.heap.size) (by simp) hRb' 1).1.trans (show _ = some (.string ⟨#[]⟩) by simp [go_sem])
  have y1 := (own_cell hg (b := w.heap.size) (by simp) hRb' 1).2.trans (show _ = false by simp [go_sem])
  have z2 := (own_cell hg (b := w.heap.size) (by simp) hRb' 2).1.trans (show _ = some (.int .i64 0) by simp [go_sem])
  have y2 := (own_cell hg (b := w.heap.size) (by simp) hRb' 2).2.trans (show _ = false by simp [go_sem])
  have z3 := (own_cell hg (b := w.heap.size) (by simp) hRb' 3).1.trans (show _ = some (.int .i64 0) by simp [go_sem])
  have y3 := (own_cell hg (b := w.heap.size) (by simp) hRb' 3).2.trans (show _ = false by simp [go_sem])
  have z4 := (own_cell hg (b := w.heap.size) (by simp) hRb' 4).1.trans (show _ = some (.bool false) by simp [go_sem])
  have y4 := (own_cell hg (b := w.heap.size) (by simp) hRb' 4).2.trans (show _ = false by simp [go_sem])
  have z5 := (own_cell hg (b := w.heap.size) (by simp) hRb' 5).1.trans (show _ = some (.complex .f64 0 0) by simp [go_sem])
  have y5 := (own_cell hg (b := w.heap.size) (by simp) hRb' 5).2.trans (show _ = false by simp [go_sem])
  have z6 := (own_cell hg (b := w.heap.size) (by simp) hRb' 6).1.trans (show _ = some (.string ⟨#[]⟩) by simp [go_sem])
  have y6 := (own_cell hg (b := w.heap.size) (by simp) hRb' 6).2.trans (show _ = false by simp [go_sem])
  have z7 := (own_cell hg (b := w.heap.size) (by simp) hRb' 7).1.trans (show _ = some (.bool false) by simp [go_sem])
  have y7 := (own_cell hg (b := w.heap.size) (by simp) hRb' 7).2.trans (show _ = false by simp [go_sem])
  have HR1 := Lib.hid hR
  have HG1 : Hid (w.grownBy w1 (some R)) := (grown_alloc w _ _).trans hg
  clear hR hg HR0
  have HT2 : Hid (tk2 st = textF s1 6) := by show _ = _; unfold tk2; rw [HT1.out]
  have HT3 : Hid (tk3 st = numF (textF s1 6).2 1048576) := by show _ = _; unfold tk3; rw [HT2.out]
  have HT4 : Hid (tk4 st = numF (numF (textF s1 6).2 1048576).2 1048576) := by show _ = _; unfold tk4; rw [HT3.out]
  have HC4 : Hid ((numF (numF (textF s1 6).2 1048576).2 1048576).2.1 ≠ [] → st.1 ≠ []) := fun h => HC1.out (text_rest (num_rest (num_rest h)))
  go_wp2_with fail
  refine (takeVersion_any _ HR1.out).mono ?_
  unfold vrsV
  generalize numF (numF (textF s1 6).2 1048576).2 1048576 = N4 at *
  generalize numF (textF s1 6).2 1048576 = N3 at *
  generalize textF s1 6 = N2 at *
  obtain ⟨x2, s2⟩ := N2
  obtain ⟨n3, s3⟩ := N3
  obtain ⟨n4, s4⟩ := N4
  rintro e w2 ⟨rfl, hR, hg⟩
  simp only at hR HC4 ⊢
  replace z0 := (own_cell hg hb0 hRb' 0).1.trans z0
  replace y0 := (own_cell hg hb0 hRb' 0).2.trans y0
  replace z1 := (own_cell hg hb0 hRb' 1).1.trans z1
  replace y1 := (own_cell hg hb0 hRb' 1).2.trans y1
  replace z2 := (own_cell hg hb0 hRb' 2).1.trans z2
  replace y2 := (own_cell hg hb0 hRb' 2).2.trans y2
  replace z3 := (own_cell hg hb0 hRb' 3).1.trans z3
  replace y3 := (own_cell hg hb0 hRb' 3).2.trans y3
  replace z4 := (own_cell hg hb0 hRb' 4).1.trans z4
  replace y4 := (own_cell hg hb0 hRb' 4).2.trans y4
  replace z5 := (own_cell hg hb0 hRb' 5).1.trans z5
  replace y5 := (own_cell hg hb0 hRb' 5).2.trans y5
  replace z6 := (own_cell hg hb0 hRb' 6).1.trans z6
  replace y6 := (own_cell hg hb0 hRb' 6).2.trans y6
  replace z7 := (own_cell hg hb0 hRb' 7).1.trans z7
  replace y7 := (own_cell hg hb0 hRb' 7).2.trans y7
  replace hb0 := Nat.lt_of_lt_of_le hb0 hg.size
  have HR2 := Lib.hid (hR.allocd (.cells #[.string ⟨x2.toArray⟩, .int .i64 n3, .int .i64 n4] 111))
  have HG2 := Lib.hid (HG1.out.trans hg)
  have hb2 : w.heap.size ≤ w2.heap.size := by omega
  have hR2 : R < w2.heap.size := hR.lt
  clear hR hg HR1 HG1
  have HT5 : Hid (tk5 st = numF s4 2) := by show _ = _; unfold tk5; rw [HT4.out]
  have HC5 : Hid ((numF s4 2).2.1 ≠ [] → st.1 ≠ []) := fun h => HC4.out (num_rest h)
  have bn5 := num_le s4 2
  go_wp2_with fail
  refine (num_any 2 _ HR2.out).mono ?_
  generalize numF s4 2 = N5 at *
  obtain ⟨n5, s5⟩ := N5
  rintro e w3 ⟨rfl, hR, hg, hdel⟩
  clear hdel
  simp only at hR HC5 bn5 ⊢
  have hRv : some w2.heap.size ≠ (some R : Option Nat) := fun e => by injection e with e; omega
  have v0 := (own_cell hg (b := w2.heap.size) (by simp) hRv 0).1.trans (show _ = some (.string ⟨x2.toArray⟩) by simp [go_sem])
  have v1 := (own_cell hg (b := w2.heap.size) (by simp) hRv 1).1.trans (show _ = some (.int .i64 n3) by simp [go_sem])
  have v2 := (own_cell hg (b := w2.heap.size) (by simp) hRv 2).1.trans (show _ = some (.int .i64 n4) by simp [go_sem])
  replace z0 := (own_cell hg (by simp; omega) hRb' 0).1.trans ((World.cell?_alloc_lt _ _ ⟨w.heap.size, 0, none⟩ hb0).trans z0)
  replace y0 := (own_cell hg (by simp; omega) hRb' 0).2.trans ((((Below.refl w2.heap.size w2).alloc (Nat.le_refl _) _).frozen (p := ⟨w.heap.size, 0, none⟩) hb0).trans y0)
  replace z1 := (own_cell hg (by simp; omega) hRb' 1).1.trans ((World.cell?_alloc_lt _ _ ⟨w.heap.size, 1, none⟩ hb0).trans z1)
  replace y1 := (own_cell hg (by simp; omega) hRb' 1).2.trans ((((Below.refl w2.heap.size w2).alloc (Nat.le_refl _) _).frozen (p := ⟨w.heap.size, 1, none⟩) hb0).trans y1)
  replace z2 := (own_cell hg (by simp; omega) hRb' 2).1.trans ((World.cell?_alloc_lt _ _ ⟨w.heap.size, 2, none⟩ hb0).trans z2)
  replace y2 := (own_cell hg (by simp; omega) hRb' 2).2.trans ((((Below.refl w2.heap.size w2).alloc (Nat.le_refl _) _).frozen (p := ⟨w.heap.size, 2, none⟩) hb0).trans y2)
  replace z3 := (own_cell hg (by simp; omega) hRb' 3).1.trans ((World.cell?_alloc_lt _ _ ⟨w.heap.size, 3, none⟩ hb0).trans z3)
  replace y3 := (own_cell hg (by simp; omega) hRb' 3).2.trans ((((Below.refl w2.heap.size w2).alloc (Nat.le_refl _) _).frozen (p := ⟨w.heap.size, 3, none⟩) hb0).trans y3)
  replace z4 := (own_cell hg (by simp; omega) hRb' 4).1.trans ((World.cell?_alloc_lt _ _ ⟨w.heap.size, 4, none⟩ hb0).trans z4)
  replace y4 := (own_cell hg (by simp; omega) hRb' 4).2.trans ((((Below.refl w2.heap.size w2).alloc (Nat.le_refl _) _).frozen (p := ⟨w.heap.size, 4, none⟩) hb0).trans y4)
  replace z5 := (own_cell hg (by simp; omega) hRb' 5).1.trans ((World.cell?_alloc_lt _ _ ⟨w.heap.size, 5, none⟩ hb0).trans z5)
  replace y5 := (own_cell hg (by simp; omega) hRb' 5).2.trans ((((Below.refl w2.heap.size w2).alloc (Nat.le_refl _) _).frozen (p := ⟨w.heap.size, 5, none⟩) hb0).trans y5)
  replace z6 := (own_cell hg (by simp; omega) hRb' 6).1.trans ((World.cell?_alloc_lt _ _ ⟨w.heap.size, 6, none⟩ hb0).trans z6)
  replace y6 := (own_cell hg (by simp; omega) hRb' 6).2.trans ((((Below.refl w2.heap.size w2).alloc (Nat.le_refl _) _).frozen (p := ⟨w.heap.size, 6, none⟩) hb0).trans y6)
  replace z7 := (own_cell hg (by simp; omega) hRb' 7).1.trans ((World.cell?_alloc_lt _ _ ⟨w.heap.size, 7, none⟩ hb0).trans z7)
  replace y7 := (own_cell hg (by simp; omega) hRb' 7).2.trans ((((Below.refl w2.heap.size w2).alloc (Nat.le_refl _) _).frozen (p := ⟨w.heap.size, 7, none⟩) hb0).trans y7)
  have hs23 : w2.heap.size < w3.heap.size := by have := hg.size; simp at this; omega
  replace hb0 : w.heap.size < w3.heap.size := by omega
  have HR3 := Lib.hid hR
  have HG3 : Hid (w.grownBy w3 (some R)) := (grown_more HG2.out _).trans hg
  have hb3 : w.heap.size ≤ w3.heap.size := by omega
  have hR3 : R < w3.heap.size := hR.lt
  clear hR hg HR2 HG2
  have hRi : some w3.heap.size ≠ (some R : Option Nat) := fun e => by injection e with e; omega
  obtain ⟨b5a, b5b⟩ := bn5
  have b5c : n5 = 0 ∨ n5 = 1 ∨ n5 = 2 := by omega
  clear b5a b5b
  rcases b5c with rfl | rfl | rfl
  · have HK : Hid (tk5 st = (0, s5)) := HT5.out
    go_wp2_with fail
    replace z0 := (World.cell?_alloc_lt w3 (.cells #[.int .i64 n1, .string ⟨x2.toArray⟩, .int .i64 n3, .int .i64 n4, .bool true, .complex .f64 0 0, .string ⟨#[]⟩, .bool false] 114) ⟨w.heap.size, 0, none⟩ hb0).trans z0
    replace y0 := (((Below.refl w3.heap.size w3).alloc (Nat.le_refl _) (.cells #[.int .i64 n1, .string ⟨x2.toArray⟩, .int .i64 n3, .int .i64 n4, .bool true, .complex .f64 0 0, .string ⟨#[]⟩, .bool false] 114)).frozen (p := ⟨w.heap.size, 0, none⟩) hb0).trans y0
    replace z1 := (World.cell?_alloc_lt w3 (.cells #[.int .i64 n1, .string ⟨x2.toArray⟩, .int .i64 n3, .int .i64 n4, .bool true, .complex .f64 0 0, .string ⟨#[]⟩, .bool false] 114) ⟨w.heap.size, 1, none⟩ hb0).trans z1
    replace y1 := (((Below.refl w3.heap.size w3).alloc (Nat.le_refl _) (.cells #[.int .i64 n1, .string ⟨x2.toArray⟩, .int .i64 n3, .int .i64 n4, .bool true, .complex .f64 0 0, .string ⟨#[]⟩, .bool false] 114)).frozen (p := ⟨w.heap.size, 1, none⟩) hb0).trans y1
    replace z2 := (World.cell?_alloc_lt w3 (.cells #[.int .i64 n1, .string ⟨x2.toArray⟩, .int .i64 n3, .int .i64 n4, .bool true, .complex .f64 0 0, .string ⟨#[]⟩, .bool false] 114) ⟨w.heap.size, 2, none⟩ hb0).trans z2
    replace y2 := (((Below.refl w3.heap.size w3).alloc (Nat.le_refl _) (.cells #[.int .i64 n1, .string ⟨x2.toArray⟩, .int .i64 n3, .int .i64 n4, .bool true, .complex .f64 0 0, .string ⟨#[]⟩, .bool false] 114)).frozen (p := ⟨w.heap.size, 2, none⟩) hb0).trans y2
    replace z3 := (World.cell?_alloc_lt w3 (.cells #[.int .i64 n1, .string ⟨x2.toArray⟩, .int .i64 n3, .int .i64 n4, .bool true, .complex .f64 0 0, .string ⟨#[]⟩, .bool false] 114) ⟨w.heap.size, 3, none⟩ hb0).trans z3
    replace y3 := (((Below.refl w3.heap.size w3).alloc (Nat.le_refl _) (.cells #[.int .i64 n1, .string ⟨x2.toArray⟩, .int .i64 n3, .int .i64 n4, .bool true, .complex .f64 0 0, .string ⟨#[]⟩, .bool false] 114)).frozen (p := ⟨w.heap.size, 3, none⟩) hb0).trans y3
    replace z4 := (World.cell?_alloc_lt w3 (.cells #[.int .i64 n1, .string ⟨x2.toArray⟩, .int .i64 n3, .int .i64 n4, .bool true, .complex .f64 0 0, .string ⟨#[]⟩, .bool false] 114) ⟨w.heap.size, 4, none⟩ hb0).trans z4
    replace y4 := (((Below.refl w3.heap.size w3).alloc (Nat.le_refl _) (.cells #[.int .i64 n1, .string ⟨x2.toArray⟩, .int .i64 n3, .int .i64 n4, .bool true, .complex .f64 0 0, .string ⟨#[]⟩, .bool false] 114)).frozen (p := ⟨w.heap.size, 4, none⟩) hb0).trans y4
    replace z5 := (World.cell?_alloc_lt w3 (.cells #[.int .i64 n1, .string ⟨x2.toArray⟩, .int .i64 n3, .int .i64 n4, .bool true, .complex .f64 0 0, .string ⟨#[]⟩, .bool false] 114) ⟨w.heap.size, 5, none⟩ hb0).trans z5
    replace y5 := (((Below.refl w3.heap.size w3).alloc (Nat.le_refl _) (.cells #[.int .i64 n1, .string ⟨x2.toArray⟩, .int .i64 n3, .int .i64 n4, .bool true, .complex .f64 0 0, .string ⟨#[]⟩, .bool false] 114)).frozen (p := ⟨w.heap.size, 5, none⟩) hb0).trans y5
    replace z6 := (World.cell?_alloc_lt w3 (.cells #[.int .i64 n1, .string ⟨x2.toArray⟩, .int .i64 n3, .int .i64 n4, .bool true, .complex .f64 0 0, .string ⟨#[]⟩, .bool false] 114) ⟨w.heap.size, 6, none⟩ hb0).trans z6
    replace y6 := (((Below.refl w3.heap.size w3).alloc (Nat.le_refl _) (.cells #[.int .i64 n1, .string ⟨x2.toArray⟩, .int .i64 n3, .int .i64 n4, .bool true, .complex .f64 0 0, .string ⟨#[]⟩, .bool false] 114)).frozen (p := ⟨w.heap.size, 6, none⟩) hb0).trans y6
    replace z7 := (World.cell?_alloc_lt w3 (.cells #[.int .i64 n1, .string ⟨x2.toArray⟩, .int .i64 n3, .int .i64 n4, .bool true, .complex .f64 0 0, .string ⟨#[]⟩, .bool false] 114) ⟨w.heap.size, 7, none⟩ hb0).trans z7
    replace y7 := (((Below.refl w3.heap.size w3).alloc (Nat.le_refl _) (.cells #[.int .i64 n1, .string ⟨x2.toArray⟩, .int .i64 n3, .int .i64 n4, .bool true, .complex .f64 0 0, .string ⟨#[]⟩, .bool false] 114)).frozen (p := ⟨w.heap.size, 7, none⟩) hb0).trans y7
    have i0 : (w3.alloc (.cells #[.int .i64 n1, .string ⟨x2.toArray⟩, .int .i64 n3, .int .i64 n4, .bool true, .complex .f64 0 0, .string ⟨#[]⟩, .bool false] 114)).cell? ⟨w3.heap.size, 0, none⟩ = some (.int .i64 n1) := by simp [go_sem]
    have i1 : (w3.alloc (.cells #[.int .i64 n1, .string ⟨x2.toArray⟩, .int .i64 n3, .int .i64 n4, .bool true, .complex .f64 0 0, .string ⟨#[]⟩, .bool false] 114)).cell? ⟨w3.heap.size, 1, none⟩ = some (.string ⟨x2.toArray⟩) := by simp [go_sem]
    have i2 : (w3.alloc (.cells #[.int .i64 n1, .string ⟨x2.toArray⟩, .int .i64 n3, .int .i64 n4, .bool true, .complex .f64 0 0, .string ⟨#[]⟩, .bool false] 114)).cell? ⟨w3.heap.size, 2, none⟩ = some (.int .i64 n3) := by simp [go_sem]
    have i3 : (w3.alloc (.cells #[.int .i64 n1, .string ⟨x2.toArray⟩, .int .i64 n3, .int .i64 n4, .bool true, .complex .f64 0 0, .string ⟨#[]⟩, .bool false] 114)).cell? ⟨w3.heap.size, 3, none⟩ = some (.int .i64 n4) := by simp [go_sem]
    have i4 : (w3.alloc (.cells #[.int .i64 n1, .string ⟨x2.toArray⟩, .int .i64 n3, .int .i64 n4, .bool true, .complex .f64 0 0, .string ⟨#[]⟩, .bool false] 114)).cell? ⟨w3.heap.size, 4, none⟩ = some (.bool true) := by simp [go_sem]
    have i5 : (w3.alloc (.cells #[.int .i64 n1, .string ⟨x2.toArray⟩, .int .i64 n3, .int .i64 n4, .bool true, .complex .f64 0 0, .string ⟨#[]⟩, .bool false] 114)).cell? ⟨w3.heap.size, 5, none⟩ = some (.complex .f64 0 0) := by simp [go_sem]
    have i6 : (w3.alloc (.cells #[.int .i64 n1, .string ⟨x2.toArray⟩, .int .i64 n3, .int .i64 n4, .bool true, .complex .f64 0 0, .string ⟨#[]⟩, .bool false] 114)).cell? ⟨w3.heap.size, 6, none⟩ = some (.string ⟨#[]⟩) := by simp [go_sem]
    have i7 : (w3.alloc (.cells #[.int .i64 n1, .string ⟨x2.toArray⟩, .int .i64 n3, .int .i64 n4, .bool true, .complex .f64 0 0, .string ⟨#[]⟩, .bool false] 114)).cell? ⟨w3.heap.size, 7, none⟩ = some (.bool false) := by simp [go_sem]
    have j5 : (w3.alloc (.cells #[.int .i64 n1, .string ⟨x2.toArray⟩, .int .i64 n3, .int .i64 n4, .bool true, .complex .f64 0 0, .string ⟨#[]⟩, .bool false] 114)).frozen? ⟨w3.heap.size, 5, none⟩ = false := by simp [go_sem]
    have j6 : (w3.alloc (.cells #[.int .i64 n1, .string ⟨x2.toArray⟩, .int .i64 n3, .int .i64 n4, .bool true, .complex .f64 0 0, .string ⟨#[]⟩, .bool false] 114)).frozen? ⟨w3.heap.size, 6, none⟩ = false := by simp [go_sem]
    have hbW : w.heap.size < (w3.alloc (.cells #[.int .i64 n1, .string ⟨x2.toArray⟩, .int .i64 n3, .int .i64 n4, .bool true, .complex .f64 0 0, .string ⟨#[]⟩, .bool false] 114)).heap.size := by simp; omega
    have hib : w3.heap.size < (w3.alloc (.cells #[.int .i64 n1, .string ⟨x2.toArray⟩, .int .i64 n3, .int .i64 n4, .bool true, .complex .f64 0 0, .string ⟨#[]⟩, .bool false] 114)).heap.size := by simp
    have hne : w.heap.size ≠ w3.heap.size := by omega
    have HRA := Lib.hid (HR3.out.allocd (.cells #[.int .i64 n1, .string ⟨x2.toArray⟩, .int .i64 n3, .int .i64 n4, .bool true, .complex .f64 0 0, .string ⟨#[]⟩, .bool false] 114))
    have HGA : Hid (w.grownBy (w3.alloc (.cells #[.int .i64 n1, .string ⟨x2.toArray⟩, .int .i64 n3, .int .i64 n4, .bool true, .complex .f64 0 0, .string ⟨#[]⟩, .bool false] 114)) (some R)) := grown_more HG3.out _
    generalize (w3.alloc (.cells #[.int .i64 n1, .string ⟨x2.toArray⟩, .int .i64 n3, .int .i64 n4, .bool true, .complex .f64 0 0, .string ⟨#[]⟩, .bool false] 114)) = W at *
    have hibw : w.heap.size ≤ w3.heap.size := hb3
    clear HR3 HG3 hb0 hs23 hb2 hR2 v0 v1 v2 hb3 hRv
    generalize w3.heap.size = ib at *
    have HS : Hid (tkS st = s5) := by show _ = _; unfold tkS; rw [HK.out]; simp
    have HE : Hid (tkE st = s5) := by show _ = _; unfold tkE; rw [HK.out, HS.out]; simp
    have HRaw : Hid (rawI st = ⟨n1, ⟨⟨x2.toArray⟩, n3, n4⟩, true, 0, 0, ⟨#[]⟩, false⟩) := by show _ = _; unfold rawI; rw [HT1.out, HT2.out, HT3.out, HT4.out, HK.out]; simp
    have HRT := Lib.hid (itemRight_any ⟨n1, ⟨⟨x2.toArray⟩, n3, n4⟩, true, 0, 0, ⟨#[]⟩, false⟩ (show (0 : Int).natAbs < 2 ^ 53 by decide) (show (0 : Int).natAbs < 2 ^ 53 by decide))
    have HIV := Lib.hid (show itmV ⟨n1, ⟨⟨x2.toArray⟩, n3, n4⟩, true, 0, 0, ⟨#[]⟩, false⟩ = .agg #[.int .i64 n1, .string ⟨x2.toArray⟩, .int .i64 n3, .int .i64 n4, .bool true, .complex .f64 0 0, .string ⟨#[]⟩, .bool false] by unfold itmV; simp only [zero_fl])
    rw [HIV.out] at HRT
    generalize hr : rightI ⟨n1, ⟨⟨x2.toArray⟩, n3, n4⟩, true, 0, 0, ⟨#[]⟩, false⟩ = r at HRT
    have HRr := Lib.hid hr
    clear hr
    have HNE : Hid (s5.1 ≠ [] → g ≠ w.heap.size) := HG0.out s5 HC5.out _ (Nat.le_refl _)
    obtain ⟨S, hS⟩ : ∃ S, S = s5 := ⟨_, rfl⟩
    rw [← hS] at HE HNE HRA
    clear hS
    refine (err_any _ HRA.out).mono ?_
    rintro e u ⟨rfl, rfl⟩
    by_cases he : S.2 = 0
    · have he1 : ((S.2 : Int) != 0) = false := by simpa using he
      have HE0 := Lib.hid he
      clear he
      go_wp2_with fail
      refine (HRT.out _).mono ?_
      rintro e w6 ⟨rfl, hb⟩
      replace z0 := (hb.cell (p := ⟨w.heap.size, 0, none⟩) hbW).trans z0
      replace y0 := (hb.frozen (p := ⟨w.heap.size, 0, none⟩) hbW).trans y0
      replace i0 := (hb.cell (p := ⟨ib, 0, none⟩) hib).trans i0
      replace z1 := (hb.cell (p := ⟨w.heap.size, 1, none⟩) hbW).trans z1
      replace y1 := (hb.frozen (p := ⟨w.heap.size, 1, none⟩) hbW).trans y1
      replace i1 := (hb.cell (p := ⟨ib, 1, none⟩) hib).trans i1
      replace z2 := (hb.cell (p := ⟨w.heap.size, 2, none⟩) hbW).trans z2
      replace y2 := (hb.frozen (p := ⟨w.heap.size, 2, none⟩) hbW).trans y2
      replace i2 := (hb.cell (p := ⟨ib, 2, none⟩) hib).trans i2
      replace z3 := (hb.cell (p := ⟨w.heap.size, 3, none⟩) hbW).trans z3
      replace y3 := (hb.frozen (p := ⟨w.heap.size, 3, none⟩) hbW).trans y3
      replace i3 := (hb.cell (p := ⟨ib, 3, none⟩) hib).trans i3
      replace z4 := (hb.cell (p := ⟨w.heap.size, 4, none⟩) hbW).trans z4
      replace y4 := (hb.frozen (p := ⟨w.heap.size, 4, none⟩) hbW).trans y4
      replace i4 := (hb.cell (p := ⟨ib, 4, none⟩) hib).trans i4
      replace z5 := (hb.cell (p := ⟨w.heap.size, 5, none⟩) hbW).trans z5
      replace y5 := (hb.frozen (p := ⟨w.heap.size, 5, none⟩) hbW).trans y5
      replace i5 := (hb.cell (p := ⟨ib, 5, none⟩) hib).trans i5
      replace z6 := (hb.cell (p := ⟨w.heap.size, 6, none⟩) hbW).trans z6
      replace y6 := (hb.frozen (p := ⟨w.heap.size, 6, none⟩) hbW).trans y6
      replace i6 := (hb.cell (p := ⟨ib, 6, none⟩) hib).trans i6
      replace z7 := (hb.cell (p := ⟨w.heap.size, 7, none⟩) hbW).trans z7
      replace y7 := (hb.frozen (p := ⟨w.heap.size, 7, none⟩) hbW).trans y7
      replace i7 := (hb.cell (p := ⟨ib, 7, none⟩) hib).trans i7
      have HR6 := Lib.hid (HRA.out.keep hb)
      have HG6 := Lib.hid (grown_below HGA.out hb)
      clear hb
      cases r
      · skip
        go_wp2
        refine bodyPost_ret (v := .tuple #[.agg #[.int .i64 0, .string ⟨#[]⟩, .int .i64 0, .int .i64 0, .bool false, .complex .f64 0 0, .string ⟨#[]⟩, .bool false], .bool false]) ?_ rfl ?_
        · simp [results, Tryz.results193, go_sem, z0, z1, z2, z3, z4, z5, z6, z7]
        · have e1 : ok = false := by rw [HOK.out]; unfold okI; rw [HE.out, HRaw.out, HRr.out]; simp
          have e2 : V = .agg #[.int .i64 0, .string ⟨#[]⟩, .int .i64 0, .int .i64 0, .bool false, .complex .f64 0 0, .string ⟨#[]⟩, .bool false] := by rw [HV.out, e1, if_neg (by simp)]; unfold zeroI itmV; simp only [zero_fl]
          rw [e1, e2, HSE.out, HE.out]
          exact ⟨rfl, ((((((((HR6.out.setOwn (p := ⟨w.heap.size, 0, none⟩) (Ne.symm hRb) HNE.out _).setOwn (p := ⟨w.heap.size, 1, none⟩) (Ne.symm hRb) HNE.out _).setOwn (p := ⟨w.heap.size, 2, none⟩) (Ne.symm hRb) HNE.out _).setOwn (p := ⟨w.heap.size, 3, none⟩) (Ne.symm hRb) HNE.out _).setOwn (p := ⟨w.heap.size, 4, none⟩) (Ne.symm hRb) HNE.out _).setOwn (p := ⟨w.heap.size, 5, none⟩) (Ne.symm hRb) HNE.out _).setOwn (p := ⟨w.heap.size, 6, none⟩) (Ne.symm hRb) HNE.out _).setOwn (p := ⟨w.heap.size, 7, none⟩) (Ne.symm hRb) HNE.out _), (grown_own (grown_own (grown_own (grown_own (grown_own (grown_own (grown_own (grown_own HG6.out (p := ⟨w.heap.size, 0, none⟩) (Nat.le_refl _) _) (p := ⟨w.heap.size, 1, none⟩) (Nat.le_refl _) _) (p := ⟨w.heap.size, 2, none⟩) (Nat.le_refl _) _) (p := ⟨w.heap.size, 3, none⟩) (Nat.le_refl _) _) (p := ⟨w.heap.size, 4, none⟩) (Nat.le_refl _) _) (p := ⟨w.heap.size, 5, none⟩) (Nat.le_refl _) _) (p := ⟨w.heap.size, 6, none⟩) (Nat.le_refl _) _) (p := ⟨w.heap.size, 7, none⟩) (Nat.le_refl _) _)⟩
      · skip
        go_wp2
        refine bodyPost_ret (v := .tuple #[.agg #[.int .i64 n1, .string ⟨x2.toArray⟩, .int .i64 n3, .int .i64 n4, .bool true, .complex .f64 0 0, .string ⟨#[]⟩, .bool false], .bool true]) ?_ rfl ?_
        · simp [results, Tryz.results193, go_sem, z0, z1, z2, z3, z4, z5, z6, z7]
        · have e1 : ok = true := by rw [HOK.out]; unfold okI; rw [HE.out, HRaw.out, HRr.out]; simp [HE0.out]
          have e2 : V = .agg #[.int .i64 n1, .string ⟨x2.toArray⟩, .int .i64 n3, .int .i64 n4, .bool true, .complex .f64 0 0, .string ⟨#[]⟩, .bool false] := by rw [HV.out, e1, if_pos rfl, HRaw.out]; exact HIV.out
          rw [e1, e2, HSE.out, HE.out]
          exact ⟨rfl, ((((((((HR6.out.setOwn (p := ⟨w.heap.size, 0, none⟩) (Ne.symm hRb) HNE.out _).setOwn (p := ⟨w.heap.size, 1, none⟩) (Ne.symm hRb) HNE.out _).setOwn (p := ⟨w.heap.size, 2, none⟩) (Ne.symm hRb) HNE.out _).setOwn (p := ⟨w.heap.size, 3, none⟩) (Ne.symm hRb) HNE.out _).setOwn (p := ⟨w.heap.size, 4, none⟩) (Ne.symm hRb) HNE.out _).setOwn (p := ⟨w.heap.size, 5, none⟩) (Ne.symm hRb) HNE.out _).setOwn (p := ⟨w.heap.size, 6, none⟩) (Ne.symm hRb) HNE.out _).setOwn (p := ⟨w.heap.size, 7, none⟩) (Ne.symm hRb) HNE.out _), (grown_own (grown_own (grown_own (grown_own (grown_own (grown_own (grown_own (grown_own HG6.out (p := ⟨w.heap.size, 0, none⟩) (Nat.le_refl _) _) (p := ⟨w.heap.size, 1, none⟩) (Nat.le_refl _) _) (p := ⟨w.heap.size, 2, none⟩) (Nat.le_refl _) _) (p := ⟨w.heap.size, 3, none⟩) (Nat.le_refl _) _) (p := ⟨w.heap.size, 4, none⟩) (Nat.le_refl _) _) (p := ⟨w.heap.size, 5, none⟩) (Nat.le_refl _) _) (p := ⟨w.heap.size, 6, none⟩) (Nat.le_refl _) _) (p := ⟨w.heap.size, 7, none⟩) (Nat.le_refl _) _)⟩
    · have he1 : ((S.2 : Int) != 0) = true := by simpa using he
      have HE0 := Lib.hid he
      clear he i0 i1 i2 i3 i4 i5 i6 i7
      go_wp2
      refine bodyPost_ret (v := .tuple #[.agg #[.int .i64 0, .string ⟨#[]⟩, .int .i64 0, .int .i64 0, .bool false, .complex .f64 0 0, .string ⟨#[]⟩, .bool false], .bool false]) ?_ rfl ?_
      · simp [results, Tryz.results193, go_sem, z0, z1, z2, z3, z4, z5, z6, z7]
      · have e1 : ok = false := by rw [HOK.out]; unfold okI; rw [HE.out, HRaw.out, HRr.out]; rw [decide_eq_false HE0.out]; rfl
        have e2 : V = .agg #[.int .i64 0, .string ⟨#[]⟩, .int .i64 0, .int .i64 0, .bool false, .complex .f64 0 0, .string ⟨#[]⟩, .bool false] := by rw [HV.out, e1, if_neg (by simp)]; unfold zeroI itmV; simp only [zero_fl]
        rw [e1, e2, HSE.out, HE.out]
        exact ⟨rfl, ((((((((HRA.out.setOwn (p := ⟨w.heap.size, 0, none⟩) (Ne.symm hRb) HNE.out _).setOwn (p := ⟨w.heap.size, 1, none⟩) (Ne.symm hRb) HNE.out _).setOwn (p := ⟨w.heap.size, 2, none⟩) (Ne.symm hRb) HNE.out _).setOwn (p := ⟨w.heap.size, 3, none⟩) (Ne.symm hRb) HNE.out _).setOwn (p := ⟨w.heap.size, 4, none⟩) (Ne.symm hRb) HNE.out _).setOwn (p := ⟨w.heap.size, 5, none⟩) (Ne.symm hRb) HNE.out _).setOwn (p := ⟨w.heap.size, 6, none⟩) (Ne.symm hRb) HNE.out _).setOwn (p := ⟨w.heap.size, 7, none⟩) (Ne.symm hRb) HNE.out _), (grown_own (grown_own (grown_own (grown_own (grown_own (grown_own (grown_own (grown_own HGA.out (p := ⟨w.heap.size, 0, none⟩) (Nat.le_refl _) _) (p := ⟨w.heap.size, 1, none⟩) (Nat.le_refl _) _) (p := ⟨w.heap.size, 2, none⟩) (Nat.le_refl _) _) (p := ⟨w.heap.size, 3, none⟩) (Nat.le_refl _) _) (p := ⟨w.heap.size, 4, none⟩) (Nat.le_refl _) _) (p := ⟨w.heap.size, 5, none⟩) (Nat.le_refl _) _) (p := ⟨w.heap.size, 6, none⟩) (Nat.le_refl _) _) (p := ⟨w.heap.size, 7, none⟩) (Nat.le_refl _) _)⟩
  · have HK : Hid (tk5 st = (1, s5)) := HT5.out
    go_wp2_with fail
    replace z0 := (World.cell?_alloc_lt w3 (.cells #[.int .i64 n1, .string ⟨x2.toArray⟩, .int .i64 n3, .int .i64 n4, .bool false, .complex .f64 0 0, .string ⟨#[]⟩, .bool false] 114) ⟨w.heap.size, 0, none⟩ hb0).trans z0
    replace y0 := (((Below.refl w3.heap.size w3).alloc (Nat.le_refl _) (.cells #[.int .i64 n1, .string ⟨x2.toArray⟩, .int .i64 n3, .int .i64 n4, .bool false, .complex .f64 0 0, .string ⟨#[]⟩, .bool false] 114)).frozen (p := ⟨w.heap.size, 0, none⟩) hb0).trans y0
    replace z1 := (World.cell?_alloc_lt w3 (.cells #[.int .i64 n1, .string ⟨x2.toArray⟩, .int .i64 n3, .int .i64 n4, .bool false, .complex .f64 0 0, .string ⟨#[]⟩, .bool false] 114) ⟨w.heap.size, 1, none⟩ hb0).trans z1
    replace y1 := (((Below.refl w3.heap.size w3).alloc (Nat.le_refl _) (.cells #[.int .i64 n1, .string ⟨x2.toArray⟩, .int .i64 n3, .int .i64 n4, .bool false, .complex .f64 0 0, .string ⟨#[]⟩, .bool false] 114)).frozen (p := ⟨w.heap.size, 1, none⟩) hb0).trans y1
    replace z2 := (World.cell?_alloc_lt w3 (.cells #[.int .i64 n1, .string ⟨x2.toArray⟩, .int .i64 n3, .int .i64 n4, .bool false, .complex .f64 0 0, .string ⟨#[]⟩, .bool false] 114) ⟨w.heap.size, 2, none⟩ hb0).trans z2
    replace y2 := (((Below.refl w3.heap.size w3).alloc (Nat.le_refl _) (.cells #[.int .i64 n1, .string ⟨x2.toArray⟩, .int .i64 n3, .int .i64 n4, .bool false, .complex .f64 0 0, .string ⟨#[]⟩, .bool false] 114)).frozen (p := ⟨w.heap.size, 2, none⟩) hb0).trans y2
    replace z3 := (World.cell?_alloc_lt w3 (.cells #[.int .i64 n1, .string ⟨x2.toArray⟩, .int .i64 n3, .int .i64 n4, .bool false, .complex .f64 0 0, .string ⟨#[]⟩, .bool false] 114) ⟨w.heap.size, 3, none⟩ hb0).trans z3
    replace y3 := (((Below.refl w3.heap.size w3).alloc (Nat.le_refl _) (.cells #[.int .i64 n1, .string ⟨x2.toArray⟩, .int .i64 n3, .int .i64 n4, .bool false, .complex .f64 0 0, .string ⟨#[]⟩, .bool false] 114)).frozen (p := ⟨w.heap.size, 3, none⟩) hb0).trans y3
    replace z4 := (World.cell?_alloc_lt w3 (.cells #[.int .i64 n1, .string ⟨x2.toArray⟩, .int .i64 n3, .int .i64 n4, .bool false, .complex .f64 0 0, .string ⟨#[]⟩, .bool false] 114) ⟨w.heap.size, 4, none⟩ hb0).trans z4
    replace y4 := (((Below.refl w3.heap.size w3).alloc (Nat.le_refl _) (.cells #[.int .i64 n1, .string ⟨x2.toArray⟩, .int .i64 n3, .int .i64 n4, .bool false, .complex .f64 0 0, .string ⟨#[]⟩, .bool false] 114)).frozen (p := ⟨w.heap.size, 4, none⟩) hb0).trans y4
    replace z5 := (World.cell?_alloc_lt w3 (.cells #[.int .i64 n1, .string ⟨x2.toArray⟩, .int .i64 n3, .int .i64 n4, .bool false, .complex .f64 0 0, .string ⟨#[]⟩, .bool false] 114) ⟨w.heap.size, 5, none⟩ hb0).trans z5
    replace y5 := (((Below.refl w3.heap.size w3).alloc (Nat.le_refl _) (.cells #[.int .i64 n1, .string ⟨x2.toArray⟩, .int .i64 n3, .int .i64 n4, .bool false, .complex .f64 0 0, .string ⟨#[]⟩, .bool false] 114)).frozen (p := ⟨w.heap.size, 5, none⟩) hb0).trans y5
    replace z6 := (World.cell?_alloc_lt w3 (.cells #[.int .i64 n1, .string ⟨x2.toArray⟩, .int .i64 n3, .int .i64 n4, .bool false, .complex .f64 0 0, .string ⟨#[]⟩, .bool false] 114) ⟨w.heap.size, 6, none⟩ hb0).trans z6
    replace y6 := (((Below.refl w3.heap.size w3).alloc (Nat.le_refl _) (.cells #[.int .i64 n1, .string ⟨x2.toArray⟩, .int .i64 n3, .int .i64 n4, .bool false, .complex .f64 0 0, .string ⟨#[]⟩, .bool false] 114)).frozen (p := ⟨w.heap.size, 6, none⟩) hb0).trans y6
    replace z7 := (World.cell?_alloc_lt w3 (.cells #[.int .i64 n1, .string ⟨x2.toArray⟩, .int .i64 n3, .int .i64 n4, .bool false, .complex .f64 0 0, .string ⟨#[]⟩, .bool false] 114) ⟨w.heap.size, 7, none⟩ hb0).trans z7
    replace y7 := (((Below.refl w3.heap.size w3).alloc (Nat.le_refl _) (.cells #[.int .i64 n1, .string ⟨x2.toArray⟩, .int .i64 n3, .int .i64 n4, .bool false, .complex .f64 0 0, .string ⟨#[]⟩, .bool false] 114)).frozen (p := ⟨w.heap.size, 7, none⟩) hb0).trans y7
    have i0 : (w3.alloc (.cells #[.int .i64 n1, .string ⟨x2.toArray⟩, .int .i64 n3, .int .i64 n4, .bool false, .complex .f64 0 0, .string ⟨#[]⟩, .bool false] 114)).cell? ⟨w3.heap.size, 0, none⟩ = some (.int .i64 n1) := by simp [go_sem]
    have i1 : (w3.alloc (.cells #[.int .i64 n1, .string ⟨x2.toArray⟩, .int .i64 n3, .int .i64 n4, .bool false, .complex .f64 0 0, .string ⟨#[]⟩, .bool false] 114)).cell? ⟨w3.heap.size, 1, none⟩ = some (.string ⟨x2.toArray⟩) := by simp [go_sem]
    have i2 : (w3.alloc (.cells #[.int .i64 n1, .string ⟨x2.toArray⟩, .int .i64 n3, .int .i64 n4, .bool false, .complex .f64 0 0, .string ⟨#[]⟩, .bool false] 114)).cell? ⟨w3.heap.size, 2, none⟩ = some (.int .i64 n3) := by simp [go_sem]
    have i3 : (w3.alloc (.cells #[.int .i64 n1, .string ⟨x2.toArray⟩, .int .i64 n3, .int .i64 n4, .bool false, .complex .f64 0 0, .string ⟨#[]⟩, .bool false] 114)).cell? ⟨w3.heap.size, 3, none⟩ = some (.int .i64 n4) := by simp [go_sem]
    have i4 : (w3.alloc (.cells #[.int .i64 n1, .string ⟨x2.toArray⟩, .int .i64 n3, .int .i64 n4, .bool false, .complex .f64 0 0, .string ⟨#[]⟩, .bool false] 114)).cell? ⟨w3.heap.size, 4, none⟩ = some (.bool false) := by simp [go_sem]
    have i5 : (w3.alloc (.cells #[.int .i64 n1, .string ⟨x2.toArray⟩, .int .i64 n3, .int .i64 n4, .bool false, .complex .f64 0 0, .string ⟨#[]⟩, .bool false] 114)).cell? ⟨w3.heap.size, 5, none⟩ = some (.complex .f64 0 0) := by simp [go_sem]
    have i6 : (w3.alloc (.cells #[.int .i64 n1, .string ⟨x2.toArray⟩, .int .i64 n3, .int .i64 n4, .bool false, .complex .f64 0 0, .string ⟨#[]⟩, .bool false] 114)).cell? ⟨w3.heap.size, 6, none⟩ = some (.string ⟨#[]⟩) := by simp [go_sem]
    have i7 : (w3.alloc (.cells #[.int .i64 n1, .string ⟨x2.toArray⟩, .int .i64 n3, .int .i64 n4, .bool false, .complex .f64 0 0, .string ⟨#[]⟩, .bool false] 114)).cell? ⟨w3.heap.size, 7, none⟩ = some (.bool false) := by simp [go_sem]
    have j5 : (w3.alloc (.cells #[.int .i64 n1, .string ⟨x2.toArray⟩, .int .i64 n3, .int .i64 n4, .bool false, .complex .f64 0 0, .string ⟨#[]⟩, .bool false] 114)).frozen? ⟨w3.heap.size, 5, none⟩ = false := by simp [go_sem]
    have j6 : (w3.alloc (.cells #[.int .i64 n1, .string ⟨x2.toArray⟩, .int .i64 n3, .int .i64 n4, .bool false, .complex .f64 0 0, .string ⟨#[]⟩, .bool false] 114)).frozen? ⟨w3.heap.size, 6, none⟩ = false := by simp [go_sem]
    have hbW : w.heap.size < (w3.alloc (.cells #[.int .i64 n1, .string ⟨x2.toArray⟩, .int .i64 n3, .int .i64 n4, .bool false, .complex .f64 0 0, .string ⟨#[]⟩, .bool false] 114)).heap.size := by simp; omega
    have hib : w3.heap.size < (w3.alloc (.cells #[.int .i64 n1, .string ⟨x2.toArray⟩, .int .i64 n3, .int .i64 n4, .bool false, .complex .f64 0 0, .string ⟨#[]⟩, .bool false] 114)).heap.size := by simp
    have hne : w.heap.size ≠ w3.heap.size := by omega
    have HRA := Lib.hid (HR3.out.allocd (.cells #[.int .i64 n1, .string ⟨x2.toArray⟩, .int .i64 n3, .int .i64 n4, .bool false, .complex .f64 0 0, .string ⟨#[]⟩, .bool false] 114))
    have HGA : Hid (w.grownBy (w3.alloc (.cells #[.int .i64 n1, .string ⟨x2.toArray⟩, .int .i64 n3, .int .i64 n4, .bool false, .complex .f64 0 0, .string ⟨#[]⟩, .bool false] 114)) (some R)) := grown_more HG3.out _
    generalize (w3.alloc (.cells #[.int .i64 n1, .string ⟨x2.toArray⟩, .int .i64 n3, .int .i64 n4, .bool false, .complex .f64 0 0, .string ⟨#[]⟩, .bool false] 114)) = W at *
    have hibw : w.heap.size ≤ w3.heap.size := hb3
    clear HR3 HG3 hb0 hs23 hb2 hR2 v0 v1 v2 hb3 hRv
    generalize w3.heap.size = ib at *
    have HT6 : Hid (tk6 st = numF s5 2000) := by show _ = _; unfold tk6; rw [HK.out]
    have HT7 : Hid (tk7 st = numF (numF s5 2000).2 2000) := by show _ = _; unfold tk7; rw [HT6.out]
    have HC7 : Hid ((numF (numF s5 2000).2 2000).2.1 ≠ [] → st.1 ≠ []) := fun h => HC5.out (num_rest (num_rest h))
    have b6 := num_le s5 2000
    have b7 := num_le (numF s5 2000).2 2000
    refine (takeSpot_any _ HRA.out).mono ?_
    generalize numF (numF s5 2000).2 2000 = N7 at *
    generalize numF s5 2000 = N6 at *
    obtain ⟨n6, s6⟩ := N6
    obtain ⟨n7, s7⟩ := N7
    rintro e w4 ⟨rfl, hR, hg⟩
    simp only at hR HC7 b6 b7 ⊢
    have hn6 : (n6 - 1000).natAbs < 2 ^ 53 := by
      have : (2 : Nat) ^ 53 = 9007199254740992 := by decide
      omega
    have hn7 : (n7 - 1000).natAbs < 2 ^ 53 := by
      have : (2 : Nat) ^ 53 = 9007199254740992 := by decide
      omega
    replace z0 := (own_cell hg hbW hRb' 0).1.trans z0
    replace y0 := (own_cell hg hbW hRb' 0).2.trans y0
    replace i0 := (own_cell hg hib hRi 0).1.trans i0
    replace z1 := (own_cell hg hbW hRb' 1).1.trans z1
    replace y1 := (own_cell hg hbW hRb' 1).2.trans y1
    replace i1 := (own_cell hg hib hRi 1).1.trans i1
    replace z2 := (own_cell hg hbW hRb' 2).1.trans z2
    replace y2 := (own_cell hg hbW hRb' 2).2.trans y2
    replace i2 := (own_cell hg hib hRi 2).1.trans i2
    replace z3 := (own_cell hg hbW hRb' 3).1.trans z3
    replace y3 := (own_cell hg hbW hRb' 3).2.trans y3
    replace i3 := (own_cell hg hib hRi 3).1.trans i3
    replace z4 := (own_cell hg hbW hRb' 4).1.trans z4
    replace y4 := (own_cell hg hbW hRb' 4).2.trans y4
    replace i4 := (own_cell hg hib hRi 4).1.trans i4
    replace z5 := (own_cell hg hbW hRb' 5).1.trans z5
    replace y5 := (own_cell hg hbW hRb' 5).2.trans y5
    replace i5 := (own_cell hg hib hRi 5).1.trans i5
    replace z6 := (own_cell hg hbW hRb' 6).1.trans z6
    replace y6 := (own_cell hg hbW hRb' 6).2.trans y6
    replace i6 := (own_cell hg hib hRi 6).1.trans i6
    replace z7 := (own_cell hg hbW hRb' 7).1.trans z7
    replace y7 := (own_cell hg hbW hRb' 7).2.trans y7
    replace i7 := (own_cell hg hib hRi 7).1.trans i7
    replace j5 := (own_cell hg hib hRi 5).2.trans j5
    replace j6 := (own_cell hg hib hRi 6).2.trans j6
    replace hbW := Nat.lt_of_lt_of_le hbW hg.size
    replace hib := Nat.lt_of_lt_of_le hib hg.size
    have HR4 := Lib.hid hR
    have HG4 := Lib.hid (HGA.out.trans hg)
    clear hR hg HRA HGA b6 b7
    have HNi : Hid (s7.1 ≠ [] → g ≠ ib) := HG0.out s7 HC7.out _ hibw
    have HS : Hid (tkS st = s7) := by show _ = _; unfold tkS; rw [HK.out, HT7.out]; simp
    obtain ⟨fx, hfx⟩ : ∃ f, f = fl (n6 - 1000) := ⟨_, rfl⟩
    obtain ⟨fy, hfy⟩ : ∃ f, f = fl (n7 - 1000) := ⟨_, rfl⟩
    rw [← hfx, ← hfy]
    have HFX := Lib.hid hfx
    have HFY := Lib.hid hfy
    clear hfx hfy
    have HE : Hid (tkE st = s7) := by show _ = _; unfold tkE; rw [HK.out, HS.out]; simp
    have HRaw : Hid (rawI st = ⟨n1, ⟨⟨x2.toArray⟩, n3, n4⟩, false, n6 - 1000, n7 - 1000, ⟨#[]⟩, false⟩) := by show _ = _; unfold rawI; rw [HT1.out, HT2.out, HT3.out, HT4.out, HK.out, HT6.out, HT7.out]; simp
    have HR4' : Hid (ReaderAt (w4.setCell ⟨ib, 5, none⟩ (.complex .f64 fx fy)) R g s7) := HR4.out.setOwn (p := ⟨ib, 5, none⟩) (fun e => hRi (by rw [e])) HNi.out _
    have HG4' : Hid (w.grownBy (w4.setCell ⟨ib, 5, none⟩ (.complex .f64 fx fy)) (some R)) := grown_own HG4.out (p := ⟨ib, 5, none⟩) hibw _
    go_wp2_with fail
    replace z0 : (w4.setCell ⟨ib, 5, none⟩ (.complex .f64 fx fy)).cell? ⟨w.heap.size, 0, none⟩ = some (.int .i64 0) := by simpa [go_sem, hne] using z0
    replace y0 : (w4.setCell ⟨ib, 5, none⟩ (.complex .f64 fx fy)).frozen? ⟨w.heap.size, 0, none⟩ = false := by simpa [go_sem, hne] using y0
    replace z1 : (w4.setCell ⟨ib, 5, none⟩ (.complex .f64 fx fy)).cell? ⟨w.heap.size, 1, none⟩ = some (.string ⟨#[]⟩) := by simpa [go_sem, hne] using z1
    replace y1 : (w4.setCell ⟨ib, 5, none⟩ (.complex .f64 fx fy)).frozen? ⟨w.heap.size, 1, none⟩ = false := by simpa [go_sem, hne] using y1
    replace z2 : (w4.setCell ⟨ib, 5, none⟩ (.complex .f64 fx fy)).cell? ⟨w.heap.size, 2, none⟩ = some (.int .i64 0) := by simpa [go_sem, hne] using z2
    replace y2 : (w4.setCell ⟨ib, 5, none⟩ (.complex .f64 fx fy)).frozen? ⟨w.heap.size, 2, none⟩ = false := by simpa [go_sem, hne] using y2
    replace z3 : (w4.setCell ⟨ib, 5, none⟩ (.complex .f64 fx fy)).cell? ⟨w.heap.size, 3, none⟩ = some (.int .i64 0) := by simpa [go_sem, hne] using z3
    replace y3 : (w4.setCell ⟨ib, 5, none⟩ (.complex .f64 fx fy)).frozen? ⟨w.heap.size, 3, none⟩ = false := by simpa [go_sem, hne] using y3
    replace z4 : (w4.setCell ⟨ib, 5, none⟩ (.complex .f64 fx fy)).cell? ⟨w.heap.size, 4, none⟩ = some (.bool false) := by simpa [go_sem, hne] using z4
    replace y4 : (w4.setCell ⟨ib, 5, none⟩ (.complex .f64 fx fy)).frozen? ⟨w.heap.size, 4, none⟩ = false := by simpa [go_sem, hne] using y4
    replace z5 : (w4.setCell ⟨ib, 5, none⟩ (.complex .f64 fx fy)).cell? ⟨w.heap.size, 5, none⟩ = some (.complex .f64 0 0) := by simpa [go_sem, hne] using z5
    replace y5 : (w4.setCell ⟨ib, 5, none⟩ (.complex .f64 fx fy)).frozen? ⟨w.heap.size, 5, none⟩ = false := by simpa [go_sem, hne] using y5
    replace z6 : (w4.setCell ⟨ib, 5, none⟩ (.complex .f64 fx fy)).cell? ⟨w.heap.size, 6, none⟩ = some (.string ⟨#[]⟩) := by simpa [go_sem, hne] using z6
    replace y6 : (w4.setCell ⟨ib, 5, none⟩ (.complex .f64 fx fy)).frozen? ⟨w.heap.size, 6, none⟩ = false := by simpa [go_sem, hne] using y6
    replace z7 : (w4.setCell ⟨ib, 5, none⟩ (.complex .f64 fx fy)).cell? ⟨w.heap.size, 7, none⟩ = some (.bool false) := by simpa [go_sem, hne] using z7
    replace y7 : (w4.setCell ⟨ib, 5, none⟩ (.complex .f64 fx fy)).frozen? ⟨w.heap.size, 7, none⟩ = false := by simpa [go_sem, hne] using y7
    replace i0 : (w4.setCell ⟨ib, 5, none⟩ (.complex .f64 fx fy)).cell? ⟨ib, 0, none⟩ = some (.int .i64 n1) := by simpa [go_sem] using i0
    replace i1 : (w4.setCell ⟨ib, 5, none⟩ (.complex .f64 fx fy)).cell? ⟨ib, 1, none⟩ = some (.string ⟨x2.toArray⟩) := by simpa [go_sem] using i1
    replace i2 : (w4.setCell ⟨ib, 5, none⟩ (.complex .f64 fx fy)).cell? ⟨ib, 2, none⟩ = some (.int .i64 n3) := by simpa [go_sem] using i2
    replace i3 : (w4.setCell ⟨ib, 5, none⟩ (.complex .f64 fx fy)).cell? ⟨ib, 3, none⟩ = some (.int .i64 n4) := by simpa [go_sem] using i3
    replace i4 : (w4.setCell ⟨ib, 5, none⟩ (.complex .f64 fx fy)).cell? ⟨ib, 4, none⟩ = some (.bool false) := by simpa [go_sem] using i4
    replace i6 : (w4.setCell ⟨ib, 5, none⟩ (.complex .f64 fx fy)).cell? ⟨ib, 6, none⟩ = some (.string ⟨#[]⟩) := by simpa [go_sem] using i6
    replace i7 : (w4.setCell ⟨ib, 5, none⟩ (.complex .f64 fx fy)).cell? ⟨ib, 7, none⟩ = some (.bool false) := by simpa [go_sem] using i7
    replace i5 : (w4.setCell ⟨ib, 5, none⟩ (.complex .f64 fx fy)).cell? ⟨ib, 5, none⟩ = some (.complex .f64 fx fy) := by simp [go_sem, i5]
    replace j6 : (w4.setCell ⟨ib, 5, none⟩ (.complex .f64 fx fy)).frozen? ⟨ib, 6, none⟩ = false := by simpa [go_sem] using j6
    replace hbW : w.heap.size < (w4.setCell ⟨ib, 5, none⟩ (.complex .f64 fx fy)).heap.size := by simpa [World.setCell] using hbW
    replace hib : ib < (w4.setCell ⟨ib, 5, none⟩ (.complex .f64 fx fy)).heap.size := by simpa [World.setCell] using hib
    clear j5 HR4 HG4
    generalize w4.setCell ⟨ib, 5, none⟩ (.complex .f64 fx fy) = W5 at *
    have HNE : Hid (s7.1 ≠ [] → g ≠ w.heap.size) := HG0.out s7 HC7.out _ (Nat.le_refl _)
    obtain ⟨S, hS⟩ : ∃ S, S = s7 := ⟨_, rfl⟩
    rw [← hS] at HE HNE HR4'
    clear hS
    have HRT := Lib.hid (itemRight_any ⟨n1, ⟨⟨x2.toArray⟩, n3, n4⟩, false, n6 - 1000, n7 - 1000, ⟨#[]⟩, false⟩ hn6 hn7)
    have HIV := Lib.hid (show itmV ⟨n1, ⟨⟨x2.toArray⟩, n3, n4⟩, false, n6 - 1000, n7 - 1000, ⟨#[]⟩, false⟩ = .agg #[.int .i64 n1, .string ⟨x2.toArray⟩, .int .i64 n3, .int .i64 n4, .bool false, .complex .f64 fx fy, .string ⟨#[]⟩, .bool false] by unfold itmV; simp only [HFX.out, HFY.out])
    rw [HIV.out] at HRT
    generalize hr : rightI ⟨n1, ⟨⟨x2.toArray⟩, n3, n4⟩, false, n6 - 1000, n7 - 1000, ⟨#[]⟩, false⟩ = r at HRT
    have HRr := Lib.hid hr
    clear hr hn6 hn7 HFX HFY
    refine (err_any _ HR4'.out).mono ?_
    rintro e u ⟨rfl, rfl⟩
    by_cases he : S.2 = 0
    · have he1 : ((S.2 : Int) != 0) = false := by simpa using he
      have HE0 := Lib.hid he
      clear he
      go_wp2_with fail
      refine (HRT.out _).mono ?_
      rintro e w6 ⟨rfl, hb⟩
      replace z0 := (hb.cell (p := ⟨w.heap.size, 0, none⟩) hbW).trans z0
      replace y0 := (hb.frozen (p := ⟨w.heap.size, 0, none⟩) hbW).trans y0
      replace i0 := (hb.cell (p := ⟨ib, 0, none⟩) hib).trans i0
      replace z1 := (hb.cell (p := ⟨w.heap.size, 1, none⟩) hbW).trans z1
      replace y1 := (hb.frozen (p := ⟨w.heap.size, 1, none⟩) hbW).trans y1
      replace i1 := (hb.cell (p := ⟨ib, 1, none⟩) hib).trans i1
      replace z2 := (hb.cell (p := ⟨w.heap.size, 2, none⟩) hbW).trans z2
      replace y2 := (hb.frozen (p := ⟨w.heap.size, 2, none⟩) hbW).trans y2
      replace i2 := (hb.cell (p := ⟨ib, 2, none⟩) hib).trans i2
      replace z3 := (hb.cell (p := ⟨w.heap.size, 3, none⟩) hbW).trans z3
      replace y3 := (hb.frozen (p := ⟨w.heap.size, 3, none⟩) hbW).trans y3
      replace i3 := (hb.cell (p := ⟨ib, 3, none⟩) hib).trans i3
      replace z4 := (hb.cell (p := ⟨w.heap.size, 4, none⟩) hbW).trans z4
      replace y4 := (hb.frozen (p := ⟨w.heap.size, 4, none⟩) hbW).trans y4
      replace i4 := (hb.cell (p := ⟨ib, 4, none⟩) hib).trans i4
      replace z5 := (hb.cell (p := ⟨w.heap.size, 5, none⟩) hbW).trans z5
      replace y5 := (hb.frozen (p := ⟨w.heap.size, 5, none⟩) hbW).trans y5
      replace i5 := (hb.cell (p := ⟨ib, 5, none⟩) hib).trans i5
      replace z6 := (hb.cell (p := ⟨w.heap.size, 6, none⟩) hbW).trans z6
      replace y6 := (hb.frozen (p := ⟨w.heap.size, 6, none⟩) hbW).trans y6
      replace i6 := (hb.cell (p := ⟨ib, 6, none⟩) hib).trans i6
      replace z7 := (hb.cell (p := ⟨w.heap.size, 7, none⟩) hbW).trans z7
      replace y7 := (hb.frozen (p := ⟨w.heap.size, 7, none⟩) hbW).trans y7
      replace i7 := (hb.cell (p := ⟨ib, 7, none⟩) hib).trans i7
      have HR6 := Lib.hid (HR4'.out.keep hb)
      have HG6 := Lib.hid (grown_below HG4'.out hb)
      clear hb
      cases r
      · skip
        go_wp2
        refine bodyPost_ret (v := .tuple #[.agg #[.int .i64 0, .string ⟨#[]⟩, .int .i64 0, .int .i64 0, .bool false, .complex .f64 0 0, .string ⟨#[]⟩, .bool false], .bool false]) ?_ rfl ?_
        · simp [results, Tryz.results193, go_sem, z0, z1, z2, z3, z4, z5, z6, z7]
        · have e1 : ok = false := by rw [HOK.out]; unfold okI; rw [HE.out, HRaw.out, HRr.out]; simp
          have e2 : V = .agg #[.int .i64 0, .string ⟨#[]⟩, .int .i64 0, .int .i64 0, .bool false, .complex .f64 0 0, .string ⟨#[]⟩, .bool false] := by rw [HV.out, e1, if_neg (by simp)]; unfold zeroI itmV; simp only [zero_fl]
          rw [e1, e2, HSE.out, HE.out]
          exact ⟨rfl, ((((((((HR6.out.setOwn (p := ⟨w.heap.size, 0, none⟩) (Ne.symm hRb) HNE.out _).setOwn (p := ⟨w.heap.size, 1, none⟩) (Ne.symm hRb) HNE.out _).setOwn (p := ⟨w.heap.size, 2, none⟩) (Ne.symm hRb) HNE.out _).setOwn (p := ⟨w.heap.size, 3, none⟩) (Ne.symm hRb) HNE.out _).setOwn (p := ⟨w.heap.size, 4, none⟩) (Ne.symm hRb) HNE.out _).setOwn (p := ⟨w.heap.size, 5, none⟩) (Ne.symm hRb) HNE.out _).setOwn (p := ⟨w.heap.size, 6, none⟩) (Ne.symm hRb) HNE.out _).setOwn (p := ⟨w.heap.size, 7, none⟩) (Ne.symm hRb) HNE.out _), (grown_own (grown_own (grown_own (grown_own (grown_own (grown_own (grown_own (grown_own HG6.out (p := ⟨w.heap.size, 0, none⟩) (Nat.le_refl _) _) (p := ⟨w.heap.size, 1, none⟩) (Nat.le_refl _) _) (p := ⟨w.heap.size, 2, none⟩) (Nat.le_refl _) _) (p := ⟨w.heap.size, 3, none⟩) (Nat.le_refl _) _) (p := ⟨w.heap.size, 4, none⟩) (Nat.le_refl _) _) (p := ⟨w.heap.size, 5, none⟩) (Nat.le_refl _) _) (p := ⟨w.heap.size, 6, none⟩) (Nat.le_refl _) _) (p := ⟨w.heap.size, 7, none⟩) (Nat.le_refl _) _)⟩
      · skip
        go_wp2
        refine bodyPost_ret (v := .tuple #[.agg #[.int .i64 n1, .string ⟨x2.toArray⟩, .int .i64 n3, .int .i64 n4, .bool false, .complex .f64 fx fy, .string ⟨#[]⟩, .bool false], .bool true]) ?_ rfl ?_
        · simp [results, Tryz.results193, go_sem, z0, z1, z2, z3, z4, z5, z6, z7]
        · have e1 : ok = true := by rw [HOK.out]; unfold okI; rw [HE.out, HRaw.out, HRr.out]; simp [HE0.out]
          have e2 : V = .agg #[.int .i64 n1, .string ⟨x2.toArray⟩, .int .i64 n3, .int .i64 n4, .bool false, .complex .f64 fx fy, .string ⟨#[]⟩, .bool false] := by rw [HV.out, e1, if_pos rfl, HRaw.out]; exact HIV.out
          rw [e1, e2, HSE.out, HE.out]
          exact ⟨rfl, ((((((((HR6.out.setOwn (p := ⟨w.heap.size, 0, none⟩) (Ne.symm hRb) HNE.out _).setOwn (p := ⟨w.heap.size, 1, none⟩) (Ne.symm hRb) HNE.out _).setOwn (p := ⟨w.heap.size, 2, none⟩) (Ne.symm hRb) HNE.out _).setOwn (p := ⟨w.heap.size, 3, none⟩) (Ne.symm hRb) HNE.out _).setOwn (p := ⟨w.heap.size, 4, none⟩) (Ne.symm hRb) HNE.out _).setOwn (p := ⟨w.heap.size, 5, none⟩) (Ne.symm hRb) HNE.out _).setOwn (p := ⟨w.heap.size, 6, none⟩) (Ne.symm hRb) HNE.out _).setOwn (p := ⟨w.heap.size, 7, none⟩) (Ne.symm hRb) HNE.out _), (grown_own (grown_own (grown_own (grown_own (grown_own (grown_own (grown_own (grown_own HG6.out (p := ⟨w.heap.size, 0, none⟩) (Nat.le_refl _) _) (p := ⟨w.heap.size, 1, none⟩) (Nat.le_refl _) _) (p := ⟨w.heap.size, 2, none⟩) (Nat.le_refl _) _) (p := ⟨w.heap.size, 3, none⟩) (Nat.le_refl _) _) (p := ⟨w.heap.size, 4, none⟩) (Nat.le_refl _) _) (p := ⟨w.heap.size, 5, none⟩) (Nat.le_refl _) _) (p := ⟨w.heap.size, 6, none⟩) (Nat.le_refl _) _) (p := ⟨w.heap.size, 7, none⟩) (Nat.le_refl _) _)⟩
    · have he1 : ((S.2 : Int) != 0) = true := by simpa using he
      have HE0 := Lib.hid he
      clear he i0 i1 i2 i3 i4 i5 i6 i7
      go_wp2
      refine bodyPost_ret (v := .tuple #[.agg #[.int .i64 0, .string ⟨#[]⟩, .int .i64 0, .int .i64 0, .bool false, .complex .f64 0 0, .string ⟨#[]⟩, .bool false], .bool false]) ?_ rfl ?_
      · simp [results, Tryz.results193, go_sem, z0, z1, z2, z3, z4, z5, z6, z7]
      · have e1 : ok = false := by rw [HOK.out]; unfold okI; rw [HE.out, HRaw.out, HRr.out]; rw [decide_eq_false HE0.out]; rfl
        have e2 : V = .agg #[.int .i64 0, .string ⟨#[]⟩, .int .i64 0, .int .i64 0, .bool false, .complex .f64 0 0, .string ⟨#[]⟩, .bool false] := by rw [HV.out, e1, if_neg (by simp)]; unfold zeroI itmV; simp only [zero_fl]
        rw [e1, e2, HSE.out, HE.out]
        exact ⟨rfl, ((((((((HR4'.out.setOwn (p := ⟨w.heap.size, 0, none⟩) (Ne.symm hRb) HNE.out _).setOwn (p := ⟨w.heap.size, 1, none⟩) (Ne.symm hRb) HNE.out _).setOwn (p := ⟨w.heap.size, 2, none⟩) (Ne.symm hRb) HNE.out _).setOwn (p := ⟨w.heap.size, 3, none⟩) (Ne.symm hRb) HNE.out _).setOwn (p := ⟨w.heap.size, 4, none⟩) (Ne.symm hRb) HNE.out _).setOwn (p := ⟨w.heap.size, 5, none⟩) (Ne.symm hRb) HNE.out _).setOwn (p := ⟨w.heap.size, 6, none⟩) (Ne.symm hRb) HNE.out _).setOwn (p := ⟨w.heap.size, 7, none⟩) (Ne.symm hRb) HNE.out _), (grown_own (grown_own (grown_own (grown_own (grown_own (grown_own (grown_own (grown_own HG4'.out (p := ⟨w.heap.size, 0, none⟩) (Nat.le_refl _) _) (p := ⟨w.heap.size, 1, none⟩) (Nat.le_refl _) _) (p := ⟨w.heap.size, 2, none⟩) (Nat.le_refl _) _) (p := ⟨w.heap.size, 3, none⟩) (Nat.le_refl _) _) (p := ⟨w.heap.size, 4, none⟩) (Nat.le_refl _) _) (p := ⟨w.heap.size, 5, none⟩) (Nat.le_refl _) _) (p := ⟨w.heap.size, 6, none⟩) (Nat.le_refl _) _) (p := ⟨w.heap.size, 7, none⟩) (Nat.le_refl _) _)⟩
  · have HK : Hid (tk5 st = (2, s5)) := HT5.out
    go_wp2_with fail
    replace z0 := (World.cell?_alloc_lt w3 (.cells #[.int .i64 n1, .string ⟨x2.toArray⟩, .int .i64 n3, .int .i64 n4, .bool false, .complex .f64 0 0, .string ⟨#[]⟩, .bool true] 114) ⟨w.heap.size, 0, none⟩ hb0).trans z0
    replace y0 := (((Below.refl w3.heap.size w3).alloc (Nat.le_refl _) (.cells #[.int .i64 n1, .string ⟨x2.toArray⟩, .int .i64 n3, .int .i64 n4, .bool false, .complex .f64 0 0, .string ⟨#[]⟩, .bool true] 114)).frozen (p := ⟨w.heap.size, 0, none⟩) hb0).trans y0
    replace z1 := (World.cell?_alloc_lt w3 (.cells #[.int .i64 n1, .string ⟨x2.toArray⟩, .int .i64 n3, .int .i64 n4, .bool false, .complex .f64 0 0, .string ⟨#[]⟩, .bool true] 114) ⟨w.heap.size, 1, none⟩ hb0).trans z1
    replace y1 := (((Below.refl w3.heap.size w3).alloc (Nat.le_refl _) (.cells #[.int .i64 n1, .string ⟨x2.toArray⟩, .int .i64 n3, .int .i64 n4, .bool false, .complex .f64 0 0, .string ⟨#[]⟩, .bool true] 114)).frozen (p := ⟨w.heap.size, 1, none⟩) hb0).trans y1
    replace z2 := (World.cell?_alloc_lt w3 (.cells #[.int .i64 n1, .string ⟨x2.toArray⟩, .int .i64 n3, .int .i64 n4, .bool false, .complex .f64 0 0, .string ⟨#[]⟩, .bool true] 114) ⟨w.heap.size, 2, none⟩ hb0).trans z2
    replace y2 := (((Below.refl w3.heap.size w3).alloc (Nat.le_refl _) (.cells #[.int .i64 n1, .string ⟨x2.toArray⟩, .int .i64 n3, .int .i64 n4, .bool false, .complex .f64 0 0, .string ⟨#[]⟩, .bool true] 114)).frozen (p := ⟨w.heap.size, 2, none⟩) hb0).trans y2
    replace z3 := (World.cell?_alloc_lt w3 (.cells #[.int .i64 n1, .string ⟨x2.toArray⟩, .int .i64 n3, .int .i64 n4, .bool false, .complex .f64 0 0, .string ⟨#[]⟩, .bool true] 114) ⟨w.heap.size, 3, none⟩ hb0).trans z3
    replace y3 := (((Below.refl w3.heap.size w3).alloc (Nat.le_refl _) (.cells #[.int .i64 n1, .string ⟨x2.toArray⟩, .int .i64 n3, .int .i64 n4, .bool false, .complex .f64 0 0, .string ⟨#[]⟩, .bool true] 114)).frozen (p := ⟨w.heap.size, 3, none⟩) hb0).trans y3
    replace z4 := (World.cell?_alloc_lt w3 (.cells #[.int .i64 n1, .string ⟨x2.toArray⟩, .int .i64 n3, .int .i64 n4, .bool false, .complex .f64 0 0, .string ⟨#[]⟩, .bool true] 114) ⟨w.heap.size, 4, none⟩ hb0).trans z4
    replace y4 := (((Below.refl w3.heap.size w3).alloc (Nat.le_refl _) (.cells #[.int .i64 n1, .string ⟨x2.toArray⟩, .int .i64 n3, .int .i64 n4, .bool false, .complex .f64 0 0, .string ⟨#[]⟩, .bool true] 114)).frozen (p := ⟨w.heap.size, 4, none⟩) hb0).trans y4
    replace z5 := (World.cell?_alloc_lt w3 (.cells #[.int .i64 n1, .string ⟨x2.toArray⟩, .int .i64 n3, .int .i64 n4, .bool false, .complex .f64 0 0, .string ⟨#[]⟩, .bool true] 114) ⟨w.heap.size, 5, none⟩ hb0).trans z5
    replace y5 := (((Below.refl w3.heap.size w3).alloc (Nat.le_refl _) (.cells #[.int .i64 n1, .string ⟨x2.toArray⟩, .int .i64 n3, .int .i64 n4, .bool false, .complex .f64 0 0, .string ⟨#[]⟩, .bool true] 114)).frozen (p := ⟨w.heap.size, 5, none⟩) hb0).trans y5
    replace z6 := (World.cell?_alloc_lt w3 (.cells #[.int .i64 n1, .string ⟨x2.toArray⟩, .int .i64 n3, .int .i64 n4, .bool false, .complex .f64 0 0, .string ⟨#[]⟩, .bool true] 114) ⟨w.heap.size, 6, none⟩ hb0).trans z6
    replace y6 := (((Below.refl w3.heap.size w3).alloc (Nat.le_refl _) (.cells #[.int .i64 n1, .string ⟨x2.toArray⟩, .int .i64 n3, .int .i64 n4, .bool false, .complex .f64 0 0, .string ⟨#[]⟩, .bool true] 114)).frozen (p := ⟨w.heap.size, 6, none⟩) hb0).trans y6
    replace z7 := (World.cell?_alloc_lt w3 (.cells #[.int .i64 n1, .string ⟨x2.toArray⟩, .int .i64 n3, .int .i64 n4, .bool false, .complex .f64 0 0, .string ⟨#[]⟩, .bool true] 114) ⟨w.heap.size, 7, none⟩ hb0).trans z7
    replace y7 := (((Below.refl w3.heap.size w3).alloc (Nat.le_refl _) (.cells #[.int .i64 n1, .string ⟨x2.toArray⟩, .int .i64 n3, .int .i64 n4, .bool false, .complex .f64 0 0, .string ⟨#[]⟩, .bool true] 114)).frozen (p := ⟨w.heap.size, 7, none⟩) hb0).trans y7
    have i0 : (w3.alloc (.cells #[.int .i64 n1, .string ⟨x2.toArray⟩, .int .i64 n3, .int .i64 n4, .bool false, .complex .f64 0 0, .string ⟨#[]⟩, .bool true] 114)).cell? ⟨w3.heap.size, 0, none⟩ = some (.int .i64 n1) := by simp [go_sem]
    have i1 : (w3.alloc (.cells #[.int .i64 n1, .string ⟨x2.toArray⟩, .int .i64 n3, .int .i64 n4, .bool false, .complex .f64 0 0, .string ⟨#[]⟩, .bool true] 114)).cell? ⟨w3.heap.size, 1, none⟩ = some (.string ⟨x2.toArray⟩) := by simp [go_sem]
    have i2 : (w3.alloc (.cells #[.int .i64 n1, .string ⟨x2.toArray⟩, .int .i64 n3, .int .i64 n4, .bool false, .complex .f64 0 0, .string ⟨#[]⟩, .bool true] 114)).cell? ⟨w3.heap.size, 2, none⟩ = some (.int .i64 n3) := by simp [go_sem]
    have i3 : (w3.alloc (.cells #[.int .i64 n1, .string ⟨x2.toArray⟩, .int .i64 n3, .int .i64 n4, .bool false, .complex .f64 0 0, .string ⟨#[]⟩, .bool true] 114)).cell? ⟨w3.heap.size, 3, none⟩ = some (.int .i64 n4) := by simp [go_sem]
    have i4 : (w3.alloc (.cells #[.int .i64 n1, .string ⟨x2.toArray⟩, .int .i64 n3, .int .i64 n4, .bool false, .complex .f64 0 0, .string ⟨#[]⟩, .bool true] 114)).cell? ⟨w3.heap.size, 4, none⟩ = some (.bool false) := by simp [go_sem]
    have i5 : (w3.alloc (.cells #[.int .i64 n1, .string ⟨x2.toArray⟩, .int .i64 n3, .int .i64 n4, .bool false, .complex .f64 0 0, .string ⟨#[]⟩, .bool true] 114)).cell? ⟨w3.heap.size, 5, none⟩ = some (.complex .f64 0 0) := by simp [go_sem]
    have i6 : (w3.alloc (.cells #[.int .i64 n1, .string ⟨x2.toArray⟩, .int .i64 n3, .int .i64 n4, .bool false, .complex .f64 0 0, .string ⟨#[]⟩, .bool true] 114)).cell? ⟨w3.heap.size, 6, none⟩ = some (.string ⟨#[]⟩) := by simp [go_sem]
    have i7 : (w3.alloc (.cells #[.int .i64 n1, .string ⟨x2.toArray⟩, .int .i64 n3, .int .i64 n4, .bool false, .complex .f64 0 0, .string ⟨#[]⟩, .bool true] 114)).cell? ⟨w3.heap.size, 7, none⟩ = some (.bool true) := by simp [go_sem]
    have j5 : (w3.alloc (.cells #[.int .i64 n1, .string ⟨x2.toArray⟩, .int .i64 n3, .int .i64 n4, .bool false, .complex .f64 0 0, .string ⟨#[]⟩, .bool true] 114)).frozen? ⟨w3.heap.size, 5, none⟩ = false := by simp [go_sem]
    have j6 : (w3.alloc (.cells #[.int .i64 n1, .string ⟨x2.toArray⟩, .int .i64 n3, .int .i64 n4, .bool false, .complex .f64 0 0, .string ⟨#[]⟩, .bool true] 114)).frozen? ⟨w3.heap.size, 6, none⟩ = false := by simp [go_sem]
    have hbW : w.heap.size < (w3.alloc (.cells #[.int .i64 n1, .string ⟨x2.toArray⟩, .int .i64 n3, .int .i64 n4, .bool false, .complex .f64 0 0, .string ⟨#[]⟩, .bool true] 114)).heap.size := by simp; omega
    have hib : w3.heap.size < (w3.alloc (.cells #[.int .i64 n1, .string ⟨x2.toArray⟩, .int .i64 n3, .int .i64 n4, .bool false, .complex .f64 0 0, .string ⟨#[]⟩, .bool true] 114)).heap.size := by simp
    have hne : w.heap.size ≠ w3.heap.size := by omega
    have HRA := Lib.hid (HR3.out.allocd (.cells #[.int .i64 n1, .string ⟨x2.toArray⟩, .int .i64 n3, .int .i64 n4, .bool false, .complex .f64 0 0, .string ⟨#[]⟩, .bool true] 114))
    have HGA : Hid (w.grownBy (w3.alloc (.cells #[.int .i64 n1, .string ⟨x2.toArray⟩, .int .i64 n3, .int .i64 n4, .bool false, .complex .f64 0 0, .string ⟨#[]⟩, .bool true] 114)) (some R)) := grown_more HG3.out _
    generalize (w3.alloc (.cells #[.int .i64 n1, .string ⟨x2.toArray⟩, .int .i64 n3, .int .i64 n4, .bool false, .complex .f64 0 0, .string ⟨#[]⟩, .bool true] 114)) = W at *
    have hibw : w.heap.size ≤ w3.heap.size := hb3
    clear HR3 HG3 hb0 hs23 hb2 hR2 v0 v1 v2 hb3 hRv
    generalize w3.heap.size = ib at *
    have HT6 : Hid (tk6 st = numF s5 2000) := by show _ = _; unfold tk6; rw [HK.out]
    have HT7 : Hid (tk7 st = numF (numF s5 2000).2 2000) := by show _ = _; unfold tk7; rw [HT6.out]
    have HC7 : Hid ((numF (numF s5 2000).2 2000).2.1 ≠ [] → st.1 ≠ []) := fun h => HC5.out (num_rest (num_rest h))
    have b6 := num_le s5 2000
    have b7 := num_le (numF s5 2000).2 2000
    refine (takeSpot_any _ HRA.out).mono ?_
    generalize numF (numF s5 2000).2 2000 = N7 at *
    generalize numF s5 2000 = N6 at *
    obtain ⟨n6, s6⟩ := N6
    obtain ⟨n7, s7⟩ := N7
    rintro e w4 ⟨rfl, hR, hg⟩
    simp only at hR HC7 b6 b7 ⊢
    have hn6 : (n6 - 1000).natAbs < 2 ^ 53 := by
      have : (2 : Nat) ^ 53 = 9007199254740992 := by decide
      omega
    have hn7 : (n7 - 1000).natAbs < 2 ^ 53 := by
      have : (2 : Nat) ^ 53 = 9007199254740992 := by decide
      omega
    replace z0 := (own_cell hg hbW hRb' 0).1.trans z0
    replace y0 := (own_cell hg hbW hRb' 0).2.trans y0
    replace i0 := (own_cell hg hib hRi 0).1.trans i0
    replace z1 := (own_cell hg hbW hRb' 1).1.trans z1
    replace y1 := (own_cell hg hbW hRb' 1).2.trans y1
    replace i1 := (own_cell hg hib hRi 1).1.trans i1
    replace z2 := (own_cell hg hbW hRb' 2).1.trans z2
    replace y2 := (own_cell hg hbW hRb' 2).2.trans y2
    replace i2 := (own_cell hg hib hRi 2).1.trans i2
    replace z3 := (own_cell hg hbW hRb' 3).1.trans z3
    replace y3 := (own_cell hg hbW hRb' 3).2.trans y3
    replace i3 := (own_cell hg hib hRi 3).1.trans i3
    replace z4 := (own_cell hg hbW hRb' 4).1.trans z4
    replace y4 := (own_cell hg hbW hRb' 4).2.trans y4
    replace i4 := (own_cell hg hib hRi 4).1.trans i4
    replace z5 := (own_cell hg hbW hRb' 5).1.trans z5
    replace y5 := (own_cell hg hbW hRb' 5).2.trans y5
    replace i5 := (own_cell hg hib hRi 5).1.trans i5
    replace z6 := (own_cell hg hbW hRb' 6).1.trans z6
    replace y6 := (own_cell hg hbW hRb' 6).2.trans y6
    replace i6 := (own_cell hg hib hRi 6).1.trans i6
    replace z7 := (own_cell hg hbW hRb' 7).1.trans z7
    replace y7 := (own_cell hg hbW hRb' 7).2.trans y7
    replace i7 := (own_cell hg hib hRi 7).1.trans i7
    replace j5 := (own_cell hg hib hRi 5).2.trans j5
    replace j6 := (own_cell hg hib hRi 6).2.trans j6
    replace hbW := Nat.lt_of_lt_of_le hbW hg.size
    replace hib := Nat.lt_of_lt_of_le hib hg.size
    have HR4 := Lib.hid hR
    have HG4 := Lib.hid (HGA.out.trans hg)
    clear hR hg HRA HGA b6 b7
    have HNi : Hid (s7.1 ≠ [] → g ≠ ib) := HG0.out s7 HC7.out _ hibw
    have HS : Hid (tkS st = s7) := by show _ = _; unfold tkS; rw [HK.out, HT7.out]; simp
    obtain ⟨fx, hfx⟩ : ∃ f, f = fl (n6 - 1000) := ⟨_, rfl⟩
    obtain ⟨fy, hfy⟩ : ∃ f, f = fl (n7 - 1000) := ⟨_, rfl⟩
    rw [← hfx, ← hfy]
    have HFX := Lib.hid hfx
    have HFY := Lib.hid hfy
    clear hfx hfy
    have HT8 : Hid (tk8 st = textF s7 16) := by show _ = _; unfold tk8; rw [HS.out]
    have HC8 : Hid ((textF s7 16).2.1 ≠ [] → st.1 ≠ []) := fun h => HC7.out (text_rest h)
    have HR4' : Hid (ReaderAt (w4.setCell ⟨ib, 5, none⟩ (.complex .f64 fx fy)) R g s7) := HR4.out.setOwn (p := ⟨ib, 5, none⟩) (fun e => hRi (by rw [e])) HNi.out _
    have HG4' : Hid (w.grownBy (w4.setCell ⟨ib, 5, none⟩ (.complex .f64 fx fy)) (some R)) := grown_own HG4.out (p := ⟨ib, 5, none⟩) hibw _
    go_wp2_with fail
    replace z0 : (w4.setCell ⟨ib, 5, none⟩ (.complex .f64 fx fy)).cell? ⟨w.heap.size, 0, none⟩ = some (.int .i64 0) := by simpa [go_sem, hne] using z0
    replace y0 : (w4.setCell ⟨ib, 5, none⟩ (.complex .f64 fx fy)).frozen? ⟨w.heap.size, 0, none⟩ = false := by simpa [go_sem, hne] using y0
    replace z1 : (w4.setCell ⟨ib, 5, none⟩ (.complex .f64 fx fy)).cell? ⟨w.heap.size, 1, none⟩ = some (.string ⟨#[]⟩) := by simpa [go_sem, hne] using z1
    replace y1 : (w4.setCell ⟨ib, 5, none⟩ (.complex .f64 fx fy)).frozen? ⟨w.heap.size, 1, none⟩ = false := by simpa [go_sem, hne] using y1
    replace z2 : (w4.setCell ⟨ib, 5, none⟩ (.complex .f64 fx fy)).cell? ⟨w.heap.size, 2, none⟩ = some (.int .i64 0) := by simpa [go_sem, hne] using z2
    replace y2 : (w4.setCell ⟨ib, 5, none⟩ (.complex .f64 fx fy)).frozen? ⟨w.heap.size, 2, none⟩ = false := by simpa [go_sem, hne] using y2
    replace z3 : (w4.setCell ⟨ib, 5, none⟩ (.complex .f64 fx fy)).cell? ⟨w.heap.size, 3, none⟩ = some (.int .i64 0) := by simpa [go_sem, hne] using z3
    replace y3 : (w4.setCell ⟨ib, 5, none⟩ (.complex .f64 fx fy)).frozen? ⟨w.heap.size, 3, none⟩ = false := by simpa [go_sem, hne] using y3
    replace z4 : (w4.setCell ⟨ib, 5, none⟩ (.complex .f64 fx fy)).cell? ⟨w.heap.size, 4, none⟩ = some (.bool false) := by simpa [go_sem, hne] using z4
    replace y4 : (w4.setCell ⟨ib, 5, none⟩ (.complex .f64 fx fy)).frozen? ⟨w.heap.size, 4, none⟩ = false := by simpa [go_sem, hne] using y4
    replace z5 : (w4.setCell ⟨ib, 5, none⟩ (.complex .f64 fx fy)).cell? ⟨w.heap.size, 5, none⟩ = some (.complex .f64 0 0) := by simpa [go_sem, hne] using z5
    replace y5 : (w4.setCell ⟨ib, 5, none⟩ (.complex .f64 fx fy)).frozen? ⟨w.heap.size, 5, none⟩ = false := by simpa [go_sem, hne] using y5
    replace z6 : (w4.setCell ⟨ib, 5, none⟩ (.complex .f64 fx fy)).cell? ⟨w.heap.size, 6, none⟩ = some (.string ⟨#[]⟩) := by simpa [go_sem, hne] using z6
    replace y6 : (w4.setCell ⟨ib, 5, none⟩ (.complex .f64 fx fy)).frozen? ⟨w.heap.size, 6, none⟩ = false := by simpa [go_sem, hne] using y6
    replace z7 : (w4.setCell ⟨ib, 5, none⟩ (.complex .f64 fx fy)).cell? ⟨w.heap.size, 7, none⟩ = some (.bool false) := by simpa [go_sem, hne] using z7
    replace y7 : (w4.setCell ⟨ib, 5, none⟩ (.complex .f64 fx fy)).frozen? ⟨w.heap.size, 7, none⟩ = false := by simpa [go_sem, hne] using y7
    replace i0 : (w4.setCell ⟨ib, 5, none⟩ (.complex .f64 fx fy)).cell? ⟨ib, 0, none⟩ = some (.int .i64 n1) := by simpa [go_sem] using i0
    replace i1 : (w4.setCell ⟨ib, 5, none⟩ (.complex .f64 fx fy)).cell? ⟨ib, 1, none⟩ = some (.string ⟨x2.toArray⟩) := by simpa [go_sem] using i1
    replace i2 : (w4.setCell ⟨ib, 5, none⟩ (.complex .f64 fx fy)).cell? ⟨ib, 2, none⟩ = some (.int .i64 n3) := by simpa [go_sem] using i2
    replace i3 : (w4.setCell ⟨ib, 5, none⟩ (.complex .f64 fx fy)).cell? ⟨ib, 3, none⟩ = some (.int .i64 n4) := by simpa [go_sem] using i3
    replace i4 : (w4.setCell ⟨ib, 5, none⟩ (.complex .f64 fx fy)).cell? ⟨ib, 4, none⟩ = some (.bool false) := by simpa [go_sem] using i4
    replace i6 : (w4.setCell ⟨ib, 5, none⟩ (.complex .f64 fx fy)).cell? ⟨ib, 6, none⟩ = some (.string ⟨#[]⟩) := by simpa [go_sem] using i6
    replace i7 : (w4.setCell ⟨ib, 5, none⟩ (.complex .f64 fx fy)).cell? ⟨ib, 7, none⟩ = some (.bool true) := by simpa [go_sem] using i7
    replace i5 : (w4.setCell ⟨ib, 5, none⟩ (.complex .f64 fx fy)).cell? ⟨ib, 5, none⟩ = some (.complex .f64 fx fy) := by simp [go_sem, i5]
    replace j6 : (w4.setCell ⟨ib, 5, none⟩ (.complex .f64 fx fy)).frozen? ⟨ib, 6, none⟩ = false := by simpa [go_sem] using j6
    replace hbW : w.heap.size < (w4.setCell ⟨ib, 5, none⟩ (.complex .f64 fx fy)).heap.size := by simpa [World.setCell] using hbW
    replace hib : ib < (w4.setCell ⟨ib, 5, none⟩ (.complex .f64 fx fy)).heap.size := by simpa [World.setCell] using hib
    clear j5 HR4 HG4
    generalize w4.setCell ⟨ib, 5, none⟩ (.complex .f64 fx fy) = W5 at *
    refine (text_any 16 _ HR4'.out).mono ?_
    generalize textF s7 16 = N8 at *
    obtain ⟨x8, s8⟩ := N8
    rintro e w7 ⟨rfl, hR, hg, hdel⟩
    clear hdel
    simp only at hR HC8 ⊢
    replace z0 := (own_cell hg hbW hRb' 0).1.trans z0
    replace y0 := (own_cell hg hbW hRb' 0).2.trans y0
    replace i0 := (own_cell hg hib hRi 0).1.trans i0
    replace z1 := (own_cell hg hbW hRb' 1).1.trans z1
    replace y1 := (own_cell hg hbW hRb' 1).2.trans y1
    replace i1 := (own_cell hg hib hRi 1).1.trans i1
    replace z2 := (own_cell hg hbW hRb' 2).1.trans z2
    replace y2 := (own_cell hg hbW hRb' 2).2.trans y2
    replace i2 := (own_cell hg hib hRi 2).1.trans i2
    replace z3 := (own_cell hg hbW hRb' 3).1.trans z3
    replace y3 := (own_cell hg hbW hRb' 3).2.trans y3
    replace i3 := (own_cell hg hib hRi 3).1.trans i3
    replace z4 := (own_cell hg hbW hRb' 4).1.trans z4
    replace y4 := (own_cell hg hbW hRb' 4).2.trans y4
    replace i4 := (own_cell hg hib hRi 4).1.trans i4
    replace z5 := (own_cell hg hbW hRb' 5).1.trans z5
    replace y5 := (own_cell hg hbW hRb' 5).2.trans y5
    replace i5 := (own_cell hg hib hRi 5).1.trans i5
    replace z6 := (own_cell hg hbW hRb' 6).1.trans z6
    replace y6 := (own_cell hg hbW hRb' 6).2.trans y6
    replace i6 := (own_cell hg hib hRi 6).1.trans i6
    replace z7 := (own_cell hg hbW hRb' 7).1.trans z7
    replace y7 := (own_cell hg hbW hRb' 7).2.trans y7
    replace i7 := (own_cell hg hib hRi 7).1.trans i7
    replace j6 := (own_cell hg hib hRi 6).2.trans j6
    replace hbW := Nat.lt_of_lt_of_le hbW hg.size
    replace hib := Nat.lt_of_lt_of_le hib hg.size
    have HNi8 : Hid (s8.1 ≠ [] → g ≠ ib) := HG0.out s8 HC8.out _ hibw
    have HR8 : Hid (ReaderAt (w7.setCell ⟨ib, 6, none⟩ (.string ⟨x8.toArray⟩)) R g s8) := hR.setOwn (p := ⟨ib, 6, none⟩) (fun e => hRi (by rw [e])) HNi8.out _
    have HG8 : Hid (w.grownBy (w7.setCell ⟨ib, 6, none⟩ (.string ⟨x8.toArray⟩)) (some R)) := grown_own (HG4'.out.trans hg) (p := ⟨ib, 6, none⟩) hibw _
    clear hR hg HR4' HG4'
    have HE : Hid (tkE st = s8) := by show _ = _; unfold tkE; rw [HK.out, HT8.out]; simp
    have HRaw : Hid (rawI st = ⟨n1, ⟨⟨x2.toArray⟩, n3, n4⟩, false, n6 - 1000, n7 - 1000, ⟨x8.toArray⟩, true⟩) := by show _ = _; unfold rawI; rw [HT1.out, HT2.out, HT3.out, HT4.out, HK.out, HT6.out, HT7.out, HT8.out]; simp
    go_wp2_with fail
    replace z0 : (w7.setCell ⟨ib, 6, none⟩ (.string ⟨x8.toArray⟩)).cell? ⟨w.heap.size, 0, none⟩ = some (.int .i64 0) := by simpa [go_sem, hne] using z0
    replace y0 : (w7.setCell ⟨ib, 6, none⟩ (.string ⟨x8.toArray⟩)).frozen? ⟨w.heap.size, 0, none⟩ = false := by simpa [go_sem, hne] using y0
    replace z1 : (w7.setCell ⟨ib, 6, none⟩ (.string ⟨x8.toArray⟩)).cell? ⟨w.heap.size, 1, none⟩ = some (.string ⟨#[]⟩) := by simpa [go_sem, hne] using z1
    replace y1 : (w7.setCell ⟨ib, 6, none⟩ (.string ⟨x8.toArray⟩)).frozen? ⟨w.heap.size, 1, none⟩ = false := by simpa [go_sem, hne] using y1
    replace z2 : (w7.setCell ⟨ib, 6, none⟩ (.string ⟨x8.toArray⟩)).cell? ⟨w.heap.size, 2, none⟩ = some (.int .i64 0) := by simpa [go_sem, hne] using z2
    replace y2 : (w7.setCell ⟨ib, 6, none⟩ (.string ⟨x8.toArray⟩)).frozen? ⟨w.heap.size, 2, none⟩ = false := by simpa [go_sem, hne] using y2
    replace z3 : (w7.setCell ⟨ib, 6, none⟩ (.string ⟨x8.toArray⟩)).cell? ⟨w.heap.size, 3, none⟩ = some (.int .i64 0) := by simpa [go_sem, hne] using z3
    replace y3 : (w7.setCell ⟨ib, 6, none⟩ (.string ⟨x8.toArray⟩)).frozen? ⟨w.heap.size, 3, none⟩ = false := by simpa [go_sem, hne] using y3
    replace z4 : (w7.setCell ⟨ib, 6, none⟩ (.string ⟨x8.toArray⟩)).cell? ⟨w.heap.size, 4, none⟩ = some (.bool false) := by simpa [go_sem, hne] using z4
    replace y4 : (w7.setCell ⟨ib, 6, none⟩ (.string ⟨x8.toArray⟩)).frozen? ⟨w.heap.size, 4, none⟩ = false := by simpa [go_sem, hne] using y4
    replace z5 : (w7.setCell ⟨ib, 6, none⟩ (.string ⟨x8.toArray⟩)).cell? ⟨w.heap.size, 5, none⟩ = some (.complex .f64 0 0) := by simpa [go_sem, hne] using z5
    replace y5 : (w7.setCell ⟨ib, 6, none⟩ (.string ⟨x8.toArray⟩)).frozen? ⟨w.heap.size, 5, none⟩ = false := by simpa [go_sem, hne] using y5
    replace z6 : (w7.setCell ⟨ib, 6, none⟩ (.string ⟨x8.toArray⟩)).cell? ⟨w.heap.size, 6, none⟩ = some (.string ⟨#[]⟩) := by simpa [go_sem, hne] using z6
    replace y6 : (w7.setCell ⟨ib, 6, none⟩ (.string ⟨x8.toArray⟩)).frozen? ⟨w.heap.size, 6, none⟩ = false := by simpa [go_sem, hne] using y6
    replace z7 : (w7.setCell ⟨ib, 6, none⟩ (.string ⟨x8.toArray⟩)).cell? ⟨w.heap.size, 7, none⟩ = some (.bool false) := by simpa [go_sem, hne] using z7
    replace y7 : (w7.setCell ⟨ib, 6, none⟩ (.string ⟨x8.toArray⟩)).frozen? ⟨w.heap.size, 7, none⟩ = false := by simpa [go_sem, hne] using y7
    replace i0 : (w7.setCell ⟨ib, 6, none⟩ (.string ⟨x8.toArray⟩)).cell? ⟨ib, 0, none⟩ = some (.int .i64 n1) := by simpa [go_sem] using i0
    replace i1 : (w7.setCell ⟨ib, 6, none⟩ (.string ⟨x8.toArray⟩)).cell? ⟨ib, 1, none⟩ = some (.string ⟨x2.toArray⟩) := by simpa [go_sem] using i1
    replace i2 : (w7.setCell ⟨ib, 6, none⟩ (.string ⟨x8.toArray⟩)).cell? ⟨ib, 2, none⟩ = some (.int .i64 n3) := by simpa [go_sem] using i2
    replace i3 : (w7.setCell ⟨ib, 6, none⟩ (.string ⟨x8.toArray⟩)).cell? ⟨ib, 3, none⟩ = some (.int .i64 n4) := by simpa [go_sem] using i3
    replace i4 : (w7.setCell ⟨ib, 6, none⟩ (.string ⟨x8.toArray⟩)).cell? ⟨ib, 4, none⟩ = some (.bool false) := by simpa [go_sem] using i4
    replace i5 : (w7.setCell ⟨ib, 6, none⟩ (.string ⟨x8.toArray⟩)).cell? ⟨ib, 5, none⟩ = some (.complex .f64 fx fy) := by simpa [go_sem] using i5
    replace i7 : (w7.setCell ⟨ib, 6, none⟩ (.string ⟨x8.toArray⟩)).cell? ⟨ib, 7, none⟩ = some (.bool true) := by simpa [go_sem] using i7
    replace i6 : (w7.setCell ⟨ib, 6, none⟩ (.string ⟨x8.toArray⟩)).cell? ⟨ib, 6, none⟩ = some (.string ⟨x8.toArray⟩) := by simp [go_sem, i6]
    replace hbW : w.heap.size < (w7.setCell ⟨ib, 6, none⟩ (.string ⟨x8.toArray⟩)).heap.size := by simpa [World.setCell] using hbW
    replace hib : ib < (w7.setCell ⟨ib, 6, none⟩ (.string ⟨x8.toArray⟩)).heap.size := by simpa [World.setCell] using hib
    clear j6
    generalize w7.setCell ⟨ib, 6, none⟩ (.string ⟨x8.toArray⟩) = W8 at *
    have HNE : Hid (s8.1 ≠ [] → g ≠ w.heap.size) := HG0.out s8 HC8.out _ (Nat.le_refl _)
    obtain ⟨S, hS⟩ : ∃ S, S = s8 := ⟨_, rfl⟩
    rw [← hS] at HE HNE HR8
    clear hS
    have HRT := Lib.hid (itemRight_any ⟨n1, ⟨⟨x2.toArray⟩, n3, n4⟩, false, n6 - 1000, n7 - 1000, ⟨x8.toArray⟩, true⟩ hn6 hn7)
    have HIV := Lib.hid (show itmV ⟨n1, ⟨⟨x2.toArray⟩, n3, n4⟩, false, n6 - 1000, n7 - 1000, ⟨x8.toArray⟩, true⟩ = .agg #[.int .i64 n1, .string ⟨x2.toArray⟩, .int .i64 n3, .int .i64 n4, .bool false, .complex .f64 fx fy, .string ⟨x8.toArray⟩, .bool true] by unfold itmV; simp only [HFX.out, HFY.out])
    rw [HIV.out] at HRT
    generalize hr : rightI ⟨n1, ⟨⟨x2.toArray⟩, n3, n4⟩, false, n6 - 1000, n7 - 1000, ⟨x8.toArray⟩, true⟩ = r at HRT
    have HRr := Lib.hid hr
    clear hr hn6 hn7 HFX HFY
    refine (err_any _ HR8.out).mono ?_
    rintro e u ⟨rfl, rfl⟩
    by_cases he : S.2 = 0
    · have he1 : ((S.2 : Int) != 0) = false := by simpa using he
      have HE0 := Lib.hid he
      clear he
      go_wp2_with fail
      refine (HRT.out _).mono ?_
      rintro e w6 ⟨rfl, hb⟩
      replace z0 := (hb.cell (p := ⟨w.heap.size, 0, none⟩) hbW).trans z0
      replace y0 := (hb.frozen (p := ⟨w.heap.size, 0, none⟩) hbW).trans y0
      replace i0 := (hb.cell (p := ⟨ib, 0, none⟩) hib).trans i0
      replace z1 := (hb.cell (p := ⟨w.heap.size, 1, none⟩) hbW).trans z1
      replace y1 := (hb.frozen (p := ⟨w.heap.size, 1, none⟩) hbW).trans y1
      replace i1 := (hb.cell (p := ⟨ib, 1, none⟩) hib).trans i1
      replace z2 := (hb.cell (p := ⟨w.heap.size, 2, none⟩) hbW).trans z2
      replace y2 := (hb.frozen (p := ⟨w.heap.size, 2, none⟩) hbW).trans y2
      replace i2 := (hb.cell (p := ⟨ib, 2, none⟩) hib).trans i2
      replace z3 := (hb.cell (p := ⟨w.heap.size, 3, none⟩) hbW).trans z3
      replace y3 := (hb.frozen (p := ⟨w.heap.size, 3, none⟩) hbW).trans y3
      replace i3 := (hb.cell (p := ⟨ib, 3, none⟩) hib).trans i3
      replace z4 := (hb.cell (p := ⟨w.heap.size, 4, none⟩) hbW).trans z4
      replace y4 := (hb.frozen (p := ⟨w.heap.size, 4, none⟩) hbW).trans y4
      replace i4 := (hb.cell (p := ⟨ib, 4, none⟩) hib).trans i4
      replace z5 := (hb.cell (p := ⟨w.heap.size, 5, none⟩) hbW).trans z5
      replace y5 := (hb.frozen (p := ⟨w.heap.size, 5, none⟩) hbW).trans y5
      replace i5 := (hb.cell (p := ⟨ib, 5, none⟩) hib).trans i5
      replace z6 := (hb.cell (p := ⟨w.heap.size, 6, none⟩) hbW).trans z6
      replace y6 := (hb.frozen (p := ⟨w.heap.size, 6, none⟩) hbW).trans y6
      replace i6 := (hb.cell (p := ⟨ib, 6, none⟩) hib).trans i6
      replace z7 := (hb.cell (p := ⟨w.heap.size, 7, none⟩) hbW).trans z7
      replace y7 := (hb.frozen (p := ⟨w.heap.size, 7, none⟩) hbW).trans y7
      replace i7 := (hb.cell (p := ⟨ib, 7, none⟩) hib).trans i7
      have HR6 := Lib.hid (HR8.out.keep hb)
      have HG6 := Lib.hid (grown_below HG8.out hb)
      clear hb
      cases r
      · skip
        go_wp2
        refine bodyPost_ret (v := .tuple #[.agg #[.int .i64 0, .string ⟨#[]⟩, .int .i64 0, .int .i64 0, .bool false, .complex .f64 0 0, .string ⟨#[]⟩, .bool false], .bool false]) ?_ rfl ?_
        · simp [results, Tryz.results193, go_sem, z0, z1, z2, z3, z4, z5, z6, z7]
        · have e1 : ok = false := by rw [HOK.out]; unfold okI; rw [HE.out, HRaw.out, HRr.out]; simp
          have e2 : V = .agg #[.int .i64 0, .string ⟨#[]⟩, .int .i64 0, .int .i64 0, .bool false, .complex .f64 0 0, .string ⟨#[]⟩, .bool false] := by rw [HV.out, e1, if_neg (by simp)]; unfold zeroI itmV; simp only [zero_fl]
          rw [e1, e2, HSE.out, HE.out]
          exact ⟨rfl, ((((((((HR6.out.setOwn (p := ⟨w.heap.size, 0, none⟩) (Ne.symm hRb) HNE.out _).setOwn (p := ⟨w.heap.size, 1, none⟩) (Ne.symm hRb) HNE.out _).setOwn (p := ⟨w.heap.size, 2, none⟩) (Ne.symm hRb) HNE.out _).setOwn (p := ⟨w.heap.size, 3, none⟩) (Ne.symm hRb) HNE.out _).setOwn (p := ⟨w.heap.size, 4, none⟩) (Ne.symm hRb) HNE.out _).setOwn (p := ⟨w.heap.size, 5, none⟩) (Ne.symm hRb) HNE.out _).setOwn (p := ⟨w.heap.size, 6, none⟩) (Ne.symm hRb) HNE.out _).setOwn (p := ⟨w.heap.size, 7, none⟩) (Ne.symm hRb) HNE.out _), (grown_own (grown_own (grown_own (grown_own (grown_own (grown_own (grown_own (grown_own HG6.out (p := ⟨w.heap.size, 0, none⟩) (Nat.le_refl _) _) (p := ⟨w.heap.size, 1, none⟩) (Nat.le_refl _) _) (p := ⟨w.heap.size, 2, none⟩) (Nat.le_refl _) _) (p := ⟨w.heap.size, 3, none⟩) (Nat.le_refl _) _) (p := ⟨w.heap.size, 4, none⟩) (Nat.le_refl _) _) (p := ⟨w.heap.size, 5, none⟩) (Nat.le_refl _) _) (p := ⟨w.heap.size, 6, none⟩) (Nat.le_refl _) _) (p := ⟨w.heap.size, 7, none⟩) (Nat.le_refl _) _)⟩
      · skip
        go_wp2
        refine bodyPost_ret (v := .tuple #[.agg #[.int .i64 n1, .string ⟨x2.toArray⟩, .int .i64 n3, .int .i64 n4, .bool false, .complex .f64 fx fy, .string ⟨x8.toArray⟩, .bool true], .bool true]) ?_ rfl ?_
        · simp [results, Tryz.results193, go_sem, z0, z1, z2, z3, z4, z5, z6, z7]
        · have e1 : ok = true := by rw [HOK.out]; unfold okI; rw [HE.out, HRaw.out, HRr.out]; simp [HE0.out]
          have e2 : V = .agg #[.int .i64 n1, .string ⟨x2.toArray⟩, .int .i64 n3, .int .i64 n4, .bool false, .complex .f64 fx fy, .string ⟨x8.toArray⟩, .bool true] := by rw [HV.out, e1, if_pos rfl, HRaw.out]; exact HIV.out
          rw [e1, e2, HSE.out, HE.out]
          exact ⟨rfl, ((((((((HR6.out.setOwn (p := ⟨w.heap.size, 0, none⟩) (Ne.symm hRb) HNE.out _).setOwn (p := ⟨w.heap.size, 1, none⟩) (Ne.symm hRb) HNE.out _).setOwn (p := ⟨w.heap.size, 2, none⟩) (Ne.symm hRb) HNE.out _).setOwn (p := ⟨w.heap.size, 3, none⟩) (Ne.symm hRb) HNE.out _).setOwn (p := ⟨w.heap.size, 4, none⟩) (Ne.symm hRb) HNE.out _).setOwn (p := ⟨w.heap.size, 5, none⟩) (Ne.symm hRb) HNE.out _).setOwn (p := ⟨w.heap.size, 6, none⟩) (Ne.symm hRb) HNE.out _).setOwn (p := ⟨w.heap.size, 7, none⟩) (Ne.symm hRb) HNE.out _), (grown_own (grown_own (grown_own (grown_own (grown_own (grown_own (grown_own (grown_own HG6.out (p := ⟨w.heap.size, 0, none⟩) (Nat.le_refl _) _) (p := ⟨w.heap.size, 1, none⟩) (Nat.le_refl _) _) (p := ⟨w.heap.size, 2, none⟩) (Nat.le_refl _) _) (p := ⟨w.heap.size, 3, none⟩) (Nat.le_refl _) _) (p := ⟨w.heap.size, 4, none⟩) (Nat.le_refl _) _) (p := ⟨w.heap.size, 5, none⟩) (Nat.le_refl _) _) (p := ⟨w.heap.size, 6, none⟩) (Nat.le_refl _) _) (p := ⟨w.heap.size, 7, none⟩) (Nat.le_refl _) _)⟩
    · have he1 : ((S.2 : Int) != 0) = true := by simpa using he
      have HE0 := Lib.hid he
      clear he i0 i1 i2 i3 i4 i5 i6 i7
      go_wp2
      refine bodyPost_ret (v := .tuple #[.agg #[.int .i64 0, .string ⟨#[]⟩, .int .i64 0, .int .i64 0, .bool false, .complex .f64 0 0, .string ⟨#[]⟩, .bool false], .bool false]) ?_ rfl ?_
      · simp [results, Tryz.results193, go_sem, z0, z1, z2, z3, z4, z5, z6, z7]
      · have e1 : ok = false := by rw [HOK.out]; unfold okI; rw [HE.out, HRaw.out, HRr.out]; rw [decide_eq_false HE0.out]; rfl
        have e2 : V = .agg #[.int .i64 0, .string ⟨#[]⟩, .int .i64 0, .int .i64 0, .bool false, .complex .f64 0 0, .string ⟨#[]⟩, .bool false] := by rw [HV.out, e1, if_neg (by simp)]; unfold zeroI itmV; simp only [zero_fl]
        rw [e1, e2, HSE.out, HE.out]
        exact ⟨rfl, ((((((((HR8.out.setOwn (p := ⟨w.heap.size, 0, none⟩) (Ne.symm hRb) HNE.out _).setOwn (p := ⟨w.heap.size, 1, none⟩) (Ne.symm hRb) HNE.out _).setOwn (p := ⟨w.heap.size, 2, none⟩) (Ne.symm hRb) HNE.out _).setOwn (p := ⟨w.heap.size, 3, none⟩) (Ne.symm hRb) HNE.out _).setOwn (p := ⟨w.heap.size, 4, none⟩) (Ne.symm hRb) HNE.out _).setOwn (p := ⟨w.heap.size, 5, none⟩) (Ne.symm hRb) HNE.out _).setOwn (p := ⟨w.heap.size, 6, none⟩) (Ne.symm hRb) HNE.out _).setOwn (p := ⟨w.heap.size, 7, none⟩) (Ne.symm hRb) HNE.out _), (grown_own (grown_own (grown_own (grown_own (grown_own (grown_own (grown_own (grown_own HG8.out (p := ⟨w.heap.size, 0, none⟩) (Nat.le_refl _) _) (p := ⟨w.heap.size, 1, none⟩) (Nat.le_refl _) _) (p := ⟨w.heap.size, 2, none⟩) (Nat.le_refl _) _) (p := ⟨w.heap.size, 3, none⟩) (Nat.le_refl _) _) (p := ⟨w.heap.size, 4, none⟩) (Nat.le_refl _) _) (p := ⟨w.heap.size, 5, none⟩) (Nat.le_refl _) _) (p := ⟨w.heap.size, 6, none⟩) (Nat.le_refl _) _) (p := ⟨w.heap.size, 7, none⟩) (Nat.le_refl _) _)⟩
end Go.Proofs.YtbookbgfipbaoaaGreatDoor.By
