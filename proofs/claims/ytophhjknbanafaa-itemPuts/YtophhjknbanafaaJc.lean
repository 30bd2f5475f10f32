/- item: takeVersion, takeSpot, Take. -/
import Derived.Test.YtophhjknbanafaaJb
namespace Go.Proofs.Ytophhjknbanafaa
open Go.RowKit

theorem num_le (st : Rd) (m : Int) : 0 ≤ (numF st m).1 ∧ ((numF st m).1 ≤ m ∨ (numF st m).1 = 0) := by
  unfold numF
  split
  · simp
  · split
    · simp
    · split
      · simp
      · simp only; omega
theorem num_rest {st : Rd} {mo : Int} (h : (numF st mo).2.1 ≠ []) : st.1 ≠ [] := by
  intro e
  apply h
  unfold numF
  split
  · exact e
  · split
    · exact e
    · split
      · exact e
      · show st.1.drop _ = []
        rw [e]; simp
theorem text_rest {st : Rd} {mo : Int} (h : (textF st mo).2.1 ≠ []) : st.1 ≠ [] := by
  apply num_rest (mo := mo)
  intro e
  apply h
  unfold textF
  split
  · exact e
  · split
    · exact e
    · show (numF st mo).2.1.drop _ = []
      rw [e]; simp
def tk1 (st : Rd) := numF st 31
def tk2 (st : Rd) := textF (tk1 st).2 6
def tk3 (st : Rd) := numF (tk2 st).2 1048576
def tk4 (st : Rd) := numF (tk3 st).2 1048576
def tk5 (st : Rd) := numF (tk4 st).2 2
def tk6 (st : Rd) := numF (tk5 st).2 2000
def tk7 (st : Rd) := numF (tk6 st).2 2000
def tkS (st : Rd) : Rd := if (tk5 st).1 ≠ 0 then (tk7 st).2 else (tk5 st).2
def tk8 (st : Rd) := textF (tkS st) 16
def tkE (st : Rd) : Rd := if (tk5 st).1 = 2 then (tk8 st).2 else tkS st
def rawI (st : Rd) : Itm := ⟨(tk1 st).1, ⟨⟨(tk2 st).1.toArray⟩, (tk3 st).1, (tk4 st).1⟩, decide ((tk5 st).1 = 0), if (tk5 st).1 ≠ 0 then (tk6 st).1 - 1000 else 0, if (tk5 st).1 ≠ 0 then (tk7 st).1 - 1000 else 0, if (tk5 st).1 = 2 then ⟨(tk8 st).1.toArray⟩ else ⟨#[]⟩, decide ((tk5 st).1 = 2)⟩
def okI (st : Rd) : Bool := decide ((tkE st).2 = 0) && rightI (rawI st)
def zeroI : Itm := ⟨0, ⟨⟨#[]⟩, 0, 0⟩, false, 0, 0, ⟨#[]⟩, false⟩

/-- A call that read on in the Reader, and made blocks of its own. -/
def RdRet (v : Value) (R g : Nat) (st : Rd) (w : World) (e : Ending) (w' : World) : Prop := e = .returned v ∧ ReaderAt w' R g st ∧ w.grownBy w' (some R)

theorem ReaderAt.allocd {w : World} {R g : Nat} {st : Rd} (h : ReaderAt w R g st) (o : Obj) : ReaderAt (w.alloc o) R g st := h.keep ((Below.refl _ _).alloc (Nat.le_refl _) _)
theorem grown_alloc (w : World) (o : Obj) (row : Option Nat) : w.grownBy (w.alloc o) row := grown_of_below ((Below.refl _ _).alloc (Nat.le_refl _) _) row
theorem grown_own {a w : World} {row : Option Nat} (h : a.grownBy w row) {p : Addr} (hp : a.heap.size ≤ p.block) (u : Value) : a.grownBy (w.setCell p u) row :=
  ⟨h.os, h.tape, h.output, by simpa [World.setCell] using h.size, fun k hk hne => (Below.heap_setCell w p u k (by omega)).trans (h.block k hk hne)⟩
theorem grown_more {a w : World} {row : Option Nat} (h : a.grownBy w row) (o : Obj) : a.grownBy (w.alloc o) row :=
  h.trans (grown_alloc w o row)
theorem ReaderAt.setOwn {w : World} {R g : Nat} {st : Rd} (h : ReaderAt w R g st) {p : Addr} (h1 : R ≠ p.block) (h2 : st.1 ≠ [] → g ≠ p.block) (u : Value) : ReaderAt (w.setCell p u) R g st := h.other (grown_set u) h1 h2
/-- A block of the call's own stays while the Reader is read. -/
theorem own_cell {w w1 : World} {R b : Nat} (hg : w.grownBy w1 (some R)) (hb : b < w.heap.size) (hne : some b ≠ (some R : Option Nat)) (o : Nat) : w1.cell? ⟨b, o, none⟩ = w.cell? ⟨b, o, none⟩ ∧ w1.frozen? ⟨b, o, none⟩ = w.frozen? ⟨b, o, none⟩ :=
  ⟨World.cell?_of_block (a := ⟨b, o, none⟩) (hg.block b hb hne), World.frozen?_of_block (a := ⟨b, o, none⟩) (hg.block b hb hne)⟩
theorem ReaderAt.glt {w : World} {R g : Nat} {st : Rd} (h : ReaderAt w R g st) (hn : st.1 ≠ []) : g < w.heap.size := by
  obtain ⟨A, c, _, hz, _⟩ := h.c0
  exact hz.lt (List.length_pos_iff.mpr hn)

set_option maxRecDepth 100000 in
set_option maxHeartbeats 4000000 in
theorem takeSpot_any {R g : Nat} {st : Rd} (w : World) (h : ReaderAt w R g st) :
    Calls Try.prog 46 #[.pointer (some ⟨R, 0, none⟩)] w (RdRet (.complex .f64 (fl ((numF st 2000).1 - 1000)) (fl ((numF (numF st 2000).2 2000).1 - 1000))) R g (numF (numF st 2000).2 2000).2 w) := by
  have HR := Lib.hid h
  clear h
  have b1 := num_le st 2000
  have b2 := num_le (numF st 2000).2 2000
  go_enter Try.func46, Try.ntmps46
  go_wp2_with fail
  refine (num_any 2000 _ HR.out).mono ?_
  rintro e w1 ⟨rfl, hR, hg, _⟩
  have HR1 := Lib.hid hR
  have HG1 := Lib.hid hg
  generalize numF st 2000 = N1 at *
  obtain ⟨n1, s1⟩ := N1
  simp only at b1 b2 HR1 ⊢
  clear hR hg
  obtain ⟨b1a, b1b⟩ := b1
  have b1c : n1 ≤ 2000 := by omega
  clear b1b
  go_wp2_with fail
  refine (num_any 2000 _ HR1.out).mono ?_
  rintro e w2 ⟨rfl, hR, hg, _⟩
  have HR2 := Lib.hid hR
  have HG2 := Lib.hid (HG1.out.trans hg)
  generalize numF s1 2000 = N2 at *
  obtain ⟨n2, s2⟩ := N2
  simp only at b2 HR2 ⊢
  clear hR hg
  obtain ⟨b2a, b2b⟩ := b2
  have b2c : n2 ≤ 2000 := by omega
  clear b2b
  go_wp2
  go_ret
  exact ⟨rfl, HR2.out, HG2.out⟩

set_option maxRecDepth 100000 in
set_option maxHeartbeats 4000000 in
theorem takeVersion_any {R g : Nat} {st : Rd} (w : World) (h : ReaderAt w R g st) :
    Calls Try.prog 45 #[.pointer (some ⟨R, 0, none⟩)] w (RdRet (vrsV ⟨⟨(textF st 6).1.toArray⟩, (numF (textF st 6).2 1048576).1, (numF (numF (textF st 6).2 1048576).2 1048576).1⟩) R g (numF (numF (textF st 6).2 1048576).2 1048576).2 w) := by
  have hRlt := h.lt
  have hglt := h.glt
  have HN : Hid (some w.heap.size ≠ (some R : Option Nat)) := fun e => by injection e with e; omega
  have HR := Lib.hid (h.allocd (.cells #[.string ⟨#[]⟩, .int .i64 0, .int .i64 0] 27))
  have HNil : Hid ((numF (numF (textF st 6).2 1048576).2 1048576).2.1 ≠ [] → g ≠ w.heap.size) := fun h e => by
    have := hglt (text_rest (num_rest (num_rest h)))
    omega
  clear h hglt
  unfold vrsV
  go_enter Try.func45, Try.ntmps45
  go_wp2_with fail
  refine (text_any 6 _ HR.out).mono ?_
  rintro e w1 ⟨rfl, hR, hg, _⟩
  have hb1 : w.heap.size < w1.heap.size := by have := hg.size; simp at this; omega
  have q0 := (own_cell hg (b := w.heap.size) (by simp) HN.out 0).1.trans (show _ = some (.string ⟨#[]⟩) by simp [go_sem])
  have q1 := (own_cell hg (b := w.heap.size) (by simp) HN.out 1).1.trans (show _ = some (.int .i64 0) by simp [go_sem])
  have q2 := (own_cell hg (b := w.heap.size) (by simp) HN.out 2).1.trans (show _ = some (.int .i64 0) by simp [go_sem])
  have f0 := (own_cell hg (b := w.heap.size) (by simp) HN.out 0).2.trans (show _ = false by simp [go_sem])
  have f1 := (own_cell hg (b := w.heap.size) (by simp) HN.out 1).2.trans (show _ = false by simp [go_sem])
  have f2 := (own_cell hg (b := w.heap.size) (by simp) HN.out 2).2.trans (show _ = false by simp [go_sem])
  have HR1 := Lib.hid hR
  have HG1 : Hid (w.grownBy w1 (some R)) := (grown_alloc w _ _).trans hg
  clear hR hg HR
  generalize textF st 6 = N1 at *
  obtain ⟨x1, s1⟩ := N1
  simp only at HR1 ⊢
  go_wp2_with fail
  refine (num_any 1048576 _ HR1.out).mono ?_
  rintro e w2 ⟨rfl, hR, hg, _⟩
  replace q0 := (own_cell hg hb1 HN.out 0).1.trans q0
  replace q1 := (own_cell hg hb1 HN.out 1).1.trans q1
  replace q2 := (own_cell hg hb1 HN.out 2).1.trans q2
  replace f0 := (own_cell hg hb1 HN.out 0).2.trans f0
  replace f1 := (own_cell hg hb1 HN.out 1).2.trans f1
  replace f2 := (own_cell hg hb1 HN.out 2).2.trans f2
  replace hb1 := Nat.lt_of_lt_of_le hb1 hg.size
  have HR2 := Lib.hid hR
  have HG2 := Lib.hid (HG1.out.trans hg)
  clear hR hg HR1 HG1
  generalize numF s1 1048576 = N2 at *
  obtain ⟨x2, s2⟩ := N2
  simp only at HR2 ⊢
  go_wp2_with fail
  refine (num_any 1048576 _ HR2.out).mono ?_
  rintro e w3 ⟨rfl, hR, hg, _⟩
  replace q0 := (own_cell hg hb1 HN.out 0).1.trans q0
  replace q1 := (own_cell hg hb1 HN.out 1).1.trans q1
  replace q2 := (own_cell hg hb1 HN.out 2).1.trans q2
  replace f0 := (own_cell hg hb1 HN.out 0).2.trans f0
  replace f1 := (own_cell hg hb1 HN.out 1).2.trans f1
  replace f2 := (own_cell hg hb1 HN.out 2).2.trans f2
  replace hb1 := Nat.lt_of_lt_of_le hb1 hg.size
  have HR3 := Lib.hid hR
  have HG3 := Lib.hid (HG2.out.trans hg)
  clear hR hg HR2 HG2
  generalize numF s2 1048576 = N3 at *
  obtain ⟨x3, s3⟩ := N3
  simp only at HR3 ⊢
  go_wp2
  refine bodyPost_ret (v := .agg #[.string ⟨x1.toArray⟩, .int .i64 x2, .int .i64 x3]) ?_ rfl ?_
  · simp [results, Try.results45, go_sem, q0, q1, q2]
  · have hRb : R ≠ w.heap.size := by omega
    exact ⟨rfl, ((HR3.out.setOwn (p := ⟨w.heap.size, 0, none⟩) hRb HNil.out _).setOwn (p := ⟨w.heap.size, 1, none⟩) hRb HNil.out _).setOwn (p := ⟨w.heap.size, 2, none⟩) hRb HNil.out _, grown_own (grown_own (grown_own HG3.out (Nat.le_refl _) _) (Nat.le_refl _) _) (Nat.le_refl _) _⟩
-- TAKE
end Go.Proofs.Ytophhjknbanafaa
