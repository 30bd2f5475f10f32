/- An argument that is an item, opened. -/
import Derived.Test.YtpaiigminmakgaaPa
import Derived.Test.YtpaiigminmakgaaLz
import Derived.ProofKit
import Derived.Deep.Strs
import Derived.OpenShut
import Derived.Lib.SmallJoins
namespace Go.Proofs.Ytpaiigminmakgaa
open Go.ChangeShapes Go.WideShapes Go.ChangeAt Go.RowKit Go.Joins

theorem list9 {α : Type} {l : List α} (h : l.length = 9) : ∃ a b c d e f g i j, l = [a, b, c, d, e, f, g, i, j] := by
  match l, h with
  | [a, b, c, d, e, f, g, i, j], _ => exact ⟨a, b, c, d, e, f, g, i, j, rfl⟩
theorem list3 {α : Type} {l : List α} (h : l.length = 3) : ∃ a b c, l = [a, b, c] := by
  match l, h with
  | [a, b, c], _ => exact ⟨a, b, c, rfl⟩
theorem list2 {α : Type} {l : List α} (h : l.length = 2) : ∃ a b, l = [a, b] := by
  match l, h with
  | [a, b], _ => exact ⟨a, b, rfl⟩
theorem cellsRIT : Try.prog.cellsOf 28 = 9 := by kernel_rfl
theorem cellsPL : Try.prog.cellsOf 24 = 2 := by kernel_rfl
theorem cellsINT : Try.prog.cellsOf 3 = 1 := by kernel_rfl
theorem cellsSTR : Try.prog.cellsOf 9 = 1 := by kernel_rfl
theorem cellsBL : Try.prog.cellsOf 4 = 1 := by kernel_rfl
set_option maxRecDepth 100000 in
theorem trod_struct6 {P : Program} {H : Type} {enc : TypeId × Value → H} {W : World} {base fuel : Nat} {spare : Nat → Bool} {held : Bool} {t : TypeId} {f0 f1 f2 f3 f4 f5 : Field} {cs : List Value} {x : DataW H × List MemPlace} (ht : P.underlying t = some (.struct #[f0, f1, f2, f3, f4, f5])) (h : DataW.trod enc P W base spare held fuel t cs = some x) :
    ∃ y0 y1 y2 y3 y4 y5 n, cs.length = P.cellsOf t ∧ DataW.trod enc P W base spare held n f0.type ((cs.drop f0.offset).take (P.cellsOf f0.type)) = some y0 ∧
      DataW.trod enc P W base spare held n f1.type ((cs.drop f1.offset).take (P.cellsOf f1.type)) = some y1 ∧ DataW.trod enc P W base spare held n f2.type ((cs.drop f2.offset).take (P.cellsOf f2.type)) = some y2 ∧
      DataW.trod enc P W base spare held n f3.type ((cs.drop f3.offset).take (P.cellsOf f3.type)) = some y3 ∧ DataW.trod enc P W base spare held n f4.type ((cs.drop f4.offset).take (P.cellsOf f4.type)) = some y4 ∧ DataW.trod enc P W base spare held n f5.type ((cs.drop f5.offset).take (P.cellsOf f5.type)) = some y5 := by
  obtain ⟨xs, n, _, rfl, hl, hlen, hf⟩ := DataW.trod_struct ht h
  match xs, hlen with
  | [y0, y1, y2, y3, y4, y5], _ => exact ⟨y0, y1, y2, y3, y4, y5, n, hl, by simpa using hf 0 f0 rfl, by simpa using hf 1 f1 rfl, by simpa using hf 2 f2 rfl, by simpa using hf 3 f3 rfl, by simpa using hf 4 f4 rfl, by simpa using hf 5 f5 rfl⟩
set_option maxRecDepth 100000 in
theorem trod_ver {H : Type} {enc : TypeId × Value → H} {W : World} {base n : Nat} {spare : Nat → Bool} {held : Bool} {cs : List Value} {x : DataW H × List MemPlace} (h : DataW.trod enc Try.prog W base spare held n 26 cs = some x) :
    ∃ (b : ByteArray) (a s : Int), cs = [.string b, .int .i64 a, .int .i64 s] ∧ b.size ≤ maxLen := by
  obtain ⟨y0, y1, y2, n, _, hl, g0, g1, g2⟩ := Go.Deep.trod_struct3 Try.underlying26 h
  obtain ⟨c0, c1, c2, rfl⟩ := list3 (hl.trans cellsVT)
  dsimp only at g0 g1 g2
  simp only [cellsINT, cellsSTR, List.drop_zero, List.drop_succ_cons, List.take_succ_cons, List.take_zero] at g0 g1 g2
  obtain ⟨b, e0, _, hb⟩ := DataW.trod_string Try.underlying9 g0
  obtain ⟨a, e1, _, _⟩ := DataW.trod_int Try.underlying3 g1
  obtain ⟨s, e2, _, _⟩ := DataW.trod_int Try.underlying3 g2
  simp only [List.cons.injEq, and_true] at e0 e1 e2
  subst e0 e1 e2
  exact ⟨b, a, s, rfl, hb⟩
set_option maxRecDepth 100000 in
theorem trod_place {H : Type} {enc : TypeId × Value → H} {W : World} {base n : Nat} {spare : Nat → Bool} {held : Bool} {cs : List Value} {x : DataW H × List MemPlace} (h : DataW.trod enc Try.prog W base spare held n 24 cs = some x) :
    ∃ (a s : Int), cs = [.int .i64 a, .int .i64 s] := by
  obtain ⟨y0, y1, n, _, hl, g0, g1⟩ := trod_struct2 Try.underlying24 h
  obtain ⟨c0, c1, rfl⟩ := list2 (hl.trans cellsPL)
  dsimp only at g0 g1
  simp only [cellsINT, List.drop_zero, List.drop_succ_cons, List.take_succ_cons, List.take_zero] at g0 g1
  obtain ⟨a, e0, _, _⟩ := DataW.trod_int Try.underlying3 g0
  obtain ⟨s, e1, _, _⟩ := DataW.trod_int Try.underlying3 g1
  simp only [List.cons.injEq, and_true] at e0 e1
  subst e0 e1
  exact ⟨a, s, rfl⟩
set_option maxRecDepth 100000 in
theorem trod_item {H : Type} {enc : TypeId × Value → H} {W : World} {base n : Nat} {spare : Nat → Bool} {held : Bool} {cs : List Value} {x : DataW H × List MemPlace} (h : DataW.trod enc Try.prog W base spare held n 28 cs = some x) :
    ∃ i : Itm, cs = cellsI i ∧ i.ver.id.size ≤ maxLen ∧ i.text.size ≤ maxLen := by
  obtain ⟨y0, y1, y2, y3, y4, y5, n, hl, g0, g1, g2, g3, g4, g5⟩ := trod_struct6 Try.underlying28 h
  obtain ⟨c0, c1, c2, c3, c4, c5, c6, c7, c8, rfl⟩ := list9 (hl.trans cellsRIT)
  dsimp only at g0 g1 g2 g3 g4 g5
  simp only [cellsINT, cellsSTR, cellsBL, cellsPL, cellsVT, List.drop_zero, List.drop_succ_cons, List.take_succ_cons, List.take_zero] at g0 g1 g2 g3 g4 g5
  obtain ⟨key, e0, _, _⟩ := DataW.trod_int Try.underlying3 g0
  obtain ⟨b, a, s, e1, hb⟩ := trod_ver g1
  obtain ⟨dead, e2, _⟩ := DataW.trod_bool Try.underlying4 g2
  obtain ⟨px, py, e3⟩ := trod_place g3
  obtain ⟨text, e4, _, ht⟩ := DataW.trod_string Try.underlying9 g4
  obtain ⟨hd, e5, _⟩ := DataW.trod_bool Try.underlying4 g5
  simp only [List.cons.injEq, and_true] at e0 e1 e2 e3 e4 e5
  obtain ⟨rfl, rfl, rfl⟩ := e1
  obtain ⟨rfl, rfl⟩ := e3
  subst e0 e2 e4 e5
  exact ⟨⟨key, ⟨b, a, s⟩, dead, px, py, text, hd⟩, rfl, hb, ht⟩
set_option maxRecDepth 100000 in
theorem open_item {H : Type} {enc : TypeId × Value → H} {W : World} {base : Nat} {v : Value} {d : DataW H} {p : List MemPlace} (hv : Value.okWide Try.prog W .any base 28 v) (h : DataW.Trod enc Try.prog W 0 (fun _ => true) true 28 v d p) :
    ∃ i : Itm, v = refV i := by
  obtain ⟨cs, rfl, hsz⟩ := okWide_struct Try.underlying28 hv
  obtain ⟨fuel, hf⟩ := h
  obtain ⟨i, hi, _⟩ := trod_item hf
  refine ⟨i, ?_⟩
  simp only [Value.cells] at hi
  obtain ⟨l⟩ := cs
  simp only at hi
  rw [hi]
  rfl
end Go.Proofs.Ytpaiigminmakgaa
