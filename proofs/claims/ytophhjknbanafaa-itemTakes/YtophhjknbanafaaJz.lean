/- An argument that is a version, opened. -/
import Derived.Test.YtophhjknbanafaaBa
import Derived.ProofKit
import Derived.OpenShut
import Derived.Lib.SmallJoins
namespace Go.Proofs.Ytophhjknbanafaa
open Go.ChangeShapes Go.WideShapes Go.ChangeAt Go.RowKit Go.Joins

theorem Try.own : ownKnob Try.prog.godebug = none := by kernel_rfl
theorem Try.laidOut : laidOutB Try.prog = true := by kernel_rfl
theorem cellsVT : Try.prog.cellsOf 23 = 3 := by kernel_rfl
theorem open_ver {H : Type} {enc : TypeId × Value → H} {W : World} {base : Nat} {v : Value} {d : DataW H} {p : List MemPlace} (hv : Value.okWide Try.prog W .any base 23 v) (h : DataW.Trod enc Try.prog W 0 (fun _ => true) true 23 v d p) :
    ∃ (b : ByteArray) (a s : Int), v = .agg #[.string b, .int .i64 a, .int .i64 s] ∧ b.size ≤ 9223372036854775807 := by
  obtain ⟨c0, c1, c2, y0, y1, y2, m, rfl, rfl, rfl, hy0, hy1, hy2⟩ := open_agg3 Try.underlying23 (by kernel_rfl) cellsVT hv h
  obtain ⟨b, e0, _, hb⟩ := DataW.trod_string Try.underlying9 hy0
  obtain ⟨a, e1, _, _⟩ := DataW.trod_int Try.underlying3 hy1
  obtain ⟨s, e2, _, _⟩ := DataW.trod_int Try.underlying3 hy2
  simp only [List.cons.injEq, and_true] at e0 e1 e2
  subst e0 e1 e2
  unfold maxLen at hb
  exact ⟨b, a, s, rfl, by omega⟩
end Go.Proofs.Ytophhjknbanafaa
