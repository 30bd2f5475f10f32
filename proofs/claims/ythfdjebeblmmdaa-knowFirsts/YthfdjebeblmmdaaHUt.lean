/- Rows of texts that are at hand. -/
import Derived.Test.YthfdjebeblmmdaaHUa
namespace Go.Proofs.Ythfdjebeblmmdaa
open Go.RowKit

/-- These rows of texts are there. -/
def Ts (w : World) (ts : List (Option Addr × List ByteArray)) : Prop := ∀ t ∈ ts, RowAt cellsT 1 w w.heap.size t.1 t.2.length t.2
theorem Ts.nil (w : World) : Ts w [] := fun v hv => by simp at hv
theorem Ts.keep {w w1 : World} {ts : List (Option Addr × List ByteArray)} (h : Ts w ts) (hb : Below w.heap.size w w1) : Ts w1 ts := fun t ht => ((h t ht).keep hb).more hb.size
theorem Ts.ownT {w w1 : World} {ts : List (Option Addr × List ByteArray)} {B c : Nat} {ty : TypeId} {A : Option Addr} {zs : List ByteArray} (h : Ts w ts) (ho : w1.ownsRow B ty 1 (.slice A zs.length c) zs.length (rowCells cellsT zs)) (hb : Below w.heap.size w w1) : Ts w1 ((A, zs) :: ts) := fun t ht => by
  rcases List.mem_cons.mp ht with rfl | ht
  · refine ⟨rfl, fun hn => ?_⟩
    obtain ⟨g, cap, hv, _, hlt⟩ := ho.form hn
    injection hv with hA
    subst hA
    refine ⟨g, 0, rfl, hlt, fun k hk j u hu => ?_⟩
    have hj : j = 0 := by have := (List.getElem?_eq_some_iff.mp hu).1; simp [cellsT] at this; exact this
    subst hj
    have h1 := rowCells_get (cf := cellsT) (d := 1) (fun _ => rfl) zs k hk 0 (by omega)
    have h2 := ho.cells (g := g) rfl (k * 1 + 0) u (h1.trans hu)
    rw [radd] at h2
    rw [show 0 + k * 1 + 0 = 0 + (k * 1 + 0) by omega]
    exact h2
  · exact h.keep hb t ht
theorem Ts.get {w : World} {ts : List (Option Addr × List ByteArray)} {A : Option Addr} {zs : List ByteArray} (h : Ts w ts) (hm : (A, zs) ∈ ts) : RowAt cellsT 1 w w.heap.size A zs.length zs := h _ hm
end Go.Proofs.Ythfdjebeblmmdaa
