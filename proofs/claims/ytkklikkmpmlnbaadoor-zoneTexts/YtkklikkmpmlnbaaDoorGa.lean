/- Rows of structs: how they lie in memory. -/
import Derived.Test.YtkklikkmpmlnbaaDoorProg
import Derived.ProofKit
import Derived.WalkKit
import Derived.Lib.Hide
namespace Go.Proofs.YtkklikkmpmlnbaaDoor
open Go.RowKit

/-- In w the slice (A, n) holds zs, each in d cells, in a block below B. -/
def RowAt {α : Type} (cf : α → List Value) (d : Nat) (w : World) (B : Nat) (A : Option Addr) (n : Nat) (zs : List α) : Prop :=
  zs.length = n ∧ (0 < n → ∃ b off, A = some ⟨b, off, none⟩ ∧ b < B ∧ ∀ k (_ : k < zs.length) j u, (cf zs[k])[j]? = some u → w.cell? ⟨b, off + k * d + j, none⟩ = some u)

section
variable {α : Type} {cf : α → List Value} {d : Nat} {w w' : World} {B : Nat} {A : Option Addr} {n : Nat} {zs : List α}
theorem RowAt.nil : RowAt cf d w B A 0 [] := ⟨rfl, fun h => absurd h (by omega)⟩
theorem RowAt.hold (h : RowAt cf d w B A n zs) (hk : ∀ b o, b < B → w'.cell? ⟨b, o, none⟩ = w.cell? ⟨b, o, none⟩) : RowAt cf d w' B A n zs :=
  ⟨h.1, fun hn => by
    obtain ⟨b, off, e, hlt, hc⟩ := h.2 hn
    exact ⟨b, off, e, hlt, fun k hk' j u hu => (hk b _ hlt).trans (hc k hk' j u hu)⟩⟩
theorem RowAt.keep (h : RowAt cf d w B A n zs) (hb : Below B w w') : RowAt cf d w' B A n zs := h.hold fun b o hlt => hb.cell (p := ⟨b, o, none⟩) hlt
theorem RowAt.more {B' : Nat} (h : RowAt cf d w B A n zs) (hB : B ≤ B') : RowAt cf d w B' A n zs :=
  ⟨h.1, fun hn => by
    obtain ⟨b, off, e, hlt, hc⟩ := h.2 hn
    exact ⟨b, off, e, by omega, hc⟩⟩
theorem RowAt.take (h : RowAt cf d w B A n zs) {m : Nat} (hm : m ≤ n) : RowAt cf d w B A m (zs.take m) :=
  ⟨by rw [List.length_take, h.1]; omega, fun hn => by
    obtain ⟨b, off, e, hlt, hc⟩ := h.2 (by omega)
    refine ⟨b, off, e, hlt, fun k hk j u hu => ?_⟩
    rw [List.getElem_take] at hu
    exact hc k (by rw [List.length_take] at hk; omega) j u hu⟩
/-- One of them. -/
theorem RowAt.get (h : RowAt cf d w B A n zs) {k : Nat} (hk : k < n) : ∃ b off, A = some ⟨b, off, none⟩ ∧ b < B ∧ ∃ z, zs[k]? = some z ∧ ∀ j u, (cf z)[j]? = some u → w.cell? ⟨b, off + k * d + j, none⟩ = some u := by
  obtain ⟨b, off, e, hlt, hc⟩ := h.2 (by omega)
  have hk' : k < zs.length := by rw [h.1]; exact hk
  exact ⟨b, off, e, hlt, zs[k], List.getElem?_eq_getElem hk', hc k hk'⟩
end
end Go.Proofs.YtkklikkmpmlnbaaDoor
