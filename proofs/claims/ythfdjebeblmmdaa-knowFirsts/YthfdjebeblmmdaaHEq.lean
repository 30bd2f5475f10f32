/- Knows that are at hand, all together. -/
import Derived.Test.YthfdjebeblmmdaaHEp
namespace Go.Proofs.Ythfdjebeblmmdaa
open Go.RowKit

/-- These Knows are there. -/
def Ms (w : World) (ms : List (Option Addr × Mat)) : Prop := ∀ x ∈ ms, MatAt w w.heap.size x.1 (List.length x.2) x.2
theorem Ms.nil (w : World) : Ms w [] := fun v hv => by simp at hv
theorem Ms.keep {w w1 : World} {ms : List (Option Addr × Mat)} (h : Ms w ms) (hb : Below w.heap.size w w1) : Ms w1 ms := fun v hv => ((h v hv).keep hb).more hb.size
theorem Ms.ownM {w w1 : World} {ms : List (Option Addr × Mat)} {B c : Nat} {ty : TypeId} {A : Option Addr} {m : Mat} (h : Ms w ms) (ho : OwnsM w1 B ty A (List.length m) c m) (hb : Below w.heap.size w w1) : Ms w1 ((A, m) :: ms) := fun v hv => by
  rcases List.mem_cons.mp hv with rfl | hv
  · exact ho.mat
  · exact h.keep hb v hv
theorem Ms.get {w : World} {ms : List (Option Addr × Mat)} {A : Option Addr} {m : Mat} (h : Ms w ms) (hm : (A, m) ∈ ms) : MatAt w w.heap.size A (List.length m) m := h _ hm
theorem GK.add {k : Nat} {m : Mat} (h : GK k m) (a : ByteArray) (n : Int) : GK (k + 1) (addK m a n) := by
  unfold addK
  split
  · rename_i hh; exact h.merge (gk_one hh.1 (oneS_num n).1 hh.2)
  · exact h.more (by omega)
theorem addK_len (m : Mat) (a : ByteArray) (n : Int) : (addK m a n).length ≤ m.length + 1 := by
  unfold addK
  split
  · have := merge_len m [(a, oneS n)]; simpa using this
  · omega
theorem has_ref {s : Int × List Int} (h : Sp.Ok s) (t : Int) : Sp.hasOf s.1 s.2 t = Sp.refHasF s t := by
  rw [Bool.eq_iff_iff, Sp.has_mem h, Sp.refHas_mem]
end Go.Proofs.Ythfdjebeblmmdaa
