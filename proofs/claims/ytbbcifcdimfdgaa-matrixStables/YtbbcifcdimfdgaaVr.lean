/- Rows that are at hand, all together. -/
import Derived.Test.YtbbcifcdimfdgaaVq
namespace Go.Proofs.Ytbbcifcdimfdgaa
open Go.RowKit

/-- These rows are there. -/
def Vs (w : World) (vs : List (Option Addr × List At)) : Prop := ∀ v ∈ vs, VecAt w w.heap.size v.1 v.2.length v.2
theorem Vs.nil (w : World) : Vs w [] := fun v hv => by simp at hv
theorem Vs.keep {w w1 : World} {vs : List (Option Addr × List At)} (h : Vs w vs) (hb : Below w.heap.size w w1) : Vs w1 vs := fun v hv => ((h v hv).keep hb).more hb.size
theorem Vs.own {w w1 : World} {vs : List (Option Addr × List At)} {B c : Nat} {ty : TypeId} {A : Option Addr} {zs : List At} (h : Vs w vs) (ho : w1.ownsRow B ty 2 (.slice A zs.length c) zs.length (atCells zs)) (hb : Below w.heap.size w w1) : Vs w1 ((A, zs) :: vs) := fun v hv => by
  rcases List.mem_cons.mp hv with rfl | hv
  · exact own_vec ho
  · exact h.keep hb v hv
theorem Vs.get {w : World} {vs : List (Option Addr × List At)} {A : Option Addr} {zs : List At} (h : Vs w vs) (hm : (A, zs) ∈ vs) : VecAt w w.heap.size A zs.length zs := h _ hm
theorem Good.set {zs : List At} (h : Good zs) (a : ByteArray) (n : Int) : Good (setF zs a n) := by
  unfold setF; split
  · rename_i hr; exact h.join (good_one hr.1 (by omega) (by omega))
  · exact h
theorem set_len (zs : List At) (a : ByteArray) (n : Int) : (setF zs a n).length ≤ zs.length + 1 := by
  unfold setF; split
  · have := join_len zs [(a, min n 1048576)]; simp at this; omega
  · omega
theorem same_self (xs : List At) : decide (xs = xs) = true := decide_eq_true rfl
theorem same_true {xs ys : List At} (h : xs = ys) : Hid (decide (xs = ys) = true) := decide_eq_true h
theorem good_right {zs : List At} (h : Good zs) : Hid (rightV zs = true) := (good_iff zs).mpr h
end Go.Proofs.Ytbbcifcdimfdgaa
