/- The law's To, the document's Right of a Vec, and VecRights walked. -/
import Derived.Test.YtkdeiljbjpefhaaDoorVh
namespace Go.Proofs.YtkdeiljbjpefhaaDoor
open Go.RowKit

theorem take_snoc {zs : List At} {k : Nat} (hk : k < zs.length) : zs.take (k + 1) = zs.take k ++ [zs.getD k atNil] := by
  rw [List.take_succ_eq_append_getElem hk, List.getD_eq_getElem?_getD, List.getElem?_eq_getElem hk]; rfl
/-- A copy, half way. -/
def CopyRel (w : World) (ty : TypeId) (zs : List At) (k : Nat) (Av : Option Addr) (cv : Nat) (wr : World) : Prop :=
  wr.ownsRow w.heap.size ty 2 (.slice Av k cv) k (atCells (zs.take k)) ∧ Below w.heap.size w wr

theorem rcompare_is (a b : ByteArray) (x : Int) (h : Hid (Lib.compareBytes a.data.toList b.data.toList = x)) (w : World) (ha : Hid (a.size ≤ 9223372036854775807)) :
    Calls Tryd.prog 22 #[.string a, .string b] w fun e w' => e = .returned (.int .i64 x) ∧ Hid (Drawn w w') := by
  rw [← h.out]; exact rcompare_any a b w ha.out

theorem drawn_below {w w' : World} (h : Drawn w w') (B : Nat) : Below B w w' := by
  obtain ⟨n, rfl⟩ := h
  exact below_drewN (Below.refl _ _) n

/-- Each id is as short as a string of the machine may be. -/
def Short (zs : List At) : Prop := ∀ k, (zs.getD k atNil).1.size ≤ 9223372036854775807

theorem vec_take {w : World} {B : Nat} {A : Option Addr} {n m : Nat} {zs : List At} (h : VecAt w B A n zs) (hm : m ≤ n) : VecAt w B A m (zs.take m) :=
  ⟨by rw [List.length_take, h.1]; omega, fun hp => by
    obtain ⟨b, off, e, hlt, hc⟩ := h.2 (by omega)
    refine ⟨b, off, e, hlt, fun k hk => ?_⟩
    have := hc k (by omega)
    simpa [List.getD_eq_getElem?_getD, hk] using this⟩
theorem Short.take {zs : List At} (h : Short zs) (m : Nat) : Short (zs.take m) := fun k => by
  have h1 := h k
  by_cases hk : k < m
  · simpa [List.getD_eq_getElem?_getD, hk] using h1
  · rw [List.getD_eq_getElem?_getD, List.getElem?_eq_none (by rw [List.length_take]; omega)]
    show 0 ≤ _
    omega

end Go.Proofs.YtkdeiljbjpefhaaDoor
