/- vec.Join: of each the greater one. -/
import Derived.Test.YtkdeiljbjpefhaaDoorVd
namespace Go.Proofs.YtkdeiljbjpefhaaDoor
open Go.RowKit

/-- Two rising rows as one: of each the greater number. -/
def joinF : List At → List At → List At
  | [], ys => ys
  | x :: xs, [] => x :: xs
  | x :: xs, y :: ys => if cmpId x.1 y.1 < 0 then x :: joinF xs (y :: ys) else if 0 < cmpId x.1 y.1 then y :: joinF (x :: xs) ys else (x.1, max x.2 y.2) :: joinF xs ys
  termination_by xs ys => xs.length + ys.length

theorem joinF_nil (xs : List At) : joinF xs [] = xs := by cases xs <;> simp [joinF]
theorem joinF_lt {x y : At} {xs ys : List At} (h : cmpId x.1 y.1 < 0) : joinF (x :: xs) (y :: ys) = x :: joinF xs (y :: ys) := by rw [joinF, if_pos h]
theorem joinF_gt {x y : At} {xs ys : List At} (h : 0 < cmpId x.1 y.1) : joinF (x :: xs) (y :: ys) = y :: joinF (x :: xs) ys := by rw [joinF, if_neg (by omega), if_pos h]
theorem joinF_eq {x y : At} {xs ys : List At} (h : cmpId x.1 y.1 = 0) : joinF (x :: xs) (y :: ys) = (x.1, max x.2 y.2) :: joinF xs ys := by rw [joinF, if_neg (by omega), if_neg (by omega)]

/-- The answer is the row zs, in a row of the call's own, from block B on; nothing that was there has turned. -/
def OwnVec (B : Nat) (ty : TypeId) (zs : List At) (w : World) (e : Ending) (w' : World) : Prop :=
  ∃ A c, e = .returned (.slice A zs.length c) ∧ zs.length ≤ c ∧ w'.ownsRow B ty 2 (.slice A zs.length c) zs.length (atCells zs) ∧ Below w.heap.size w w'
theorem own_cap {w : World} {B : Nat} {e : TypeId} {A : Option Addr} {n c : Nat} {xs : List Value} (h : w.ownsRow B e 2 (.slice A n c) n xs) : n ≤ c := by
  rcases h.2 with ⟨hv, rfl⟩ | ⟨g, cap, cur, hv, _, _, hnc, _⟩
  · exact Nat.zero_le _
  · injection hv with _ _ h3; omega

def lenOf : Value → Nat | .slice _ n _ => n | _ => 0
theorem VecAt.head {w : World} {B : Nat} {A : Option Addr} {n : Nat} {zs : List At} (h : VecAt w B A n zs) (hn : 0 < n) :
    ∃ b off x xt, A = some ⟨b, off, none⟩ ∧ b < B ∧ zs = x :: xt ∧ xt.length = n - 1 ∧ w.cell? ⟨b, off, none⟩ = some (.string x.1) ∧ w.cell? ⟨b, off + 1, none⟩ = some (.int .i64 x.2) := by
  obtain ⟨b, off, e, hb, hc⟩ := h.2 hn
  match zs, h.1 with
  | [], h1 => simp at h1; omega
  | x :: xt, h1 => exact ⟨b, off, x, xt, e, hb, rfl, by simp at h1; omega, by simpa using (hc 0 hn).1, by simpa using (hc 0 hn).2⟩
end Go.Proofs.YtkdeiljbjpefhaaDoor
