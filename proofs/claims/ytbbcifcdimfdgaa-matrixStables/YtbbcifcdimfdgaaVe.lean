/- vec.Join: of each the greater one. -/
import Derived.Test.YtbbcifcdimfdgaaVd
namespace Go.Proofs.Ytbbcifcdimfdgaa
open Go.RowKit

/-- Two rising rows as one: of each the greater number. -/
def joinF : List At → List At → List At
  | [], ys => ys
  | x :: xs, [] => x :: xs
  | x :: xs, y :: ys => if cmpId x.1 y.1 < 0 then x :: joinF xs (y :: ys) else if 0 < cmpId x.1 y.1 then y :: joinF (x :: xs) ys else (x.1, max x.2 y.2) :: joinF xs ys
  termination_by xs ys => xs.length + ys.length

theorem joinF_nil (xs : List At) : joinF xs [] = xs := by cases xs <;> simp [joinF]
theorem joinF_lt {x y : At} {xs ys : List At} (h : cmpId x.1 y.1 < 0) : joinF (x :: xs) (y :: ys) = x :: joinF xs (y :: ys) := by rw [joinF, if_pos h]
theorem joinF_gt {x y : At} {xs ys : List At} (h : 0 < cmpId x.1 y.1) : joinF (x :: xs) (y :: ys) = y :: joinF (x :: xs) ys := by rw [joinF, if_neg (by omega), if_pos h]
theorem joinF_eq {x y : At} {xs ys : List At} (h : cmpId x.1 y.1 = 0) : joinF (x :: xs) (y :: ys) = (x.1, max x.2 y.2) :: joinF xs ys := by rw [joinF, if_neg (by omega), if_neg (by omega)]

/-- The answer is the row zs, in a row of the call's own, from block B on; nothing that was there has turned. -/
def OwnVec (B : Nat) (ty : TypeId) (zs : List At) (w : World) (e : Ending) (w' : World) : Prop :=
  ∃ A c, e = .returned (.slice A zs.length c) ∧ zs.length ≤ c ∧ w'.ownsRow B ty 2 (.slice A zs.length c) zs.length (atCells zs) ∧ Below w.heap.size w w'
theorem own_cap {w : World} {B : Nat} {e : TypeId} {A : Option Addr} {n c : Nat} {xs : List Value} (h : w.ownsRow B e 2 (.slice A n c) n xs) : n ≤ c := by
  rcases h.2 with ⟨hv, rfl⟩ | ⟨g, cap, cur, hv, _, _, hnc, _⟩
  · exact Nat.zero_le _
  · injection hv with _ _ h3; omega

def lenOf : Value → Nat | .slice _ n _ => n | _ => 0
theorem VecAt.head {w : World} {B : Nat} {A : Option Addr} {n : Nat} {zs : List At} (h : VecAt w B A n zs) (hn : 0 < n) :
    ∃ b off x xt, A = some ⟨b, off, none⟩ ∧ b < B ∧ zs = x :: xt ∧ xt.length = n - 1 ∧ w.cell? ⟨b, off, none⟩ = some (.string x.1) ∧ w.cell? ⟨b, off + 1, none⟩ = some (.int .i64 x.2) := by
  obtain ⟨b, off, e, hb, hc⟩ := h.2 hn
  match zs, h.1 with
  | [], h1 => simp at h1; omega
  | x :: xt, h1 => exact ⟨b, off, x, xt, e, hb, rfl, by simp at h1; omega, by simpa using (hc 0 hn).1, by simpa using (hc 0 hn).2⟩
theorem cut_one (ad : Addr) (n c : Nat) (hn : 0 < n) (hnc : n ≤ c) : ∃ A', (∀ W, (Instr.slice 37 (.slice (some ad) n c) (some (.int .i64 1)) none none).run Try.prog W = .ok (.slice A' (n - 1) (c - 1)) W) ∧
    ∀ (w : World) (B : Nat) (z : At) (zs : List At), VecAt w B (some ad) n (z :: zs) → VecAt w B A' (n - 1) zs := by
  have hel : Try.prog.elem 37 = 67 := by kernel_rfl
  have hsz : ∀ W, (sizeOf 67).run Try.prog W = .ok 2 W := fun W => by
    obtain ⟨i, hi, _, hz1, _⟩ := info_parts vecTy.i
    simp [sizeOf, typeInfo, hi, hz1]
  refine ⟨if c = 1 then some ad else some (ad.add 2), fun W => ?_, fun w B z zs h => ?_⟩
  · rw [run_slice_l (P := Try.prog) W 37 (some ad) n c (by rw [hel]; exact Try.underlying37) .i64 1 (by omega) (by omega), hel, hsz]
    simp [sliced]
  · refine ⟨by have := h.1; simp at this; omega, fun hp => ?_⟩
    obtain ⟨b, off, e, hb, hc⟩ := h.2 hn
    injection e with e
    subst e
    rw [if_neg (by omega)]
    refine ⟨b, off + 2, by rw [addr_add], hb, fun k hk => ?_⟩
    have := hc (k + 1) (by omega)
    rw [show off + (k + 1) * 2 = off + 2 + k * 2 by omega] at this
    simpa using this

/-- Half way through Join: out is done, xs and ys are left. -/
def JoinRel (w : World) (t xs ys : List At) (Av : Option Addr) (nv cv : Nat) (wr : World) : Prop :=
  ∃ out : List At, out.length = nv ∧ wr.ownsRow w.heap.size 67 2 (.slice Av nv cv) nv (atCells out) ∧ out ++ joinF xs ys = t ∧ Below w.heap.size w wr
theorem JoinRel.drewN {w : World} {t xs ys : List At} {Av : Option Addr} {nv cv : Nat} {wr : World} (h : JoinRel w t xs ys Av nv cv wr) (k : Nat) : JoinRel w t xs ys Av nv cv (wr.drewN k) := by
  obtain ⟨out, h1, h2, h3, h4⟩ := h
  exact ⟨out, h1, own_below h2 (below_drewN (Below.refl _ _) k), h3, below_drewN h4 k⟩
theorem JoinRel.push {w : World} {t xs ys xs' ys' : List At} {nv : Nat} {wr w1 w2 : World} (x : At) {out : List At} (hl : out.length = nv) (ht : out ++ joinF xs ys = t) (hj : joinF xs ys = x :: joinF xs' ys') (hb : Below w.heap.size w wr) (hw : Below wr.heap.size wr w1)
    {A' : Option Addr} {c' : Nat} {v : Value} (hv : w1.ownsRow w.heap.size 67 2 v nv (atCells out)) (hown : w2.ownsRow w.heap.size 67 2 (.slice A' (nv + 1) c') (nv + 1) (atCells (out ++ [x]))) (hg : w1.grownBy w2 v.ownBlock) : JoinRel w t xs' ys' A' (nv + 1) c' w2 :=
  ⟨out ++ [x], by simp [hl], hown, by rw [← ht, hj]; simp, (hb.trans (hw.mono hb.size)).trans (grown_below hg (Nat.le_trans hb.size hw.size) (fun g e => (own_lt hv e).1))⟩
end Go.Proofs.Ytbbcifcdimfdgaa
