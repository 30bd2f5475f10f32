/- The document's Of and Drop, and vec.Drop. -/
import Derived.Test.YtkdeiljbjpefhaaDoorVi
namespace Go.Proofs.YtkdeiljbjpefhaaDoor
open Go.RowKit

theorem beq_yes {a b : ByteArray} (h : a = b) : (a.toList == b.toList) = true := by
  subst h; exact beq_self_eq_true _
theorem beq_no {a b : ByteArray} (h : a ≠ b) : (a.toList == b.toList) = false := by
  rw [Go.ByteArray.toList_eq, Go.ByteArray.toList_eq]
  exact beq_eq_false_iff_ne.mpr fun e => h (ByteArray.ext (Array.ext' e))

theorem ofF_drop_step {zs : List At} {a : ByteArray} {k : Nat} (hk : k < zs.length) (hne : (zs.getD k atNil).1 ≠ a) : ofF (zs.drop k) a = ofF (zs.drop (k + 1)) a := by
  rw [List.drop_eq_getElem_cons hk, ofF, if_neg]
  rw [List.getD_eq_getElem?_getD, List.getElem?_eq_getElem hk] at hne
  exact hne
theorem ofF_drop_hit {zs : List At} {a : ByteArray} {k : Nat} (hk : k < zs.length) (he : (zs.getD k atNil).1 = a) : ofF (zs.drop k) a = (zs.getD k atNil).2 := by
  have e : zs.getD k atNil = zs[k] := by rw [List.getD_eq_getElem?_getD, List.getElem?_eq_getElem hk]; rfl
  rw [List.drop_eq_getElem_cons hk, ofF, if_pos (by rw [← e]; exact he), e]

/-- Without one. -/
def dropF (zs : List At) (a : ByteArray) : List At := zs.filter fun x => decide (x.1 ≠ a)
theorem dropF_len (zs : List At) (a : ByteArray) : (dropF zs a).length ≤ zs.length := List.length_filter_le _ _
theorem dropF_hit {zs : List At} {a : ByteArray} {k : Nat} (hk : k < zs.length) (he : (zs.getD k atNil).1 = a) : dropF (zs.take (k + 1)) a = dropF (zs.take k) a := by
  rw [take_snoc hk, dropF, List.filter_append]
  simp only [List.filter_cons, List.filter_nil]
  rw [if_neg (by simpa using he)]
  simp [dropF]
theorem dropF_keep {zs : List At} {a : ByteArray} {k : Nat} (hk : k < zs.length) (hne : (zs.getD k atNil).1 ≠ a) : dropF (zs.take (k + 1)) a = dropF (zs.take k) a ++ [zs.getD k atNil] := by
  rw [take_snoc hk, dropF, List.filter_append]
  simp only [List.filter_cons, List.filter_nil]
  rw [if_pos (by simpa using hne)]
  simp [dropF]

theorem new2 (w : World) (o o' : Obj) : ((w.alloc o).alloc o').heap[w.heap.size + 1]? = some o' := by simpa using heap_alloc_new (w.alloc o) o'
/-- A row that is being made. -/
def MakeRel (w : World) (ty : TypeId) (t : List At) (Av : Option Addr) (nv cv : Nat) (wr : World) : Prop :=
  t.length = nv ∧ wr.ownsRow w.heap.size ty 2 (.slice Av nv cv) nv (atCells t) ∧ Below w.heap.size w wr
theorem MakeRel.start (w : World) (ty : TypeId) : MakeRel w ty [] none 0 0 w := ⟨rfl, own_nil _ _ _, Below.refl _ _⟩
theorem MakeRel.step {w : World} {ty : TypeId} {t : List At} {Av : Option Addr} {nv cv : Nat} {wr w1 : World} (h : MakeRel w ty t Av nv cv wr) (hb : Below wr.heap.size wr w1) : MakeRel w ty t Av nv cv w1 :=
  ⟨h.1, own_below h.2.1 hb, h.2.2.trans (hb.mono h.2.2.size)⟩
theorem MakeRel.push {w : World} {ty : TypeId} {t : List At} {Av : Option Addr} {nv cv : Nat} {wr w1 w3 : World} (h : MakeRel w ty t Av nv cv wr) (hb : Below wr.heap.size wr w1) {x : At} {A3 : Option Addr} {c3 : Nat}
    (ho : w3.ownsRow w.heap.size ty 2 (.slice A3 (nv + 1) c3) (nv + 1) (atCells (t ++ [x]))) (hg : w1.grownBy w3 (Value.ownBlock (.slice Av nv cv))) : MakeRel w ty (t ++ [x]) A3 (nv + 1) c3 w3 :=
  ⟨by simp [h.1], ho, (h.2.2.trans (hb.mono h.2.2.size)).trans (grown_below hg (Nat.le_trans h.2.2.size hb.size) (fun g e => (own_lt h.2.1 e).1))⟩
theorem MakeRel.own {w : World} {ty : TypeId} {t : List At} {Av : Option Addr} {nv cv : Nat} {wr : World} (h : MakeRel w ty t Av nv cv wr) : OwnVec w.heap.size ty t w (.returned (.slice Av nv cv)) wr :=
  ownVec_ret h.1 (own_cap h.2.1) h.2.1 h.2.2

end Go.Proofs.YtkdeiljbjpefhaaDoor
