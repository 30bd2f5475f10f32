/- The document's Of and Drop, and vec.Drop. -/
import Derived.Test.YtbbcifcdimfdgaaVi
namespace Go.Proofs.Ytbbcifcdimfdgaa
open Go.RowKit

theorem beq_yes {a b : ByteArray} (h : a = b) : (a.toList == b.toList) = true := by
  subst h; exact beq_self_eq_true _
theorem beq_no {a b : ByteArray} (h : a ≠ b) : (a.toList == b.toList) = false := by
  rw [Go.ByteArray.toList_eq, Go.ByteArray.toList_eq]
  exact beq_eq_false_iff_ne.mpr fun e => h (ByteArray.ext (Array.ext' e))

theorem ofF_drop_step {zs : List At} {a : ByteArray} {k : Nat} (hk : k < zs.length) (hne : (zs.getD k atNil).1 ≠ a) : ofF (zs.drop k) a = ofF (zs.drop (k + 1)) a := by
  rw [List.drop_eq_getElem_cons hk, ofF, if_neg]
  rw [List.getD_eq_getElem?_getD, List.getElem?_eq_getElem hk] at hne
  exact hne
theorem ofF_drop_hit {zs : List At} {a : ByteArray} {k : Nat} (hk : k < zs.length) (he : (zs.getD k atNil).1 = a) : ofF (zs.drop k) a = (zs.getD k atNil).2 := by
  have e : zs.getD k atNil = zs[k] := by rw [List.getD_eq_getElem?_getD, List.getElem?_eq_getElem hk]; rfl
  rw [List.drop_eq_getElem_cons hk, ofF, if_pos (by rw [← e]; exact he), e]

set_option maxRecDepth 100000 in
set_option maxHeartbeats 2000000 in
theorem rof_any (A : Option Addr) (n c : Nat) (zs : List At) (a : ByteArray) (B : Nat) (w : World) (hz : VecAt w B A n zs) (hn : n ≤ 1099511627776) :
    Calls Try.prog 60 #[.slice A n c, .string a] w fun e w' => e = .returned (.int .i64 (ofF zs a)) ∧ w = w' := by
  have hl : zs.length = n := hz.1
  have HL := Lib.hid hl
  have HZ := Lib.hid hz
  clear hl hz
  go_enter Try.func60, Try.ntmps60
  go_wp2
  go_loop [5] (fun i => ∃ k : Nat, k ≤ n ∧ i = .int .i64 k ∧ Hid (ofF zs a = ofF (zs.drop k) a)) (fun i => n - (intOf i).toNat)
  case atStart => exact ⟨0, by omega, rfl, rfl⟩
  case round =>
    obtain ⟨k, hk, rfl, HO⟩ := hrel
    by_cases hlt : k < n
    · obtain ⟨blk, off, rfl, hbB, hc1, hc2⟩ := HZ.out.cells (Below.refl _ _) (k := k) hlt
      have hkz : k < zs.length := by have := HL.out; omega
      by_cases he : (zs.getD k atNil).1 = a
      · have HR : Hid (ofF zs a = (zs.getD k atNil).2) := HO.out.trans (ofF_drop_hit hkz he)
        have hq := beq_yes he
        generalize zs.getD k atNil = x at hc1 hc2 hq HR
        clear he hkz
        go_wp2
        go_ret
        exact ⟨ret_int HR.out.symm, rfl⟩
      · have HN : Hid (ofF zs a = ofF (zs.drop (k + 1)) a) := HO.out.trans (ofF_drop_step hkz he)
        have hq := beq_no he
        generalize zs.getD k atNil = x at hc1 hc2 hq
        clear he hkz
        go_wp2
        go_round
        case rel => exact ⟨k + 1, by omega, by go_num, HN⟩
        case measure => simp [intOf]; omega
    · have HR : Hid (ofF zs a = 0) := by show _ = _; rw [HO.out, List.drop_of_length_le (by have := HL.out; omega)]; rfl
      go_wp2
      go_ret
      exact ⟨ret_int HR.out.symm, rfl⟩

/-- Without one. -/
def dropF (zs : List At) (a : ByteArray) : List At := zs.filter fun x => decide (x.1 ≠ a)
theorem dropF_len (zs : List At) (a : ByteArray) : (dropF zs a).length ≤ zs.length := List.length_filter_le _ _
theorem dropF_hit {zs : List At} {a : ByteArray} {k : Nat} (hk : k < zs.length) (he : (zs.getD k atNil).1 = a) : dropF (zs.take (k + 1)) a = dropF (zs.take k) a := by
  rw [take_snoc hk, dropF, List.filter_append]
  simp only [List.filter_cons, List.filter_nil]
  rw [if_neg (by simpa using he)]
  simp [dropF]
theorem dropF_keep {zs : List At} {a : ByteArray} {k : Nat} (hk : k < zs.length) (hne : (zs.getD k atNil).1 ≠ a) : dropF (zs.take (k + 1)) a = dropF (zs.take k) a ++ [zs.getD k atNil] := by
  rw [take_snoc hk, dropF, List.filter_append]
  simp only [List.filter_cons, List.filter_nil]
  rw [if_pos (by simpa using hne)]
  simp [dropF]

theorem new2 (w : World) (o o' : Obj) : ((w.alloc o).alloc o').heap[w.heap.size + 1]? = some o' := by simpa using heap_alloc_new (w.alloc o) o'
/-- A row that is being made. -/
def MakeRel (w : World) (ty : TypeId) (t : List At) (Av : Option Addr) (nv cv : Nat) (wr : World) : Prop :=
  t.length = nv ∧ wr.ownsRow w.heap.size ty 2 (.slice Av nv cv) nv (atCells t) ∧ Below w.heap.size w wr
theorem MakeRel.start (w : World) (ty : TypeId) : MakeRel w ty [] none 0 0 w := ⟨rfl, own_nil _ _ _, Below.refl _ _⟩
theorem MakeRel.step {w : World} {ty : TypeId} {t : List At} {Av : Option Addr} {nv cv : Nat} {wr w1 : World} (h : MakeRel w ty t Av nv cv wr) (hb : Below wr.heap.size wr w1) : MakeRel w ty t Av nv cv w1 :=
  ⟨h.1, own_below h.2.1 hb, h.2.2.trans (hb.mono h.2.2.size)⟩
theorem MakeRel.push {w : World} {ty : TypeId} {t : List At} {Av : Option Addr} {nv cv : Nat} {wr w1 w3 : World} (h : MakeRel w ty t Av nv cv wr) (hb : Below wr.heap.size wr w1) {x : At} {A3 : Option Addr} {c3 : Nat}
    (ho : w3.ownsRow w.heap.size ty 2 (.slice A3 (nv + 1) c3) (nv + 1) (atCells (t ++ [x]))) (hg : w1.grownBy w3 (Value.ownBlock (.slice Av nv cv))) : MakeRel w ty (t ++ [x]) A3 (nv + 1) c3 w3 :=
  ⟨by simp [h.1], ho, (h.2.2.trans (hb.mono h.2.2.size)).trans (grown_below hg (Nat.le_trans h.2.2.size hb.size) (fun g e => (own_lt h.2.1 e).1))⟩
theorem MakeRel.own {w : World} {ty : TypeId} {t : List At} {Av : Option Addr} {nv cv : Nat} {wr : World} (h : MakeRel w ty t Av nv cv wr) : OwnVec w.heap.size ty t w (.returned (.slice Av nv cv)) wr :=
  ownVec_ret h.1 (own_cap h.2.1) h.2.1 h.2.2

set_option maxRecDepth 100000 in
set_option maxHeartbeats 4000000 in
theorem rdrop_any (A : Option Addr) (n c : Nat) (zs : List At) (a : ByteArray) (B : Nat) (w : World) (hB : B ≤ w.heap.size) (hz : VecAt w B A n zs) (hn : n ≤ 1073741824) :
    Calls Try.prog 59 #[.slice A n c, .string a] w (OwnVec w.heap.size 76 (dropF zs a) w) := by
  have hl : zs.length = n := hz.1
  have HL := Lib.hid hl
  have HZ := Lib.hid hz
  clear hl hz
  go_enter Try.func59, Try.ntmps59
  go_wp2
  go_loopw [5, 6] (fun v i wr => ∃ (k : Nat) (Av : Option Addr) (nv cv : Nat), k ≤ n ∧ nv ≤ k ∧ i = .int .i64 k ∧ v = .slice Av nv cv ∧ Hid (MakeRel w 76 (dropF (zs.take k) a) Av nv cv wr)) (fun _ i _ => n - (intOf i).toNat)
  case atStart => exact ⟨0, none, 0, 0, by omega, by omega, rfl, rfl, MakeRel.start w _⟩
  case round =>
    obtain ⟨k, Av, nv, cv, hk, hnv, rfl, rfl, HM⟩ := hrel
    have HB := Lib.hid HM.out.2.2
    have hsz : w.heap.size ≤ wr.heap.size := HB.out.size
    by_cases hlt : k < n
    · obtain ⟨blk, off, rfl, hbB, hc1, hc2⟩ := HZ.out.cells (HB.out.mono hB) (k := k) hlt
      have hkz : k < zs.length := by have := HL.out; omega
      by_cases he : (zs.getD k atNil).1 = a
      · have HN : Hid (MakeRel w 76 (dropF (zs.take (k + 1)) a) Av nv cv wr) := by show MakeRel _ _ _ _ _ _ _; rw [dropF_hit hkz he]; exact HM.out
        have hq := beq_yes he
        generalize zs.getD k atNil = x at hc1 hc2 hq
        clear he hkz
        go_wp2
        go_roundw
        case rel => exact ⟨k + 1, Av, nv, cv, by omega, by omega, by go_num, rfl, HN⟩
        case measure => simp [intOf]; omega
      · have hN := dropF_keep hkz he
        have hq := beq_no he
        generalize zs.getD k atNil = x at hc1 hc2 hq hN
        have HN := Lib.hid hN
        clear he hkz hN
        go_wp2_with (at_builtin; refine wpList_append_at (B := w.heap.size) (v := .slice Av nv cv) (n := nv) (zs := dropF (zs.take k) a) (m := 1) (ys := [x]) refTy rfl _ _ rfl rfl (HM.out.2.1.alloc _) rfl (one_at (heap_alloc_new wr _)) (by omega) (by simp; omega) ?_; intro A3 c3 w3 hown3 hg3 hat3; have HM3 : Hid (MakeRel w 76 (dropF (zs.take (k + 1)) a) A3 (nv + 1) c3 w3) := (by show MakeRel _ _ _ _ _ _ _; rw [HN.out]; exact HM.out.push ((Below.refl _ _).alloc (Nat.le_refl _) _) hown3 hg3); clear hown3 hg3 hat3)
        go_roundw
        case rel => exact ⟨k + 1, A3, nv + 1, c3, by omega, by omega, by go_num, rfl, HM3⟩
        case measure => simp [intOf]; omega
    · have HT : Hid (zs.take k = zs) := List.take_of_length_le (by have := HL.out; omega)
      go_wp2
      go_ret
      have := HM.out.own
      rwa [HT.out] at this

end Go.Proofs.Ytbbcifcdimfdgaa
