/- span.push and span.pushAll: a Span that is being made, whose Extra is a row of the call's own. -/
import Derived.Test.YtbookbgfipbaoaaGreatDoorH4
import Derived.Maps.AppendAt
import Derived.Deep.RegionLaw
import Derived.Deep.RegionHeld3
import Derived.Deep.DeepCutAuto
import Derived.Deep.RegionWith
import Derived.Test.YtbookbgfipbaoaaGreatDoorH3
import Derived.Lib.SliceRun
import Derived.Deep.MidRow
import Derived.Deep.CutBlock
namespace Go.Proofs.YtbookbgfipbaoaaGreatDoor.Sp
open Go.RowKit

/-- Where a row lies behind a call: where it lay, or in a block that is new. -/
def Lies (v : Value) (row : Option Nat) (H : Nat) : Prop := v.ownBlock = row ∨ ∃ k, v.ownBlock = some k ∧ H ≤ k

/-- The answer is the Span s; its Extra lies in a row of the call's own, from block B on; nothing else that was there has turned. -/
def OwnSpan (B : Nat) (row : Option Nat) (s : Int × List Int) (w : World) (e : Ending) (w' : World) : Prop :=
  ∃ A c, e = .returned (.agg #[.int .i64 s.1, .slice A s.2.length c]) ∧ w'.ownsRow B 3 1 (.slice A s.2.length c) s.2.length (s.2.map (.int .i64)) ∧ w.grownBy w' row ∧ Lies (.slice A s.2.length c) row w.heap.size

theorem grown_of_below {w w' : World} (h : Below w.heap.size w w') (row : Option Nat) : w.grownBy w' row := ⟨h.os, h.tape, h.output, h.size, fun k hk _ => h.block k hk⟩
theorem own_form {w : World} {B : Nat} {v : Value} {n : Nat} {xs : List Value} (h : w.ownsRow B 3 1 v n xs) : ∃ A c, v = .slice A n c := by
  rcases h.2 with ⟨rfl, rfl⟩ | ⟨g, cap, _, rfl, _⟩
  · exact ⟨none, 0, rfl⟩
  · exact ⟨_, cap, rfl⟩

theorem own_ints {w : World} {B : Nat} {A : Option Addr} {n c : Nat} {zs : List Int} (h : w.ownsRow B 3 1 (.slice A n c) n (zs.map (.int .i64))) : IntsAt w w.heap.size A n zs := by
  have hl : zs.length = n := by have := h.1; simpa using this
  refine ⟨hl, fun hn => ?_⟩
  have hh := h
  rcases h.2 with ⟨_, rfl⟩ | ⟨g, cap, cur, e, hB, hg, hnc, _, hs, ht⟩
  · omega
  · injection e with e1 e2 e3
    subst e1 e3
    refine ⟨g, 0, rfl, (hh.lt g rfl).2, fun k hk => ?_⟩
    rw [Nat.zero_add]
    rw [hh.cellAt k (by omega), List.getElem?_map, List.getElem?_eq_getElem (show k < zs.length by omega)]
    simp [List.getD_eq_getElem?_getD, List.getElem?_eq_getElem (show k < zs.length by omega)]

theorem grown_cell {w w' : World} {row : Option Nat} (hg : w.grownBy w' row) {b : Nat} (o : Nat) (hb : b < w.heap.size) (hne : some b ≠ row) :
    w'.cell? ⟨b, o, none⟩ = w.cell? ⟨b, o, none⟩ ∧ w'.frozen? ⟨b, o, none⟩ = w.frozen? ⟨b, o, none⟩ :=
  ⟨World.cell?_of_block (a := ⟨b, o, none⟩) (hg.block b hb hne), World.frozen?_of_block (a := ⟨b, o, none⟩) (hg.block b hb hne)⟩

theorem Tryz.info3 : (Tryz.prog.info? 3).map (fun i => (i.zero, i.size, i.bytes)) = some (some (.int .i64 0), 1, 8) := by kernel_rfl

theorem addr_add (b o j : Nat) : (⟨b, o, none⟩ : Addr).add j = ⟨b, o + j, none⟩ := by unfold Addr.add; split <;> simp_all

theorem ints_cell {w : World} {B : Nat} {ad : Addr} {m : Nat} {ys : List Int} (h : IntsAt w B (some ad) m ys) : ∀ j u, (ys.map (Value.int .i64))[j]? = some u → w.cell? (ad.add j) = some u := by
  intro j u hu
  rw [List.getElem?_map] at hu
  rcases Nat.lt_or_ge j ys.length with hj | hj
  · obtain ⟨b, off, e, _, hc⟩ := h.2 (by have := h.1; omega)
    injection e with e
    subst e
    have h1 := hc j (by have := h.1; omega)
    rw [List.getElem?_eq_getElem hj] at hu
    simp only [Option.map_some, Option.some.injEq] at hu
    subst hu
    rw [addr_add]
    simpa [List.getD_eq_getElem?_getD, List.getElem?_eq_getElem hj] using h1
  · rw [List.getElem?_eq_none hj] at hu
    simp at hu

theorem run_append_ints {ty : TypeId} {w : World} {B B' : Nat} {v : Value} {n : Nat} {zs : List Int} (hown : w.ownsRow B 3 1 v n (zs.map (.int .i64))) {A : Option Addr} {m : Nat} {ys : List Int} (c : Nat)
    (hr : IntsAt w B' A m ys) (hb : n + m ≤ 8796093022208) (hB : B ≤ w.heap.size) :
    ∃ v' w', (Builtin.append_ #[65, 65] ty #[v, .slice A m c]).run Tryz.prog w = .ok v' w' ∧ w'.ownsRow B 3 1 v' (n + m) ((zs ++ ys).map (.int .i64)) ∧ w.grownBy w' v.ownBlock ∧ (v'.ownBlock = v.ownBlock ∨ v'.ownBlock = some w.heap.size) := by
  obtain ⟨i, hi, hz0, hz1, hz2⟩ := info_parts Tryz.info3
  rcases A with _ | ad
  · have hm : m = 0 := by
      rcases Nat.eq_zero_or_pos m with h0 | h0
      · exact h0
      · obtain ⟨_, _, h, _⟩ := hr.2 h0
        cases h
    subst hm
    have hy : ys = [] := List.eq_nil_of_length_eq_zero hr.1
    subst hy
    refine ⟨v, w, ?_, by simpa using hown, World.grownBy.refl w _, .inl rfl⟩
    rcases hown.2 with ⟨rfl, rfl⟩ | ⟨g, cap, cur, rfl, _, _, hnc, _⟩
    · simp [Builtin.append_, run_underlying Tryz.underlying65, sizeOf, typeInfo, hi, Builtin.lenOf, Builtin.firstCells]
    · simp [Builtin.append_, run_underlying Tryz.underlying65, sizeOf, typeInfo, hi, Builtin.lenOf, Builtin.firstCells, hnc, storeCells]
  · obtain ⟨v', w', hrun, h2, h3, _, h5⟩ := run_append_own_at (P := Tryz.prog) w B 65 ty 3 i (.int .i64 0) 1 8 Tryz.underlying65 hi hz0 hz1 hz2 rfl (by decide) v n _ hown ad m c (ys.map (.int .i64)) (by simpa using hr.1) (ints_cell hr)
      (fun u hu => by simp only [List.mem_map] at hu; obtain ⟨_, _, rfl⟩ := hu; rfl) (by unfold maxLen; omega) (by omega) hB
    exact ⟨v', w', hrun, by simpa using h2, h3, h5⟩

theorem wp_append_ints {o : Oper} {a : Act} {K : Act → World → Prop} {Q : Exit → Act → World → Prop} (s x : Operand) (ho : o.op = .call { callee := .builtin .append, args := #[s, x], argTypes := #[65, 65] })
    {w : World} {B B' : Nat} {v : Value} {n : Nat} {zs : List Int} (hs : a.eval s = v) (hown : w.ownsRow B 3 1 v n (zs.map (.int .i64))) {A : Option Addr} {m : Nat} {ys : List Int} {c : Nat} (hx : a.eval x = .slice A m c)
    (hr : IntsAt w B' A m ys) (hb : n + m ≤ 8796093022208) (hB : B ≤ w.heap.size)
    (h : ∀ A' c' w', w'.ownsRow B 3 1 (.slice A' (n + m) c') (n + m) ((zs ++ ys).map (.int .i64)) → w.grownBy w' v.ownBlock → (Value.ownBlock (.slice A' (n + m) c') = v.ownBlock ∨ Value.ownBlock (.slice A' (n + m) c') = some w.heap.size) → K (a.put o.dst (.slice A' (n + m) c')) w') : o.wp Tryz.prog a w K Q := by
  obtain ⟨v', w', hrun, h2, h3, h4⟩ := run_append_ints (ty := o.type) hown c hr hb hB
  obtain ⟨A', c', rfl⟩ := own_form h2
  unfold Oper.wp execOp
  simp only [ho, resolve, invoke, builtin, Sem.run_bind, Sem.run_pure, Result.andThen_ok, List.map_toArray, List.map_cons, List.map_nil, hs, hx, hrun]
  exact h A' c' w' h2 h3 h4

theorem step_append_ints {ops : Array Oper} {o : Oper} {a : Act} {K : Act → World → Prop} {Q : Exit → Act → World → Prop} {E : Prop} (hgd : o.guard = none) (s x : Operand) (ho : o.op = .call { callee := .builtin .append, args := #[s, x], argTypes := #[65, 65] })
    {w : World} {B B' : Nat} {v : Value} {n : Nat} {zs : List Int} (hs : a.eval s = v) (hown : w.ownsRow B 3 1 v n (zs.map (.int .i64))) {A : Option Addr} {m : Nat} {ys : List Int} {c : Nat} (hx : a.eval x = .slice A m c)
    (hr : IntsAt w B' A m ys) (hb : n + m ≤ 8796093022208) (hB : B ≤ w.heap.size)
    (h : ∀ A' c' w', w'.ownsRow B 3 1 (.slice A' (n + m) c') (n + m) ((zs ++ ys).map (.int .i64)) → w.grownBy w' v.ownBlock → (Value.ownBlock (.slice A' (n + m) c') = v.ownBlock ∨ Value.ownBlock (.slice A' (n + m) c') = some w.heap.size) → K (a.put o.dst (.slice A' (n + m) c')) w') :
    if Region.wanted o (yielded ops a.tmps) = true then Oper.wp Tryz.prog o a w K Q else E := by
  have hw : Region.wanted o (yielded ops a.tmps) = true := by simp [Region.wanted, hgd]
  rw [if_pos hw]
  exact wp_append_ints s x ho hs hown hx hr hb hB h

theorem own_setCell {w : World} {B : Nat} {v : Value} {n : Nat} {xs : List Value} (h : w.ownsRow B 3 1 v n xs) {p : Addr} (hp : v.ownBlock ≠ some p.block) (u : Value) : (w.setCell p u).ownsRow B 3 1 v n xs :=
  h.kept (row := some p.block) ⟨rfl, rfl, rfl, by simp [World.setCell], fun k _ hk => Below.heap_setCell w p u k (fun e => hk (by rw [e]))⟩ (.inr hp)

theorem ownSpan_of {B : Nat} {row : Option Nat} {w w' : World} {A : Option Addr} {n c : Nat} {u : Int} {zs : List Int} {s : Int × List Int} (hs : s = (u, zs)) (hl : zs.length = n)
    (hown : w'.ownsRow B 3 1 (.slice A n c) n (zs.map (.int .i64))) (hg : w.grownBy w' row) (hlie : Lies (.slice A n c) row w.heap.size) : OwnSpan B row s w (.returned (.agg #[.int .i64 u, .slice A n c])) w' := by
  subst hs
  subst hl
  exact ⟨A, c, rfl, hown, hg, hlie⟩

end Go.Proofs.YtbookbgfipbaoaaGreatDoor.Sp

/- span.pushAll: push, number by number. -/
namespace Go.Proofs.YtbookbgfipbaoaaGreatDoor.Sp
open Go.RowKit

end Go.Proofs.YtbookbgfipbaoaaGreatDoor.Sp

/- span.Union: the merge of two, pushed. -/
namespace Go.Proofs.YtbookbgfipbaoaaGreatDoor.Sp
open Go.RowKit

theorem own_base {w : World} {B B' : Nat} {v : Value} {n : Nat} {xs : List Value} (h : w.ownsRow B 3 1 v n xs) (hB : B' ≤ B) : w.ownsRow B' 3 1 v n xs := by
  obtain ⟨h1, h2⟩ := h
  refine ⟨h1, ?_⟩
  rcases h2 with h2 | ⟨g, cap, cur, hv, hg, r⟩
  · exact .inl h2
  · exact .inr ⟨g, cap, cur, hv, by omega, r⟩

theorem lies_own {w : World} {B : Nat} {v : Value} {n : Nat} {xs : List Value} (h : w.ownsRow B 3 1 v n xs) {H : Nat} (hH : H ≤ B) : Lies v none H := by
  rcases e : v.ownBlock with _ | k
  · exact .inl e
  · exact .inr ⟨k, e, Nat.le_trans hH (h.lt k e).1⟩

end Go.Proofs.YtbookbgfipbaoaaGreatDoor.Sp

/- span.Add of a number that may be; the law's own little check 'told'. -/
namespace Go.Proofs.YtbookbgfipbaoaaGreatDoor.Sp
open Go.RowKit

end Go.Proofs.YtbookbgfipbaoaaGreatDoor.Sp

/- Spans as sets of numbers: plain facts on lists and integers, no program in them. -/
namespace Go.Proofs.YtbookbgfipbaoaaGreatDoor.Sp

end Go.Proofs.YtbookbgfipbaoaaGreatDoor.Sp

/- The law's To and From: a Span told in the other package's type, its Extra copied. -/
namespace Go.Proofs.YtbookbgfipbaoaaGreatDoor.Sp
open Go.RowKit

theorem empty_own (w : World) (B g : Nat) (hg : w.heap.size = g) (hB : B ≤ g) : (w.alloc (Obj.cells #[] 3)).drew.ownsRow B 3 1 (.slice (some ⟨g, 0, none⟩) 0 0) 0 (([] : List Int).map (.int .i64)) := by
  subst hg
  exact ⟨rfl, .inr ⟨w.heap.size, 0, #[], rfl, hB, heap_alloc_new w _, Nat.le_refl _, Nat.zero_le _, rfl, rfl⟩⟩

set_option maxRecDepth 100000 in
set_option maxHeartbeats 1000000 in
theorem to_any (u : Int) (A : Option Addr) (n c : Nat) (zs : List Int) (B : Nat) (w : World) (hB : B ≤ w.heap.size) (hz : IntsAt w B A n zs) (hn : n ≤ 1073741824) :
    Calls Tryz.prog 99 #[.agg #[.int .i64 u, .slice A n c]] w (OwnSpan w.heap.size none (u, zs) w) := by
  have hb0 : Below w.heap.size w (((w.alloc (Obj.cells #[Value.int IntKind.i64 u, Value.slice A n c] 67)).alloc (Obj.cells #[Value.int IntKind.i64 0, Value.slice none 0 0] 98)).alloc (Obj.cells #[] 3)).drew := ((((Below.refl _ _).alloc (Nat.le_refl _) _).alloc (by simp) _).alloc (by simp; omega) _).drew
  have hO : (((w.alloc (Obj.cells #[Value.int IntKind.i64 u, Value.slice A n c] 67)).alloc (Obj.cells #[Value.int IntKind.i64 0, Value.slice none 0 0] 98)).alloc (Obj.cells #[] 3)).drew.ownsRow (w.heap.size + 2) 3 1 (.slice (some ⟨w.heap.size + 2, 0, none⟩) 0 0) 0 (([] : List Int).map (.int .i64)) := empty_own _ _ _ (by simp) (Nat.le_refl _)
  have HR : Hid (IntsAt (((w.alloc (Obj.cells #[Value.int IntKind.i64 u, Value.slice A n c] 67)).alloc (Obj.cells #[Value.int IntKind.i64 0, Value.slice none 0 0] 98)).alloc (Obj.cells #[] 3)).drew B A n zs) := hz.keep (hb0.mono hB)
  have hl : zs.length = n := hz.1
  have HL := Lib.hid hl
  have HO := Lib.hid hO
  have HB0 := Lib.hid hb0
  clear hz hO hb0 hl
  go_enter Tryz.func99, Tryz.ntmps99
  go_wp2
  go_region_law
    (first
      | (refine step_append_ints (w := (((w.alloc (Obj.cells #[Value.int IntKind.i64 u, Value.slice A n c] 67)).alloc (Obj.cells #[Value.int IntKind.i64 0, Value.slice none 0 0] 98)).alloc (Obj.cells #[] 3)).drew) (B := w.heap.size + 2) (B' := B) (v := .slice (some ⟨w.heap.size + 2, 0, none⟩) 0 0) (n := 0) (zs := []) (A := A) (m := n) (c := c) (ys := zs) rfl _ _ rfl rfl HO.out rfl HR.out ?_ ?_ ?_
         · omega
         · simp
         intro A3 c3 w3 hown3 hg3 _
         have hne : ∀ k, k < w.heap.size + 2 → some k ≠ Value.ownBlock (.slice (some ⟨w.heap.size + 2, 0, none⟩) 0 0) := fun k hk e => by simp only [Value.ownBlock, Option.some.injEq] at e; omega
         have k00 : w3.cell? ⟨w.heap.size, 0, none⟩ = some (.int .i64 u) := (grown_cell hg3 0 (by simp; omega) (hne _ (by omega))).1.trans (by simp [go_sem])
         have k01 : w3.cell? ⟨w.heap.size, 1, none⟩ = some (.slice A n c) := (grown_cell hg3 1 (by simp; omega) (hne _ (by omega))).1.trans (by simp [go_sem])
         have k10 : w3.cell? ⟨w.heap.size + 1, 0, none⟩ = some (.int .i64 0) := (grown_cell hg3 0 (by simp) (hne _ (by omega))).1.trans (by simp [go_sem])
         have k11 : w3.cell? ⟨w.heap.size + 1, 1, none⟩ = some (.slice none 0 0) := (grown_cell hg3 1 (by simp) (hne _ (by omega))).1.trans (by simp [go_sem])
         have f10 : w3.frozen? ⟨w.heap.size + 1, 0, none⟩ = false := (grown_cell hg3 0 (by simp) (hne _ (by omega))).2.trans (by simp [go_sem])
         have f11 : w3.frozen? ⟨w.heap.size + 1, 1, none⟩ = false := (grown_cell hg3 1 (by simp) (hne _ (by omega))).2.trans (by simp [go_sem])
         have HB3 : Hid (Below w.heap.size w w3) := HB0.out.grown hg3 (by simp; omega) (fun k hk => by simp only [Value.ownBlock, Option.some.injEq] at hk; omega)
         have HO3 := Lib.hid hown3
         clear hown3 hg3 hne))
  all_goals
    go_wp2
    refine bodyPost_ret (v := .agg #[.int .i64 u, .slice A3 n c3]) ?_ rfl ?_
    · simp [results, Tryz.results99, go_sem, k10, k11]
    · have hO4 := HO3.out
      rw [Nat.zero_add, List.nil_append] at hO4
      have hn4 : Value.ownBlock (.slice A3 n c3) ≠ some (w.heap.size + 1) := fun e => by have := (hO4.lt _ e).1; omega
      exact ownSpan_of rfl HL.out (own_base (own_setCell (own_setCell hO4 (p := ⟨w.heap.size + 1, 0, none⟩) hn4 _) (p := ⟨w.heap.size + 1, 1, none⟩) hn4 _) (by omega)) (grown_of_below ((HB3.out.setCell (by simp) _).setCell (by simp) _) _) (lies_own hO4 (by omega))

end Go.Proofs.YtbookbgfipbaoaaGreatDoor.Sp

/- span.Right and the document's: whether a Span may be. -/
namespace Go.Proofs.YtbookbgfipbaoaaGreatDoor.Sp
open Go.RowKit

def chainB (b : Int) : List Int → Bool
  | [] => true
  | z :: t => decide (b < z ∧ z ≤ 1048576) && chainB z t
def rightF (u : Int) (zs : List Int) : Bool := decide (0 ≤ u ∧ u ≤ 1048576 ∧ zs.length ≤ 4096) && chainB (u + 1) zs

theorem drop_next (zs : List Int) (k : Nat) (h : k < zs.length) : zs.drop k = zs.getD k 0 :: zs.drop (k + 1) := by
  rw [List.drop_eq_getElem_cons h]
  simp [List.getD_eq_getElem?_getD, List.getElem?_eq_getElem h]

theorem chain_step {b : Int} {zs : List Int} {k : Nat} (h : k < zs.length) : chainB b (zs.drop k) = (decide (b < zs.getD k 0 ∧ zs.getD k 0 ≤ 1048576) && chainB (zs.getD k 0) (zs.drop (k + 1))) := by
  rw [drop_next zs k h]; rfl

set_option maxRecDepth 100000 in
set_option maxHeartbeats 1000000 in
theorem right_any (u : Int) (A : Option Addr) (n c : Nat) (zs : List Int) (B : Nat) (w : World) (hB : B ≤ w.heap.size) (hz : IntsAt w B A n zs) (hn : n ≤ 1073741824) :
    Calls Tryz.prog 148 #[.agg #[.int .i64 u, .slice A n c]] w fun e w' => e = .returned (.bool (rightF u zs)) ∧ Below w.heap.size w w' := by
  have hl : zs.length = n := hz.1
  have HL := Lib.hid hl
  have HZ := Lib.hid hz
  clear hl hz
  by_cases h1 : u < 0
  · have HF : Hid (rightF u zs = false) := by show rightF u zs = false; unfold rightF; rw [decide_eq_false (by omega)]; rfl
    go_enter Tryz.func148, Tryz.ntmps148
    go_wp2
    go_ret
    exact ⟨ret_bool HF.out.symm, (Below.refl _ _).alloc (Nat.le_refl _) _⟩
  by_cases h2 : 1048576 < u
  · have HF : Hid (rightF u zs = false) := by show rightF u zs = false; unfold rightF; rw [decide_eq_false (by omega)]; rfl
    go_enter Tryz.func148, Tryz.ntmps148
    go_wp2
    go_ret
    exact ⟨ret_bool HF.out.symm, (Below.refl _ _).alloc (Nat.le_refl _) _⟩
  by_cases h3 : 4096 < n
  · have HF : Hid (rightF u zs = false) := by show rightF u zs = false; unfold rightF; rw [decide_eq_false (by rw [HL.out]; omega)]; rfl
    have h3' : (4096 : Int) < n := by omega
    go_enter Tryz.func148, Tryz.ntmps148
    go_wp2
    go_ret
    exact ⟨ret_bool HF.out.symm, (Below.refl _ _).alloc (Nat.le_refl _) _⟩
  have HF : Hid (rightF u zs = chainB (u + 1) zs) := by show rightF u zs = _; unfold rightF; rw [decide_eq_true (by rw [HL.out]; omega)]; rfl
  have h3' : ¬ (4096 : Int) < n := by omega
  go_enter Tryz.func148, Tryz.ntmps148
  go_wp2
  go_loop [3, 26] (fun l i => ∃ (k : Nat) (last : Int), k ≤ n ∧ i = .int .i64 k ∧ l = .int .i64 last ∧ Hid (chainB (u + 1) zs = chainB last (zs.drop k))) (fun _ i => n - (intOf i).toNat)
  case atStart => exact ⟨0, u + 1, by omega, rfl, rfl, rfl⟩
  case round =>
    obtain ⟨k, last, hk, rfl, rfl, HC⟩ := hrel
    by_cases hlt : k < n
    · obtain ⟨b, off, rfl, hbB, hc⟩ := HZ.out.2 (by omega)
      have hc1 := hc k hlt
      have hb' : b < w.heap.size := by omega
      have hst := chain_step (b := last) (zs := zs) (k := k) (by rw [HL.out]; exact hlt)
      have HS := Lib.hid hst
      clear hc hst
      by_cases t1 : zs.getD k 0 ≤ last
      · have HE : Hid (rightF u zs = false) := by show rightF u zs = _; rw [HF.out, HC.out, HS.out, decide_eq_false (by omega)]; rfl
        have t1' : zs[k]?.getD 0 ≤ last := by simpa [List.getD_eq_getElem?_getD] using t1
        clear t1
        go_wp2
        go_ret
        exact ⟨ret_bool HE.out.symm, (Below.refl _ _).alloc (Nat.le_refl _) _⟩
      · by_cases t2 : 1048576 < zs.getD k 0
        · have HE : Hid (rightF u zs = false) := by show rightF u zs = _; rw [HF.out, HC.out, HS.out, decide_eq_false (by omega)]; rfl
          have t1' : ¬ zs[k]?.getD 0 ≤ last := by simpa [List.getD_eq_getElem?_getD] using t1
          have t2' : 1048576 < zs[k]?.getD 0 := by simpa [List.getD_eq_getElem?_getD] using t2
          clear t1 t2
          go_wp2
          go_ret
          exact ⟨ret_bool HE.out.symm, (Below.refl _ _).alloc (Nat.le_refl _) _⟩
        · have HE : Hid (chainB (u + 1) zs = chainB (zs.getD k 0) (zs.drop (k + 1))) := by show _ = _; rw [HC.out, HS.out, decide_eq_true (by omega)]; rfl
          have t1' : ¬ zs[k]?.getD 0 ≤ last := by simpa [List.getD_eq_getElem?_getD] using t1
          have t2' : ¬ 1048576 < zs[k]?.getD 0 := by simpa [List.getD_eq_getElem?_getD] using t2
          clear t1 t2
          go_wp2
          go_round
          case rel => exact ⟨k + 1, zs.getD k 0, by omega, by go_num, by simp [List.getD_eq_getElem?_getD], HE⟩
          case measure => simp [intOf]; omega
    · have HE : Hid (rightF u zs = true) := by
        show rightF u zs = _
        rw [HF.out, HC.out, List.drop_of_length_le (by rw [HL.out]; omega)]; rfl
      go_wp2
      go_ret
      exact ⟨ret_bool HE.out.symm, (Below.refl _ _).alloc (Nat.le_refl _) _⟩
end Go.Proofs.YtbookbgfipbaoaaGreatDoor.Sp

/- The document's own Right. -/
namespace Go.Proofs.YtbookbgfipbaoaaGreatDoor.Sp
open Go.RowKit

/-- A world that differs from W by draws alone. -/
def Drawn (W wr : World) : Prop := ∃ q, wr = W.drewN q
theorem Drawn.refl (W : World) : Drawn W W := ⟨0, rfl⟩
theorem below_d {B : Nat} {a w : World} (h : Below B a w) (n : Nat) : Below B a (w.drewN n) := ⟨h.os, h.tape, h.output, h.size, h.block⟩

set_option maxRecDepth 100000 in
set_option maxHeartbeats 1000000 in
theorem refRight_any (u : Int) (A : Option Addr) (n c : Nat) (zs : List Int) (B : Nat) (w : World) (hB : B ≤ w.heap.size) (hz : IntsAt w B A n zs) (hn : n ≤ 1073741824) :
    Calls Tryz.prog 156 #[.agg #[.int .i64 u, .slice A n c]] w fun e w' => e = .returned (.bool (rightF u zs)) ∧ Below w.heap.size w w' := by
  have hl : zs.length = n := hz.1
  have HL := Lib.hid hl
  have HZ := Lib.hid hz
  clear hl hz
  by_cases h1 : u < 0
  · have HF : Hid (rightF u zs = false) := by show rightF u zs = false; unfold rightF; rw [decide_eq_false (by omega)]; rfl
    go_enter Tryz.func156, Tryz.ntmps156
    go_wp2
    go_ret
    exact ⟨ret_bool HF.out.symm, (Below.refl _ _).alloc (Nat.le_refl _) _⟩
  by_cases h2 : 1048576 < u
  · have HF : Hid (rightF u zs = false) := by show rightF u zs = false; unfold rightF; rw [decide_eq_false (by omega)]; rfl
    go_enter Tryz.func156, Tryz.ntmps156
    go_wp2
    go_ret
    exact ⟨ret_bool HF.out.symm, (Below.refl _ _).alloc (Nat.le_refl _) _⟩
  by_cases h3 : 4096 < n
  · have HF : Hid (rightF u zs = false) := by show rightF u zs = false; unfold rightF; rw [decide_eq_false (by rw [HL.out]; omega)]; rfl
    have h3' : (4096 : Int) < n := by omega
    go_enter Tryz.func156, Tryz.ntmps156
    go_wp2
    go_ret
    exact ⟨ret_bool HF.out.symm, (Below.refl _ _).alloc (Nat.le_refl _) _⟩
  have HF : Hid (rightF u zs = chainB (u + 1) zs) := by show rightF u zs = _; unfold rightF; rw [decide_eq_true (by rw [HL.out]; omega)]; rfl
  have h3' : ¬ (4096 : Int) < n := by omega
  go_enter Tryz.func156, Tryz.ntmps156
  go_wp2
  go_loopw [3, 4] (fun l i wr => ∃ (k : Nat) (last : Int), k ≤ n ∧ i = .int .i64 k ∧ l = .int .i64 last ∧ Hid (chainB (u + 1) zs = chainB last (zs.drop k)) ∧ Hid (k = 0 → last = u + 1) ∧ Drawn (w.alloc (Obj.cells #[Value.int IntKind.i64 u, Value.slice A n c] 67)) wr) (fun _ i _ => n - (intOf i).toNat)
  case atStart => exact ⟨0, u + 1, by omega, rfl, rfl, rfl, fun _ => rfl, Drawn.refl _⟩
  case round =>
    obtain ⟨k, last, hk, rfl, rfl, HC, HK, q, rfl⟩ := hrel
    by_cases hlt : k < n
    · obtain ⟨b, off, rfl, hbB, hc⟩ := HZ.out.2 (by omega)
      have hc1 := hc k hlt
      have hb' : b < w.heap.size := by omega
      have hkI : (k : Int) < n := by omega
      have hst := chain_step (b := last) (zs := zs) (k := k) (by rw [HL.out]; exact hlt)
      have HS := Lib.hid hst
      clear hc hst
      generalize hy : zs.getD k 0 = y at hc1 HS
      clear hy
      by_cases t1 : y ≤ last
      · have HE : Hid (rightF u zs = false) := by show rightF u zs = _; rw [HF.out, HC.out, HS.out, decide_eq_false (by omega)]; rfl
        by_cases hk0 : 0 < k
        · have hk1 : (0 : Int) < k := by omega
          go_wp2_with fail
          go_quiet (fail)
          go_wp2
          go_ret
          exact ⟨ret_bool HE.out.symm, by repeat (first | exact (Below.refl _ _).alloc (Nat.le_refl _) _ | refine below_d ?_ _)⟩
        · have hk1 : decide ((0 : Int) < k) = false := by simp; omega
          have hlast := HK.out (by omega)
          have t3 : y ≤ u + 1 := by omega
          clear hlast
          go_wp2_with fail
          go_quiet (fail)
          go_wp2
          go_ret
          exact ⟨ret_bool HE.out.symm, by repeat (first | exact (Below.refl _ _).alloc (Nat.le_refl _) _ | refine below_d ?_ _)⟩
      · have t1' : decide (y ≤ last) = false := by simpa using t1
        by_cases t2 : 1048576 < y
        · have HE : Hid (rightF u zs = false) := by show rightF u zs = _; rw [HF.out, HC.out, HS.out, decide_eq_false (by omega)]; rfl
          go_wp2_with fail
          go_quiet (fail)
          go_wp2
          go_ret
          exact ⟨ret_bool HE.out.symm, by repeat (first | exact (Below.refl _ _).alloc (Nat.le_refl _) _ | refine below_d ?_ _)⟩
        · have HE : Hid (chainB (u + 1) zs = chainB y (zs.drop (k + 1))) := by show _ = _; rw [HC.out, HS.out, decide_eq_true (by omega)]; rfl
          have t2' : decide (1048576 < y) = false := by simpa using t2
          go_wp2_with fail
          go_quiet (fail)
          go_wp2
          go_roundw
          case rel => exact ⟨k + 1, y, by omega, by go_num, rfl, HE, fun h => by omega, _, rfl⟩
          case measure => simp [intOf]; omega
    · have HE : Hid (rightF u zs = true) := by
        show rightF u zs = _
        rw [HF.out, HC.out, List.drop_of_length_le (by rw [HL.out]; omega)]; rfl
      go_wp2
      go_ret
      exact ⟨ret_bool HE.out.symm, by repeat (first | exact (Below.refl _ _).alloc (Nat.le_refl _) _ | refine below_d ?_ _)⟩

end Go.Proofs.YtbookbgfipbaoaaGreatDoor.Sp

/- The document's Has, Count, Top and Same; the program's Same (slices.Equal) and Within. -/
namespace Go.Proofs.YtbookbgfipbaoaaGreatDoor.Sp
open Go.RowKit

set_option maxRecDepth 100000 in
set_option maxHeartbeats 400000 in
theorem refCount_any (u : Int) (A : Option Addr) (n c : Nat) (w : World) (h0 : 0 ≤ u) (h1 : u ≤ 1048576) (hn : n ≤ 1099511627776) :
    Calls Tryz.prog 157 #[.agg #[.int .i64 u, .slice A n c]] w fun e w' => e = .returned (.int .i64 (u + n)) ∧ Below w.heap.size w w' := by
  go_enter Tryz.func157, Tryz.ntmps157
  go_wp2
  go_ret
  exact ⟨rfl, (Below.refl _ _).alloc (Nat.le_refl _) _⟩

theorem eq_of_cells {xs ys : List Int} {n : Nat} (hx : xs.length = n) (hy : ys.length = n) (h : ∀ j, j < n → xs.getD j 0 = ys.getD j 0) : xs = ys := by
  refine List.ext_getElem (by omega) fun i h1 h2 => ?_
  have := h i (by omega)
  simpa [List.getD_eq_getElem?_getD, List.getElem?_eq_getElem h1, List.getElem?_eq_getElem h2] using this

set_option maxRecDepth 100000 in
set_option maxHeartbeats 1000000 in
theorem equal_any (A : Option Addr) (n c : Nat) (xs : List Int) (A' : Option Addr) (m c' : Nat) (ys : List Int) (B : Nat) (w : World) (hx : IntsAt w B A n xs) (hy : IntsAt w B A' m ys) (hn : n ≤ 1073741824) :
    Calls Tryz.prog 194 #[.slice A n c, .slice A' m c'] w fun e w' => e = .returned (.bool (decide (xs = ys))) ∧ Below w.heap.size w w' := by
  have HX := Lib.hid hx
  have HY := Lib.hid hy
  clear hx hy
  by_cases hnm : n = m
  · subst hnm
    go_enter Tryz.func194, Tryz.ntmps194
    go_wp2
    go_loopw [13] (fun i wr => ∃ (k q : Nat), k ≤ n ∧ i = .int .i64 k ∧ Hid (∀ j, j < k → xs.getD j 0 = ys.getD j 0) ∧ wr = w.drewN q) (fun i _ => n - (intOf i).toNat)
    case atStart => exact ⟨0, 0, by omega, rfl, fun j hj => by omega, rfl⟩
    case round =>
      obtain ⟨k, q, hk, rfl, HQ, rfl⟩ := hrel
      by_cases hlt : k < n
      · obtain ⟨b, off, rfl, hbB, hc⟩ := HX.out.2 (by omega)
        obtain ⟨b', off', rfl, hbB', hc'⟩ := HY.out.2 (by omega)
        have hc1 := hc k hlt
        have hc2 := hc' k hlt
        have hkI : (k : Int) < n := by omega
        clear hc hc'
        generalize hp : xs.getD k 0 = x at hc1
        generalize hr : ys.getD k 0 = y at hc2
        have HP := Lib.hid hp
        have HRr := Lib.hid hr
        clear hp hr
        by_cases he : x = y
        · have he' : (x != y) = false := by simp [he]
          have HE : Hid (∀ j, j < k + 1 → xs.getD j 0 = ys.getD j 0) := fun j hj => by
            rcases Nat.lt_or_ge j k with h | h
            · exact HQ.out j h
            · rw [show j = k by omega, HP.out, HRr.out, he]
          clear he
          go_wp2_with fail
          go_quiet (fail)
          go_wp2
          go_roundw
          case rel => exact ⟨k + 1, _, by omega, by go_num, HE, rfl⟩
          case measure => simp [intOf]; omega
        · have he' : (x != y) = true := by simpa using he
          have HE : Hid (decide (xs = ys) = false) := by
            show decide (xs = ys) = false
            rw [decide_eq_false_iff_not]
            intro h
            rw [← HP.out, ← HRr.out, h] at he
            exact he rfl
          clear he
          go_wp2_with fail
          go_quiet (fail)
          go_wp2
          go_ret
          exact ⟨ret_bool HE.out.symm, by repeat (first | exact Below.refl _ _ | refine below_d ?_ _)⟩
      · have HE : Hid (decide (xs = ys) = true) := by
          show decide (xs = ys) = true
          rw [decide_eq_true_eq]
          exact eq_of_cells HX.out.1 HY.out.1 (fun j hj => HQ.out j (by omega))
        go_wp2
        go_ret
        exact ⟨ret_bool HE.out.symm, by repeat (first | exact Below.refl _ _ | refine below_d ?_ _)⟩
  · have hd : ((n : Int) != (m : Int)) = true := by simp; omega
    have HE : Hid (decide (xs = ys) = false) := by
      show decide (xs = ys) = false
      rw [decide_eq_false_iff_not]
      intro h
      exact hnm (by rw [← HX.out.1, ← HY.out.1, h])
    go_enter Tryz.func194, Tryz.ntmps194
    go_wp2
    go_ret
    exact ⟨ret_bool HE.out.symm, Below.refl _ _⟩

def sameF (a b : Int × List Int) : Bool := decide (a = b)

set_option maxRecDepth 100000 in
set_option maxHeartbeats 1000000 in
theorem same_any (a : Int) (A : Option Addr) (n c : Nat) (xs : List Int) (b : Int) (A' : Option Addr) (m c' : Nat) (ys : List Int) (B : Nat) (w : World) (hB : B ≤ w.heap.size) (hx : IntsAt w B A n xs) (hy : IntsAt w B A' m ys) (hn : n ≤ 1073741824) :
    Calls Tryz.prog 177 #[.agg #[.int .i64 a, .slice A n c], .agg #[.int .i64 b, .slice A' m c']] w fun e w' => e = .returned (.bool (sameF (a, xs) (b, ys))) ∧ Below w.heap.size w w' := by
  have HX := Lib.hid hx
  have HY := Lib.hid hy
  clear hx hy
  by_cases h : a = b
  · have h' : (a == b) = true := by simp [h]
    have HF : Hid (sameF (a, xs) (b, ys) = decide (xs = ys)) := by show sameF (a, xs) (b, ys) = _; unfold sameF; simp [h]
    clear h
    go_enter Tryz.func177, Tryz.ntmps177
    go_wp2_with fail
    refine (equal_any A n c xs A' m c' ys B _ (HX.out.keep (((Below.refl _ _).alloc hB _).alloc (by simp; omega) _)) (HY.out.keep (((Below.refl _ _).alloc hB _).alloc (by simp; omega) _)) hn).mono ?_
    rintro e w1 ⟨rfl, hb1⟩
    have HB1 : Hid (Below w.heap.size w w1) := (((Below.refl _ _).alloc (Nat.le_refl _) _).alloc (by simp) _).trans (hb1.mono (by simp; omega))
    clear hb1
    go_wp2
    go_ret
    exact ⟨ret_bool HF.out.symm, HB1.out⟩
  · have h' : (a == b) = false := by simpa using h
    have HF : Hid (sameF (a, xs) (b, ys) = false) := by show sameF (a, xs) (b, ys) = _; unfold sameF; simp [h]
    clear h
    go_enter Tryz.func177, Tryz.ntmps177
    go_wp2
    go_ret
    exact ⟨ret_bool HF.out.symm, ((Below.refl _ _).alloc (Nat.le_refl _) _).alloc (by simp) _⟩
end Go.Proofs.YtbookbgfipbaoaaGreatDoor.Sp

/- span.Within; the document's Same. -/
namespace Go.Proofs.YtbookbgfipbaoaaGreatDoor.Sp
open Go.RowKit

end Go.Proofs.YtbookbgfipbaoaaGreatDoor.Sp

/- The document's Add. -/
namespace Go.Proofs.YtbookbgfipbaoaaGreatDoor.Sp
open Go.RowKit

end Go.Proofs.YtbookbgfipbaoaaGreatDoor.Sp

/- The document's Fix: a Span that may be, out of any numbers. -/
namespace Go.Proofs.YtbookbgfipbaoaaGreatDoor.Sp
open Go.RowKit

end Go.Proofs.YtbookbgfipbaoaaGreatDoor.Sp

/- The calls' answers said in one form, for the laws: a Span that reads so in the world at hand; the calls turn nothing that was there. And what Fix makes. -/
namespace Go.Proofs.YtbookbgfipbaoaaGreatDoor.Sp
open Go.RowKit

section
variable {W : World} {A A' : Option Addr} {c c' : Nat} {s t : Int × List Int}
end

end Go.Proofs.YtbookbgfipbaoaaGreatDoor.Sp

/- Rows of a Know: how they lie. -/
namespace Go.Proofs.YtbookbgfipbaoaaGreatDoor.Kn
open Go.RowKit

/-- A Row: its id, its Upto, and where its Extra lies. -/
structure Hd where
  id : ByteArray
  u : Int
  A : Option Addr
  c : Nat
  v : List Int
def cellsH (r : Hd) : List Value := [.string r.id, .int .i64 r.u, .slice r.A r.v.length r.c]
def zeroH : Value := .agg #[.string ⟨#[]⟩, .int .i64 0, .slice none 0 0]
theorem cellsH_one : ∀ x, ∀ u ∈ cellsH x, u.oneCell' = true := by
  intro x u hu
  simp only [cellsH, List.mem_cons, List.not_mem_nil, or_false] at hu
  rcases hu with rfl | rfl | rfl <;> rfl
theorem rowM : RowTy cellsH 3 48 zeroH 35 100 := ⟨Tryz.underlying35, by kernel_rfl, rfl, by omega, by omega, fun _ => rfl, cellsH_one⟩
/-- What a Know says: of each id its Vec. -/
abbrev Mat := List (ByteArray × (Int × List Int))
def absH (rs : List Hd) : Mat := rs.map fun r => (r.id, (r.u, r.v))
theorem absH_len (rs : List Hd) : (absH rs).length = rs.length := by simp [absH]
theorem absH_append (rs ss : List Hd) : absH (rs ++ ss) = absH rs ++ absH ss := by simp [absH]
/-- The Row's Extra is there. -/
structure Fine (w : World) (B : Nat) (r : Hd) : Prop where
  vec : Sp.IntsAt w B r.A r.v.length r.v
  cap : r.v.length ≤ r.c
theorem Fine.keep {w w' : World} {B : Nat} {r : Hd} (h : Fine w B r) (hb : Below B w w') : Fine w' B r := ⟨h.vec.keep hb, h.cap⟩
theorem Fine.more {w : World} {B B' : Nat} {r : Hd} (h : Fine w B r) (hB : B ≤ B') : Fine w B' r := ⟨h.vec.more hB, h.cap⟩
/-- The slice holds the Know m, in blocks below B. -/
def MatAt (w : World) (B : Nat) (A : Option Addr) (n : Nat) (m : Mat) : Prop := ∃ rs, absH rs = m ∧ RowAt cellsH 3 w B A n rs ∧ ∀ r ∈ rs, Fine w B r
theorem MatAt.len {w : World} {B : Nat} {A : Option Addr} {n : Nat} {m : Mat} (h : MatAt w B A n m) : m.length = n := by
  obtain ⟨rs, rfl, hr, _⟩ := h
  rw [absH_len]; exact hr.1
theorem MatAt.nil (w : World) (B : Nat) (A : Option Addr) : MatAt w B A 0 [] := ⟨[], rfl, RowAt.nil, by simp⟩
theorem MatAt.keep {w w' : World} {B : Nat} {A : Option Addr} {n : Nat} {m : Mat} (h : MatAt w B A n m) (hb : Below B w w') : MatAt w' B A n m := by
  obtain ⟨rs, e, hr, hf⟩ := h
  exact ⟨rs, e, hr.keep hb, fun r hx => (hf r hx).keep hb⟩
theorem MatAt.more {w : World} {B B' : Nat} {A : Option Addr} {n : Nat} {m : Mat} (h : MatAt w B A n m) (hB : B ≤ B') : MatAt w B' A n m := by
  obtain ⟨rs, e, hr, hf⟩ := h
  exact ⟨rs, e, hr.more hB, fun r hx => (hf r hx).more hB⟩
/-- One of its Rows. -/
theorem MatAt.get {w wr : World} {B : Nat} {A : Option Addr} {n : Nat} {m : Mat} (h : MatAt w B A n m) (hb : Below B w wr) {k : Nat} (hk : k < n) :
    ∃ blk off r, A = some ⟨blk, off, none⟩ ∧ blk < B ∧ m[k]? = some (r.id, (r.u, r.v)) ∧ wr.cell? ⟨blk, off + k * 3, none⟩ = some (.string r.id) ∧ wr.cell? ⟨blk, off + k * 3 + 1, none⟩ = some (.int .i64 r.u) ∧ wr.cell? ⟨blk, off + k * 3 + 2, none⟩ = some (.slice r.A r.v.length r.c) ∧ Fine wr B r := by
  obtain ⟨rs, rfl, hr, hf⟩ := h
  obtain ⟨b, off, e, hlt, z, hz, hc⟩ := (hr.keep hb).get hk
  refine ⟨b, off, z, e, hlt, ?_, hc 0 _ rfl, hc 1 _ rfl, hc 2 _ rfl, (hf z (List.mem_of_getElem? hz)).keep hb⟩
  simp [absH, hz]
/-- The Row's Extra lies not in that block. -/
def Apart (r : Hd) (g : Option Nat) : Prop := 0 < r.v.length → ∀ ad, r.A = some ad → g ≠ some ad.block
/-- Rows of the call's own. -/
structure OwnsH (w : World) (B : Nat) (e : TypeId) (A : Option Addr) (n c : Nat) (rs : List Hd) : Prop where
  own : w.ownsRow B e 3 (.slice A n c) n (rowCells cellsH rs)
  fine : ∀ r ∈ rs, Fine w w.heap.size r
  apart : ∀ r ∈ rs, Apart r (Value.ownBlock (.slice A n c))
theorem OwnsH.nil (w : World) (B : Nat) (e : TypeId) : OwnsH w B e none 0 0 [] := ⟨rown_nil _ _, by simp, by simp⟩
theorem OwnsH.below {w w' : World} {B : Nat} {e : TypeId} {A : Option Addr} {n c : Nat} {rs : List Hd} (h : OwnsH w B e A n c rs) (hb : Below w.heap.size w w') : OwnsH w' B e A n c rs :=
  ⟨rown_below h.own hb, fun r hr => ((h.fine r hr).keep hb).more hb.size, h.apart⟩
theorem ints_far {w w' : World} {B : Nat} {A : Option Addr} {n : Nat} {zs : List Int} (h : Sp.IntsAt w B A n zs) (hk : ∀ ad o, 0 < n → A = some ad → w'.cell? ⟨ad.block, o, none⟩ = w.cell? ⟨ad.block, o, none⟩) : Sp.IntsAt w' B A n zs :=
  ⟨h.1, fun hn => by
    obtain ⟨b, off, e, hlt, hc⟩ := h.2 hn
    have h2 := fun o => hk _ o hn e
    exact ⟨b, off, e, hlt, fun k hk' => (h2 _).trans (hc k hk')⟩⟩
/-- Under a change of one block alone a Row's Extra that lies in another one stays. -/
theorem Fine.grown {w w' : World} {r : Hd} {row : Option Nat} (h : Fine w w.heap.size r) (hg : w.grownBy w' row) (ha : Apart r row) : Fine w' w'.heap.size r :=
  ⟨(ints_far h.vec fun ad o hn e => by
      have hlt : ad.block < w.heap.size := by
        obtain ⟨b, off, e2, hlt, _⟩ := h.vec.2 hn
        rw [e] at e2; injection e2 with e2; subst e2; exact hlt
      exact World.cell?_of_block (a := ⟨ad.block, o, none⟩) (hg.block ad.block hlt (fun e3 => ha hn ad e e3.symm))).more hg.size, h.cap⟩
/-- One more Row behind. -/
theorem OwnsH.snoc {w w3 : World} {B : Nat} {e : TypeId} {A A3 : Option Addr} {n c c3 : Nat} {rs : List Hd} {r : Hd} (h : OwnsH w B e A n c rs) (hr : Fine w w.heap.size r) (ha : Apart r (Value.ownBlock (.slice A n c)))
    (hown : w3.ownsRow B e 3 (.slice A3 (n + 1) c3) (n + 1) (rowCells cellsH (rs ++ [r]))) (hg : w.grownBy w3 (Value.ownBlock (.slice A n c))) (hat : Value.ownBlock (.slice A3 (n + 1) c3) = Value.ownBlock (.slice A n c) ∨ Value.ownBlock (.slice A3 (n + 1) c3) = some w.heap.size) : OwnsH w3 B e A3 (n + 1) c3 (rs ++ [r]) := by
  have hall : ∀ x ∈ rs ++ [r], Fine w w.heap.size x ∧ Apart x (Value.ownBlock (.slice A n c)) := fun x hx => by
    rcases List.mem_append.mp hx with hx | hx
    · exact ⟨h.fine x hx, h.apart x hx⟩
    · simp at hx; subst hx; exact ⟨hr, ha⟩
  refine ⟨hown, fun x hx => (hall x hx).1.grown hg (hall x hx).2, fun x hx => ?_⟩
  rcases hat with e1 | e1
  · rw [e1]; exact (hall x hx).2
  · rw [e1]
    intro hn ad e2 e3
    obtain ⟨b, off, e4, hlt, _⟩ := (hall x hx).1.vec.2 hn
    rw [e2] at e4; injection e4 with e4; subst e4
    injection e3 with e3
    simp at e3 hlt
    omega
theorem takeM {m : Mat} {k : Nat} {x : ByteArray × (Int × List Int)} (h : m[k]? = some x) : m.take (k + 1) = m.take k ++ [x] := by
  rw [List.take_add_one, h]
  rfl
end Go.Proofs.YtbookbgfipbaoaaGreatDoor.Kn

/- know.clone; the law's To and From; know.push. -/
namespace Go.Proofs.YtbookbgfipbaoaaGreatDoor.Kn
open Go.RowKit

theorem below_via {B : Nat} {a w W w1 : World} (h : Below B a w) (hb : Below W.heap.size W w1) (hB : B ≤ w.heap.size) (hs : W.os = w.os ∧ W.tape = w.tape ∧ W.output = w.output ∧ W.heap = w.heap) : Below B a w1 := by
  obtain ⟨h1, h2, h3, h4⟩ := hs
  exact ⟨hb.os.trans (h1.trans h.os), hb.tape.trans (h2.trans h.tape), hb.output.trans (h3.trans h.output), Nat.le_trans h.size (by rw [← h4]; exact hb.size), fun k hk => (hb.block k (by rw [h4]; omega)).trans (by rw [h4]; exact h.block k hk)⟩
/-- A Span of the call's own is answered. -/
def OwnS (s : Int × List Int) (w : World) (e : Ending) (w' : World) : Prop :=
  ∃ A c, e = .returned (.agg #[.int .i64 s.1, .slice A s.2.length c]) ∧ s.2.length ≤ c ∧ w'.ownsRow w.heap.size 3 1 (.slice A s.2.length c) s.2.length (s.2.map (.int .i64)) ∧ Below w.heap.size w w'
theorem ownS_of {s : Int × List Int} {w w' : World} {e : Ending} (h : Sp.OwnSpan w.heap.size none s w e w') : OwnS s w e w' := by
  obtain ⟨A, c, rfl, ho, hg, _⟩ := h
  exact ⟨A, c, rfl, rown_cap ho, ho, ⟨hg.os, hg.tape, hg.output, hg.size, fun k hk => hg.block k hk (by simp)⟩⟩
theorem toS_any (u : Int) (A : Option Addr) (n c : Nat) (zs : List Int) (B : Nat) (w : World) (hB : B ≤ w.heap.size) (hz : Sp.IntsAt w B A n zs) (hn : n ≤ 1073741824) :
    Calls Tryz.prog 99 #[.agg #[.int .i64 u, .slice A n c]] w (OwnS (u, zs) w) := (Sp.to_any u A n c zs B w hB hz hn).mono fun _ _ h => ownS_of h
theorem apart_new {w w1 : World} {B : Nat} {e e2 : TypeId} {d2 : Nat} {A : Option Addr} {n c : Nat} {rs : List Hd} {r : Hd} {xs : List Value} (h : OwnsH w B e A n c rs) (ho : w1.ownsRow w.heap.size e2 d2 (.slice r.A r.v.length r.c) r.v.length xs) : Apart r (Value.ownBlock (.slice A n c)) := fun _ ad e1 e2 => by
  have h1 := (h.own.lt ad.block e2).2
  have h2 := (ho.lt ad.block (by rw [e1]; rfl)).1
  omega
end Go.Proofs.YtbookbgfipbaoaaGreatDoor.Kn

/- know.pushAll, order and Union. -/
namespace Go.Proofs.YtbookbgfipbaoaaGreatDoor.Kn
open Go.RowKit

theorem drew_below (B : Nat) (w : World) : Below B w w.drew := ⟨rfl, rfl, rfl, Nat.le_refl _, fun _ _ => rfl⟩
end Go.Proofs.YtbookbgfipbaoaaGreatDoor.Kn

/- know.find, Of and Has. -/
namespace Go.Proofs.YtbookbgfipbaoaaGreatDoor.Kn
open Go.RowKit

/-- The ids. -/
def keyL (m : Mat) : List At := m.map fun x => (x.1, 0)
def RisingM (m : Mat) : Prop := Rising (keyL m)
theorem risingM_iff (m : Mat) : RisingM m ↔ m.Pairwise fun x y => cmpId x.1 y.1 < 0 := by
  unfold RisingM Rising keyL
  rw [List.pairwise_map]
end Go.Proofs.YtbookbgfipbaoaaGreatDoor.Kn

/- know.Drop, Same, Count and Extras. -/
namespace Go.Proofs.YtbookbgfipbaoaaGreatDoor.Kn
open Go.RowKit

/-- Do two Rows say the same? -/
def sameR (x y : ByteArray × (Int × List Int)) : Bool := decide (x = y)
set_option maxRecDepth 100000 in
set_option maxHeartbeats 2000000 in
theorem sameRow_any (i1 : ByteArray) (u1 : Int) (A1 : Option Addr) (c1 : Nat) (v1 : List Int) (i2 : ByteArray) (u2 : Int) (A2 : Option Addr) (c2 : Nat) (v2 : List Int) (w : World) (h1 : Sp.IntsAt w w.heap.size A1 v1.length v1) (h2 : Sp.IntsAt w w.heap.size A2 v2.length v2) (hl1 : v1.length ≤ 100000) :
    Calls Tryz.prog 135 #[.agg #[.string i1, .int .i64 u1, .slice A1 v1.length c1], .agg #[.string i2, .int .i64 u2, .slice A2 v2.length c2]] w fun e w' => e = .returned (.bool (sameR (i1, (u1, v1)) (i2, (u2, v2)))) ∧ Below w.heap.size w w' := by
  have hb : Below w.heap.size w ((w.alloc (.cells #[.string i1, .int .i64 u1, .slice A1 v1.length c1] 100)).alloc (.cells #[.string i2, .int .i64 u2, .slice A2 v2.length c2] 100)) := ((Below.refl _ _).alloc (Nat.le_refl _) _).alloc (by simp) _
  have HS := Lib.hid (Sp.same_any u1 A1 v1.length c1 v1 u2 A2 v2.length c2 v2 w.heap.size _ hb.size (h1.keep hb) (h2.keep hb) (by omega))
  have HB := Lib.hid hb
  clear h1 h2 hb
  by_cases he : i1 = i2
  · have HE : Hid (sameR (i1, (u1, v1)) (i2, (u2, v2)) = Sp.sameF (u1, v1) (u2, v2)) := by show _ = _; unfold sameR Sp.sameF; simp [he]
    have hq := beq_yes he
    rw [HE.out]
    generalize Sp.sameF (u1, v1) (u2, v2) = d at *
    clear he HE
    go_enter Tryz.func135, Tryz.ntmps135
    go_wp2_with fail
    refine HS.out.mono ?_
    rintro e w1 ⟨rfl, hd⟩
    have HB1 := Lib.hid (HB.out.trans (hd.mono HB.out.size))
    clear hd
    go_wp2
    go_ret
    exact ⟨rfl, HB1.out⟩
  · have HE : Hid (sameR (i1, (u1, v1)) (i2, (u2, v2)) = false) := by show _ = _; unfold sameR; simp [he]
    have hq := beq_no he
    rw [HE.out]
    clear he HE HS
    go_enter Tryz.func135, Tryz.ntmps135
    go_wp2
    go_ret
    exact ⟨rfl, HB.out⟩
def sameM (x y : Mat) : Bool := decide (x = y)
set_option maxRecDepth 100000 in
set_option maxHeartbeats 4000000 in
theorem equalM_any (A : Option Addr) (n c : Nat) (x : Mat) (A' : Option Addr) (n' c' : Nat) (y : Mat) (B : Nat) (w : World) (hB : B ≤ w.heap.size) (hx : MatAt w B A n x) (hy : MatAt w B A' n' y) (hn : n ≤ 1000000) (hvx : ∀ z ∈ x, z.2.2.length ≤ 100000) :
    Calls Tryz.prog 134 #[.slice A n c, .slice A' n' c', .func (.func 135) #[] #[]] w fun e w' => e = .returned (.bool (sameM x y)) ∧ Below w.heap.size w w' := by
  have HL := Lib.hid hx.len
  have HL' := Lib.hid hy.len
  have HX := Lib.hid hx
  have HY := Lib.hid hy
  have HVX := Lib.hid hvx
  clear hx hy hvx
  by_cases hnn : n = n'
  · subst hnn
    go_enter Tryz.func134, Tryz.ntmps134
    go_wp2
    go_loopw [17] (fun i wr => ∃ k : Nat, k ≤ n ∧ i = .int .i64 k ∧ Hid (x.take k = y.take k) ∧ Hid (Below w.heap.size w wr)) (fun i _ => n - (intOf i).toNat)
    case atStart => exact ⟨0, by omega, rfl, by show _ = _; simp, Below.refl _ _⟩
    case round =>
      obtain ⟨k, hk, rfl, HE, HB⟩ := hrel
      by_cases hlt : k < n
      · obtain ⟨b1, o1, r1, rfl, hb1, hm1, e0, e1, e2, f1⟩ := HX.out.get (HB.out.mono hB) hlt
        obtain ⟨b2, o2, r2, rfl, hb2, hm2, g0, g1, g2, f2⟩ := HY.out.get (HB.out.mono hB) hlt
        have hi1 : (k : Int) < (n : Int) := by omega
        have hl1 := HVX.out _ (List.mem_of_getElem? hm1)
        have hsz := HB.out.size
        have hbl2 : b2 < wr.heap.size := by omega
        have hbw : Below wr.heap.size wr ((wr.alloc (.cells #[.string r1.id, .int .i64 r1.u, .slice r1.A r1.v.length r1.c] 100)).alloc (.cells #[.string r2.id, .int .i64 r2.u, .slice r2.A r2.v.length r2.c] 100)) := ((Below.refl _ _).alloc (Nat.le_refl _) _).alloc (by simp) _
        have hBr := Nat.le_trans hB hsz
        have HS := Lib.hid (sameRow_any r1.id r1.u r1.A r1.c r1.v r2.id r2.u r2.A r2.c r2.v _ (((f1.vec.more hBr).keep hbw).more hbw.size) (((f2.vec.more hBr).keep hbw).more hbw.size) hl1)
        have HB1 := Lib.hid (HB.out.trans (hbw.mono hsz))
        obtain ⟨b, hb⟩ : ∃ b, sameR (r1.id, (r1.u, r1.v)) (r2.id, (r2.u, r2.v)) = b := ⟨_, rfl⟩
        have HTE : Hid (b = true → x.take (k + 1) = y.take (k + 1)) := fun h => by
          rw [h] at hb
          rw [takeM hm1, takeM hm2, HE.out, of_decide_eq_true hb]
        have HTF : Hid (b = false → sameM x y = false) := fun h => by
          rw [h] at hb
          unfold sameM
          rw [decide_eq_false_iff_not]
          intro e
          subst e
          rw [hm1] at hm2
          injection hm2 with hm2
          exact absurd hm2 (of_decide_eq_false hb)
        rw [hb] at HS
        obtain ⟨id1, u1, Ar1, cr1, v1⟩ := r1
        obtain ⟨id2, u2, Ar2, cr2, v2⟩ := r2
        simp only at e0 e1 e2 g0 g1 g2 hl1 HS HB1
        clear hb hm1 hm2 f1 f2 hbw
        cases b with
        | true =>
          have HN := Lib.hid (HTE.out rfl)
          clear HTE HTF
          go_wp2_with fail
          refine HS.out.mono ?_
          rintro e w1 ⟨rfl, hb⟩
          replace HB := Lib.hid (HB1.out.trans (hb.mono HB1.out.size))
          clear hb HS HB1 e0 e1 e2 g0 g1 g2
          go_wp2_with fail
          go_roundw
          case rel => exact ⟨k + 1, by omega, by go_num, HN, HB⟩
          case measure => simp [intOf]; omega
        | false =>
          have HN := Lib.hid (HTF.out rfl)
          clear HTE HTF
          go_wp2_with fail
          refine HS.out.mono ?_
          rintro e w1 ⟨rfl, hb⟩
          replace HB := Lib.hid (HB1.out.trans (hb.mono HB1.out.size))
          clear hb HS HB1 e0 e1 e2 g0 g1 g2
          go_wp2
          go_ret
          exact ⟨ret_bool HN.out.symm, HB.out⟩
      · have HT : Hid (sameM x y = true) := by
          have := HE.out
          rw [List.take_of_length_le (by have := HL.out; omega), List.take_of_length_le (by have := HL'.out; omega)] at this
          exact decide_eq_true this
        go_wp2
        go_ret
        exact ⟨ret_bool HT.out.symm, HB.out⟩
  · have HF : Hid (sameM x y = false) := by
      show _ = _
      unfold sameM
      rw [decide_eq_false_iff_not]
      intro e
      subst e
      exact hnn (HL.out.symm.trans HL'.out)
    have hnn' : ((n : Int) != n') = true := by simp; omega
    go_enter Tryz.func134, Tryz.ntmps134
    go_wp2
    go_ret
    exact ⟨ret_bool HF.out.symm, Below.refl _ _⟩
set_option maxRecDepth 100000 in
set_option maxHeartbeats 1000000 in
theorem sameM_any (A : Option Addr) (n c : Nat) (x : Mat) (A' : Option Addr) (n' c' : Nat) (y : Mat) (B : Nat) (w : World) (hB : B ≤ w.heap.size) (hx : MatAt w B A n x) (hy : MatAt w B A' n' y) (hn : n ≤ 1000000) (hvx : ∀ z ∈ x, z.2.2.length ≤ 100000) :
    Calls Tryz.prog 68 #[.slice A n c, .slice A' n' c'] w fun e w' => e = .returned (.bool (sameM x y)) ∧ Below w.heap.size w w' := by
  have HS := Lib.hid (equalM_any A n c x A' n' c' y B w hB hx hy hn hvx)
  generalize sameM x y = d at *
  clear hx hy hvx
  go_enter Tryz.func68, Tryz.ntmps68
  go_wp2_with fail
  refine HS.out.mono ?_
  rintro e w1 ⟨rfl, hb⟩
  have HB := Lib.hid hb
  clear hb HS
  go_wp2
  go_ret
  exact ⟨rfl, HB.out⟩

end Go.Proofs.YtbookbgfipbaoaaGreatDoor.Kn
