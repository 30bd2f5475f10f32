/- span.push and span.pushAll: a Span that is being made, whose Extra is a row of the call's own. -/
import Derived.Test.YtlalonchdfcjgaaSb
import Derived.Maps.AppendAt
import Derived.Deep.RegionLaw
import Derived.Deep.RegionHeld3
namespace Go.Proofs.Ytlalonchdfcjgaa
open Go.RowKit

def pushF (s : Int × List Int) (m : Int) : Int × List Int :=
  if m ≤ topOf s.1 s.2 then s else if m = s.1 + 1 then (m, s.2) else (s.1, s.2 ++ [m])

/-- Where a row lies behind a call: where it lay, or in a block that is new. -/
def Lies (v : Value) (row : Option Nat) (H : Nat) : Prop := v.ownBlock = row ∨ ∃ k, v.ownBlock = some k ∧ H ≤ k

/-- The answer is the Span s; its Extra lies in a row of the call's own, from block B on; nothing else that was there has turned. -/
def OwnSpan (B : Nat) (row : Option Nat) (s : Int × List Int) (w : World) (e : Ending) (w' : World) : Prop :=
  ∃ A c, e = .returned (.agg #[.int .i64 s.1, .slice A s.2.length c]) ∧ w'.ownsRow B 3 1 (.slice A s.2.length c) s.2.length (s.2.map (.int .i64)) ∧ w.grownBy w' row ∧ Lies (.slice A s.2.length c) row w.heap.size

theorem grown_of_below {w w' : World} (h : Below w.heap.size w w') (row : Option Nat) : w.grownBy w' row := ⟨h.os, h.tape, h.output, h.size, fun k hk _ => h.block k hk⟩
theorem grown_new_set {a w : World} {row : Option Nat} (h : a.grownBy w row) {p : Addr} (hp : a.heap.size ≤ p.block) (u : Value) : a.grownBy (w.setCell p u) row :=
  ⟨h.os, h.tape, h.output, by simpa [World.setCell] using h.size, fun k hk hne => (Below.heap_setCell w p u k (by omega)).trans (h.block k hk hne)⟩
theorem grown_step {a w w' : World} {row row' : Option Nat} (h : a.grownBy w row) (h' : w.grownBy w' row') (hr : row' = row ∨ ∃ k, row' = some k ∧ a.heap.size ≤ k) : a.grownBy w' row :=
  ⟨h'.os.trans h.os, h'.tape.trans h.tape, h'.output.trans h.output, Nat.le_trans h.size h'.size, fun k hk hne => (h'.block k (Nat.lt_of_lt_of_le hk h.size) (by
    rcases hr with rfl | ⟨j, rfl, hj⟩
    · exact hne
    · intro e; injection e with e; omega)).trans (h.block k hk hne)⟩

theorem own_form {w : World} {B : Nat} {v : Value} {n : Nat} {xs : List Value} (h : w.ownsRow B 3 1 v n xs) : ∃ A c, v = .slice A n c := by
  rcases h.2 with ⟨rfl, rfl⟩ | ⟨g, cap, _, rfl, _⟩
  · exact ⟨none, 0, rfl⟩
  · exact ⟨_, cap, rfl⟩

theorem own_ints {w : World} {B : Nat} {A : Option Addr} {n c : Nat} {zs : List Int} (h : w.ownsRow B 3 1 (.slice A n c) n (zs.map (.int .i64))) : IntsAt w w.heap.size A n zs := by
  have hl : zs.length = n := by have := h.1; simpa using this
  refine ⟨hl, fun hn => ?_⟩
  have hh := h
  rcases h.2 with ⟨_, rfl⟩ | ⟨g, cap, cur, e, hB, hg, hnc, _, hs, ht⟩
  · omega
  · injection e with e1 e2 e3
    subst e1 e3
    refine ⟨g, 0, rfl, (hh.lt g rfl).2, fun k hk => ?_⟩
    rw [Nat.zero_add]
    rw [hh.cellAt k (by omega), List.getElem?_map, List.getElem?_eq_getElem (show k < zs.length by omega)]
    simp [List.getD_eq_getElem?_getD, List.getElem?_eq_getElem (show k < zs.length by omega)]

theorem grown_cell {w w' : World} {row : Option Nat} (hg : w.grownBy w' row) {b : Nat} (o : Nat) (hb : b < w.heap.size) (hne : some b ≠ row) :
    w'.cell? ⟨b, o, none⟩ = w.cell? ⟨b, o, none⟩ ∧ w'.frozen? ⟨b, o, none⟩ = w.frozen? ⟨b, o, none⟩ :=
  ⟨World.cell?_of_block (a := ⟨b, o, none⟩) (hg.block b hb hne), World.frozen?_of_block (a := ⟨b, o, none⟩) (hg.block b hb hne)⟩

theorem own_below {w w' : World} {B : Nat} {v : Value} {n : Nat} {xs : List Value} (h : w.ownsRow B 3 1 v n xs) (hb : Below w.heap.size w w') : w'.ownsRow B 3 1 v n xs :=
  h.kept (row := none) ⟨hb.os, hb.tape, hb.output, hb.size, fun k hk _ => hb.block k hk⟩ (by cases v.ownBlock <;> simp)

theorem Try.info3 : (Try.prog.info? 3).map (fun i => (i.zero, i.size, i.bytes)) = some (some (.int .i64 0), 1, 8) := by kernel_rfl

theorem addr_add (b o j : Nat) : (⟨b, o, none⟩ : Addr).add j = ⟨b, o + j, none⟩ := by unfold Addr.add; split <;> simp_all

theorem ints_cell {w : World} {B : Nat} {ad : Addr} {m : Nat} {ys : List Int} (h : IntsAt w B (some ad) m ys) : ∀ j u, (ys.map (Value.int .i64))[j]? = some u → w.cell? (ad.add j) = some u := by
  intro j u hu
  rw [List.getElem?_map] at hu
  rcases Nat.lt_or_ge j ys.length with hj | hj
  · obtain ⟨b, off, e, _, hc⟩ := h.2 (by have := h.1; omega)
    injection e with e
    subst e
    have h1 := hc j (by have := h.1; omega)
    rw [List.getElem?_eq_getElem hj] at hu
    simp only [Option.map_some, Option.some.injEq] at hu
    subst hu
    rw [addr_add]
    simpa [List.getD_eq_getElem?_getD, List.getElem?_eq_getElem hj] using h1
  · rw [List.getElem?_eq_none hj] at hu
    simp at hu

theorem run_append_ints {ty : TypeId} {w : World} {B B' : Nat} {v : Value} {n : Nat} {zs : List Int} (hown : w.ownsRow B 3 1 v n (zs.map (.int .i64))) {A : Option Addr} {m : Nat} {ys : List Int} (c : Nat)
    (hr : IntsAt w B' A m ys) (hb : n + m ≤ 8796093022208) (hB : B ≤ w.heap.size) :
    ∃ v' w', (Builtin.append_ #[22, 22] ty #[v, .slice A m c]).run Try.prog w = .ok v' w' ∧ w'.ownsRow B 3 1 v' (n + m) ((zs ++ ys).map (.int .i64)) ∧ w.grownBy w' v.ownBlock ∧ (v'.ownBlock = v.ownBlock ∨ v'.ownBlock = some w.heap.size) := by
  obtain ⟨i, hi, hz0, hz1, hz2⟩ := info_parts Try.info3
  rcases A with _ | ad
  · have hm : m = 0 := by
      rcases Nat.eq_zero_or_pos m with h0 | h0
      · exact h0
      · obtain ⟨_, _, h, _⟩ := hr.2 h0
        cases h
    subst hm
    have hy : ys = [] := List.eq_nil_of_length_eq_zero hr.1
    subst hy
    refine ⟨v, w, ?_, by simpa using hown, World.grownBy.refl w _, .inl rfl⟩
    rcases hown.2 with ⟨rfl, rfl⟩ | ⟨g, cap, cur, rfl, _, _, hnc, _⟩
    · simp [Builtin.append_, run_underlying Try.underlying22, sizeOf, typeInfo, hi, Builtin.lenOf, Builtin.firstCells]
    · simp [Builtin.append_, run_underlying Try.underlying22, sizeOf, typeInfo, hi, Builtin.lenOf, Builtin.firstCells, hnc, storeCells]
  · obtain ⟨v', w', hrun, h2, h3, _, h5⟩ := run_append_own_at (P := Try.prog) w B 22 ty 3 i (.int .i64 0) 1 8 Try.underlying22 hi hz0 hz1 hz2 rfl (by decide) v n _ hown ad m c (ys.map (.int .i64)) (by simpa using hr.1) (ints_cell hr)
      (fun u hu => by simp only [List.mem_map] at hu; obtain ⟨_, _, rfl⟩ := hu; rfl) (by unfold maxLen; omega) (by omega) hB
    exact ⟨v', w', hrun, by simpa using h2, h3, h5⟩

theorem wp_append_ints {o : Oper} {a : Act} {K : Act → World → Prop} {Q : Exit → Act → World → Prop} (s x : Operand) (ho : o.op = .call { callee := .builtin .append, args := #[s, x], argTypes := #[22, 22] })
    {w : World} {B B' : Nat} {v : Value} {n : Nat} {zs : List Int} (hs : a.eval s = v) (hown : w.ownsRow B 3 1 v n (zs.map (.int .i64))) {A : Option Addr} {m : Nat} {ys : List Int} {c : Nat} (hx : a.eval x = .slice A m c)
    (hr : IntsAt w B' A m ys) (hb : n + m ≤ 8796093022208) (hB : B ≤ w.heap.size)
    (h : ∀ A' c' w', w'.ownsRow B 3 1 (.slice A' (n + m) c') (n + m) ((zs ++ ys).map (.int .i64)) → w.grownBy w' v.ownBlock → (Value.ownBlock (.slice A' (n + m) c') = v.ownBlock ∨ Value.ownBlock (.slice A' (n + m) c') = some w.heap.size) → K (a.put o.dst (.slice A' (n + m) c')) w') : o.wp Try.prog a w K Q := by
  obtain ⟨v', w', hrun, h2, h3, h4⟩ := run_append_ints (ty := o.type) hown c hr hb hB
  obtain ⟨A', c', rfl⟩ := own_form h2
  unfold Oper.wp execOp
  simp only [ho, resolve, invoke, builtin, Sem.run_bind, Sem.run_pure, Result.andThen_ok, List.map_toArray, List.map_cons, List.map_nil, hs, hx, hrun]
  exact h A' c' w' h2 h3 h4

theorem wpList_append_ints {ops : Array Oper} {rest : List Oper} {o : Oper} {a : Act} {Q : Exit → Act → World → Prop} (hgd : o.guard = none) (s x : Operand) (ho : o.op = .call { callee := .builtin .append, args := #[s, x], argTypes := #[22, 22] })
    {w : World} {B B' : Nat} {v : Value} {n : Nat} {zs : List Int} (hs : a.eval s = v) (hown : w.ownsRow B 3 1 v n (zs.map (.int .i64))) {A : Option Addr} {m : Nat} {ys : List Int} {c : Nat} (hx : a.eval x = .slice A m c)
    (hr : IntsAt w B' A m ys) (hb : n + m ≤ 8796093022208) (hB : B ≤ w.heap.size)
    (h : ∀ A' c' w', w'.ownsRow B 3 1 (.slice A' (n + m) c') (n + m) ((zs ++ ys).map (.int .i64)) → w.grownBy w' v.ownBlock → (Value.ownBlock (.slice A' (n + m) c') = v.ownBlock ∨ Value.ownBlock (.slice A' (n + m) c') = some w.heap.size) → wpList Try.prog ops Q rest (a.put o.dst (.slice A' (n + m) c')) w') :
    wpList Try.prog ops Q (o :: rest) a w :=
  wpList_plain hgd fun _ hK => wp_append_ints s x ho hs hown hx hr hb hB fun A' c' w' h2 h3 h4 => hK _ _ (h A' c' w' h2 h3 h4)

theorem step_append_ints {ops : Array Oper} {o : Oper} {a : Act} {K : Act → World → Prop} {Q : Exit → Act → World → Prop} {E : Prop} (hgd : o.guard = none) (s x : Operand) (ho : o.op = .call { callee := .builtin .append, args := #[s, x], argTypes := #[22, 22] })
    {w : World} {B B' : Nat} {v : Value} {n : Nat} {zs : List Int} (hs : a.eval s = v) (hown : w.ownsRow B 3 1 v n (zs.map (.int .i64))) {A : Option Addr} {m : Nat} {ys : List Int} {c : Nat} (hx : a.eval x = .slice A m c)
    (hr : IntsAt w B' A m ys) (hb : n + m ≤ 8796093022208) (hB : B ≤ w.heap.size)
    (h : ∀ A' c' w', w'.ownsRow B 3 1 (.slice A' (n + m) c') (n + m) ((zs ++ ys).map (.int .i64)) → w.grownBy w' v.ownBlock → (Value.ownBlock (.slice A' (n + m) c') = v.ownBlock ∨ Value.ownBlock (.slice A' (n + m) c') = some w.heap.size) → K (a.put o.dst (.slice A' (n + m) c')) w') :
    if Region.wanted o (yielded ops a.tmps) = true then Oper.wp Try.prog o a w K Q else E := by
  have hw : Region.wanted o (yielded ops a.tmps) = true := by simp [Region.wanted, hgd]
  rw [if_pos hw]
  exact wp_append_ints s x ho hs hown hx hr hb hB h

theorem one_int (w : World) (m : Int) : IntsAt (w.alloc (.cells #[.int .i64 m] 3)) (w.heap.size + 1) (some ⟨w.heap.size, 0, none⟩) 1 [m] :=
  ⟨rfl, fun _ => ⟨_, _, rfl, by omega, fun k hk => by
    have : k = 0 := by omega
    subst this
    simp [go_sem]⟩⟩

theorem own_setCell {w : World} {B : Nat} {v : Value} {n : Nat} {xs : List Value} (h : w.ownsRow B 3 1 v n xs) {p : Addr} (hp : v.ownBlock ≠ some p.block) (u : Value) : (w.setCell p u).ownsRow B 3 1 v n xs :=
  h.kept (row := some p.block) ⟨rfl, rfl, rfl, by simp [World.setCell], fun k _ hk => Below.heap_setCell w p u k (fun e => hk (by rw [e]))⟩ (.inr hp)

theorem below_cells {W w1 : World} (hb : Below W.heap.size W w1) : (∀ b o, b < W.heap.size → w1.cell? ⟨b, o, none⟩ = W.cell? ⟨b, o, none⟩) ∧ (∀ b o, b < W.heap.size → w1.frozen? ⟨b, o, none⟩ = W.frozen? ⟨b, o, none⟩) :=
  ⟨fun b o h => hb.cell (p := ⟨b, o, none⟩) h, fun b o h => hb.frozen (p := ⟨b, o, none⟩) h⟩

theorem grown_new {w1 w3 : World} {o : Obj} {row : Option Nat} (hg : (w1.alloc o).grownBy w3 row) {b : Nat} (hb : b < w1.heap.size) (hne : some b ≠ row) :
    (∀ k, w3.cell? ⟨b, k, none⟩ = w1.cell? ⟨b, k, none⟩) ∧ ∀ k, w3.frozen? ⟨b, k, none⟩ = w1.frozen? ⟨b, k, none⟩ := by
  have h := (hg.block b (by simp; omega) hne).trans (Below.heap_alloc w1 o b hb)
  exact ⟨fun k => World.cell?_of_block (a := ⟨b, k, none⟩) h, fun k => World.frozen?_of_block (a := ⟨b, k, none⟩) h⟩

theorem ownSpan_of {B : Nat} {row : Option Nat} {w w' : World} {A : Option Addr} {n c : Nat} {u : Int} {zs : List Int} {s : Int × List Int} (hs : s = (u, zs)) (hl : zs.length = n)
    (hown : w'.ownsRow B 3 1 (.slice A n c) n (zs.map (.int .i64))) (hg : w.grownBy w' row) (hlie : Lies (.slice A n c) row w.heap.size) : OwnSpan B row s w (.returned (.agg #[.int .i64 u, .slice A n c])) w' := by
  subst hs
  subst hl
  exact ⟨A, c, rfl, hown, hg, hlie⟩

set_option maxHeartbeats 1000000 in
theorem push_any (u : Int) (A : Option Addr) (n c : Nat) (zs : List Int) (m : Int) (B : Nat) (w : World) (hB : B ≤ w.heap.size) (hown : w.ownsRow B 3 1 (.slice A n c) n (zs.map (.int .i64)))
    (h0 : 0 ≤ u) (h1 : u ≤ 1099511627776) (hn : n ≤ 1099511627776) :
    Calls Try.prog 33 #[.agg #[.int .i64 u, .slice A n c], .int .i64 m] w (OwnSpan B (Value.ownBlock (.slice A n c)) (pushF (u, zs) m) w) := by
  obtain ⟨i0, hi, hz0, hz1, hz2⟩ := info_parts Try.info3
  have hl : zs.length = n := by have := hown.1; simpa using this
  have HO := Lib.hid hown
  have HL := Lib.hid hl
  clear hown hl
  by_cases ht : m ≤ topOf u zs
  · have HF : Hid (pushF (u, zs) m = (u, zs)) := if_pos ht
    go_enter Try.func33, Try.ntmps33
    go_wp2_with fail
    refine (top_any u A n c zs w.heap.size _ (by simp; omega) ((own_ints HO.out).keep (((Below.refl _ _).alloc (Nat.le_refl _) _).alloc (by simp) _)) hn).mono ?_
    rintro e w1 ⟨rfl, hb⟩
    have HB : Hid (Below w.heap.size w w1) := (((Below.refl _ _).alloc (Nat.le_refl _) _).alloc (by simp) _).trans (hb.mono (by simp; omega))
    obtain ⟨hc, hf⟩ := below_cells hb
    have hz : w.heap.size + 1 < w1.heap.size := by have := hb.size; simp at this; omega
    clear hb
    have k00 : w1.cell? ⟨w.heap.size, 0, none⟩ = some (.int .i64 u) := (hc _ _ (by simp; omega)).trans (by simp [go_sem])
    have k01 : w1.cell? ⟨w.heap.size, 1, none⟩ = some (.slice A n c) := (hc _ _ (by simp; omega)).trans (by simp [go_sem])
    have k10 : w1.cell? ⟨w.heap.size + 1, 0, none⟩ = some (.int .i64 0) := (hc _ _ (by simp)).trans (by simp [go_sem])
    have k11 : w1.cell? ⟨w.heap.size + 1, 1, none⟩ = some (.slice none 0 0) := (hc _ _ (by simp)).trans (by simp [go_sem])
    have f00 : w1.frozen? ⟨w.heap.size, 0, none⟩ = false := (hf _ _ (by simp; omega)).trans (by simp [go_sem])
    have f01 : w1.frozen? ⟨w.heap.size, 1, none⟩ = false := (hf _ _ (by simp; omega)).trans (by simp [go_sem])
    have f10 : w1.frozen? ⟨w.heap.size + 1, 0, none⟩ = false := (hf _ _ (by simp)).trans (by simp [go_sem])
    have f11 : w1.frozen? ⟨w.heap.size + 1, 1, none⟩ = false := (hf _ _ (by simp)).trans (by simp [go_sem])
    clear hc hf
    go_wp2
    refine bodyPost_ret (v := .agg #[.int .i64 u, .slice A n c]) ?_ rfl ?_
    · simp [results, Try.results33, go_sem, k10, k11]
    · have hB2 := (HB.out.setCell (p := ⟨w.heap.size + 1, 0, none⟩) (by simp) (.int .i64 u)).setCell (p := ⟨w.heap.size + 1, 1, none⟩) (by simp) (.slice A n c)
      exact ownSpan_of HF.out HL.out (own_below HO.out hB2) (grown_of_below hB2 _) (.inl rfl)
  · by_cases he : m = u + 1
    · have HF : Hid (pushF (u, zs) m = (m, zs)) := by show pushF (u, zs) m = _; unfold pushF; rw [if_neg ht, if_pos he]
      have he' : (m == u + 1) = true := by simp [he]
      have HE := Lib.hid he
      clear he
      go_enter Try.func33, Try.ntmps33
      go_wp2_with fail
      refine (top_any u A n c zs w.heap.size _ (by simp; omega) ((own_ints HO.out).keep (((Below.refl _ _).alloc (Nat.le_refl _) _).alloc (by simp) _)) hn).mono ?_
      rintro e w1 ⟨rfl, hb⟩
      have HB : Hid (Below w.heap.size w w1) := (((Below.refl _ _).alloc (Nat.le_refl _) _).alloc (by simp) _).trans (hb.mono (by simp; omega))
      obtain ⟨hc, hf⟩ := below_cells hb
      have hz : w.heap.size + 1 < w1.heap.size := by have := hb.size; simp at this; omega
      clear hb
      have k00 : w1.cell? ⟨w.heap.size, 0, none⟩ = some (.int .i64 u) := (hc _ _ (by simp; omega)).trans (by simp [go_sem])
      have k01 : w1.cell? ⟨w.heap.size, 1, none⟩ = some (.slice A n c) := (hc _ _ (by simp; omega)).trans (by simp [go_sem])
      have k10 : w1.cell? ⟨w.heap.size + 1, 0, none⟩ = some (.int .i64 0) := (hc _ _ (by simp)).trans (by simp [go_sem])
      have k11 : w1.cell? ⟨w.heap.size + 1, 1, none⟩ = some (.slice none 0 0) := (hc _ _ (by simp)).trans (by simp [go_sem])
      have f00 : w1.frozen? ⟨w.heap.size, 0, none⟩ = false := (hf _ _ (by simp; omega)).trans (by simp [go_sem])
      have f01 : w1.frozen? ⟨w.heap.size, 1, none⟩ = false := (hf _ _ (by simp; omega)).trans (by simp [go_sem])
      have f10 : w1.frozen? ⟨w.heap.size + 1, 0, none⟩ = false := (hf _ _ (by simp)).trans (by simp [go_sem])
      have f11 : w1.frozen? ⟨w.heap.size + 1, 1, none⟩ = false := (hf _ _ (by simp)).trans (by simp [go_sem])
      clear hc hf
      go_wp2
      refine bodyPost_ret (v := .agg #[.int .i64 m, .slice A n c]) ?_ rfl ?_
      · simp [results, Try.results33, go_sem, k10, k11]
      · have hB2 := ((HB.out.setCell (p := ⟨w.heap.size, 0, none⟩) (by simp) (.int .i64 m)).setCell (p := ⟨w.heap.size + 1, 0, none⟩) (by simp) (.int .i64 m)).setCell (p := ⟨w.heap.size + 1, 1, none⟩) (by simp) (.slice A n c)
        exact ownSpan_of HF.out HL.out (own_below HO.out hB2) (grown_of_below hB2 _) (.inl rfl)
    · have HF : Hid (pushF (u, zs) m = (u, zs ++ [m])) := by show pushF (u, zs) m = _; unfold pushF; rw [if_neg ht, if_neg he]
      have he' : (m == u + 1) = false := by simpa using he
      have HE := Lib.hid he
      clear he
      go_enter Try.func33, Try.ntmps33
      go_wp2_with fail
      refine (top_any u A n c zs w.heap.size _ (by simp; omega) ((own_ints HO.out).keep (((Below.refl _ _).alloc (Nat.le_refl _) _).alloc (by simp) _)) hn).mono ?_
      rintro e w1 ⟨rfl, hb⟩
      have HB : Hid (Below w.heap.size w w1) := (((Below.refl _ _).alloc (Nat.le_refl _) _).alloc (by simp) _).trans (hb.mono (by simp; omega))
      obtain ⟨hc, hf⟩ := below_cells hb
      have hz : w.heap.size + 1 < w1.heap.size := by have := hb.size; simp at this; omega
      clear hb
      have k00 : w1.cell? ⟨w.heap.size, 0, none⟩ = some (.int .i64 u) := (hc _ _ (by simp; omega)).trans (by simp [go_sem])
      have k01 : w1.cell? ⟨w.heap.size, 1, none⟩ = some (.slice A n c) := (hc _ _ (by simp; omega)).trans (by simp [go_sem])
      have k10 : w1.cell? ⟨w.heap.size + 1, 0, none⟩ = some (.int .i64 0) := (hc _ _ (by simp)).trans (by simp [go_sem])
      have k11 : w1.cell? ⟨w.heap.size + 1, 1, none⟩ = some (.slice none 0 0) := (hc _ _ (by simp)).trans (by simp [go_sem])
      have f00 : w1.frozen? ⟨w.heap.size, 0, none⟩ = false := (hf _ _ (by simp; omega)).trans (by simp [go_sem])
      have f01 : w1.frozen? ⟨w.heap.size, 1, none⟩ = false := (hf _ _ (by simp; omega)).trans (by simp [go_sem])
      have f10 : w1.frozen? ⟨w.heap.size + 1, 0, none⟩ = false := (hf _ _ (by simp)).trans (by simp [go_sem])
      have f11 : w1.frozen? ⟨w.heap.size + 1, 1, none⟩ = false := (hf _ _ (by simp)).trans (by simp [go_sem])
      clear hc hf
      go_wp2_with (at_builtin; refine wpList_append_ints (B := B) rfl _ _ rfl rfl ((own_below HO.out HB.out).alloc _) rfl (one_int w1 m) (by omega) (by simp; omega) ?_; intro A3 c3 w3 hown3 hg3 hlie3; have HO3 := Lib.hid hown3; have HG3 := Lib.hid hg3; have HLI := Lib.hid hlie3; clear hlie3; have hne3 : ∀ k, w.heap.size ≤ k → some k ≠ Value.ownBlock (.slice A n c) := (fun k hk ek => by have := (HO.out.lt k ek.symm).2; omega); obtain ⟨c0, f0⟩ := grown_new hg3 (b := w.heap.size) (by omega) (hne3 _ (Nat.le_refl _)); obtain ⟨c1, f1⟩ := grown_new hg3 (b := w.heap.size + 1) (by omega) (hne3 _ (by omega)); have q00 := (c0 0).trans k00; have q01 := (c0 1).trans k01; have q10 := (c1 0).trans k10; have q11 := (c1 1).trans k11; have r01 := (f0 1).trans f01; have r10 := (f1 0).trans f10; have r11 := (f1 1).trans f11; clear c0 c1 f0 f1 k00 k01 k10 k11 f00 f01 f10 f11; clear hown3 hg3 hne3)
      refine bodyPost_ret (v := .agg #[.int .i64 u, .slice A3 (n + 1) c3]) ?_ rfl ?_
      · simp [results, Try.results33, go_sem, q10, q11]
      · have hne : ∀ k, w.heap.size ≤ k → k < w1.heap.size → Value.ownBlock (.slice A3 (n + 1) c3) ≠ some k := by
          intro k hk hk2 e
          rcases HLI.out with h | h
          · have := (HO.out.lt k (h.symm.trans e)).2; omega
          · rw [h] at e
            injection e with e
            simp at e
            omega
        have hG2 : w.grownBy w3 (Value.ownBlock (.slice A n c)) := grown_step (grown_of_below (HB.out.alloc (by have := HB.out.size; omega) _) _) HG3.out (.inl rfl)
        have hO2 := own_setCell (own_setCell (own_setCell HO3.out (p := ⟨w.heap.size, 1, none⟩) (hne w.heap.size (Nat.le_refl _) (by omega)) (.slice A3 (n + 1) c3)) (p := ⟨w.heap.size + 1, 0, none⟩) (hne (w.heap.size + 1) (by omega) (by omega)) (.int .i64 u)) (p := ⟨w.heap.size + 1, 1, none⟩) (hne (w.heap.size + 1) (by omega) (by omega)) (.slice A3 (n + 1) c3)
        refine ownSpan_of HF.out (by simp [HL.out]) hO2 (grown_new_set (grown_new_set (grown_new_set hG2 (by simp) _) (by simp) _) (by simp) _) ?_
        rcases HLI.out with h | h
        · exact .inl h
        · exact .inr ⟨_, h, by simp; omega⟩
end Go.Proofs.Ytlalonchdfcjgaa
