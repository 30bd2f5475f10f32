/- SpanUnions: its second statement, whatever the order. -/
import Derived.Test.YtgkheoaajpialaaSv
namespace Go.Proofs.Ytgkheoaajpialaa
open Go.RowKit

theorem unions_facts {sa sb r : Int × List Int} (ha : Small sa) (hb : Small sb) (hr : unionF sa sb = r) : Small r ∧ unionF sb sa = r ∧ refUnionF sa sb = r ∧ withinF sa r = true ∧ withinF sb r = true ∧ sameF r sb = withinF sa sb := by
  subst hr
  obtain ⟨a, b⟩ := union_small ha hb
  obtain ⟨c, d⟩ := union_small hb ha
  refine ⟨a, Ok.ext c.1 a.1 (fun x => (d x).trans (Or.comm.trans (b x).symm)), (union_eq ha hb).symm, (within_mem a.1).2 (fun x hx => (b x).2 (.inl hx)), (within_mem a.1).2 (fun x hx => (b x).2 (.inr hx)), ?_⟩
  rcases hw : withinF sa sb with _ | _
  · unfold sameF
    rw [decide_eq_false_iff_not]
    intro e
    have : withinF sa sb = true := (within_mem hb.1).2 (fun x hx => by rw [← e]; exact (b x).2 (.inl hx))
    rw [hw] at this
    cases this
  · refine same_true (Ok.ext a.1 hb.1 fun x => ?_)
    rw [b x]
    constructor
    · rintro (h | h)
      · exact (within_mem hb.1).1 hw x h
      · exact h
    · exact .inr

def OwnAny (w : World) (A : Option Addr) (c : Nat) (s : Int × List Int) : Prop := w.ownsRow 0 3 1 (.slice A s.2.length c) s.2.length (s.2.map (.int .i64))
theorem OwnAny.keep {W w1 : World} {A : Option Addr} {c : Nat} {s : Int × List Int} (h : OwnAny W A c s) (hb : Below W.heap.size W w1) : OwnAny w1 A c s := own_below h hb
theorem OwnAny.spanIn {W : World} {A : Option Addr} {c : Nat} {s : Int × List Int} (h : OwnAny W A c s) : SpanIn W A c s := ⟨own_ints h, own_cap h⟩
def Var (w : World) (G : Nat) (cs : Array Value) : Prop := w.heap[G]? = some (.cells cs 27 (0, 0))
theorem Var.lt {w : World} {G : Nat} {cs : Array Value} (h : Var w G cs) : G < w.heap.size := by
  rcases Nat.lt_or_ge G w.heap.size with h1 | h1
  · exact h1
  · unfold Var at h; rw [Array.getElem?_eq_none h1] at h; cases h
theorem Var.keep {W w1 : World} {G : Nat} {cs : Array Value} (h : Var W G cs) (hb : Below W.heap.size W w1) : Var w1 G cs := (hb.block G h.lt).trans h
theorem Var.cell {w : World} {G : Nat} {cs : Array Value} (h : Var w G cs) (i : Nat) : w.cell? ⟨G, i, none⟩ = cs[i]? := cell_of_row w G i cs 27 (0, 0) h
theorem Var.frozen {w : World} {G : Nat} {cs : Array Value} (h : Var w G cs) (i : Nat) : w.frozen? ⟨G, i, none⟩ = false := by unfold Var at h; simp [World.frozen?, h]
theorem Var.ne {w : World} {G : Nat} {cs : Array Value} (h : Var w G cs) {A : Option Addr} {c : Nat} {s : Int × List Int} (ho : OwnAny w A c s) : Value.ownBlock (.slice A s.2.length c) ≠ some G := by
  intro e
  rcases ho.2 with ⟨h1, _⟩ | ⟨g, cap, cur, hv, _, hh, _⟩
  · rw [h1] at e; simp [Value.ownBlock] at e
  · rw [hv] at e
    simp only [Value.ownBlock, Option.some.injEq] at e
    subst e
    unfold Var at h
    rw [h] at hh
    injection hh with hh
    injection hh with _ ht
    cases ht
theorem Var.far {w : World} {G : Nat} {cs : Array Value} (h : Var w G cs) {p : Addr} (hp : G ≠ p.block) (u : Value) : Var (w.setCell p u) G cs := (Below.heap_setCell w p u G hp).trans h
theorem Var.set2 {w : World} {G : Nat} {x y : Value} (h : Var w G #[x, y]) (u v : Value) : Var ((w.setCell ⟨G, 0, none⟩ u).setCell ⟨G, 1, none⟩ v) G #[u, v] := by
  unfold Var at h ⊢
  simp [World.setCell, Array.getElem?_modify, h]
theorem At.far2 {w : World} {B G : Nat} {A : Option Addr} {c : Nat} {s : Int × List Int} (h : At w G A c s) (ho : OwnAny w A c s) {cs : Array Value} (hv : Var w B cs) (hne : G ≠ B) (u v : Value) : At ((w.setCell ⟨B, 0, none⟩ u).setCell ⟨B, 1, none⟩ v) G A c s := by
  have hn := hv.ne ho
  have ho2 := own_setCell (own_setCell ho (p := ⟨B, 0, none⟩) hn u) (p := ⟨B, 1, none⟩) hn v
  have hg : ∀ i j, (⟨B, i, none⟩ : Addr) ≠ ⟨G, j, none⟩ := fun i j e => by injection e with e; omega
  refine ⟨?_, ?_, by simpa [World.setCell] using h.2.2.1, own_ints ho2, own_cap ho2⟩
  · rw [World.cell?_setCell_other _ _ _ _ (hg _ _), World.cell?_setCell_other _ _ _ _ (hg _ _)]; exact h.1
  · rw [World.cell?_setCell_other _ _ _ _ (hg _ _), World.cell?_setCell_other _ _ _ _ (hg _ _)]; exact h.2.1
theorem OwnAny.far2 {w : World} {B : Nat} {A : Option Addr} {c : Nat} {s : Int × List Int} (ho : OwnAny w A c s) {cs : Array Value} (hv : Var w B cs) (u v : Value) : OwnAny ((w.setCell ⟨B, 0, none⟩ u).setCell ⟨B, 1, none⟩ v) A c s :=
  own_setCell (own_setCell ho (p := ⟨B, 0, none⟩) (hv.ne ho) u) (p := ⟨B, 1, none⟩) (hv.ne ho) v

abbrev spanV (s : Int × List Int) (A : Option Addr) (c : Nat) : Value := .agg #[.int .i64 s.1, .slice A s.2.length c]
abbrev zeroC : Array Value := #[.int .i64 0, .slice none 0 0]

/-- The two Spans that came in, where they lie; nothing else of old has turned. -/
def BaseU (w : World) (sa sb : Int × List Int) (A1 : Option Addr) (c1 : Nat) (A2 : Option Addr) (c2 : Nat) (w' : World) : Prop :=
  At w' w.heap.size A1 c1 sa ∧ At w' (w.heap.size + 1) A2 c2 sb ∧ OwnAny w' A1 c1 sa ∧ OwnAny w' A2 c2 sb ∧ Below w.heap.size w w'
theorem BaseU.keep {w : World} {sa sb : Int × List Int} {A1 : Option Addr} {c1 : Nat} {A2 : Option Addr} {c2 : Nat} {W w1 : World} (h : BaseU w sa sb A1 c1 A2 c2 W) (hb : Below W.heap.size W w1) : BaseU w sa sb A1 c1 A2 c2 w1 :=
  ⟨h.1.keep hb, h.2.1.keep hb, h.2.2.1.keep hb, h.2.2.2.1.keep hb, h.2.2.2.2.trans (hb.mono h.2.2.2.2.size)⟩
theorem BaseU.far2 {w : World} {sa sb : Int × List Int} {A1 : Option Addr} {c1 : Nat} {A2 : Option Addr} {c2 : Nat} {W : World} (h : BaseU w sa sb A1 c1 A2 c2 W) {B : Nat} {cs : Array Value} (hv : Var W B cs) (hB : w.heap.size + 2 ≤ B) (u v : Value) : BaseU w sa sb A1 c1 A2 c2 ((W.setCell ⟨B, 0, none⟩ u).setCell ⟨B, 1, none⟩ v) :=
  ⟨h.1.far2 h.2.2.1 hv (by omega) u v, h.2.1.far2 h.2.2.2.1 hv (by omega) u v, h.2.2.1.far2 hv u v, h.2.2.2.1.far2 hv u v, (h.2.2.2.2.setCell (by simp; omega) u).setCell (by simp; omega) v⟩

/-- A Span that was told anew; where its store has come up, its variable holds it. -/
def C1 (l l6 : Bool) (s14 s5 : Value) (s : Int × List Int) (w' : World) : Prop := l = true → ∃ A c, s14 = spanV s A c ∧ OwnAny w' A c s ∧ (l6 = true → ∃ G, s5 = .pointer (some ⟨G, 0, none⟩) ∧ Var w' G #[.int .i64 s.1, .slice A s.2.length c])
/-- A variable that was made; till its store it is empty. -/
def C4 (H : Nat) (l l6 : Bool) (s5 : Value) (w' : World) : Prop := l = true → ∃ G, s5 = .pointer (some ⟨G, 0, none⟩) ∧ H + 2 ≤ G ∧ G < w'.heap.size ∧ (l6 = false → Var w' G zeroC)
theorem C1.keep {l l6 : Bool} {s14 s5 : Value} {s : Int × List Int} {W w1 : World} (h : C1 l l6 s14 s5 s W) (hb : Below W.heap.size W w1) : C1 l l6 s14 s5 s w1 := fun hl => by
  obtain ⟨A, c, e, ho, h6⟩ := h hl
  exact ⟨A, c, e, ho.keep hb, fun h' => by obtain ⟨G, e, v⟩ := h6 h'; exact ⟨G, e, v.keep hb⟩⟩
theorem C4.keep {H : Nat} {l l6 : Bool} {s5 : Value} {W w1 : World} (h : C4 H l l6 s5 W) (hb : Below W.heap.size W w1) : C4 H l l6 s5 w1 := fun hl => by
  obtain ⟨G, e, h1, h2, h3⟩ := h hl
  exact ⟨G, e, h1, Nat.lt_of_lt_of_le h2 hb.size, fun h' => (h3 h').keep hb⟩
theorem C1.far2 {l l6 : Bool} {s14 s5 : Value} {s : Int × List Int} {W : World} (h : C1 l l6 s14 s5 s W) {B : Nat} {cs : Array Value} (hv : Var W B cs) (hne : s5 ≠ .pointer (some ⟨B, 0, none⟩)) (u v : Value) : C1 l l6 s14 s5 s ((W.setCell ⟨B, 0, none⟩ u).setCell ⟨B, 1, none⟩ v) := fun hl => by
  obtain ⟨A, c, e, ho, h6⟩ := h hl
  refine ⟨A, c, e, ho.far2 hv u v, fun h' => ?_⟩
  obtain ⟨G, e, v'⟩ := h6 h'
  have hg : G ≠ B := fun h => hne (by rw [e, h])
  exact ⟨G, e, (v'.far hg u).far hg v⟩
theorem C4.far2 {H : Nat} {l l6 : Bool} {s5 : Value} {W : World} (h : C4 H l l6 s5 W) {B : Nat} (hne : s5 ≠ .pointer (some ⟨B, 0, none⟩)) (u v : Value) : C4 H l l6 s5 ((W.setCell ⟨B, 0, none⟩ u).setCell ⟨B, 1, none⟩ v) := fun hl => by
  obtain ⟨G, e, h1, h2, h3⟩ := h hl
  have hg : G ≠ B := fun h => hne (by rw [e, h])
  exact ⟨G, e, h1, by simpa [World.setCell] using h2, fun h' => ((h3 h').far hg u).far hg v⟩

def InvU (w : World) (sa sb : Int × List Int) (A1 : Option Addr) (c1 : Nat) (A2 : Option Addr) (c2 : Nat) (a : Act) (listed : Array Bool) (a' : Act) (w' : World) : Prop :=
  ∃ (l0 l1 l2 l3 l4 l5 l6 l7 : Bool) (s5 s6 s13 s14 s15 s16 : Value), listed = #[l0, l1, l2, l3, l4, l5, l6, l7] ∧
    a' = { a with tmps := (((((a.tmps.setIfInBounds 5 s5).setIfInBounds 6 s6).setIfInBounds 13 s13).setIfInBounds 14 s14).setIfInBounds 15 s15).setIfInBounds 16 s16 } ∧ BaseU w sa sb A1 c1 A2 c2 w' ∧
    (l0 = true → s13 = spanV sa A1 c1) ∧ (l2 = true → s15 = spanV sb A2 c2) ∧ C1 l1 l6 s14 s5 sa w' ∧ C1 l3 l7 s16 s6 sb w' ∧ C4 w.heap.size l4 l6 s5 w' ∧ C4 w.heap.size l5 l7 s6 w' ∧
    (l4 = true → l5 = true → s5 ≠ s6) ∧ (l6 = true → l1 = true ∧ l3 = true ∧ l4 = true ∧ l5 = true) ∧ (l7 = true → l6 = true)

theorem zero_new (W : World) : Var (W.alloc (.cells zeroC 27)) W.heap.size zeroC := heap_alloc_new W _
theorem alloc_below (W : World) (o : Obj) : Below W.heap.size W (W.alloc o) := (Below.refl _ _).alloc (Nat.le_refl _) o

set_option maxRecDepth 100000 in
set_option maxHeartbeats 8000000 in
theorem spanUnions_walk (u : Int) (A : Option Addr) (n c : Nat) (zs : List Int) (u' : Int) (A' : Option Addr) (n' c' : Nat) (zs' : List Int) (w : World) (hz : IntsAt w w.heap.size A n zs) (_hnc : n ≤ c) (hn : n ≤ 9223372036854775807) (hz' : IntsAt w w.heap.size A' n' zs') (_hnc' : n' ≤ c') (hn' : n' ≤ 9223372036854775807) :
    Calls Try.prog 5 #[.agg #[.int .i64 u, .slice A n c], .agg #[.int .i64 u', .slice A' n' c']] w fun e w' => e = .returned (.bool true) ∧ Below w.heap.size w w' := by
  have HZ := Lib.hid hz
  have HZ' := Lib.hid hz'
  clear hz hz'
  have hsa := fix_small u zs
  have hsb := fix_small u' zs'
  obtain ⟨sa, HFa⟩ : ∃ s, Hid (fixF u zs = s) := ⟨_, rfl⟩
  obtain ⟨sb, HFb⟩ : ∃ s, Hid (fixF u' zs' = s) := ⟨_, rfl⟩
  rw [HFa.out] at hsa
  rw [HFb.out] at hsb
  have HSa := Lib.hid hsa
  have HSb := Lib.hid hsb
  have hLa : sa.2.length ≤ 100000 := by have := hsa.2.2.2; omega
  have hLb : sb.2.length ≤ 100000 := by have := hsb.2.2.2; omega
  obtain ⟨r, HRe⟩ : ∃ r, Hid (unionF sa sb = r) := ⟨_, rfl⟩
  obtain ⟨hsr, hrv, hru, hwa, hwb, hws⟩ := unions_facts hsa hsb HRe.out
  have HSr := Lib.hid hsr
  have HRv := Lib.hid hrv
  have HRu := Lib.hid hru
  have HWa := Lib.hid hwa
  have HWb := Lib.hid hwb
  have HWS := Lib.hid hws
  have HRr := Lib.hid (small_right hsr)
  have hLr : r.2.length ≤ 100000 := by have := hsr.2.2.2; omega
  have hUb : sb.1 ≤ 100000 := by have := hsb.2.2.1; omega
  clear hsa hsb hsr hrv hru hwa hwb hws
  go_enter Try.func5, Try.ntmps5
  go_upto_region 1 with fail
  go_cut [] (fun wx => ∃ (A1 A2 : Option Addr) (c1 c2 : Nat), BaseU w sa sb A1 c1 A2 c2 wx)
  case first =>
    have HW0 : Hid (Below w.heap.size w ((w.alloc (Obj.cells #[Value.int IntKind.i64 u, Value.slice A n c] 24)).alloc (Obj.cells #[Value.int IntKind.i64 u', Value.slice A' n' c'] 24))) := ((Below.refl _ _).alloc (Nat.le_refl _) _).alloc (by simp) _
    have ph0 : Hid True := trivial
    go_wp2_with fail
    go_region_law
      (first
        | (have ph' := ph0; clear ph' ph0
           go_simp
           go_at_call 14
           refine (fix_any u A n c zs w.heap.size _ ?_ ?_ hn).mono ?_
           · simp; omega
           · exact ints_same (HZ.out.keep HW0.out) rfl
           rw [HFa.out]
           rintro e w1 ⟨A1, c1, rfl, hown, hg, _⟩
           have hb := grown_none hg
           have k0 : w1.cell? ⟨w.heap.size, 0, none⟩ = some (.int .i64 u) := (hb.cell (by simp; omega)).trans (by simp [go_sem])
           have k1 : w1.cell? ⟨w.heap.size, 1, none⟩ = some (.slice A n c) := (hb.cell (by simp; omega)).trans (by simp [go_sem])
           have k2 : w1.cell? ⟨w.heap.size + 1, 0, none⟩ = some (.int .i64 u') := (hb.cell (by simp)).trans (by simp [go_sem])
           have k3 : w1.cell? ⟨w.heap.size + 1, 1, none⟩ = some (.slice A' n' c') := (hb.cell (by simp)).trans (by simp [go_sem])
           have f0 : w1.frozen? ⟨w.heap.size, 0, none⟩ = false := (hb.frozen (by simp; omega)).trans (by simp [go_sem])
           have f1 : w1.frozen? ⟨w.heap.size, 1, none⟩ = false := (hb.frozen (by simp; omega)).trans (by simp [go_sem])
           have f2 : w1.frozen? ⟨w.heap.size + 1, 0, none⟩ = false := (hb.frozen (by simp)).trans (by simp [go_sem])
           have f3 : w1.frozen? ⟨w.heap.size + 1, 1, none⟩ = false := (hb.frozen (by simp)).trans (by simp [go_sem])
           have hz1 : w.heap.size + 2 ≤ w1.heap.size := by have := hb.size; simp at this; omega
           have hz1' : w.heap.size < w1.heap.size := by omega
           have HB1 : Hid (Below w.heap.size w w1) := below_via HW0.out hb (by simp; omega) ⟨rfl, rfl, rfl, rfl⟩
           have HO1 : Hid (w1.ownsRow (w.heap.size + 2) 3 1 (.slice A1 sa.2.length c1) sa.2.length (sa.2.map (.int .i64))) := own_base hown (by simp)
           clear hown hg hb
           have ph1 : Hid True := trivial)
        | (have ph' := ph1; clear ph' ph1
           go_simp
           go_at_call 14
           refine (fix_any u' A' n' c' zs' w.heap.size _ ?_ ?_ hn').mono ?_
           · exact HB1.out.size
           · exact ints_same (HZ'.out.keep HB1.out) rfl
           rw [HFb.out]
           rintro e w2 ⟨A2, c2, rfl, hown, hg, _⟩
           have hb := grown_none hg
           have m0 := (hb.cell (p := ⟨w.heap.size, 0, none⟩) (by exact hz1')).trans k0
           have m1 := (hb.cell (p := ⟨w.heap.size, 1, none⟩) (by exact hz1')).trans k1
           have m2 := (hb.cell (p := ⟨w.heap.size + 1, 0, none⟩) (by exact hz1)).trans k2
           have m3 := (hb.cell (p := ⟨w.heap.size + 1, 1, none⟩) (by exact hz1)).trans k3
           have g0 := (hb.frozen (p := ⟨w.heap.size, 0, none⟩) (by exact hz1')).trans f0
           have g1 := (hb.frozen (p := ⟨w.heap.size, 1, none⟩) (by exact hz1')).trans f1
           have g2 := (hb.frozen (p := ⟨w.heap.size + 1, 0, none⟩) (by exact hz1)).trans f2
           have g3 := (hb.frozen (p := ⟨w.heap.size + 1, 1, none⟩) (by exact hz1)).trans f3
           have hz2 : w.heap.size + 2 ≤ w2.heap.size := Nat.le_trans hz1 hb.size
           have HB2 : Hid (Below w.heap.size w w2) := below_via HB1.out hb HB1.out.size ⟨rfl, rfl, rfl, rfl⟩
           have HO2 : Hid (w2.ownsRow (w.heap.size + 2) 3 1 (.slice A2 sb.2.length c2) sb.2.length (sb.2.map (.int .i64))) := own_base hown (by exact hz1)
           have HO3 : Hid (w2.ownsRow (w.heap.size + 2) 3 1 (.slice A1 sa.2.length c1) sa.2.length (sa.2.map (.int .i64))) := own_below HO1.out (below_via (Below.refl _ _) hb (Nat.le_refl _) ⟨rfl, rfl, rfl, rfl⟩)
           clear hown hg hb k0 k1 k2 k3 f0 f1 f2 f3))
    all_goals
      go_wp2_with fail
      go_meet
      case rel =>
        have hn1 : ∀ k, k < w.heap.size + 2 → Value.ownBlock (.slice A1 sa.2.length c1) ≠ some k := fun k hk e => by have := (HO3.out.lt _ e).1; omega
        have hn2 : ∀ k, k < w.heap.size + 2 → Value.ownBlock (.slice A2 sb.2.length c2) ≠ some k := fun k hk e => by have := (HO2.out.lt _ e).1; omega
        have q1 := own_setCell (own_setCell (own_setCell (own_setCell HO3.out (p := ⟨w.heap.size, 0, none⟩) (hn1 w.heap.size (by omega)) (.int .i64 sa.1)) (p := ⟨w.heap.size, 1, none⟩) (hn1 w.heap.size (by omega)) (.slice A1 sa.2.length c1)) (p := ⟨w.heap.size + 1, 0, none⟩) (hn1 (w.heap.size + 1) (by omega)) (.int .i64 sb.1)) (p := ⟨w.heap.size + 1, 1, none⟩) (hn1 (w.heap.size + 1) (by omega)) (.slice A2 sb.2.length c2)
        have q2 := own_setCell (own_setCell (own_setCell (own_setCell HO2.out (p := ⟨w.heap.size, 0, none⟩) (hn2 w.heap.size (by omega)) (.int .i64 sa.1)) (p := ⟨w.heap.size, 1, none⟩) (hn2 w.heap.size (by omega)) (.slice A1 sa.2.length c1)) (p := ⟨w.heap.size + 1, 0, none⟩) (hn2 (w.heap.size + 1) (by omega)) (.int .i64 sb.1)) (p := ⟨w.heap.size + 1, 1, none⟩) (hn2 (w.heap.size + 1) (by omega)) (.slice A2 sb.2.length c2)
        refine ⟨A1, A2, c1, c2, ⟨by simp [go_sem, m0], by simp [go_sem, m1], ?_, own_ints q1, own_cap q1⟩, ⟨by simp [go_sem, m2], by simp [go_sem, m3], ?_, own_ints q2, own_cap q2⟩, own_base q1 (Nat.zero_le _), own_base q2 (Nat.zero_le _), (((HB2.out.setCell (by simp) _).setCell (by simp) _).setCell (by simp) _).setCell (by simp) _⟩
        · simp [World.setCell]; omega
        · simp [World.setCell]; omega
  case rest =>
    obtain ⟨A1, A2, c1, c2, hbase⟩ := hcut
    have HBa := Lib.hid hbase
    clear hbase
    go_upto_region 2 with fail
    go_cut [5, 6] (fun s5 s6 wx => ∃ (G5 G6 : Nat) (A3 A4 : Option Addr) (c3 c4 : Nat), s5 = .pointer (some ⟨G5, 0, none⟩) ∧ s6 = .pointer (some ⟨G6, 0, none⟩) ∧ BaseU w sa sb A1 c1 A2 c2 wx ∧ At wx G5 A3 c3 sa ∧ At wx G6 A4 c4 sb)
    case first =>
      refine region_inv (D := [[], [0], [], [2, 1], [], [], [4, 1, 3, 0, 1, 4, 5], [5, 3, 6, 0, 1, 2, 3, 4, 5, 6]]) (by kernel_rfl) (by kernel_rfl) (by decide) (InvU w sa sb A1 c1 A2 c2) ?_ ?_ ?_
      · exact ⟨false, false, false, false, false, false, false, false, _, _, _, _, _, _, rfl, rfl, HBa.out.keep ((Below.refl _ _).drew), (fun h => by cases h), (fun h => by cases h), (fun h => by cases h), (fun h => by cases h), (fun h => by cases h), (fun h => by cases h), (fun h => by cases h), (fun h => by cases h), (fun h => by cases h)⟩
      · intro listed a' w' i hI hs
        obtain ⟨l0, l1, l2, l3, l4, l5, l6, l7, s5, s6, s13, s14, s15, s16, rfl, rfl, hB, i0, i2, i1, i3, i4, i5, i45, i6, i7⟩ := hI
        obtain ⟨hi, hl, hd⟩ := hs
        simp only [List.setIfInBounds_toArray, List.set_cons_zero, List.set_cons_succ]
        have HB := Lib.hid hB
        obtain ⟨⟨x0, x1, hzx, hix⟩, ⟨y0, y1, hzy, hiy⟩, _, _, _⟩ := hB
        have HIx := Lib.hid hix
        have HIy := Lib.hid hiy
        have I0 := Lib.hid i0
        have I1 := Lib.hid i1
        have I2 := Lib.hid i2
        have I3 := Lib.hid i3
        have I4 := Lib.hid i4
        have I5 := Lib.hid i5
        have I45 := Lib.hid i45
        have I6 := Lib.hid i6
        have I7 := Lib.hid i7
        clear hix hiy i0 i1 i2 i3 i4 i5 i45 i6 i7
        rcases (show i = 0 ∨ i = 1 ∨ i = 2 ∨ i = 3 ∨ i = 4 ∨ i = 5 ∨ i = 6 ∨ i = 7 by simp at hi; omega) with rfl | rfl | rfl | rfl | rfl | rfl | rfl | rfl
        · have e0 : l0 = false := hl
          subst e0
          refine wpOp_step (o := { dst := some 13, op := Go.Op.load 24 (Go.Operand.tmp 2), type := 24, pos := "law.go:38", after := #[], guard := none }) rfl (fun K hK => ?_)
          have HK := Lib.hid hK
          clear hK hd hl
          go_simp
          refine HK.out _ _ ?_
          exact ⟨true, l1, l2, l3, l4, l5, l6, l7, s5, s6, spanV sa A1 c1, s14, s15, s16, rfl, rfl, HB.out, (fun _ => rfl), (I2.out), (I1.out), (I3.out), (I4.out), (I5.out), (I45.out), (I6.out), (I7.out)⟩
        · have e0 : l1 = false := hl
          subst e0
          have d0 : l0 = true := hd 0 (by decide)
          have e1 := I0.out d0
          subst e1
          have h6 : l6 = false := by
            rcases hq : l6 with _ | _
            · rfl
            · have := (I6.out hq).1; simp at this
          refine wpOp_step (o := { dst := some 14, op := Go.Op.call { callee := Go.Callee.value (Go.Operand.func 12), args := #[Go.Operand.tmp 13], argTypes := #[24] }, type := 27, pos := "law.go:38", after := #[{ on := 0, ground := Go.Ground.data }], guard := none }) rfl (fun K hK => ?_)
          have HK := Lib.hid hK
          clear hK hd hl
          go_simp
          refine (to_any sa.1 A1 sa.2.length c1 sa.2 w'.heap.size w' (Nat.le_refl _) HIx.out.1 (by omega)).mono ?_
          rintro e w1 ⟨A3, c3, rfl, hown, hg, _⟩
          have hb := grown_none hg
          refine HK.out _ _ ?_
          exact ⟨l0, true, l2, l3, l4, l5, l6, l7, s5, s6, spanV sa A1 c1, spanV sa A3 c3, s15, s16, rfl, rfl, HB.out.keep hb, (fun _ => rfl), (I2.out), (fun _ => ⟨A3, c3, rfl, own_base hown (Nat.zero_le _), fun h => by rw [h6] at h; cases h⟩), (I3.out.keep hb), (I4.out.keep hb), (I5.out.keep hb), (I45.out), (fun h => by rw [h6] at h; cases h), (I7.out)⟩
        · have e0 : l2 = false := hl
          subst e0
          refine wpOp_step (o := { dst := some 15, op := Go.Op.load 24 (Go.Operand.tmp 3), type := 24, pos := "law.go:38", after := #[], guard := none }) rfl (fun K hK => ?_)
          have HK := Lib.hid hK
          clear hK hd hl
          go_simp
          refine HK.out _ _ ?_
          exact ⟨l0, l1, true, l3, l4, l5, l6, l7, s5, s6, s13, s14, spanV sb A2 c2, s16, rfl, rfl, HB.out, (I0.out), (fun _ => rfl), (I1.out), (I3.out), (I4.out), (I5.out), (I45.out), (I6.out), (I7.out)⟩
        · have e0 : l3 = false := hl
          subst e0
          have d0 : l2 = true := hd 2 (by decide)
          have e1 := I2.out d0
          subst e1
          have h6 : l7 = false := by
            rcases hq : l7 with _ | _
            · rfl
            · have := (I6.out (I7.out hq)).2.1; simp at this
          refine wpOp_step (o := { dst := some 16, op := Go.Op.call { callee := Go.Callee.value (Go.Operand.func 12), args := #[Go.Operand.tmp 15], argTypes := #[24] }, type := 27, pos := "law.go:38", after := #[{ on := 2, ground := Go.Ground.data }, { on := 1, ground := Go.Ground.chain }], guard := none }) rfl (fun K hK => ?_)
          have HK := Lib.hid hK
          clear hK hd hl
          go_simp
          refine (to_any sb.1 A2 sb.2.length c2 sb.2 w'.heap.size w' (Nat.le_refl _) HIy.out.1 (by omega)).mono ?_
          rintro e w1 ⟨A3, c3, rfl, hown, hg, _⟩
          have hb := grown_none hg
          refine HK.out _ _ ?_
          exact ⟨l0, l1, l2, true, l4, l5, l6, l7, s5, s6, s13, s14, spanV sb A2 c2, spanV sb A3 c3, rfl, rfl, HB.out.keep hb, (I0.out), (fun _ => rfl), (I1.out.keep hb), (fun _ => ⟨A3, c3, rfl, own_base hown (Nat.zero_le _), fun h => by rw [h6] at h; cases h⟩), (I4.out.keep hb), (I5.out.keep hb), (I45.out), (fun h => by have := (I6.out h).2.1; cases this), (I7.out)⟩
        · have e0 : l4 = false := hl
          subst e0
          have h6 : l6 = false := by
            rcases hq : l6 with _ | _
            · rfl
            · have := (I6.out hq).2.2.1; simp at this
          refine wpOp_step (o := { dst := some 5, op := Go.Op.alloc 27, type := 0, pos := "law.go:38", after := #[], guard := none }) rfl (fun K hK => ?_)
          have HK := Lib.hid hK
          clear hK hd hl
          go_simp
          have hb := alloc_below w' (Obj.cells zeroC 27)
          refine HK.out _ _ ?_
          exact ⟨l0, l1, l2, l3, true, l5, l6, l7, .pointer (some ⟨w'.heap.size, 0, none⟩), s6, s13, s14, s15, s16, rfl, rfl, HB.out.keep hb, (I0.out), (I2.out), (fun h => by obtain ⟨A, c, e, ho, _⟩ := I1.out h; exact ⟨A, c, e, ho.keep hb, fun h' => by rw [h6] at h'; cases h'⟩), (I3.out.keep hb), (fun _ => ⟨w'.heap.size, rfl, by omega, by simp, fun _ => zero_new w'⟩), (I5.out.keep hb), (fun _ h5 e => by obtain ⟨G, e', _, h2, _⟩ := I5.out h5; rw [e'] at e; injection e with e; injection e with e; injection e with e; omega), (fun h => by rw [h6] at h; cases h), (I7.out)⟩
        · have e0 : l5 = false := hl
          subst e0
          have h6 : l7 = false := by
            rcases hq : l7 with _ | _
            · rfl
            · have := (I6.out (I7.out hq)).2.2.2; simp at this
          refine wpOp_step (o := { dst := some 6, op := Go.Op.alloc 27, type := 0, pos := "law.go:38", after := #[], guard := none }) rfl (fun K hK => ?_)
          have HK := Lib.hid hK
          clear hK hd hl
          go_simp
          have hb := alloc_below w' (Obj.cells zeroC 27)
          refine HK.out _ _ ?_
          exact ⟨l0, l1, l2, l3, l4, true, l6, l7, s5, .pointer (some ⟨w'.heap.size, 0, none⟩), s13, s14, s15, s16, rfl, rfl, HB.out.keep hb, (I0.out), (I2.out), (I1.out.keep hb), (fun h => by obtain ⟨A, c, e, ho, _⟩ := I3.out h; exact ⟨A, c, e, ho.keep hb, fun h' => by rw [h6] at h'; cases h'⟩), (I4.out.keep hb), (fun _ => ⟨w'.heap.size, rfl, by omega, by simp, fun _ => zero_new w'⟩), (fun h4 _ e => by obtain ⟨G, e', _, h2, _⟩ := I4.out h4; rw [e'] at e; injection e with e; injection e with e; injection e with e; omega), (fun h => by have := (I6.out h).2.2.2; cases this), (I7.out)⟩
        · have e0 : l6 = false := hl
          subst e0
          have d1 : l1 = true := hd 1 (by decide)
          have d3 : l3 = true := hd 3 (by decide)
          have d4 : l4 = true := hd 4 (by decide)
          have d5 : l5 = true := hd 5 (by decide)
          have h7 : l7 = false := by
            rcases hq : l7 with _ | _
            · rfl
            · have := I7.out hq; simp at this
          obtain ⟨A3, c3, e3, ho, _⟩ := I1.out d1
          subst e3
          obtain ⟨G, e5, hG1, hG2, hv⟩ := I4.out d4
          subst e5
          have hV := hv rfl
          have HV := Lib.hid hV
          have v0 : w'.cell? ⟨G, 0, none⟩ = some (.int .i64 0) := hV.cell 0
          have v1 : w'.cell? ⟨G, 1, none⟩ = some (.slice none 0 0) := hV.cell 1
          have v2 := hV.frozen 0
          have v3 := hV.frozen 1
          have HO := Lib.hid ho
          have hne := I45.out d4 d5
          have HNe := Lib.hid hne
          clear hv hV ho hne
          refine wpOp_step (o := { dst := none, op := Go.Op.store 27 (Go.Operand.tmp 5) (Go.Operand.tmp 14), type := 0, pos := "law.go:38", after := #[{ on := 4, ground := Go.Ground.data }, { on := 1, ground := Go.Ground.data }, { on := 3, ground := Go.Ground.chain }, { on := 0, ground := Go.Ground.phase }, { on := 1, ground := Go.Ground.phase }, { on := 2, ground := Go.Ground.textOnly Go.Departure.lateStores }, { on := 3, ground := Go.Ground.textOnly Go.Departure.lateStoresUnsure }, { on := 4, ground := Go.Ground.phase }, { on := 5, ground := Go.Ground.phase }], guard := none }) rfl (fun K hK => ?_)
          have HK := Lib.hid hK
          clear hK hd hl
          go_simp
          refine HK.out _ _ ?_
          exact ⟨l0, l1, l2, l3, l4, l5, true, l7, .pointer (some ⟨G, 0, none⟩), s6, s13, spanV sa A3 c3, s15, s16, rfl, rfl, HB.out.far2 HV.out hG1 _ _, (I0.out), (I2.out), (fun _ => ⟨A3, c3, rfl, HO.out.far2 HV.out _ _, fun _ => ⟨G, rfl, HV.out.set2 _ _⟩⟩), (I3.out.far2 HV.out (fun h => HNe.out h.symm) _ _), (fun _ => ⟨G, rfl, hG1, by simpa [World.setCell] using hG2, fun h => by cases h⟩), (I5.out.far2 (fun h => HNe.out h.symm) _ _), (I45.out), (fun _ => ⟨d1, d3, d4, d5⟩), (fun _ => rfl)⟩
        · have e0 : l7 = false := hl
          subst e0
          have d1 : l1 = true := hd 1 (by decide)
          have d3 : l3 = true := hd 3 (by decide)
          have d4 : l4 = true := hd 4 (by decide)
          have d5 : l5 = true := hd 5 (by decide)
          have d6 : l6 = true := hd 6 (by decide)
          obtain ⟨A3, c3, e3, ho, _⟩ := I3.out d3
          subst e3
          obtain ⟨G, e5, hG1, hG2, hv⟩ := I5.out d5
          subst e5
          have hV := hv rfl
          have HV := Lib.hid hV
          have v0 : w'.cell? ⟨G, 0, none⟩ = some (.int .i64 0) := hV.cell 0
          have v1 : w'.cell? ⟨G, 1, none⟩ = some (.slice none 0 0) := hV.cell 1
          have v2 := hV.frozen 0
          have v3 := hV.frozen 1
          have HO := Lib.hid ho
          have hne := I45.out d4 d5
          have HNe := Lib.hid hne
          clear hv hV ho hne
          refine wpOp_step (o := { dst := none, op := Go.Op.store 27 (Go.Operand.tmp 6) (Go.Operand.tmp 16), type := 0, pos := "law.go:38", after := #[{ on := 5, ground := Go.Ground.data }, { on := 3, ground := Go.Ground.data }, { on := 6, ground := Go.Ground.chain }, { on := 0, ground := Go.Ground.phase }, { on := 1, ground := Go.Ground.phase }, { on := 2, ground := Go.Ground.phase }, { on := 3, ground := Go.Ground.phase }, { on := 4, ground := Go.Ground.phase }, { on := 5, ground := Go.Ground.phase }, { on := 6, ground := Go.Ground.phase }], guard := none }) rfl (fun K hK => ?_)
          have HK := Lib.hid hK
          clear hK hd hl
          go_simp
          refine HK.out _ _ ?_
          exact ⟨l0, l1, l2, l3, l4, l5, l6, true, s5, .pointer (some ⟨G, 0, none⟩), s13, s14, s15, spanV sb A3 c3, rfl, rfl, HB.out.far2 HV.out hG1 _ _, (I0.out), (I2.out), (I1.out.far2 HV.out HNe.out _ _), (fun _ => ⟨A3, c3, rfl, HO.out.far2 HV.out _ _, fun _ => ⟨G, rfl, HV.out.set2 _ _⟩⟩), (I4.out.far2 HNe.out _ _), (fun _ => ⟨G, rfl, hG1, by simpa [World.setCell] using hG2, fun h => by cases h⟩), (I45.out), (I6.out), (fun _ => d6)⟩
      · intro listed a' w' hI hall
        obtain ⟨l0, l1, l2, l3, l4, l5, l6, l7, s5, s6, s13, s14, s15, s16, rfl, rfl, hB, i0, i2, i1, i3, i4, i5, i45, i6, i7⟩ := hI
        obtain ⟨A3, c3, e3, ho3, hv3⟩ := i1 (hall 1 (by decide))
        obtain ⟨A4, c4, e4, ho4, hv4⟩ := i3 (hall 3 (by decide))
        obtain ⟨G5, e5, hV5⟩ := hv3 (hall 6 (by decide))
        obtain ⟨G6, e6, hV6⟩ := hv4 (hall 7 (by decide))
        subst e3 e4 e5 e6
        simp only [List.setIfInBounds_toArray, List.set_cons_zero, List.set_cons_succ]
        have HR : Hid (BaseU w sa sb A1 c1 A2 c2 w' ∧ At w' G5 A3 c3 sa ∧ At w' G6 A4 c4 sb) := ⟨hB, ⟨hV5.cell 0, hV5.cell 1, hV5.lt, ho3.spanIn⟩, ⟨hV6.cell 0, hV6.cell 1, hV6.lt, ho4.spanIn⟩⟩
        clear hB i0 i2 i1 i3 i4 i5 i45 i6 i7 hall ho3 ho4 hv3 hv4 hV5 hV6
        go_wp2_with fail
        go_meet
        case rel => exact ⟨G5, G6, A3, A4, c3, c4, rfl, rfl, HR.out.1, HR.out.2.1, HR.out.2.2⟩
    case rest =>
      obtain ⟨G5, G6, A3, A4, c3, c4, rfl, rfl, hB, h5, h6⟩ := hcut
      have HAa := Lib.hid hB.1
      have HAb := Lib.hid hB.2.1
      have HBc := Lib.hid hB.2.2.2.2
      have HAx := Lib.hid h5
      have HAy := Lib.hid h6
      clear hB HBa
      obtain ⟨z0, z1, hzz, hiz⟩ := h5
      obtain ⟨t0, t1, hzt, hit⟩ := h6
      have HIx := Lib.hid hiz
      have HIy := Lib.hid hit
      clear hiz hit
      go_upto_region 3 with fail
      go_cut [7] (fun s7 wx => ∃ (G7 : Nat) (A5 : Option Addr) (c5 : Nat), s7 = .pointer (some ⟨G7, 0, none⟩) ∧ At wx w.heap.size A1 c1 sa ∧ At wx (w.heap.size + 1) A2 c2 sb ∧ At wx G5 A3 c3 sa ∧ At wx G6 A4 c4 sb ∧ At wx G7 A5 c5 r ∧ Below w.heap.size w wx)
      case first =>
        go_wp2_with fail
        refine (cUnion HIx.out HIy.out hLa hLb).mono ?_
        rw [HRe.out]
        rintro e w1 ⟨A5, c5, rfl, hi, hw⟩
        have HN := Lib.hid hi
        have HW := Lib.hid hw
        clear hi hw
        go_wp2_with fail
        go_meet
        case rel => exact ⟨w1.heap.size, A5, c5, rfl, (HAa.out.keep HW.out).alloc _, (HAb.out.keep HW.out).alloc _, (HAx.out.keep HW.out).alloc _, (HAy.out.keep HW.out).alloc _, At.new HN.out _, (HBc.out.trans (HW.out.mono HBc.out.size)).alloc (Nat.le_trans HBc.out.size HW.out.size) _⟩
      case rest =>
        clear z0 z1 hzz t0 t1 hzt HIx HIy HAa HAb HAx HAy HBc
        obtain ⟨G7, A5, c5, rfl, ha, hb, h5, h6, h7, hbl⟩ := hcut
        have HAa := Lib.hid ha
        have HAb := Lib.hid hb
        have HAx := Lib.hid h5
        have HAy := Lib.hid h6
        have HAu := Lib.hid h7
        have HBc := Lib.hid hbl
        clear ha hb h7 hbl
        obtain ⟨z0, z1, hzz, hiz⟩ := h5
        obtain ⟨t0, t1, hzt, hit⟩ := h6
        have HIx := Lib.hid hiz
        have HIy := Lib.hid hit
        clear hiz hit
        go_upto_region 4 with fail
        go_cut [8] (fun s8 wx => ∃ (G8 : Nat) (A6 : Option Addr) (c6 : Nat), s8 = .pointer (some ⟨G8, 0, none⟩) ∧ At wx w.heap.size A1 c1 sa ∧ At wx (w.heap.size + 1) A2 c2 sb ∧ At wx G5 A3 c3 sa ∧ At wx G6 A4 c4 sb ∧ At wx G7 A5 c5 r ∧ At wx G8 A6 c6 r ∧ Below w.heap.size w wx)
        case first =>
          go_wp2_with fail
          refine (cUnion HIy.out HIx.out hLb hLa).mono ?_
          rw [HRv.out]
          rintro e w1 ⟨A6, c6, rfl, hi, hw⟩
          have HN := Lib.hid hi
          have HW := Lib.hid hw
          clear hi hw
          go_wp2_with fail
          go_meet
          case rel => exact ⟨w1.heap.size, A6, c6, rfl, (HAa.out.keep HW.out).alloc _, (HAb.out.keep HW.out).alloc _, (HAx.out.keep HW.out).alloc _, (HAy.out.keep HW.out).alloc _, (HAu.out.keep HW.out).alloc _, At.new HN.out _, (HBc.out.trans (HW.out.mono HBc.out.size)).alloc (Nat.le_trans HBc.out.size HW.out.size) _⟩
        case rest =>
          clear z0 z1 hzz t0 t1 hzt HIx HIy HAa HAb HAx HAy HAu HBc
          obtain ⟨G8, A6, c6, rfl, ⟨x0, x1, hzx, hia⟩, ⟨y0, y1, hzy, hib⟩, ⟨z0, z1, hzz, hix⟩, ⟨t0, t1, hzt, hiy⟩, ⟨p0, p1, hzp, hiu⟩, ⟨q0, q1, hzq, hiv⟩, hbl⟩ := hcut
          have HIa := Lib.hid hia
          have HIb := Lib.hid hib
          have HIx := Lib.hid hix
          have HIy := Lib.hid hiy
          have HIu := Lib.hid hiu
          have HIv := Lib.hid hiv
          have HBc := Lib.hid hbl
          clear hia hib hix hiy hiu hiv hbl
          go_wp2_with fail
          refine wp_region_held_drew (S := fun w' => w'.cell? ⟨w.heap.size, 0, none⟩ = some (.int .i64 sa.1) ∧ w'.cell? ⟨w.heap.size, 1, none⟩ = some (.slice A1 sa.2.length c1) ∧ w'.cell? ⟨w.heap.size + 1, 0, none⟩ = some (.int .i64 sb.1) ∧ w'.cell? ⟨w.heap.size + 1, 1, none⟩ = some (.slice A2 sb.2.length c2) ∧ w'.cell? ⟨G5, 0, none⟩ = some (.int .i64 sa.1) ∧ w'.cell? ⟨G5, 1, none⟩ = some (.slice A3 sa.2.length c3) ∧ w'.cell? ⟨G6, 0, none⟩ = some (.int .i64 sb.1) ∧ w'.cell? ⟨G6, 1, none⟩ = some (.slice A4 sb.2.length c4) ∧ w'.cell? ⟨G7, 0, none⟩ = some (.int .i64 r.1) ∧ w'.cell? ⟨G7, 1, none⟩ = some (.slice A5 r.2.length c5) ∧ w'.cell? ⟨G8, 0, none⟩ = some (.int .i64 r.1) ∧ w'.cell? ⟨G8, 1, none⟩ = some (.slice A6 r.2.length c6)) (by kernel_rfl) ⟨x0, x1, y0, y1, z0, z1, t0, t1, p0, p1, q0, q1⟩ (fun hHeld => ?_)
          refine wpAnyH_ready (rs := [0]) (by kernel_rfl) (by simp) ?_
          refine AllReadyH.cons (o := { dst := some 23, op := Go.Op.call { callee := Go.Callee.value (Go.Operand.func 10), args := #[], argTypes := #[] }, type := 4, pos := "law.go:41", after := #[], guard := none }) rfl (fun K hK => ?_) AllReadyH.nil
          go_simp
          go_at_call 10
          refine (told_any _).mono ?_
          rintro e v0 ⟨rfl, hw⟩
          replace x0 := (hw.cell (p := ⟨w.heap.size, 0, none⟩) hzx).trans x0
          replace x1 := (hw.cell (p := ⟨w.heap.size, 1, none⟩) hzx).trans x1
          replace y0 := (hw.cell (p := ⟨w.heap.size + 1, 0, none⟩) hzy).trans y0
          replace y1 := (hw.cell (p := ⟨w.heap.size + 1, 1, none⟩) hzy).trans y1
          replace z0 := (hw.cell (p := ⟨G5, 0, none⟩) hzz).trans z0
          replace z1 := (hw.cell (p := ⟨G5, 1, none⟩) hzz).trans z1
          replace t0 := (hw.cell (p := ⟨G6, 0, none⟩) hzt).trans t0
          replace t1 := (hw.cell (p := ⟨G6, 1, none⟩) hzt).trans t1
          replace p0 := (hw.cell (p := ⟨G7, 0, none⟩) hzp).trans p0
          replace p1 := (hw.cell (p := ⟨G7, 1, none⟩) hzp).trans p1
          replace q0 := (hw.cell (p := ⟨G8, 0, none⟩) hzq).trans q0
          replace q1 := (hw.cell (p := ⟨G8, 1, none⟩) hzq).trans q1
          replace hzp := Nat.lt_of_lt_of_le hzp hw.size
          replace hzq := Nat.lt_of_lt_of_le hzq hw.size
          replace hzt := Nat.lt_of_lt_of_le hzt hw.size
          replace hzx := Nat.lt_of_lt_of_le hzx hw.size
          replace hzy := Nat.lt_of_lt_of_le hzy hw.size
          replace hzz := Nat.lt_of_lt_of_le hzz hw.size
          replace HIa := Lib.hid (HIa.out.on hw ⟨rfl, rfl, rfl, rfl⟩)
          replace HIb := Lib.hid (HIb.out.on hw ⟨rfl, rfl, rfl, rfl⟩)
          replace HIx := Lib.hid (HIx.out.on hw ⟨rfl, rfl, rfl, rfl⟩)
          replace HIy := Lib.hid (HIy.out.on hw ⟨rfl, rfl, rfl, rfl⟩)
          replace HIu := Lib.hid (HIu.out.on hw ⟨rfl, rfl, rfl, rfl⟩)
          replace HIv := Lib.hid (HIv.out.on hw ⟨rfl, rfl, rfl, rfl⟩)
          replace HBc : Hid (Below w.heap.size w v0) := below_via HBc.out hw HBc.out.size ⟨rfl, rfl, rfl, rfl⟩
          clear hw
          refine hK.out _ _ ⟨x0, x1, y0, y1, z0, z1, t0, t1, p0, p1, q0, q1⟩ (fun hHeld => ?_)
          clear hK K
          try simp only [Act.put, List.setIfInBounds_toArray, List.set_cons_zero, List.set_cons_succ]
          refine wpAnyH_take (i := 1) (oi := { dst := some 24, op := Go.Op.unOp Go.UnOp.not 4 (Go.Operand.tmp 23), type := 4, pos := "law.go:41", after := #[{ on := 0, ground := Go.Ground.data }], guard := none }) (v := ?_) rfl (by kernel_rfl) (by kernel_rfl) (by kernel_rfl) (fun _ _ _ h => h) (Or.inl ⟨rfl, ?_⟩) (by assumption) ?_
          rotate_left
          · intro wz hSw; (try dsimp only at hSw); go_simp; try (with_reducible rfl)
          try simp only [Act.put, List.setIfInBounds_toArray, List.set_cons_zero, List.set_cons_succ]
          refine wpAnyH_take (i := 2) (oi := { dst := some 25, op := Go.Op.move (Go.Operand.tmp 24), type := 4, pos := "law.go:41", after := #[{ on := 1, ground := Go.Ground.data }, { on := 0, ground := Go.Ground.chain }], guard := none }) (v := ?_) rfl (by kernel_rfl) (by kernel_rfl) (by kernel_rfl) (fun _ _ _ h => h) (Or.inl ⟨rfl, ?_⟩) (by assumption) ?_
          rotate_left
          · intro wz hSw; (try dsimp only at hSw); go_simp; try (with_reducible rfl)
          try simp only [Act.put, List.setIfInBounds_toArray, List.set_cons_zero, List.set_cons_succ]
          refine wpAnyH_take (i := 3) (oi := { dst := some 26, op := Go.Op.load 27 (Go.Operand.tmp 7), type := 27, pos := "law.go:41", after := #[{ on := 2, ground := Go.Ground.guard }], guard := some (2, false) }) (v := ?_) rfl (by kernel_rfl) (by kernel_rfl) (by kernel_rfl) (fun _ _ _ h => h) (Or.inl ⟨rfl, ?_⟩) (by assumption) ?_
          rotate_left
          · intro wz hSw; (try dsimp only at hSw); go_simp; try (with_reducible rfl)
          try simp only [Act.put, List.setIfInBounds_toArray, List.set_cons_zero, List.set_cons_succ]
          refine wpAnyH_take (i := 5) (oi := { dst := some 28, op := Go.Op.load 24 (Go.Operand.tmp 2), type := 24, pos := "law.go:41", after := #[{ on := 2, ground := Go.Ground.guard }], guard := some (2, false) }) (v := ?_) rfl (by kernel_rfl) (by kernel_rfl) (by kernel_rfl) (fun _ _ _ h => h) (Or.inl ⟨rfl, ?_⟩) (by assumption) ?_
          rotate_left
          · intro wz hSw; (try dsimp only at hSw); go_simp; try (with_reducible rfl)
          try simp only [Act.put, List.setIfInBounds_toArray, List.set_cons_zero, List.set_cons_succ]
          refine wpAnyH_take (i := 6) (oi := { dst := some 29, op := Go.Op.load 24 (Go.Operand.tmp 3), type := 24, pos := "law.go:41", after := #[{ on := 2, ground := Go.Ground.guard }], guard := some (2, false) }) (v := ?_) rfl (by kernel_rfl) (by kernel_rfl) (by kernel_rfl) (fun _ _ _ h => h) (Or.inl ⟨rfl, ?_⟩) (by assumption) ?_
          rotate_left
          · intro wz hSw; (try dsimp only at hSw); go_simp; try (with_reducible rfl)
          try simp only [Act.put, List.setIfInBounds_toArray, List.set_cons_zero, List.set_cons_succ]
          refine wpAnyH_ready (rs := [4]) (by kernel_rfl) (by simp) ?_
          refine AllReadyH.cons (o := { dst := some 27, op := Go.Op.call { callee := Go.Callee.value (Go.Operand.func 18), args := #[Go.Operand.tmp 26], argTypes := #[27] }, type := 24, pos := "law.go:41", after := #[{ on := 3, ground := Go.Ground.data }, { on := 2, ground := Go.Ground.chain }, { on := 2, ground := Go.Ground.guard }], guard := some (2, false) }) rfl (fun K hK => ?_) AllReadyH.nil
          go_simp
          go_at_call 18
          refine (cFrom (s := r) (by exact HIu.out.same rfl) hLr).mono ?_
          rintro e v1 ⟨B1, d1, rfl, hin, hw⟩
          replace x0 := (hw.cell (p := ⟨w.heap.size, 0, none⟩) hzx).trans x0
          replace x1 := (hw.cell (p := ⟨w.heap.size, 1, none⟩) hzx).trans x1
          replace y0 := (hw.cell (p := ⟨w.heap.size + 1, 0, none⟩) hzy).trans y0
          replace y1 := (hw.cell (p := ⟨w.heap.size + 1, 1, none⟩) hzy).trans y1
          replace z0 := (hw.cell (p := ⟨G5, 0, none⟩) hzz).trans z0
          replace z1 := (hw.cell (p := ⟨G5, 1, none⟩) hzz).trans z1
          replace t0 := (hw.cell (p := ⟨G6, 0, none⟩) hzt).trans t0
          replace t1 := (hw.cell (p := ⟨G6, 1, none⟩) hzt).trans t1
          replace p0 := (hw.cell (p := ⟨G7, 0, none⟩) hzp).trans p0
          replace p1 := (hw.cell (p := ⟨G7, 1, none⟩) hzp).trans p1
          replace q0 := (hw.cell (p := ⟨G8, 0, none⟩) hzq).trans q0
          replace q1 := (hw.cell (p := ⟨G8, 1, none⟩) hzq).trans q1
          replace hzp := Nat.lt_of_lt_of_le hzp hw.size
          replace hzq := Nat.lt_of_lt_of_le hzq hw.size
          replace hzt := Nat.lt_of_lt_of_le hzt hw.size
          replace hzx := Nat.lt_of_lt_of_le hzx hw.size
          replace hzy := Nat.lt_of_lt_of_le hzy hw.size
          replace hzz := Nat.lt_of_lt_of_le hzz hw.size
          replace HIa := Lib.hid (HIa.out.on hw ⟨rfl, rfl, rfl, rfl⟩)
          replace HIb := Lib.hid (HIb.out.on hw ⟨rfl, rfl, rfl, rfl⟩)
          replace HIx := Lib.hid (HIx.out.on hw ⟨rfl, rfl, rfl, rfl⟩)
          replace HIy := Lib.hid (HIy.out.on hw ⟨rfl, rfl, rfl, rfl⟩)
          replace HIu := Lib.hid (HIu.out.on hw ⟨rfl, rfl, rfl, rfl⟩)
          replace HIv := Lib.hid (HIv.out.on hw ⟨rfl, rfl, rfl, rfl⟩)
          replace HBc : Hid (Below w.heap.size w v1) := below_via HBc.out hw HBc.out.size ⟨rfl, rfl, rfl, rfl⟩
          have HP1 := Lib.hid hin
          clear hin
          clear hw
          refine hK.out _ _ ⟨x0, x1, y0, y1, z0, z1, t0, t1, p0, p1, q0, q1⟩ (fun hHeld => ?_)
          clear hK K
          try simp only [Act.put, List.setIfInBounds_toArray, List.set_cons_zero, List.set_cons_succ]
          refine wpAnyH_ready (rs := [7]) (by kernel_rfl) (by simp) ?_
          refine AllReadyH.cons (o := { dst := some 30, op := Go.Op.call { callee := Go.Callee.value (Go.Operand.func 26), args := #[Go.Operand.tmp 28, Go.Operand.tmp 29], argTypes := #[24, 24] }, type := 24, pos := "law.go:41", after := #[{ on := 5, ground := Go.Ground.data }, { on := 6, ground := Go.Ground.data }, { on := 4, ground := Go.Ground.chain }, { on := 2, ground := Go.Ground.guard }], guard := some (2, false) }) rfl (fun K hK => ?_) AllReadyH.nil
          go_simp
          go_at_call 26
          refine (cRefUnion (s := sa) (t := sb) (by exact HIa.out.same rfl) (by exact HIb.out.same rfl) HSa.out HSb.out).mono ?_
          rw [HRu.out]
          rintro e v2 ⟨B2, d2, rfl, hin, hw⟩
          replace x0 := (hw.cell (p := ⟨w.heap.size, 0, none⟩) hzx).trans x0
          replace x1 := (hw.cell (p := ⟨w.heap.size, 1, none⟩) hzx).trans x1
          replace y0 := (hw.cell (p := ⟨w.heap.size + 1, 0, none⟩) hzy).trans y0
          replace y1 := (hw.cell (p := ⟨w.heap.size + 1, 1, none⟩) hzy).trans y1
          replace z0 := (hw.cell (p := ⟨G5, 0, none⟩) hzz).trans z0
          replace z1 := (hw.cell (p := ⟨G5, 1, none⟩) hzz).trans z1
          replace t0 := (hw.cell (p := ⟨G6, 0, none⟩) hzt).trans t0
          replace t1 := (hw.cell (p := ⟨G6, 1, none⟩) hzt).trans t1
          replace p0 := (hw.cell (p := ⟨G7, 0, none⟩) hzp).trans p0
          replace p1 := (hw.cell (p := ⟨G7, 1, none⟩) hzp).trans p1
          replace q0 := (hw.cell (p := ⟨G8, 0, none⟩) hzq).trans q0
          replace q1 := (hw.cell (p := ⟨G8, 1, none⟩) hzq).trans q1
          replace hzp := Nat.lt_of_lt_of_le hzp hw.size
          replace hzq := Nat.lt_of_lt_of_le hzq hw.size
          replace hzt := Nat.lt_of_lt_of_le hzt hw.size
          replace hzx := Nat.lt_of_lt_of_le hzx hw.size
          replace hzy := Nat.lt_of_lt_of_le hzy hw.size
          replace hzz := Nat.lt_of_lt_of_le hzz hw.size
          replace HIa := Lib.hid (HIa.out.on hw ⟨rfl, rfl, rfl, rfl⟩)
          replace HIb := Lib.hid (HIb.out.on hw ⟨rfl, rfl, rfl, rfl⟩)
          replace HIx := Lib.hid (HIx.out.on hw ⟨rfl, rfl, rfl, rfl⟩)
          replace HIy := Lib.hid (HIy.out.on hw ⟨rfl, rfl, rfl, rfl⟩)
          replace HIu := Lib.hid (HIu.out.on hw ⟨rfl, rfl, rfl, rfl⟩)
          replace HIv := Lib.hid (HIv.out.on hw ⟨rfl, rfl, rfl, rfl⟩)
          replace HP1 := Lib.hid (HP1.out.on hw ⟨rfl, rfl, rfl, rfl⟩)
          replace HBc : Hid (Below w.heap.size w v2) := below_via HBc.out hw HBc.out.size ⟨rfl, rfl, rfl, rfl⟩
          have HP2 := Lib.hid hin
          clear hin
          clear hw
          refine hK.out _ _ ⟨x0, x1, y0, y1, z0, z1, t0, t1, p0, p1, q0, q1⟩ (fun hHeld => ?_)
          clear hK K
          try simp only [Act.put, List.setIfInBounds_toArray, List.set_cons_zero, List.set_cons_succ]
          refine wpAnyH_ready (rs := [8]) (by kernel_rfl) (by simp) ?_
          refine AllReadyH.cons (o := { dst := some 31, op := Go.Op.call { callee := Go.Callee.value (Go.Operand.func 17), args := #[Go.Operand.tmp 27, Go.Operand.tmp 30], argTypes := #[24, 24] }, type := 4, pos := "law.go:41", after := #[{ on := 4, ground := Go.Ground.data }, { on := 7, ground := Go.Ground.data }, { on := 7, ground := Go.Ground.chain }, { on := 2, ground := Go.Ground.guard }], guard := some (2, false) }) rfl (fun K hK => ?_) AllReadyH.nil
          go_simp
          go_at_call 17
          refine (cRefSame (s := r) (t := r) (by exact HP1.out.same rfl) (by exact HP2.out.same rfl) hLr).mono ?_
          rw [same_true rfl]
          rintro e v3 ⟨rfl, hw⟩
          replace x0 := (hw.cell (p := ⟨w.heap.size, 0, none⟩) hzx).trans x0
          replace x1 := (hw.cell (p := ⟨w.heap.size, 1, none⟩) hzx).trans x1
          replace y0 := (hw.cell (p := ⟨w.heap.size + 1, 0, none⟩) hzy).trans y0
          replace y1 := (hw.cell (p := ⟨w.heap.size + 1, 1, none⟩) hzy).trans y1
          replace z0 := (hw.cell (p := ⟨G5, 0, none⟩) hzz).trans z0
          replace z1 := (hw.cell (p := ⟨G5, 1, none⟩) hzz).trans z1
          replace t0 := (hw.cell (p := ⟨G6, 0, none⟩) hzt).trans t0
          replace t1 := (hw.cell (p := ⟨G6, 1, none⟩) hzt).trans t1
          replace p0 := (hw.cell (p := ⟨G7, 0, none⟩) hzp).trans p0
          replace p1 := (hw.cell (p := ⟨G7, 1, none⟩) hzp).trans p1
          replace q0 := (hw.cell (p := ⟨G8, 0, none⟩) hzq).trans q0
          replace q1 := (hw.cell (p := ⟨G8, 1, none⟩) hzq).trans q1
          replace hzp := Nat.lt_of_lt_of_le hzp hw.size
          replace hzq := Nat.lt_of_lt_of_le hzq hw.size
          replace hzt := Nat.lt_of_lt_of_le hzt hw.size
          replace hzx := Nat.lt_of_lt_of_le hzx hw.size
          replace hzy := Nat.lt_of_lt_of_le hzy hw.size
          replace hzz := Nat.lt_of_lt_of_le hzz hw.size
          replace HIa := Lib.hid (HIa.out.on hw ⟨rfl, rfl, rfl, rfl⟩)
          replace HIb := Lib.hid (HIb.out.on hw ⟨rfl, rfl, rfl, rfl⟩)
          replace HIx := Lib.hid (HIx.out.on hw ⟨rfl, rfl, rfl, rfl⟩)
          replace HIy := Lib.hid (HIy.out.on hw ⟨rfl, rfl, rfl, rfl⟩)
          replace HIu := Lib.hid (HIu.out.on hw ⟨rfl, rfl, rfl, rfl⟩)
          replace HIv := Lib.hid (HIv.out.on hw ⟨rfl, rfl, rfl, rfl⟩)
          replace HP1 := Lib.hid (HP1.out.on hw ⟨rfl, rfl, rfl, rfl⟩)
          replace HP2 := Lib.hid (HP2.out.on hw ⟨rfl, rfl, rfl, rfl⟩)
          replace HBc : Hid (Below w.heap.size w v3) := below_via HBc.out hw HBc.out.size ⟨rfl, rfl, rfl, rfl⟩
          clear hw
          refine hK.out _ _ ⟨x0, x1, y0, y1, z0, z1, t0, t1, p0, p1, q0, q1⟩ (fun hHeld => ?_)
          clear hK K
          try simp only [Act.put, List.setIfInBounds_toArray, List.set_cons_zero, List.set_cons_succ]
          refine wpAnyH_take (i := 9) (oi := { dst := some 32, op := Go.Op.unOp Go.UnOp.not 4 (Go.Operand.tmp 31), type := 4, pos := "law.go:41", after := #[{ on := 8, ground := Go.Ground.data }, { on := 2, ground := Go.Ground.guard }], guard := some (2, false) }) (v := ?_) rfl (by kernel_rfl) (by kernel_rfl) (by kernel_rfl) (fun _ _ _ h => h) (Or.inl ⟨rfl, ?_⟩) (by assumption) ?_
          rotate_left
          · intro wz hSw; (try dsimp only at hSw); go_simp; try (with_reducible rfl)
          try simp only [Act.put, List.setIfInBounds_toArray, List.set_cons_zero, List.set_cons_succ]
          refine wpAnyH_take (i := 10) (oi := { dst := some 33, op := Go.Op.pick (Go.Operand.tmp 25) (Go.Operand.const (Go.Value.bool true)) (Go.Operand.tmp 32), type := 4, pos := "law.go:41", after := #[{ on := 2, ground := Go.Ground.data }, { on := 9, ground := Go.Ground.data }], guard := none }) (v := ?_) rfl (by kernel_rfl) (by kernel_rfl) (by kernel_rfl) (fun _ _ _ h => h) (Or.inl ⟨rfl, ?_⟩) (by assumption) ?_
          rotate_left
          · intro wz hSw; (try dsimp only at hSw); go_simp; try (with_reducible rfl)
          try simp only [Act.put, List.setIfInBounds_toArray, List.set_cons_zero, List.set_cons_succ]
          refine wpAnyH_take (i := 11) (oi := { dst := some 34, op := Go.Op.move (Go.Operand.tmp 33), type := 4, pos := "law.go:41", after := #[{ on := 10, ground := Go.Ground.data }, { on := 8, ground := Go.Ground.chain }], guard := none }) (v := ?_) rfl (by kernel_rfl) (by kernel_rfl) (by kernel_rfl) (fun _ _ _ h => h) (Or.inl ⟨rfl, ?_⟩) (by assumption) ?_
          rotate_left
          · intro wz hSw; (try dsimp only at hSw); go_simp; try (with_reducible rfl)
          try simp only [Act.put, List.setIfInBounds_toArray, List.set_cons_zero, List.set_cons_succ]
          refine wpAnyH_take (i := 12) (oi := { dst := some 35, op := Go.Op.load 27 (Go.Operand.tmp 7), type := 27, pos := "law.go:41", after := #[{ on := 11, ground := Go.Ground.guard }], guard := some (11, false) }) (v := ?_) rfl (by kernel_rfl) (by kernel_rfl) (by kernel_rfl) (fun _ _ _ h => h) (Or.inl ⟨rfl, ?_⟩) (by assumption) ?_
          rotate_left
          · intro wz hSw; (try dsimp only at hSw); go_simp; try (with_reducible rfl)
          try simp only [Act.put, List.setIfInBounds_toArray, List.set_cons_zero, List.set_cons_succ]
          refine wpAnyH_take (i := 13) (oi := { dst := some 36, op := Go.Op.load 27 (Go.Operand.tmp 8), type := 27, pos := "law.go:41", after := #[{ on := 11, ground := Go.Ground.guard }], guard := some (11, false) }) (v := ?_) rfl (by kernel_rfl) (by kernel_rfl) (by kernel_rfl) (fun _ _ _ h => h) (Or.inl ⟨rfl, ?_⟩) (by assumption) ?_
          rotate_left
          · intro wz hSw; (try dsimp only at hSw); go_simp; try (with_reducible rfl)
          try simp only [Act.put, List.setIfInBounds_toArray, List.set_cons_zero, List.set_cons_succ]
          refine wpAnyH_ready (rs := [14]) (by kernel_rfl) (by simp) ?_
          refine AllReadyH.cons (o := { dst := some 37, op := Go.Op.call { callee := Go.Callee.value (Go.Operand.func 27), args := #[Go.Operand.tmp 35, Go.Operand.tmp 36], argTypes := #[27, 27] }, type := 4, pos := "law.go:41", after := #[{ on := 12, ground := Go.Ground.data }, { on := 13, ground := Go.Ground.data }, { on := 11, ground := Go.Ground.chain }, { on := 11, ground := Go.Ground.guard }], guard := some (11, false) }) rfl (fun K hK => ?_) AllReadyH.nil
          go_simp
          go_at_call 27
          refine (cSame (s := r) (t := r) (by exact HIu.out.same rfl) (by exact HIv.out.same rfl) hLr).mono ?_
          rw [same_true rfl]
          rintro e v4 ⟨rfl, hw⟩
          replace x0 := (hw.cell (p := ⟨w.heap.size, 0, none⟩) hzx).trans x0
          replace x1 := (hw.cell (p := ⟨w.heap.size, 1, none⟩) hzx).trans x1
          replace y0 := (hw.cell (p := ⟨w.heap.size + 1, 0, none⟩) hzy).trans y0
          replace y1 := (hw.cell (p := ⟨w.heap.size + 1, 1, none⟩) hzy).trans y1
          replace z0 := (hw.cell (p := ⟨G5, 0, none⟩) hzz).trans z0
          replace z1 := (hw.cell (p := ⟨G5, 1, none⟩) hzz).trans z1
          replace t0 := (hw.cell (p := ⟨G6, 0, none⟩) hzt).trans t0
          replace t1 := (hw.cell (p := ⟨G6, 1, none⟩) hzt).trans t1
          replace p0 := (hw.cell (p := ⟨G7, 0, none⟩) hzp).trans p0
          replace p1 := (hw.cell (p := ⟨G7, 1, none⟩) hzp).trans p1
          replace q0 := (hw.cell (p := ⟨G8, 0, none⟩) hzq).trans q0
          replace q1 := (hw.cell (p := ⟨G8, 1, none⟩) hzq).trans q1
          replace hzp := Nat.lt_of_lt_of_le hzp hw.size
          replace hzq := Nat.lt_of_lt_of_le hzq hw.size
          replace hzt := Nat.lt_of_lt_of_le hzt hw.size
          replace hzx := Nat.lt_of_lt_of_le hzx hw.size
          replace hzy := Nat.lt_of_lt_of_le hzy hw.size
          replace hzz := Nat.lt_of_lt_of_le hzz hw.size
          replace HIa := Lib.hid (HIa.out.on hw ⟨rfl, rfl, rfl, rfl⟩)
          replace HIb := Lib.hid (HIb.out.on hw ⟨rfl, rfl, rfl, rfl⟩)
          replace HIx := Lib.hid (HIx.out.on hw ⟨rfl, rfl, rfl, rfl⟩)
          replace HIy := Lib.hid (HIy.out.on hw ⟨rfl, rfl, rfl, rfl⟩)
          replace HIu := Lib.hid (HIu.out.on hw ⟨rfl, rfl, rfl, rfl⟩)
          replace HIv := Lib.hid (HIv.out.on hw ⟨rfl, rfl, rfl, rfl⟩)
          replace HBc : Hid (Below w.heap.size w v4) := below_via HBc.out hw HBc.out.size ⟨rfl, rfl, rfl, rfl⟩
          clear hw
          refine hK.out _ _ ⟨x0, x1, y0, y1, z0, z1, t0, t1, p0, p1, q0, q1⟩ (fun hHeld => ?_)
          clear hK K
          try simp only [Act.put, List.setIfInBounds_toArray, List.set_cons_zero, List.set_cons_succ]
          refine wpAnyH_take (i := 15) (oi := { dst := some 38, op := Go.Op.unOp Go.UnOp.not 4 (Go.Operand.tmp 37), type := 4, pos := "law.go:41", after := #[{ on := 14, ground := Go.Ground.data }, { on := 11, ground := Go.Ground.guard }], guard := some (11, false) }) (v := ?_) rfl (by kernel_rfl) (by kernel_rfl) (by kernel_rfl) (fun _ _ _ h => h) (Or.inl ⟨rfl, ?_⟩) (by assumption) ?_
          rotate_left
          · intro wz hSw; (try dsimp only at hSw); go_simp; try (with_reducible rfl)
          try simp only [Act.put, List.setIfInBounds_toArray, List.set_cons_zero, List.set_cons_succ]
          refine wpAnyH_take (i := 16) (oi := { dst := some 39, op := Go.Op.pick (Go.Operand.tmp 34) (Go.Operand.const (Go.Value.bool true)) (Go.Operand.tmp 38), type := 4, pos := "law.go:41", after := #[{ on := 11, ground := Go.Ground.data }, { on := 15, ground := Go.Ground.data }], guard := none }) (v := ?_) rfl (by kernel_rfl) (by kernel_rfl) (by kernel_rfl) (fun _ _ _ h => h) (Or.inl ⟨rfl, ?_⟩) (by assumption) ?_
          rotate_left
          · intro wz hSw; (try dsimp only at hSw); go_simp; try (with_reducible rfl)
          try simp only [Act.put, List.setIfInBounds_toArray, List.set_cons_zero, List.set_cons_succ]
          refine wpAnyH_take (i := 17) (oi := { dst := some 40, op := Go.Op.move (Go.Operand.tmp 39), type := 4, pos := "law.go:41", after := #[{ on := 16, ground := Go.Ground.data }, { on := 14, ground := Go.Ground.chain }], guard := none }) (v := ?_) rfl (by kernel_rfl) (by kernel_rfl) (by kernel_rfl) (fun _ _ _ h => h) (Or.inl ⟨rfl, ?_⟩) (by assumption) ?_
          rotate_left
          · intro wz hSw; (try dsimp only at hSw); go_simp; try (with_reducible rfl)
          try simp only [Act.put, List.setIfInBounds_toArray, List.set_cons_zero, List.set_cons_succ]
          refine wpAnyH_take (i := 18) (oi := { dst := some 41, op := Go.Op.load 27 (Go.Operand.tmp 7), type := 27, pos := "law.go:41", after := #[{ on := 17, ground := Go.Ground.guard }], guard := some (17, false) }) (v := ?_) rfl (by kernel_rfl) (by kernel_rfl) (by kernel_rfl) (fun _ _ _ h => h) (Or.inl ⟨rfl, ?_⟩) (by assumption) ?_
          rotate_left
          · intro wz hSw; (try dsimp only at hSw); go_simp; try (with_reducible rfl)
          try simp only [Act.put, List.setIfInBounds_toArray, List.set_cons_zero, List.set_cons_succ]
          refine wpAnyH_ready (rs := [19]) (by kernel_rfl) (by simp) ?_
          refine AllReadyH.cons (o := { dst := some 42, op := Go.Op.call { callee := Go.Callee.value (Go.Operand.func 11), args := #[Go.Operand.tmp 41], argTypes := #[27] }, type := 4, pos := "law.go:41", after := #[{ on := 18, ground := Go.Ground.data }, { on := 17, ground := Go.Ground.chain }, { on := 17, ground := Go.Ground.guard }], guard := some (17, false) }) rfl (fun K hK => ?_) AllReadyH.nil
          go_simp
          go_at_call 11
          refine (cRight (s := r) (by exact HIu.out.same rfl) hLr).mono ?_
          rw [HRr.out]
          rintro e v5 ⟨rfl, hw⟩
          replace x0 := (hw.cell (p := ⟨w.heap.size, 0, none⟩) hzx).trans x0
          replace x1 := (hw.cell (p := ⟨w.heap.size, 1, none⟩) hzx).trans x1
          replace y0 := (hw.cell (p := ⟨w.heap.size + 1, 0, none⟩) hzy).trans y0
          replace y1 := (hw.cell (p := ⟨w.heap.size + 1, 1, none⟩) hzy).trans y1
          replace z0 := (hw.cell (p := ⟨G5, 0, none⟩) hzz).trans z0
          replace z1 := (hw.cell (p := ⟨G5, 1, none⟩) hzz).trans z1
          replace t0 := (hw.cell (p := ⟨G6, 0, none⟩) hzt).trans t0
          replace t1 := (hw.cell (p := ⟨G6, 1, none⟩) hzt).trans t1
          replace p0 := (hw.cell (p := ⟨G7, 0, none⟩) hzp).trans p0
          replace p1 := (hw.cell (p := ⟨G7, 1, none⟩) hzp).trans p1
          replace q0 := (hw.cell (p := ⟨G8, 0, none⟩) hzq).trans q0
          replace q1 := (hw.cell (p := ⟨G8, 1, none⟩) hzq).trans q1
          replace hzp := Nat.lt_of_lt_of_le hzp hw.size
          replace hzq := Nat.lt_of_lt_of_le hzq hw.size
          replace hzt := Nat.lt_of_lt_of_le hzt hw.size
          replace hzx := Nat.lt_of_lt_of_le hzx hw.size
          replace hzy := Nat.lt_of_lt_of_le hzy hw.size
          replace hzz := Nat.lt_of_lt_of_le hzz hw.size
          replace HIa := Lib.hid (HIa.out.on hw ⟨rfl, rfl, rfl, rfl⟩)
          replace HIb := Lib.hid (HIb.out.on hw ⟨rfl, rfl, rfl, rfl⟩)
          replace HIx := Lib.hid (HIx.out.on hw ⟨rfl, rfl, rfl, rfl⟩)
          replace HIy := Lib.hid (HIy.out.on hw ⟨rfl, rfl, rfl, rfl⟩)
          replace HIu := Lib.hid (HIu.out.on hw ⟨rfl, rfl, rfl, rfl⟩)
          replace HIv := Lib.hid (HIv.out.on hw ⟨rfl, rfl, rfl, rfl⟩)
          replace HBc : Hid (Below w.heap.size w v5) := below_via HBc.out hw HBc.out.size ⟨rfl, rfl, rfl, rfl⟩
          clear hw
          refine hK.out _ _ ⟨x0, x1, y0, y1, z0, z1, t0, t1, p0, p1, q0, q1⟩ (fun hHeld => ?_)
          clear hK K
          try simp only [Act.put, List.setIfInBounds_toArray, List.set_cons_zero, List.set_cons_succ]
          refine wpAnyH_take (i := 20) (oi := { dst := some 43, op := Go.Op.unOp Go.UnOp.not 4 (Go.Operand.tmp 42), type := 4, pos := "law.go:41", after := #[{ on := 19, ground := Go.Ground.data }, { on := 17, ground := Go.Ground.guard }], guard := some (17, false) }) (v := ?_) rfl (by kernel_rfl) (by kernel_rfl) (by kernel_rfl) (fun _ _ _ h => h) (Or.inl ⟨rfl, ?_⟩) (by assumption) ?_
          rotate_left
          · intro wz hSw; (try dsimp only at hSw); go_simp; try (with_reducible rfl)
          try simp only [Act.put, List.setIfInBounds_toArray, List.set_cons_zero, List.set_cons_succ]
          refine wpAnyH_take (i := 21) (oi := { dst := some 44, op := Go.Op.pick (Go.Operand.tmp 40) (Go.Operand.const (Go.Value.bool true)) (Go.Operand.tmp 43), type := 4, pos := "law.go:41", after := #[{ on := 17, ground := Go.Ground.data }, { on := 20, ground := Go.Ground.data }], guard := none }) (v := ?_) rfl (by kernel_rfl) (by kernel_rfl) (by kernel_rfl) (fun _ _ _ h => h) (Or.inl ⟨rfl, ?_⟩) (by assumption) ?_
          rotate_left
          · intro wz hSw; (try dsimp only at hSw); go_simp; try (with_reducible rfl)
          try simp only [Act.put, List.setIfInBounds_toArray, List.set_cons_zero, List.set_cons_succ]
          refine wpAnyH_take (i := 22) (oi := { dst := some 45, op := Go.Op.move (Go.Operand.tmp 44), type := 4, pos := "law.go:41", after := #[{ on := 21, ground := Go.Ground.data }, { on := 19, ground := Go.Ground.chain }], guard := none }) (v := ?_) rfl (by kernel_rfl) (by kernel_rfl) (by kernel_rfl) (fun _ _ _ h => h) (Or.inl ⟨rfl, ?_⟩) (by assumption) ?_
          rotate_left
          · intro wz hSw; (try dsimp only at hSw); go_simp; try (with_reducible rfl)
          try simp only [Act.put, List.setIfInBounds_toArray, List.set_cons_zero, List.set_cons_succ]
          refine wpAnyH_take (i := 23) (oi := { dst := some 46, op := Go.Op.load 27 (Go.Operand.tmp 5), type := 27, pos := "law.go:41", after := #[{ on := 22, ground := Go.Ground.guard }], guard := some (22, false) }) (v := ?_) rfl (by kernel_rfl) (by kernel_rfl) (by kernel_rfl) (fun _ _ _ h => h) (Or.inl ⟨rfl, ?_⟩) (by assumption) ?_
          rotate_left
          · intro wz hSw; (try dsimp only at hSw); go_simp; try (with_reducible rfl)
          try simp only [Act.put, List.setIfInBounds_toArray, List.set_cons_zero, List.set_cons_succ]
          refine wpAnyH_take (i := 24) (oi := { dst := some 47, op := Go.Op.load 27 (Go.Operand.tmp 6), type := 27, pos := "law.go:41", after := #[{ on := 22, ground := Go.Ground.guard }], guard := some (22, false) }) (v := ?_) rfl (by kernel_rfl) (by kernel_rfl) (by kernel_rfl) (fun _ _ _ h => h) (Or.inl ⟨rfl, ?_⟩) (by assumption) ?_
          rotate_left
          · intro wz hSw; (try dsimp only at hSw); go_simp; try (with_reducible rfl)
          try simp only [Act.put, List.setIfInBounds_toArray, List.set_cons_zero, List.set_cons_succ]
          refine wpAnyH_take (i := 26) (oi := { dst := some 49, op := Go.Op.load 24 (Go.Operand.tmp 2), type := 24, pos := "law.go:41", after := #[{ on := 22, ground := Go.Ground.guard }], guard := some (22, false) }) (v := ?_) rfl (by kernel_rfl) (by kernel_rfl) (by kernel_rfl) (fun _ _ _ h => h) (Or.inl ⟨rfl, ?_⟩) (by assumption) ?_
          rotate_left
          · intro wz hSw; (try dsimp only at hSw); go_simp; try (with_reducible rfl)
          try simp only [Act.put, List.setIfInBounds_toArray, List.set_cons_zero, List.set_cons_succ]
          refine wpAnyH_take (i := 27) (oi := { dst := some 50, op := Go.Op.load 24 (Go.Operand.tmp 3), type := 24, pos := "law.go:41", after := #[{ on := 22, ground := Go.Ground.guard }], guard := some (22, false) }) (v := ?_) rfl (by kernel_rfl) (by kernel_rfl) (by kernel_rfl) (fun _ _ _ h => h) (Or.inl ⟨rfl, ?_⟩) (by assumption) ?_
          rotate_left
          · intro wz hSw; (try dsimp only at hSw); go_simp; try (with_reducible rfl)
          try simp only [Act.put, List.setIfInBounds_toArray, List.set_cons_zero, List.set_cons_succ]
          refine wpAnyH_ready (rs := [25]) (by kernel_rfl) (by simp) ?_
          refine AllReadyH.cons (o := { dst := some 48, op := Go.Op.call { callee := Go.Callee.value (Go.Operand.func 28), args := #[Go.Operand.tmp 46, Go.Operand.tmp 47], argTypes := #[27, 27] }, type := 4, pos := "law.go:41", after := #[{ on := 23, ground := Go.Ground.data }, { on := 24, ground := Go.Ground.data }, { on := 22, ground := Go.Ground.chain }, { on := 22, ground := Go.Ground.guard }], guard := some (22, false) }) rfl (fun K hK => ?_) AllReadyH.nil
          go_simp
          go_at_call 28
          refine (cWithin (s := sa) (t := sb) (by exact HIx.out.same rfl) (by exact HIy.out.same rfl) hLa hLb HSb.out.1).mono ?_
          rintro e v6 ⟨rfl, hw⟩
          replace x0 := (hw.cell (p := ⟨w.heap.size, 0, none⟩) hzx).trans x0
          replace x1 := (hw.cell (p := ⟨w.heap.size, 1, none⟩) hzx).trans x1
          replace y0 := (hw.cell (p := ⟨w.heap.size + 1, 0, none⟩) hzy).trans y0
          replace y1 := (hw.cell (p := ⟨w.heap.size + 1, 1, none⟩) hzy).trans y1
          replace z0 := (hw.cell (p := ⟨G5, 0, none⟩) hzz).trans z0
          replace z1 := (hw.cell (p := ⟨G5, 1, none⟩) hzz).trans z1
          replace t0 := (hw.cell (p := ⟨G6, 0, none⟩) hzt).trans t0
          replace t1 := (hw.cell (p := ⟨G6, 1, none⟩) hzt).trans t1
          replace p0 := (hw.cell (p := ⟨G7, 0, none⟩) hzp).trans p0
          replace p1 := (hw.cell (p := ⟨G7, 1, none⟩) hzp).trans p1
          replace q0 := (hw.cell (p := ⟨G8, 0, none⟩) hzq).trans q0
          replace q1 := (hw.cell (p := ⟨G8, 1, none⟩) hzq).trans q1
          replace hzp := Nat.lt_of_lt_of_le hzp hw.size
          replace hzq := Nat.lt_of_lt_of_le hzq hw.size
          replace hzt := Nat.lt_of_lt_of_le hzt hw.size
          replace hzx := Nat.lt_of_lt_of_le hzx hw.size
          replace hzy := Nat.lt_of_lt_of_le hzy hw.size
          replace hzz := Nat.lt_of_lt_of_le hzz hw.size
          replace HIa := Lib.hid (HIa.out.on hw ⟨rfl, rfl, rfl, rfl⟩)
          replace HIb := Lib.hid (HIb.out.on hw ⟨rfl, rfl, rfl, rfl⟩)
          replace HIx := Lib.hid (HIx.out.on hw ⟨rfl, rfl, rfl, rfl⟩)
          replace HIy := Lib.hid (HIy.out.on hw ⟨rfl, rfl, rfl, rfl⟩)
          replace HIu := Lib.hid (HIu.out.on hw ⟨rfl, rfl, rfl, rfl⟩)
          replace HIv := Lib.hid (HIv.out.on hw ⟨rfl, rfl, rfl, rfl⟩)
          replace HBc : Hid (Below w.heap.size w v6) := below_via HBc.out hw HBc.out.size ⟨rfl, rfl, rfl, rfl⟩
          clear hw
          refine hK.out _ _ ⟨x0, x1, y0, y1, z0, z1, t0, t1, p0, p1, q0, q1⟩ (fun hHeld => ?_)
          clear hK K
          try simp only [Act.put, List.setIfInBounds_toArray, List.set_cons_zero, List.set_cons_succ]
          refine wpAnyH_ready (rs := [28]) (by kernel_rfl) (by simp) ?_
          refine AllReadyH.cons (o := { dst := some 51, op := Go.Op.call { callee := Go.Callee.value (Go.Operand.func 29), args := #[Go.Operand.tmp 49, Go.Operand.tmp 50], argTypes := #[24, 24] }, type := 4, pos := "law.go:41", after := #[{ on := 26, ground := Go.Ground.data }, { on := 27, ground := Go.Ground.data }, { on := 25, ground := Go.Ground.chain }, { on := 22, ground := Go.Ground.guard }], guard := some (22, false) }) rfl (fun K hK => ?_) AllReadyH.nil
          go_simp
          go_at_call 29
          refine (cRefWithin (s := sa) (t := sb) (by exact HIa.out.same rfl) (by exact HIb.out.same rfl) hLa hLb HSb.out.1 hUb).mono ?_
          rintro e v7 ⟨rfl, hw⟩
          replace x0 := (hw.cell (p := ⟨w.heap.size, 0, none⟩) hzx).trans x0
          replace x1 := (hw.cell (p := ⟨w.heap.size, 1, none⟩) hzx).trans x1
          replace y0 := (hw.cell (p := ⟨w.heap.size + 1, 0, none⟩) hzy).trans y0
          replace y1 := (hw.cell (p := ⟨w.heap.size + 1, 1, none⟩) hzy).trans y1
          replace z0 := (hw.cell (p := ⟨G5, 0, none⟩) hzz).trans z0
          replace z1 := (hw.cell (p := ⟨G5, 1, none⟩) hzz).trans z1
          replace t0 := (hw.cell (p := ⟨G6, 0, none⟩) hzt).trans t0
          replace t1 := (hw.cell (p := ⟨G6, 1, none⟩) hzt).trans t1
          replace p0 := (hw.cell (p := ⟨G7, 0, none⟩) hzp).trans p0
          replace p1 := (hw.cell (p := ⟨G7, 1, none⟩) hzp).trans p1
          replace q0 := (hw.cell (p := ⟨G8, 0, none⟩) hzq).trans q0
          replace q1 := (hw.cell (p := ⟨G8, 1, none⟩) hzq).trans q1
          replace hzp := Nat.lt_of_lt_of_le hzp hw.size
          replace hzq := Nat.lt_of_lt_of_le hzq hw.size
          replace hzt := Nat.lt_of_lt_of_le hzt hw.size
          replace hzx := Nat.lt_of_lt_of_le hzx hw.size
          replace hzy := Nat.lt_of_lt_of_le hzy hw.size
          replace hzz := Nat.lt_of_lt_of_le hzz hw.size
          replace HIa := Lib.hid (HIa.out.on hw ⟨rfl, rfl, rfl, rfl⟩)
          replace HIb := Lib.hid (HIb.out.on hw ⟨rfl, rfl, rfl, rfl⟩)
          replace HIx := Lib.hid (HIx.out.on hw ⟨rfl, rfl, rfl, rfl⟩)
          replace HIy := Lib.hid (HIy.out.on hw ⟨rfl, rfl, rfl, rfl⟩)
          replace HIu := Lib.hid (HIu.out.on hw ⟨rfl, rfl, rfl, rfl⟩)
          replace HIv := Lib.hid (HIv.out.on hw ⟨rfl, rfl, rfl, rfl⟩)
          replace HBc : Hid (Below w.heap.size w v7) := below_via HBc.out hw HBc.out.size ⟨rfl, rfl, rfl, rfl⟩
          clear hw
          refine hK.out _ _ ⟨x0, x1, y0, y1, z0, z1, t0, t1, p0, p1, q0, q1⟩ (fun hHeld => ?_)
          clear hK K
          try simp only [Act.put, List.setIfInBounds_toArray, List.set_cons_zero, List.set_cons_succ]
          refine wpAnyH_take (i := 29) (oi := { dst := some 52, op := Go.Op.binOp Go.BinOp.neq 4 (Go.Operand.tmp 48) (Go.Operand.tmp 51) 4, type := 4, pos := "law.go:41", after := #[{ on := 25, ground := Go.Ground.data }, { on := 28, ground := Go.Ground.data }, { on := 22, ground := Go.Ground.guard }], guard := some (22, false) }) (v := ?_) rfl (by kernel_rfl) (by kernel_rfl) (by kernel_rfl) (fun _ _ _ h => h) (Or.inl ⟨rfl, ?_⟩) (by assumption) ?_
          rotate_left
          · intro wz hSw; (try dsimp only at hSw); go_simp; try (with_reducible rfl)
          try simp only [Act.put, List.setIfInBounds_toArray, List.set_cons_zero, List.set_cons_succ]
          refine wpAnyH_take (i := 30) (oi := { dst := some 53, op := Go.Op.pick (Go.Operand.tmp 45) (Go.Operand.const (Go.Value.bool true)) (Go.Operand.tmp 52), type := 4, pos := "law.go:41", after := #[{ on := 22, ground := Go.Ground.data }, { on := 29, ground := Go.Ground.data }], guard := none }) (v := ?_) rfl (by kernel_rfl) (by kernel_rfl) (by kernel_rfl) (fun _ _ _ h => h) (Or.inl ⟨rfl, ?_⟩) (by assumption) ?_
          rotate_left
          · intro wz hSw; (try dsimp only at hSw); go_simp; try (with_reducible rfl)
          try simp only [Act.put, List.setIfInBounds_toArray, List.set_cons_zero, List.set_cons_succ]
          refine wpAnyH_take (i := 31) (oi := { dst := some 54, op := Go.Op.move (Go.Operand.tmp 53), type := 4, pos := "law.go:41", after := #[{ on := 30, ground := Go.Ground.data }, { on := 28, ground := Go.Ground.chain }], guard := none }) (v := ?_) rfl (by kernel_rfl) (by kernel_rfl) (by kernel_rfl) (fun _ _ _ h => h) (Or.inl ⟨rfl, ?_⟩) (by assumption) ?_
          rotate_left
          · intro wz hSw; (try dsimp only at hSw); go_simp; try (with_reducible rfl)
          try simp only [Act.put, List.setIfInBounds_toArray, List.set_cons_zero, List.set_cons_succ]
          refine wpAnyH_take (i := 32) (oi := { dst := some 55, op := Go.Op.load 27 (Go.Operand.tmp 5), type := 27, pos := "law.go:41", after := #[{ on := 31, ground := Go.Ground.guard }], guard := some (31, false) }) (v := ?_) rfl (by kernel_rfl) (by kernel_rfl) (by kernel_rfl) (fun _ _ _ h => h) (Or.inl ⟨rfl, ?_⟩) (by assumption) ?_
          rotate_left
          · intro wz hSw; (try dsimp only at hSw); go_simp; try (with_reducible rfl)
          try simp only [Act.put, List.setIfInBounds_toArray, List.set_cons_zero, List.set_cons_succ]
          refine wpAnyH_take (i := 33) (oi := { dst := some 56, op := Go.Op.load 27 (Go.Operand.tmp 6), type := 27, pos := "law.go:41", after := #[{ on := 31, ground := Go.Ground.guard }], guard := some (31, false) }) (v := ?_) rfl (by kernel_rfl) (by kernel_rfl) (by kernel_rfl) (fun _ _ _ h => h) (Or.inl ⟨rfl, ?_⟩) (by assumption) ?_
          rotate_left
          · intro wz hSw; (try dsimp only at hSw); go_simp; try (with_reducible rfl)
          try simp only [Act.put, List.setIfInBounds_toArray, List.set_cons_zero, List.set_cons_succ]
          refine wpAnyH_take (i := 35) (oi := { dst := some 58, op := Go.Op.load 24 (Go.Operand.tmp 2), type := 24, pos := "law.go:41", after := #[{ on := 31, ground := Go.Ground.guard }], guard := some (31, false) }) (v := ?_) rfl (by kernel_rfl) (by kernel_rfl) (by kernel_rfl) (fun _ _ _ h => h) (Or.inl ⟨rfl, ?_⟩) (by assumption) ?_
          rotate_left
          · intro wz hSw; (try dsimp only at hSw); go_simp; try (with_reducible rfl)
          try simp only [Act.put, List.setIfInBounds_toArray, List.set_cons_zero, List.set_cons_succ]
          refine wpAnyH_take (i := 36) (oi := { dst := some 59, op := Go.Op.load 24 (Go.Operand.tmp 3), type := 24, pos := "law.go:41", after := #[{ on := 31, ground := Go.Ground.guard }], guard := some (31, false) }) (v := ?_) rfl (by kernel_rfl) (by kernel_rfl) (by kernel_rfl) (fun _ _ _ h => h) (Or.inl ⟨rfl, ?_⟩) (by assumption) ?_
          rotate_left
          · intro wz hSw; (try dsimp only at hSw); go_simp; try (with_reducible rfl)
          try simp only [Act.put, List.setIfInBounds_toArray, List.set_cons_zero, List.set_cons_succ]
          refine wpAnyH_ready (rs := [34]) (by kernel_rfl) (by simp) ?_
          refine AllReadyH.cons (o := { dst := some 57, op := Go.Op.call { callee := Go.Callee.value (Go.Operand.func 27), args := #[Go.Operand.tmp 55, Go.Operand.tmp 56], argTypes := #[27, 27] }, type := 4, pos := "law.go:41", after := #[{ on := 32, ground := Go.Ground.data }, { on := 33, ground := Go.Ground.data }, { on := 31, ground := Go.Ground.chain }, { on := 31, ground := Go.Ground.guard }], guard := some (31, false) }) rfl (fun K hK => ?_) AllReadyH.nil
          go_simp
          go_at_call 27
          refine (cSame (s := sa) (t := sb) (by exact HIx.out.same rfl) (by exact HIy.out.same rfl) hLa).mono ?_
          rintro e v8 ⟨rfl, hw⟩
          replace x0 := (hw.cell (p := ⟨w.heap.size, 0, none⟩) hzx).trans x0
          replace x1 := (hw.cell (p := ⟨w.heap.size, 1, none⟩) hzx).trans x1
          replace y0 := (hw.cell (p := ⟨w.heap.size + 1, 0, none⟩) hzy).trans y0
          replace y1 := (hw.cell (p := ⟨w.heap.size + 1, 1, none⟩) hzy).trans y1
          replace z0 := (hw.cell (p := ⟨G5, 0, none⟩) hzz).trans z0
          replace z1 := (hw.cell (p := ⟨G5, 1, none⟩) hzz).trans z1
          replace t0 := (hw.cell (p := ⟨G6, 0, none⟩) hzt).trans t0
          replace t1 := (hw.cell (p := ⟨G6, 1, none⟩) hzt).trans t1
          replace p0 := (hw.cell (p := ⟨G7, 0, none⟩) hzp).trans p0
          replace p1 := (hw.cell (p := ⟨G7, 1, none⟩) hzp).trans p1
          replace q0 := (hw.cell (p := ⟨G8, 0, none⟩) hzq).trans q0
          replace q1 := (hw.cell (p := ⟨G8, 1, none⟩) hzq).trans q1
          replace hzp := Nat.lt_of_lt_of_le hzp hw.size
          replace hzq := Nat.lt_of_lt_of_le hzq hw.size
          replace hzt := Nat.lt_of_lt_of_le hzt hw.size
          replace hzx := Nat.lt_of_lt_of_le hzx hw.size
          replace hzy := Nat.lt_of_lt_of_le hzy hw.size
          replace hzz := Nat.lt_of_lt_of_le hzz hw.size
          replace HIa := Lib.hid (HIa.out.on hw ⟨rfl, rfl, rfl, rfl⟩)
          replace HIb := Lib.hid (HIb.out.on hw ⟨rfl, rfl, rfl, rfl⟩)
          replace HIx := Lib.hid (HIx.out.on hw ⟨rfl, rfl, rfl, rfl⟩)
          replace HIy := Lib.hid (HIy.out.on hw ⟨rfl, rfl, rfl, rfl⟩)
          replace HIu := Lib.hid (HIu.out.on hw ⟨rfl, rfl, rfl, rfl⟩)
          replace HIv := Lib.hid (HIv.out.on hw ⟨rfl, rfl, rfl, rfl⟩)
          replace HBc : Hid (Below w.heap.size w v8) := below_via HBc.out hw HBc.out.size ⟨rfl, rfl, rfl, rfl⟩
          clear hw
          refine hK.out _ _ ⟨x0, x1, y0, y1, z0, z1, t0, t1, p0, p1, q0, q1⟩ (fun hHeld => ?_)
          clear hK K
          try simp only [Act.put, List.setIfInBounds_toArray, List.set_cons_zero, List.set_cons_succ]
          refine wpAnyH_ready (rs := [37]) (by kernel_rfl) (by simp) ?_
          refine AllReadyH.cons (o := { dst := some 60, op := Go.Op.call { callee := Go.Callee.value (Go.Operand.func 17), args := #[Go.Operand.tmp 58, Go.Operand.tmp 59], argTypes := #[24, 24] }, type := 4, pos := "law.go:41", after := #[{ on := 35, ground := Go.Ground.data }, { on := 36, ground := Go.Ground.data }, { on := 34, ground := Go.Ground.chain }, { on := 31, ground := Go.Ground.guard }], guard := some (31, false) }) rfl (fun K hK => ?_) AllReadyH.nil
          go_simp
          go_at_call 17
          refine (cRefSame (s := sa) (t := sb) (by exact HIa.out.same rfl) (by exact HIb.out.same rfl) hLa).mono ?_
          rintro e v9 ⟨rfl, hw⟩
          replace x0 := (hw.cell (p := ⟨w.heap.size, 0, none⟩) hzx).trans x0
          replace x1 := (hw.cell (p := ⟨w.heap.size, 1, none⟩) hzx).trans x1
          replace y0 := (hw.cell (p := ⟨w.heap.size + 1, 0, none⟩) hzy).trans y0
          replace y1 := (hw.cell (p := ⟨w.heap.size + 1, 1, none⟩) hzy).trans y1
          replace z0 := (hw.cell (p := ⟨G5, 0, none⟩) hzz).trans z0
          replace z1 := (hw.cell (p := ⟨G5, 1, none⟩) hzz).trans z1
          replace t0 := (hw.cell (p := ⟨G6, 0, none⟩) hzt).trans t0
          replace t1 := (hw.cell (p := ⟨G6, 1, none⟩) hzt).trans t1
          replace p0 := (hw.cell (p := ⟨G7, 0, none⟩) hzp).trans p0
          replace p1 := (hw.cell (p := ⟨G7, 1, none⟩) hzp).trans p1
          replace q0 := (hw.cell (p := ⟨G8, 0, none⟩) hzq).trans q0
          replace q1 := (hw.cell (p := ⟨G8, 1, none⟩) hzq).trans q1
          replace hzp := Nat.lt_of_lt_of_le hzp hw.size
          replace hzq := Nat.lt_of_lt_of_le hzq hw.size
          replace hzt := Nat.lt_of_lt_of_le hzt hw.size
          replace hzx := Nat.lt_of_lt_of_le hzx hw.size
          replace hzy := Nat.lt_of_lt_of_le hzy hw.size
          replace hzz := Nat.lt_of_lt_of_le hzz hw.size
          replace HIa := Lib.hid (HIa.out.on hw ⟨rfl, rfl, rfl, rfl⟩)
          replace HIb := Lib.hid (HIb.out.on hw ⟨rfl, rfl, rfl, rfl⟩)
          replace HIx := Lib.hid (HIx.out.on hw ⟨rfl, rfl, rfl, rfl⟩)
          replace HIy := Lib.hid (HIy.out.on hw ⟨rfl, rfl, rfl, rfl⟩)
          replace HIu := Lib.hid (HIu.out.on hw ⟨rfl, rfl, rfl, rfl⟩)
          replace HIv := Lib.hid (HIv.out.on hw ⟨rfl, rfl, rfl, rfl⟩)
          replace HBc : Hid (Below w.heap.size w v9) := below_via HBc.out hw HBc.out.size ⟨rfl, rfl, rfl, rfl⟩
          clear hw
          refine hK.out _ _ ⟨x0, x1, y0, y1, z0, z1, t0, t1, p0, p1, q0, q1⟩ (fun hHeld => ?_)
          clear hK K
          try simp only [Act.put, List.setIfInBounds_toArray, List.set_cons_zero, List.set_cons_succ]
          refine wpAnyH_take (i := 38) (oi := { dst := some 61, op := Go.Op.binOp Go.BinOp.neq 4 (Go.Operand.tmp 57) (Go.Operand.tmp 60) 4, type := 4, pos := "law.go:41", after := #[{ on := 34, ground := Go.Ground.data }, { on := 37, ground := Go.Ground.data }, { on := 31, ground := Go.Ground.guard }], guard := some (31, false) }) (v := ?_) rfl (by kernel_rfl) (by kernel_rfl) (by kernel_rfl) (fun _ _ _ h => h) (Or.inl ⟨rfl, ?_⟩) (by assumption) ?_
          rotate_left
          · intro wz hSw; (try dsimp only at hSw); go_simp; try (with_reducible rfl)
          try simp only [Act.put, List.setIfInBounds_toArray, List.set_cons_zero, List.set_cons_succ]
          refine wpAnyH_take (i := 39) (oi := { dst := some 62, op := Go.Op.pick (Go.Operand.tmp 54) (Go.Operand.const (Go.Value.bool true)) (Go.Operand.tmp 61), type := 4, pos := "law.go:41", after := #[{ on := 31, ground := Go.Ground.data }, { on := 38, ground := Go.Ground.data }], guard := none }) (v := ?_) rfl (by kernel_rfl) (by kernel_rfl) (by kernel_rfl) (fun _ _ _ h => h) (Or.inl ⟨rfl, ?_⟩) (by assumption) ?_
          rotate_left
          · intro wz hSw; (try dsimp only at hSw); go_simp; try (with_reducible rfl)
          try simp only [Act.put, List.setIfInBounds_toArray, List.set_cons_zero, List.set_cons_succ]
          refine wpAnyH_done (by kernel_rfl) ?_ _
          go_wp2_with fail
          refine wp_region_held_drew (S := fun w' => w'.cell? ⟨w.heap.size, 0, none⟩ = some (.int .i64 sa.1) ∧ w'.cell? ⟨w.heap.size, 1, none⟩ = some (.slice A1 sa.2.length c1) ∧ w'.cell? ⟨w.heap.size + 1, 0, none⟩ = some (.int .i64 sb.1) ∧ w'.cell? ⟨w.heap.size + 1, 1, none⟩ = some (.slice A2 sb.2.length c2) ∧ w'.cell? ⟨G5, 0, none⟩ = some (.int .i64 sa.1) ∧ w'.cell? ⟨G5, 1, none⟩ = some (.slice A3 sa.2.length c3) ∧ w'.cell? ⟨G6, 0, none⟩ = some (.int .i64 sb.1) ∧ w'.cell? ⟨G6, 1, none⟩ = some (.slice A4 sb.2.length c4) ∧ w'.cell? ⟨G7, 0, none⟩ = some (.int .i64 r.1) ∧ w'.cell? ⟨G7, 1, none⟩ = some (.slice A5 r.2.length c5) ∧ w'.cell? ⟨G8, 0, none⟩ = some (.int .i64 r.1) ∧ w'.cell? ⟨G8, 1, none⟩ = some (.slice A6 r.2.length c6)) (by kernel_rfl) ⟨x0, x1, y0, y1, z0, z1, t0, t1, p0, p1, q0, q1⟩ (fun hHeld => ?_)
          refine wpAnyH_take (i := 0) (oi := { dst := some 63, op := Go.Op.load 27 (Go.Operand.tmp 5), type := 27, pos := "law.go:44", after := #[], guard := none }) (v := ?_) rfl (by kernel_rfl) (by kernel_rfl) (by kernel_rfl) (fun _ _ _ h => h) (Or.inl ⟨rfl, ?_⟩) (by assumption) ?_
          rotate_left
          · intro wz hSw; (try dsimp only at hSw); go_simp; try (with_reducible rfl)
          try simp only [Act.put, List.setIfInBounds_toArray, List.set_cons_zero, List.set_cons_succ]
          refine wpAnyH_take (i := 1) (oi := { dst := some 64, op := Go.Op.load 27 (Go.Operand.tmp 7), type := 27, pos := "law.go:44", after := #[], guard := none }) (v := ?_) rfl (by kernel_rfl) (by kernel_rfl) (by kernel_rfl) (fun _ _ _ h => h) (Or.inl ⟨rfl, ?_⟩) (by assumption) ?_
          rotate_left
          · intro wz hSw; (try dsimp only at hSw); go_simp; try (with_reducible rfl)
          try simp only [Act.put, List.setIfInBounds_toArray, List.set_cons_zero, List.set_cons_succ]
          refine wpAnyH_ready (rs := [2]) (by kernel_rfl) (by simp) ?_
          refine AllReadyH.cons (o := { dst := some 65, op := Go.Op.call { callee := Go.Callee.value (Go.Operand.func 28), args := #[Go.Operand.tmp 63, Go.Operand.tmp 64], argTypes := #[27, 27] }, type := 4, pos := "law.go:44", after := #[{ on := 0, ground := Go.Ground.data }, { on := 1, ground := Go.Ground.data }], guard := none }) rfl (fun K hK => ?_) AllReadyH.nil
          go_simp
          go_at_call 28
          refine (cWithin (s := sa) (t := r) (by exact HIx.out.same rfl) (by exact HIu.out.same rfl) hLa hLr HSr.out.1).mono ?_
          rw [HWa.out]
          rintro e u0 ⟨rfl, hw⟩
          replace x0 := (hw.cell (p := ⟨w.heap.size, 0, none⟩) hzx).trans x0
          replace x1 := (hw.cell (p := ⟨w.heap.size, 1, none⟩) hzx).trans x1
          replace y0 := (hw.cell (p := ⟨w.heap.size + 1, 0, none⟩) hzy).trans y0
          replace y1 := (hw.cell (p := ⟨w.heap.size + 1, 1, none⟩) hzy).trans y1
          replace z0 := (hw.cell (p := ⟨G5, 0, none⟩) hzz).trans z0
          replace z1 := (hw.cell (p := ⟨G5, 1, none⟩) hzz).trans z1
          replace t0 := (hw.cell (p := ⟨G6, 0, none⟩) hzt).trans t0
          replace t1 := (hw.cell (p := ⟨G6, 1, none⟩) hzt).trans t1
          replace p0 := (hw.cell (p := ⟨G7, 0, none⟩) hzp).trans p0
          replace p1 := (hw.cell (p := ⟨G7, 1, none⟩) hzp).trans p1
          replace q0 := (hw.cell (p := ⟨G8, 0, none⟩) hzq).trans q0
          replace q1 := (hw.cell (p := ⟨G8, 1, none⟩) hzq).trans q1
          replace hzp := Nat.lt_of_lt_of_le hzp hw.size
          replace hzq := Nat.lt_of_lt_of_le hzq hw.size
          replace hzt := Nat.lt_of_lt_of_le hzt hw.size
          replace hzx := Nat.lt_of_lt_of_le hzx hw.size
          replace hzy := Nat.lt_of_lt_of_le hzy hw.size
          replace hzz := Nat.lt_of_lt_of_le hzz hw.size
          replace HIa := Lib.hid (HIa.out.on hw ⟨rfl, rfl, rfl, rfl⟩)
          replace HIb := Lib.hid (HIb.out.on hw ⟨rfl, rfl, rfl, rfl⟩)
          replace HIx := Lib.hid (HIx.out.on hw ⟨rfl, rfl, rfl, rfl⟩)
          replace HIy := Lib.hid (HIy.out.on hw ⟨rfl, rfl, rfl, rfl⟩)
          replace HIu := Lib.hid (HIu.out.on hw ⟨rfl, rfl, rfl, rfl⟩)
          replace HIv := Lib.hid (HIv.out.on hw ⟨rfl, rfl, rfl, rfl⟩)
          replace HBc : Hid (Below w.heap.size w u0) := below_via HBc.out hw HBc.out.size ⟨rfl, rfl, rfl, rfl⟩
          clear hw
          refine hK.out _ _ ⟨x0, x1, y0, y1, z0, z1, t0, t1, p0, p1, q0, q1⟩ (fun hHeld => ?_)
          clear hK K
          try simp only [Act.put, List.setIfInBounds_toArray, List.set_cons_zero, List.set_cons_succ]
          refine wpAnyH_take (i := 3) (oi := { dst := some 66, op := Go.Op.move (Go.Operand.tmp 65), type := 4, pos := "law.go:44", after := #[{ on := 2, ground := Go.Ground.data }, { on := 2, ground := Go.Ground.chain }], guard := none }) (v := ?_) rfl (by kernel_rfl) (by kernel_rfl) (by kernel_rfl) (fun _ _ _ h => h) (Or.inl ⟨rfl, ?_⟩) (by assumption) ?_
          rotate_left
          · intro wz hSw; (try dsimp only at hSw); go_simp; try (with_reducible rfl)
          try simp only [Act.put, List.setIfInBounds_toArray, List.set_cons_zero, List.set_cons_succ]
          refine wpAnyH_take (i := 4) (oi := { dst := some 67, op := Go.Op.load 27 (Go.Operand.tmp 6), type := 27, pos := "law.go:44", after := #[{ on := 3, ground := Go.Ground.guard }], guard := some (3, true) }) (v := ?_) rfl (by kernel_rfl) (by kernel_rfl) (by kernel_rfl) (fun _ _ _ h => h) (Or.inl ⟨rfl, ?_⟩) (by assumption) ?_
          rotate_left
          · intro wz hSw; (try dsimp only at hSw); go_simp; try (with_reducible rfl)
          try simp only [Act.put, List.setIfInBounds_toArray, List.set_cons_zero, List.set_cons_succ]
          refine wpAnyH_take (i := 5) (oi := { dst := some 68, op := Go.Op.load 27 (Go.Operand.tmp 7), type := 27, pos := "law.go:44", after := #[{ on := 3, ground := Go.Ground.guard }], guard := some (3, true) }) (v := ?_) rfl (by kernel_rfl) (by kernel_rfl) (by kernel_rfl) (fun _ _ _ h => h) (Or.inl ⟨rfl, ?_⟩) (by assumption) ?_
          rotate_left
          · intro wz hSw; (try dsimp only at hSw); go_simp; try (with_reducible rfl)
          try simp only [Act.put, List.setIfInBounds_toArray, List.set_cons_zero, List.set_cons_succ]
          refine wpAnyH_ready (rs := [6]) (by kernel_rfl) (by simp) ?_
          refine AllReadyH.cons (o := { dst := some 69, op := Go.Op.call { callee := Go.Callee.value (Go.Operand.func 28), args := #[Go.Operand.tmp 67, Go.Operand.tmp 68], argTypes := #[27, 27] }, type := 4, pos := "law.go:44", after := #[{ on := 4, ground := Go.Ground.data }, { on := 5, ground := Go.Ground.data }, { on := 3, ground := Go.Ground.chain }, { on := 3, ground := Go.Ground.guard }], guard := some (3, true) }) rfl (fun K hK => ?_) AllReadyH.nil
          go_simp
          go_at_call 28
          refine (cWithin (s := sb) (t := r) (by exact HIy.out.same rfl) (by exact HIu.out.same rfl) hLb hLr HSr.out.1).mono ?_
          rw [HWb.out]
          rintro e u1 ⟨rfl, hw⟩
          replace x0 := (hw.cell (p := ⟨w.heap.size, 0, none⟩) hzx).trans x0
          replace x1 := (hw.cell (p := ⟨w.heap.size, 1, none⟩) hzx).trans x1
          replace y0 := (hw.cell (p := ⟨w.heap.size + 1, 0, none⟩) hzy).trans y0
          replace y1 := (hw.cell (p := ⟨w.heap.size + 1, 1, none⟩) hzy).trans y1
          replace z0 := (hw.cell (p := ⟨G5, 0, none⟩) hzz).trans z0
          replace z1 := (hw.cell (p := ⟨G5, 1, none⟩) hzz).trans z1
          replace t0 := (hw.cell (p := ⟨G6, 0, none⟩) hzt).trans t0
          replace t1 := (hw.cell (p := ⟨G6, 1, none⟩) hzt).trans t1
          replace p0 := (hw.cell (p := ⟨G7, 0, none⟩) hzp).trans p0
          replace p1 := (hw.cell (p := ⟨G7, 1, none⟩) hzp).trans p1
          replace q0 := (hw.cell (p := ⟨G8, 0, none⟩) hzq).trans q0
          replace q1 := (hw.cell (p := ⟨G8, 1, none⟩) hzq).trans q1
          replace hzp := Nat.lt_of_lt_of_le hzp hw.size
          replace hzq := Nat.lt_of_lt_of_le hzq hw.size
          replace hzt := Nat.lt_of_lt_of_le hzt hw.size
          replace hzx := Nat.lt_of_lt_of_le hzx hw.size
          replace hzy := Nat.lt_of_lt_of_le hzy hw.size
          replace hzz := Nat.lt_of_lt_of_le hzz hw.size
          replace HIa := Lib.hid (HIa.out.on hw ⟨rfl, rfl, rfl, rfl⟩)
          replace HIb := Lib.hid (HIb.out.on hw ⟨rfl, rfl, rfl, rfl⟩)
          replace HIx := Lib.hid (HIx.out.on hw ⟨rfl, rfl, rfl, rfl⟩)
          replace HIy := Lib.hid (HIy.out.on hw ⟨rfl, rfl, rfl, rfl⟩)
          replace HIu := Lib.hid (HIu.out.on hw ⟨rfl, rfl, rfl, rfl⟩)
          replace HIv := Lib.hid (HIv.out.on hw ⟨rfl, rfl, rfl, rfl⟩)
          replace HBc : Hid (Below w.heap.size w u1) := below_via HBc.out hw HBc.out.size ⟨rfl, rfl, rfl, rfl⟩
          clear hw
          refine hK.out _ _ ⟨x0, x1, y0, y1, z0, z1, t0, t1, p0, p1, q0, q1⟩ (fun hHeld => ?_)
          clear hK K
          try simp only [Act.put, List.setIfInBounds_toArray, List.set_cons_zero, List.set_cons_succ]
          refine wpAnyH_take (i := 7) (oi := { dst := some 70, op := Go.Op.pick (Go.Operand.tmp 66) (Go.Operand.tmp 69) (Go.Operand.const (Go.Value.bool false)), type := 4, pos := "law.go:44", after := #[{ on := 3, ground := Go.Ground.data }, { on := 6, ground := Go.Ground.data }], guard := none }) (v := ?_) rfl (by kernel_rfl) (by kernel_rfl) (by kernel_rfl) (fun _ _ _ h => h) (Or.inl ⟨rfl, ?_⟩) (by assumption) ?_
          rotate_left
          · intro wz hSw; (try dsimp only at hSw); go_simp; try (with_reducible rfl)
          try simp only [Act.put, List.setIfInBounds_toArray, List.set_cons_zero, List.set_cons_succ]
          refine wpAnyH_take (i := 8) (oi := { dst := some 71, op := Go.Op.move (Go.Operand.tmp 70), type := 4, pos := "law.go:44", after := #[{ on := 7, ground := Go.Ground.data }, { on := 6, ground := Go.Ground.chain }], guard := none }) (v := ?_) rfl (by kernel_rfl) (by kernel_rfl) (by kernel_rfl) (fun _ _ _ h => h) (Or.inl ⟨rfl, ?_⟩) (by assumption) ?_
          rotate_left
          · intro wz hSw; (try dsimp only at hSw); go_simp; try (with_reducible rfl)
          try simp only [Act.put, List.setIfInBounds_toArray, List.set_cons_zero, List.set_cons_succ]
          refine wpAnyH_take (i := 9) (oi := { dst := some 72, op := Go.Op.load 27 (Go.Operand.tmp 5), type := 27, pos := "law.go:44", after := #[{ on := 8, ground := Go.Ground.guard }], guard := some (8, true) }) (v := ?_) rfl (by kernel_rfl) (by kernel_rfl) (by kernel_rfl) (fun _ _ _ h => h) (Or.inl ⟨rfl, ?_⟩) (by assumption) ?_
          rotate_left
          · intro wz hSw; (try dsimp only at hSw); go_simp; try (with_reducible rfl)
          try simp only [Act.put, List.setIfInBounds_toArray, List.set_cons_zero, List.set_cons_succ]
          refine wpAnyH_take (i := 10) (oi := { dst := some 73, op := Go.Op.load 27 (Go.Operand.tmp 6), type := 27, pos := "law.go:44", after := #[{ on := 8, ground := Go.Ground.guard }], guard := some (8, true) }) (v := ?_) rfl (by kernel_rfl) (by kernel_rfl) (by kernel_rfl) (fun _ _ _ h => h) (Or.inl ⟨rfl, ?_⟩) (by assumption) ?_
          rotate_left
          · intro wz hSw; (try dsimp only at hSw); go_simp; try (with_reducible rfl)
          try simp only [Act.put, List.setIfInBounds_toArray, List.set_cons_zero, List.set_cons_succ]
          refine wpAnyH_take (i := 12) (oi := { dst := some 75, op := Go.Op.load 27 (Go.Operand.tmp 7), type := 27, pos := "law.go:44", after := #[{ on := 8, ground := Go.Ground.guard }], guard := some (8, true) }) (v := ?_) rfl (by kernel_rfl) (by kernel_rfl) (by kernel_rfl) (fun _ _ _ h => h) (Or.inl ⟨rfl, ?_⟩) (by assumption) ?_
          rotate_left
          · intro wz hSw; (try dsimp only at hSw); go_simp; try (with_reducible rfl)
          try simp only [Act.put, List.setIfInBounds_toArray, List.set_cons_zero, List.set_cons_succ]
          refine wpAnyH_take (i := 13) (oi := { dst := some 76, op := Go.Op.load 27 (Go.Operand.tmp 6), type := 27, pos := "law.go:44", after := #[{ on := 8, ground := Go.Ground.guard }], guard := some (8, true) }) (v := ?_) rfl (by kernel_rfl) (by kernel_rfl) (by kernel_rfl) (fun _ _ _ h => h) (Or.inl ⟨rfl, ?_⟩) (by assumption) ?_
          rotate_left
          · intro wz hSw; (try dsimp only at hSw); go_simp; try (with_reducible rfl)
          try simp only [Act.put, List.setIfInBounds_toArray, List.set_cons_zero, List.set_cons_succ]
          refine wpAnyH_ready (rs := [11]) (by kernel_rfl) (by simp) ?_
          refine AllReadyH.cons (o := { dst := some 74, op := Go.Op.call { callee := Go.Callee.value (Go.Operand.func 28), args := #[Go.Operand.tmp 72, Go.Operand.tmp 73], argTypes := #[27, 27] }, type := 4, pos := "law.go:44", after := #[{ on := 9, ground := Go.Ground.data }, { on := 10, ground := Go.Ground.data }, { on := 8, ground := Go.Ground.chain }, { on := 8, ground := Go.Ground.guard }], guard := some (8, true) }) rfl (fun K hK => ?_) AllReadyH.nil
          go_simp
          go_at_call 28
          refine (cWithin (s := sa) (t := sb) (by exact HIx.out.same rfl) (by exact HIy.out.same rfl) hLa hLb HSb.out.1).mono ?_
          rintro e u2 ⟨rfl, hw⟩
          replace x0 := (hw.cell (p := ⟨w.heap.size, 0, none⟩) hzx).trans x0
          replace x1 := (hw.cell (p := ⟨w.heap.size, 1, none⟩) hzx).trans x1
          replace y0 := (hw.cell (p := ⟨w.heap.size + 1, 0, none⟩) hzy).trans y0
          replace y1 := (hw.cell (p := ⟨w.heap.size + 1, 1, none⟩) hzy).trans y1
          replace z0 := (hw.cell (p := ⟨G5, 0, none⟩) hzz).trans z0
          replace z1 := (hw.cell (p := ⟨G5, 1, none⟩) hzz).trans z1
          replace t0 := (hw.cell (p := ⟨G6, 0, none⟩) hzt).trans t0
          replace t1 := (hw.cell (p := ⟨G6, 1, none⟩) hzt).trans t1
          replace p0 := (hw.cell (p := ⟨G7, 0, none⟩) hzp).trans p0
          replace p1 := (hw.cell (p := ⟨G7, 1, none⟩) hzp).trans p1
          replace q0 := (hw.cell (p := ⟨G8, 0, none⟩) hzq).trans q0
          replace q1 := (hw.cell (p := ⟨G8, 1, none⟩) hzq).trans q1
          replace hzp := Nat.lt_of_lt_of_le hzp hw.size
          replace hzq := Nat.lt_of_lt_of_le hzq hw.size
          replace hzt := Nat.lt_of_lt_of_le hzt hw.size
          replace hzx := Nat.lt_of_lt_of_le hzx hw.size
          replace hzy := Nat.lt_of_lt_of_le hzy hw.size
          replace hzz := Nat.lt_of_lt_of_le hzz hw.size
          replace HIa := Lib.hid (HIa.out.on hw ⟨rfl, rfl, rfl, rfl⟩)
          replace HIb := Lib.hid (HIb.out.on hw ⟨rfl, rfl, rfl, rfl⟩)
          replace HIx := Lib.hid (HIx.out.on hw ⟨rfl, rfl, rfl, rfl⟩)
          replace HIy := Lib.hid (HIy.out.on hw ⟨rfl, rfl, rfl, rfl⟩)
          replace HIu := Lib.hid (HIu.out.on hw ⟨rfl, rfl, rfl, rfl⟩)
          replace HIv := Lib.hid (HIv.out.on hw ⟨rfl, rfl, rfl, rfl⟩)
          replace HBc : Hid (Below w.heap.size w u2) := below_via HBc.out hw HBc.out.size ⟨rfl, rfl, rfl, rfl⟩
          clear hw
          refine hK.out _ _ ⟨x0, x1, y0, y1, z0, z1, t0, t1, p0, p1, q0, q1⟩ (fun hHeld => ?_)
          clear hK K
          try simp only [Act.put, List.setIfInBounds_toArray, List.set_cons_zero, List.set_cons_succ]
          refine wpAnyH_ready (rs := [14]) (by kernel_rfl) (by simp) ?_
          refine AllReadyH.cons (o := { dst := some 77, op := Go.Op.call { callee := Go.Callee.value (Go.Operand.func 27), args := #[Go.Operand.tmp 75, Go.Operand.tmp 76], argTypes := #[27, 27] }, type := 4, pos := "law.go:44", after := #[{ on := 12, ground := Go.Ground.data }, { on := 13, ground := Go.Ground.data }, { on := 11, ground := Go.Ground.chain }, { on := 8, ground := Go.Ground.guard }], guard := some (8, true) }) rfl (fun K hK => ?_) AllReadyH.nil
          go_simp
          go_at_call 27
          refine (cSame (s := r) (t := sb) (by exact HIu.out.same rfl) (by exact HIy.out.same rfl) hLr).mono ?_
          rw [HWS.out]
          rintro e u3 ⟨rfl, hw⟩
          replace x0 := (hw.cell (p := ⟨w.heap.size, 0, none⟩) hzx).trans x0
          replace x1 := (hw.cell (p := ⟨w.heap.size, 1, none⟩) hzx).trans x1
          replace y0 := (hw.cell (p := ⟨w.heap.size + 1, 0, none⟩) hzy).trans y0
          replace y1 := (hw.cell (p := ⟨w.heap.size + 1, 1, none⟩) hzy).trans y1
          replace z0 := (hw.cell (p := ⟨G5, 0, none⟩) hzz).trans z0
          replace z1 := (hw.cell (p := ⟨G5, 1, none⟩) hzz).trans z1
          replace t0 := (hw.cell (p := ⟨G6, 0, none⟩) hzt).trans t0
          replace t1 := (hw.cell (p := ⟨G6, 1, none⟩) hzt).trans t1
          replace p0 := (hw.cell (p := ⟨G7, 0, none⟩) hzp).trans p0
          replace p1 := (hw.cell (p := ⟨G7, 1, none⟩) hzp).trans p1
          replace q0 := (hw.cell (p := ⟨G8, 0, none⟩) hzq).trans q0
          replace q1 := (hw.cell (p := ⟨G8, 1, none⟩) hzq).trans q1
          replace hzp := Nat.lt_of_lt_of_le hzp hw.size
          replace hzq := Nat.lt_of_lt_of_le hzq hw.size
          replace hzt := Nat.lt_of_lt_of_le hzt hw.size
          replace hzx := Nat.lt_of_lt_of_le hzx hw.size
          replace hzy := Nat.lt_of_lt_of_le hzy hw.size
          replace hzz := Nat.lt_of_lt_of_le hzz hw.size
          replace HIa := Lib.hid (HIa.out.on hw ⟨rfl, rfl, rfl, rfl⟩)
          replace HIb := Lib.hid (HIb.out.on hw ⟨rfl, rfl, rfl, rfl⟩)
          replace HIx := Lib.hid (HIx.out.on hw ⟨rfl, rfl, rfl, rfl⟩)
          replace HIy := Lib.hid (HIy.out.on hw ⟨rfl, rfl, rfl, rfl⟩)
          replace HIu := Lib.hid (HIu.out.on hw ⟨rfl, rfl, rfl, rfl⟩)
          replace HIv := Lib.hid (HIv.out.on hw ⟨rfl, rfl, rfl, rfl⟩)
          replace HBc : Hid (Below w.heap.size w u3) := below_via HBc.out hw HBc.out.size ⟨rfl, rfl, rfl, rfl⟩
          clear hw
          refine hK.out _ _ ⟨x0, x1, y0, y1, z0, z1, t0, t1, p0, p1, q0, q1⟩ (fun hHeld => ?_)
          clear hK K
          try simp only [Act.put, List.setIfInBounds_toArray, List.set_cons_zero, List.set_cons_succ]
          refine wpAnyH_take (i := 15) (oi := { dst := some 78, op := Go.Op.binOp Go.BinOp.eql 4 (Go.Operand.tmp 74) (Go.Operand.tmp 77) 4, type := 4, pos := "law.go:44", after := #[{ on := 11, ground := Go.Ground.data }, { on := 14, ground := Go.Ground.data }, { on := 8, ground := Go.Ground.guard }], guard := some (8, true) }) (v := ?_) rfl (by kernel_rfl) (by kernel_rfl) (by kernel_rfl) (fun _ _ _ h => h) (Or.inl ⟨rfl, ?_⟩) (by assumption) ?_
          rotate_left
          · intro wz hSw; (try dsimp only at hSw); go_simp; try (with_reducible rfl)
          try simp only [Act.put, List.setIfInBounds_toArray, List.set_cons_zero, List.set_cons_succ]
          refine wpAnyH_take (i := 16) (oi := { dst := some 79, op := Go.Op.pick (Go.Operand.tmp 71) (Go.Operand.tmp 78) (Go.Operand.const (Go.Value.bool false)), type := 4, pos := "law.go:44", after := #[{ on := 8, ground := Go.Ground.data }, { on := 15, ground := Go.Ground.data }], guard := none }) (v := ?_) rfl (by kernel_rfl) (by kernel_rfl) (by kernel_rfl) (fun _ _ _ h => h) (Or.inl ⟨rfl, ?_⟩) (by assumption) ?_
          rotate_left
          · intro wz hSw; (try dsimp only at hSw); go_simp; try (with_reducible rfl)
          try simp only [Act.put, List.setIfInBounds_toArray, List.set_cons_zero, List.set_cons_succ]
          refine wpAnyH_take (i := 17) (oi := { dst := some 80, op := Go.Op.move (Go.Operand.tmp 79), type := 4, pos := "law.go:44", after := #[{ on := 16, ground := Go.Ground.data }, { on := 14, ground := Go.Ground.chain }], guard := none }) (v := ?_) rfl (by kernel_rfl) (by kernel_rfl) (by kernel_rfl) (fun _ _ _ h => h) (Or.inl ⟨rfl, ?_⟩) (by assumption) ?_
          rotate_left
          · intro wz hSw; (try dsimp only at hSw); go_simp; try (with_reducible rfl)
          try simp only [Act.put, List.setIfInBounds_toArray, List.set_cons_zero, List.set_cons_succ]
          refine wpAnyH_take (i := 18) (oi := { dst := some 81, op := Go.Op.load 27 (Go.Operand.tmp 5), type := 27, pos := "law.go:44", after := #[{ on := 17, ground := Go.Ground.guard }], guard := some (17, true) }) (v := ?_) rfl (by kernel_rfl) (by kernel_rfl) (by kernel_rfl) (fun _ _ _ h => h) (Or.inl ⟨rfl, ?_⟩) (by assumption) ?_
          rotate_left
          · intro wz hSw; (try dsimp only at hSw); go_simp; try (with_reducible rfl)
          try simp only [Act.put, List.setIfInBounds_toArray, List.set_cons_zero, List.set_cons_succ]
          refine wpAnyH_take (i := 20) (oi := { dst := some 83, op := Go.Op.load 24 (Go.Operand.tmp 2), type := 24, pos := "law.go:44", after := #[{ on := 17, ground := Go.Ground.guard }], guard := some (17, true) }) (v := ?_) rfl (by kernel_rfl) (by kernel_rfl) (by kernel_rfl) (fun _ _ _ h => h) (Or.inl ⟨rfl, ?_⟩) (by assumption) ?_
          rotate_left
          · intro wz hSw; (try dsimp only at hSw); go_simp; try (with_reducible rfl)
          try simp only [Act.put, List.setIfInBounds_toArray, List.set_cons_zero, List.set_cons_succ]
          refine wpAnyH_ready (rs := [19]) (by kernel_rfl) (by simp) ?_
          refine AllReadyH.cons (o := { dst := some 82, op := Go.Op.call { callee := Go.Callee.value (Go.Operand.func 18), args := #[Go.Operand.tmp 81], argTypes := #[27] }, type := 24, pos := "law.go:44", after := #[{ on := 18, ground := Go.Ground.data }, { on := 17, ground := Go.Ground.chain }, { on := 17, ground := Go.Ground.guard }], guard := some (17, true) }) rfl (fun K hK => ?_) AllReadyH.nil
          go_simp
          go_at_call 18
          refine (cFrom (s := sa) (by exact HIx.out.same rfl) hLa).mono ?_
          rintro e u4 ⟨B3, d3, rfl, hin, hw⟩
          replace x0 := (hw.cell (p := ⟨w.heap.size, 0, none⟩) hzx).trans x0
          replace x1 := (hw.cell (p := ⟨w.heap.size, 1, none⟩) hzx).trans x1
          replace y0 := (hw.cell (p := ⟨w.heap.size + 1, 0, none⟩) hzy).trans y0
          replace y1 := (hw.cell (p := ⟨w.heap.size + 1, 1, none⟩) hzy).trans y1
          replace z0 := (hw.cell (p := ⟨G5, 0, none⟩) hzz).trans z0
          replace z1 := (hw.cell (p := ⟨G5, 1, none⟩) hzz).trans z1
          replace t0 := (hw.cell (p := ⟨G6, 0, none⟩) hzt).trans t0
          replace t1 := (hw.cell (p := ⟨G6, 1, none⟩) hzt).trans t1
          replace p0 := (hw.cell (p := ⟨G7, 0, none⟩) hzp).trans p0
          replace p1 := (hw.cell (p := ⟨G7, 1, none⟩) hzp).trans p1
          replace q0 := (hw.cell (p := ⟨G8, 0, none⟩) hzq).trans q0
          replace q1 := (hw.cell (p := ⟨G8, 1, none⟩) hzq).trans q1
          replace hzp := Nat.lt_of_lt_of_le hzp hw.size
          replace hzq := Nat.lt_of_lt_of_le hzq hw.size
          replace hzt := Nat.lt_of_lt_of_le hzt hw.size
          replace hzx := Nat.lt_of_lt_of_le hzx hw.size
          replace hzy := Nat.lt_of_lt_of_le hzy hw.size
          replace hzz := Nat.lt_of_lt_of_le hzz hw.size
          replace HIa := Lib.hid (HIa.out.on hw ⟨rfl, rfl, rfl, rfl⟩)
          replace HIb := Lib.hid (HIb.out.on hw ⟨rfl, rfl, rfl, rfl⟩)
          replace HIx := Lib.hid (HIx.out.on hw ⟨rfl, rfl, rfl, rfl⟩)
          replace HIy := Lib.hid (HIy.out.on hw ⟨rfl, rfl, rfl, rfl⟩)
          replace HIu := Lib.hid (HIu.out.on hw ⟨rfl, rfl, rfl, rfl⟩)
          replace HIv := Lib.hid (HIv.out.on hw ⟨rfl, rfl, rfl, rfl⟩)
          replace HBc : Hid (Below w.heap.size w u4) := below_via HBc.out hw HBc.out.size ⟨rfl, rfl, rfl, rfl⟩
          have HP3 := Lib.hid hin
          clear hin
          clear hw
          refine hK.out _ _ ⟨x0, x1, y0, y1, z0, z1, t0, t1, p0, p1, q0, q1⟩ (fun hHeld => ?_)
          clear hK K
          try simp only [Act.put, List.setIfInBounds_toArray, List.set_cons_zero, List.set_cons_succ]
          refine wpAnyH_ready (rs := [21]) (by kernel_rfl) (by simp) ?_
          refine AllReadyH.cons (o := { dst := some 84, op := Go.Op.call { callee := Go.Callee.value (Go.Operand.func 17), args := #[Go.Operand.tmp 82, Go.Operand.tmp 83], argTypes := #[24, 24] }, type := 4, pos := "law.go:44", after := #[{ on := 19, ground := Go.Ground.data }, { on := 20, ground := Go.Ground.data }, { on := 19, ground := Go.Ground.chain }, { on := 17, ground := Go.Ground.guard }], guard := some (17, true) }) rfl (fun K hK => ?_) AllReadyH.nil
          go_simp
          go_at_call 17
          refine (cRefSame (s := sa) (t := sa) (by exact HP3.out.same rfl) (by exact HIa.out.same rfl) hLa).mono ?_
          rw [same_true rfl]
          rintro e u5 ⟨rfl, hw⟩
          replace x0 := (hw.cell (p := ⟨w.heap.size, 0, none⟩) hzx).trans x0
          replace x1 := (hw.cell (p := ⟨w.heap.size, 1, none⟩) hzx).trans x1
          replace y0 := (hw.cell (p := ⟨w.heap.size + 1, 0, none⟩) hzy).trans y0
          replace y1 := (hw.cell (p := ⟨w.heap.size + 1, 1, none⟩) hzy).trans y1
          replace z0 := (hw.cell (p := ⟨G5, 0, none⟩) hzz).trans z0
          replace z1 := (hw.cell (p := ⟨G5, 1, none⟩) hzz).trans z1
          replace t0 := (hw.cell (p := ⟨G6, 0, none⟩) hzt).trans t0
          replace t1 := (hw.cell (p := ⟨G6, 1, none⟩) hzt).trans t1
          replace p0 := (hw.cell (p := ⟨G7, 0, none⟩) hzp).trans p0
          replace p1 := (hw.cell (p := ⟨G7, 1, none⟩) hzp).trans p1
          replace q0 := (hw.cell (p := ⟨G8, 0, none⟩) hzq).trans q0
          replace q1 := (hw.cell (p := ⟨G8, 1, none⟩) hzq).trans q1
          replace hzp := Nat.lt_of_lt_of_le hzp hw.size
          replace hzq := Nat.lt_of_lt_of_le hzq hw.size
          replace hzt := Nat.lt_of_lt_of_le hzt hw.size
          replace hzx := Nat.lt_of_lt_of_le hzx hw.size
          replace hzy := Nat.lt_of_lt_of_le hzy hw.size
          replace hzz := Nat.lt_of_lt_of_le hzz hw.size
          replace HIa := Lib.hid (HIa.out.on hw ⟨rfl, rfl, rfl, rfl⟩)
          replace HIb := Lib.hid (HIb.out.on hw ⟨rfl, rfl, rfl, rfl⟩)
          replace HIx := Lib.hid (HIx.out.on hw ⟨rfl, rfl, rfl, rfl⟩)
          replace HIy := Lib.hid (HIy.out.on hw ⟨rfl, rfl, rfl, rfl⟩)
          replace HIu := Lib.hid (HIu.out.on hw ⟨rfl, rfl, rfl, rfl⟩)
          replace HIv := Lib.hid (HIv.out.on hw ⟨rfl, rfl, rfl, rfl⟩)
          replace HP3 := Lib.hid (HP3.out.on hw ⟨rfl, rfl, rfl, rfl⟩)
          replace HBc : Hid (Below w.heap.size w u5) := below_via HBc.out hw HBc.out.size ⟨rfl, rfl, rfl, rfl⟩
          clear hw
          refine hK.out _ _ ⟨x0, x1, y0, y1, z0, z1, t0, t1, p0, p1, q0, q1⟩ (fun hHeld => ?_)
          clear hK K
          try simp only [Act.put, List.setIfInBounds_toArray, List.set_cons_zero, List.set_cons_succ]
          refine wpAnyH_take (i := 22) (oi := { dst := some 85, op := Go.Op.pick (Go.Operand.tmp 80) (Go.Operand.tmp 84) (Go.Operand.const (Go.Value.bool false)), type := 4, pos := "law.go:44", after := #[{ on := 17, ground := Go.Ground.data }, { on := 21, ground := Go.Ground.data }], guard := none }) (v := ?_) rfl (by kernel_rfl) (by kernel_rfl) (by kernel_rfl) (fun _ _ _ h => h) (Or.inl ⟨rfl, ?_⟩) (by assumption) ?_
          rotate_left
          · intro wz hSw; (try dsimp only at hSw); go_simp; try (with_reducible rfl)
          try simp only [Act.put, List.setIfInBounds_toArray, List.set_cons_zero, List.set_cons_succ]
          refine wpAnyH_take (i := 23) (oi := { dst := some 86, op := Go.Op.move (Go.Operand.tmp 85), type := 4, pos := "law.go:44", after := #[{ on := 22, ground := Go.Ground.data }, { on := 21, ground := Go.Ground.chain }], guard := none }) (v := ?_) rfl (by kernel_rfl) (by kernel_rfl) (by kernel_rfl) (fun _ _ _ h => h) (Or.inl ⟨rfl, ?_⟩) (by assumption) ?_
          rotate_left
          · intro wz hSw; (try dsimp only at hSw); go_simp; try (with_reducible rfl)
          try simp only [Act.put, List.setIfInBounds_toArray, List.set_cons_zero, List.set_cons_succ]
          refine wpAnyH_take (i := 24) (oi := { dst := some 87, op := Go.Op.load 27 (Go.Operand.tmp 6), type := 27, pos := "law.go:44", after := #[{ on := 23, ground := Go.Ground.guard }], guard := some (23, true) }) (v := ?_) rfl (by kernel_rfl) (by kernel_rfl) (by kernel_rfl) (fun _ _ _ h => h) (Or.inl ⟨rfl, ?_⟩) (by assumption) ?_
          rotate_left
          · intro wz hSw; (try dsimp only at hSw); go_simp; try (with_reducible rfl)
          try simp only [Act.put, List.setIfInBounds_toArray, List.set_cons_zero, List.set_cons_succ]
          refine wpAnyH_take (i := 26) (oi := { dst := some 89, op := Go.Op.load 24 (Go.Operand.tmp 3), type := 24, pos := "law.go:44", after := #[{ on := 23, ground := Go.Ground.guard }], guard := some (23, true) }) (v := ?_) rfl (by kernel_rfl) (by kernel_rfl) (by kernel_rfl) (fun _ _ _ h => h) (Or.inl ⟨rfl, ?_⟩) (by assumption) ?_
          rotate_left
          · intro wz hSw; (try dsimp only at hSw); go_simp; try (with_reducible rfl)
          try simp only [Act.put, List.setIfInBounds_toArray, List.set_cons_zero, List.set_cons_succ]
          refine wpAnyH_ready (rs := [25]) (by kernel_rfl) (by simp) ?_
          refine AllReadyH.cons (o := { dst := some 88, op := Go.Op.call { callee := Go.Callee.value (Go.Operand.func 18), args := #[Go.Operand.tmp 87], argTypes := #[27] }, type := 24, pos := "law.go:44", after := #[{ on := 24, ground := Go.Ground.data }, { on := 23, ground := Go.Ground.chain }, { on := 23, ground := Go.Ground.guard }], guard := some (23, true) }) rfl (fun K hK => ?_) AllReadyH.nil
          go_simp
          go_at_call 18
          refine (cFrom (s := sb) (by exact HIy.out.same rfl) hLb).mono ?_
          rintro e u6 ⟨B4, d4, rfl, hin, hw⟩
          replace x0 := (hw.cell (p := ⟨w.heap.size, 0, none⟩) hzx).trans x0
          replace x1 := (hw.cell (p := ⟨w.heap.size, 1, none⟩) hzx).trans x1
          replace y0 := (hw.cell (p := ⟨w.heap.size + 1, 0, none⟩) hzy).trans y0
          replace y1 := (hw.cell (p := ⟨w.heap.size + 1, 1, none⟩) hzy).trans y1
          replace z0 := (hw.cell (p := ⟨G5, 0, none⟩) hzz).trans z0
          replace z1 := (hw.cell (p := ⟨G5, 1, none⟩) hzz).trans z1
          replace t0 := (hw.cell (p := ⟨G6, 0, none⟩) hzt).trans t0
          replace t1 := (hw.cell (p := ⟨G6, 1, none⟩) hzt).trans t1
          replace p0 := (hw.cell (p := ⟨G7, 0, none⟩) hzp).trans p0
          replace p1 := (hw.cell (p := ⟨G7, 1, none⟩) hzp).trans p1
          replace q0 := (hw.cell (p := ⟨G8, 0, none⟩) hzq).trans q0
          replace q1 := (hw.cell (p := ⟨G8, 1, none⟩) hzq).trans q1
          replace hzp := Nat.lt_of_lt_of_le hzp hw.size
          replace hzq := Nat.lt_of_lt_of_le hzq hw.size
          replace hzt := Nat.lt_of_lt_of_le hzt hw.size
          replace hzx := Nat.lt_of_lt_of_le hzx hw.size
          replace hzy := Nat.lt_of_lt_of_le hzy hw.size
          replace hzz := Nat.lt_of_lt_of_le hzz hw.size
          replace HIa := Lib.hid (HIa.out.on hw ⟨rfl, rfl, rfl, rfl⟩)
          replace HIb := Lib.hid (HIb.out.on hw ⟨rfl, rfl, rfl, rfl⟩)
          replace HIx := Lib.hid (HIx.out.on hw ⟨rfl, rfl, rfl, rfl⟩)
          replace HIy := Lib.hid (HIy.out.on hw ⟨rfl, rfl, rfl, rfl⟩)
          replace HIu := Lib.hid (HIu.out.on hw ⟨rfl, rfl, rfl, rfl⟩)
          replace HIv := Lib.hid (HIv.out.on hw ⟨rfl, rfl, rfl, rfl⟩)
          replace HBc : Hid (Below w.heap.size w u6) := below_via HBc.out hw HBc.out.size ⟨rfl, rfl, rfl, rfl⟩
          have HP4 := Lib.hid hin
          clear hin
          clear hw
          refine hK.out _ _ ⟨x0, x1, y0, y1, z0, z1, t0, t1, p0, p1, q0, q1⟩ (fun hHeld => ?_)
          clear hK K
          try simp only [Act.put, List.setIfInBounds_toArray, List.set_cons_zero, List.set_cons_succ]
          refine wpAnyH_ready (rs := [27]) (by kernel_rfl) (by simp) ?_
          refine AllReadyH.cons (o := { dst := some 90, op := Go.Op.call { callee := Go.Callee.value (Go.Operand.func 17), args := #[Go.Operand.tmp 88, Go.Operand.tmp 89], argTypes := #[24, 24] }, type := 4, pos := "law.go:44", after := #[{ on := 25, ground := Go.Ground.data }, { on := 26, ground := Go.Ground.data }, { on := 25, ground := Go.Ground.chain }, { on := 23, ground := Go.Ground.guard }], guard := some (23, true) }) rfl (fun K hK => ?_) AllReadyH.nil
          go_simp
          go_at_call 17
          refine (cRefSame (s := sb) (t := sb) (by exact HP4.out.same rfl) (by exact HIb.out.same rfl) hLb).mono ?_
          rw [same_true rfl]
          rintro e u7 ⟨rfl, hw⟩
          replace x0 := (hw.cell (p := ⟨w.heap.size, 0, none⟩) hzx).trans x0
          replace x1 := (hw.cell (p := ⟨w.heap.size, 1, none⟩) hzx).trans x1
          replace y0 := (hw.cell (p := ⟨w.heap.size + 1, 0, none⟩) hzy).trans y0
          replace y1 := (hw.cell (p := ⟨w.heap.size + 1, 1, none⟩) hzy).trans y1
          replace z0 := (hw.cell (p := ⟨G5, 0, none⟩) hzz).trans z0
          replace z1 := (hw.cell (p := ⟨G5, 1, none⟩) hzz).trans z1
          replace t0 := (hw.cell (p := ⟨G6, 0, none⟩) hzt).trans t0
          replace t1 := (hw.cell (p := ⟨G6, 1, none⟩) hzt).trans t1
          replace p0 := (hw.cell (p := ⟨G7, 0, none⟩) hzp).trans p0
          replace p1 := (hw.cell (p := ⟨G7, 1, none⟩) hzp).trans p1
          replace q0 := (hw.cell (p := ⟨G8, 0, none⟩) hzq).trans q0
          replace q1 := (hw.cell (p := ⟨G8, 1, none⟩) hzq).trans q1
          replace hzp := Nat.lt_of_lt_of_le hzp hw.size
          replace hzq := Nat.lt_of_lt_of_le hzq hw.size
          replace hzt := Nat.lt_of_lt_of_le hzt hw.size
          replace hzx := Nat.lt_of_lt_of_le hzx hw.size
          replace hzy := Nat.lt_of_lt_of_le hzy hw.size
          replace hzz := Nat.lt_of_lt_of_le hzz hw.size
          replace HIa := Lib.hid (HIa.out.on hw ⟨rfl, rfl, rfl, rfl⟩)
          replace HIb := Lib.hid (HIb.out.on hw ⟨rfl, rfl, rfl, rfl⟩)
          replace HIx := Lib.hid (HIx.out.on hw ⟨rfl, rfl, rfl, rfl⟩)
          replace HIy := Lib.hid (HIy.out.on hw ⟨rfl, rfl, rfl, rfl⟩)
          replace HIu := Lib.hid (HIu.out.on hw ⟨rfl, rfl, rfl, rfl⟩)
          replace HIv := Lib.hid (HIv.out.on hw ⟨rfl, rfl, rfl, rfl⟩)
          replace HP4 := Lib.hid (HP4.out.on hw ⟨rfl, rfl, rfl, rfl⟩)
          replace HBc : Hid (Below w.heap.size w u7) := below_via HBc.out hw HBc.out.size ⟨rfl, rfl, rfl, rfl⟩
          clear hw
          refine hK.out _ _ ⟨x0, x1, y0, y1, z0, z1, t0, t1, p0, p1, q0, q1⟩ (fun hHeld => ?_)
          clear hK K
          try simp only [Act.put, List.setIfInBounds_toArray, List.set_cons_zero, List.set_cons_succ]
          refine wpAnyH_take (i := 28) (oi := { dst := some 91, op := Go.Op.pick (Go.Operand.tmp 86) (Go.Operand.tmp 90) (Go.Operand.const (Go.Value.bool false)), type := 4, pos := "law.go:44", after := #[{ on := 23, ground := Go.Ground.data }, { on := 27, ground := Go.Ground.data }], guard := none }) (v := ?_) rfl (by kernel_rfl) (by kernel_rfl) (by kernel_rfl) (fun _ _ _ h => h) (Or.inl ⟨rfl, ?_⟩) (by assumption) ?_
          rotate_left
          · intro wz hSw; (try dsimp only at hSw); go_simp; try (with_reducible rfl)
          try simp only [Act.put, List.setIfInBounds_toArray, List.set_cons_zero, List.set_cons_succ]
          refine wpAnyH_take (i := 29) (oi := { dst := some 4, op := Go.Op.assign (Go.Operand.tmp 91), type := 4, pos := "law.go:44", after := #[{ on := 28, ground := Go.Ground.data }, { on := 27, ground := Go.Ground.chain }, { on := 0, ground := Go.Ground.phase }, { on := 1, ground := Go.Ground.phase }, { on := 2, ground := Go.Ground.phase }, { on := 3, ground := Go.Ground.phase }, { on := 4, ground := Go.Ground.phase }, { on := 5, ground := Go.Ground.phase }, { on := 6, ground := Go.Ground.phase }, { on := 7, ground := Go.Ground.phase }, { on := 8, ground := Go.Ground.phase }, { on := 9, ground := Go.Ground.phase }, { on := 10, ground := Go.Ground.phase }, { on := 11, ground := Go.Ground.phase }, { on := 12, ground := Go.Ground.phase }, { on := 13, ground := Go.Ground.phase }, { on := 14, ground := Go.Ground.phase }, { on := 15, ground := Go.Ground.phase }, { on := 16, ground := Go.Ground.phase }, { on := 17, ground := Go.Ground.phase }, { on := 18, ground := Go.Ground.phase }, { on := 19, ground := Go.Ground.phase }, { on := 20, ground := Go.Ground.phase }, { on := 21, ground := Go.Ground.phase }, { on := 22, ground := Go.Ground.phase }, { on := 23, ground := Go.Ground.phase }, { on := 24, ground := Go.Ground.phase }, { on := 25, ground := Go.Ground.phase }, { on := 26, ground := Go.Ground.phase }, { on := 27, ground := Go.Ground.phase }, { on := 28, ground := Go.Ground.phase }], guard := none }) (v := ?_) rfl (by kernel_rfl) (by kernel_rfl) (by kernel_rfl) (fun _ _ _ h => h) (Or.inl ⟨rfl, ?_⟩) (by assumption) ?_
          rotate_left
          · intro wz hSw; (try dsimp only at hSw); go_simp; try (with_reducible rfl)
          try simp only [Act.put, List.setIfInBounds_toArray, List.set_cons_zero, List.set_cons_succ]
          refine wpAnyH_done (by kernel_rfl) ?_ _
          go_wp2
          go_ret
          exact ⟨rfl, HBc.out⟩
end Go.Proofs.Ytgkheoaajpialaa
