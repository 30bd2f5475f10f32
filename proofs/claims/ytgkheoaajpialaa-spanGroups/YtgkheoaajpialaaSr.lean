/- The document's Union. -/
import Derived.Test.YtgkheoaajpialaaSu
namespace Go.Proofs.Ytgkheoaajpialaa
open Go.RowKit

def refUnionF (s t : Int × List Int) : Int × List Int :=
  if s.1 < t.1 then s.2.foldl refAddF (t.2.foldl refAddF (t.1, [])) else t.2.foldl refAddF (s.2.foldl refAddF (s.1, []))

theorem refAdd_small {s : Int × List Int} (h : Small s) {m : Int} (hm : m ≤ 60) : Small (refAddF s m) ∧ ∀ x, Mem x (refAddF s m) ↔ Mem x s ∨ (x = m ∧ 1 ≤ m ∧ m ≤ 1048576) := by
  obtain ⟨a, b⟩ := refAdd_ok h.1 m
  refine ⟨small_of a (fun x hx => ?_), b⟩
  rcases (b x).1 hx with h1 | ⟨rfl, _, _⟩
  · exact h.2.1 x h1
  · exact hm

theorem foldAdd_small : ∀ (l : List Int) {s : Int × List Int}, Small s → (∀ m ∈ l, 1 ≤ m ∧ m ≤ 60) → Small (l.foldl refAddF s) ∧ ∀ x, Mem x (l.foldl refAddF s) ↔ Mem x s ∨ x ∈ l
  | [], s, h, _ => ⟨h, fun x => by simp⟩
  | m :: l, s, h, hb => by
    obtain ⟨a, b⟩ := refAdd_small h (hb m (by simp)).2
    obtain ⟨c, d⟩ := foldAdd_small l a (fun k hk => hb k (by simp [hk]))
    refine ⟨c, fun x => ?_⟩
    have := hb m (by simp)
    rw [List.foldl_cons, d x, b x, List.mem_cons, or_assoc]
    constructor
    · rintro (h | h | h)
      · exact .inl h
      · exact .inr (.inl h.1)
      · exact .inr (.inr h)
    · rintro (h | h | h)
      · exact .inl h
      · exact .inr (.inl ⟨h, by omega, by omega⟩)
      · exact .inr (.inr h)

theorem small_els {s : Int × List Int} (h : Small s) : ∀ m ∈ s.2, 1 ≤ m ∧ m ≤ 60 := fun m hm => ⟨by have := h.1.2.2 m hm; have := h.1.1; omega, h.2.1 m (.inr hm)⟩
theorem small_base {s : Int × List Int} (h : Small s) : Small (s.1, ([] : List Int)) := by
  have h0 := h.1.1
  have h1 := h.2.2.1
  refine small_of ⟨h0, by simp, by simp⟩ (fun x hx => ?_)
  rcases hx with hx | hx
  · simp only at hx; omega
  · simp at hx

theorem refUnion_small {s t : Int × List Int} (hs : Small s) (ht : Small t) : Small (refUnionF s t) ∧ ∀ x, Mem x (refUnionF s t) ↔ Mem x s ∨ Mem x t := by
  have key : ∀ {a b : Int × List Int}, Small a → Small b → b.1 ≤ a.1 → Small (b.2.foldl refAddF (a.2.foldl refAddF (a.1, []))) ∧ ∀ x, Mem x (b.2.foldl refAddF (a.2.foldl refAddF (a.1, []))) ↔ Mem x a ∨ Mem x b := by
    intro a b ha hb hab
    obtain ⟨c, d⟩ := foldAdd_small a.2 (small_base ha) (small_els ha)
    obtain ⟨e, f⟩ := foldAdd_small b.2 c (small_els hb)
    refine ⟨e, fun x => ?_⟩
    rw [f x, d x]
    unfold Mem
    simp only [List.not_mem_nil, or_false]
    constructor
    · rintro ((h | h) | h)
      · exact .inl (.inl h)
      · exact .inl (.inr h)
      · exact .inr (.inr h)
    · rintro ((h | h) | (h | h))
      · exact .inl (.inl h)
      · exact .inl (.inr h)
      · exact .inl (.inl ⟨h.1, by omega⟩)
      · exact .inr h
  unfold refUnionF
  split
  · obtain ⟨a, b⟩ := key ht hs (by omega)
    exact ⟨a, fun x => (b x).trans Or.comm⟩
  · exact key hs ht (by omega)

theorem union_eq {s t : Int × List Int} (hs : Small s) (ht : Small t) : unionF s t = refUnionF s t := by
  obtain ⟨a, b⟩ := union_small hs ht
  obtain ⟨c, d⟩ := refUnion_small hs ht
  exact Ok.ext a.1 c.1 (fun x => (b x).trans (d x).symm)

/-- The call's variables: the two Spans' Extras, the answer's block still empty. -/
def Two (w : World) (A1 : Option Addr) (n1 c1 : Nat) (A2 : Option Addr) (n2 c2 : Nat) (wr : World) : Prop :=
  wr.cell? ⟨w.heap.size, 1, none⟩ = some (.slice A1 n1 c1) ∧ wr.cell? ⟨w.heap.size + 1, 1, none⟩ = some (.slice A2 n2 c2) ∧
    wr.cell? ⟨w.heap.size + 2, 0, none⟩ = some (.int .i64 0) ∧ wr.cell? ⟨w.heap.size + 2, 1, none⟩ = some (.slice none 0 0) ∧ wr.frozen? ⟨w.heap.size + 2, 0, none⟩ = false ∧ wr.frozen? ⟨w.heap.size + 2, 1, none⟩ = false ∧
    Below w.heap.size w wr ∧ w.heap.size + 4 ≤ wr.heap.size

theorem Two.on {w : World} {A1 : Option Addr} {n1 c1 : Nat} {A2 : Option Addr} {n2 c2 : Nat} {wr W w1 : World} (h : Two w A1 n1 c1 A2 n2 c2 wr) (hb : Below W.heap.size W w1) (e : SameW wr W) : Two w A1 n1 c1 A2 n2 c2 w1 := by
  obtain ⟨j0, j1, j2, j3, j4, j5, hbel, hs⟩ := h
  have hb' := below_via (Below.refl wr.heap.size wr) hb (Nat.le_refl _) e
  exact ⟨(hb'.cell (by simp; omega)).trans j0, (hb'.cell (by simp; omega)).trans j1, (hb'.cell (by simp; omega)).trans j2, (hb'.cell (by simp; omega)).trans j3, (hb'.frozen (by simp; omega)).trans j4, (hb'.frozen (by simp; omega)).trans j5, hbel.trans (hb'.mono hbel.size), Nat.le_trans hs hb'.size⟩
theorem Two.set {w : World} {A1 : Option Addr} {n1 c1 : Nat} {A2 : Option Addr} {n2 c2 : Nat} {wr : World} (h : Two w A1 n1 c1 A2 n2 c2 wr) {p : Addr} (hp : w.heap.size + 3 ≤ p.block) (v : Value) : Two w A1 n1 c1 A2 n2 c2 (wr.setCell p v) := by
  obtain ⟨j0, j1, j2, j3, j4, j5, hbel, hs⟩ := h
  have hb' : Below (w.heap.size + 3) wr (wr.setCell p v) := (Below.refl _ _).setCell hp v
  exact ⟨(hb'.cell (by simp)).trans j0, (hb'.cell (by simp)).trans j1, (hb'.cell (by simp)).trans j2, (hb'.cell (by simp)).trans j3, (hb'.frozen (by simp)).trans j4, (hb'.frozen (by simp)).trans j5, hbel.setCell (by omega) v, by simpa [World.setCell] using hs⟩

def UnRel (w : World) (st : Int × List Int) (A1 : Option Addr) (n1 c1 : Nat) (A2 : Option Addr) (n2 c2 : Nat) (wr : World) : Prop :=
  ∃ (Ak : Option Addr) (ck : Nat), wr.cell? ⟨w.heap.size + 3, 0, none⟩ = some (.int .i64 st.1) ∧ wr.cell? ⟨w.heap.size + 3, 1, none⟩ = some (.slice Ak st.2.length ck) ∧ wr.frozen? ⟨w.heap.size + 3, 0, none⟩ = false ∧ wr.frozen? ⟨w.heap.size + 3, 1, none⟩ = false ∧
    wr.ownsRow (w.heap.size + 4) 3 1 (.slice Ak st.2.length ck) st.2.length (st.2.map (.int .i64)) ∧ Two w A1 n1 c1 A2 n2 c2 wr

theorem copy_end3 {w : World} {wr : World} {u : Int} {l : List Int} {Al : Option Addr} {nl cl : Nat} (hown : wr.ownsRow (w.heap.size + 4) 3 1 (.slice Al nl cl) nl (l.map (.int .i64))) (hb : Below w.heap.size w wr) {s : Int × List Int} (hs : s = (u, l)) (hl : l.length = nl) :
    OwnSpan w.heap.size none s w (.returned (.agg #[.int .i64 u, .slice Al nl cl])) ((wr.setCell ⟨w.heap.size + 2, 0, none⟩ (.int .i64 u)).setCell ⟨w.heap.size + 2, 1, none⟩ (.slice Al nl cl)) := by
  have hn4 : Value.ownBlock (.slice Al nl cl) ≠ some (w.heap.size + 2) := fun e => by have := (hown.lt _ e).1; omega
  exact ownSpan_of hs hl (own_base (own_setCell (own_setCell hown (p := ⟨w.heap.size + 2, 0, none⟩) hn4 _) (p := ⟨w.heap.size + 2, 1, none⟩) hn4 _) (by omega)) (grown_of_below ((hb.setCell (by simp) _).setCell (by simp) _) _) (lies_own hown (by omega))

set_option maxRecDepth 100000 in
set_option maxHeartbeats 4000000 in
theorem cRefUnion {w : World} {A A' : Option Addr} {c c' : Nat} {s t : Int × List Int} (h : SpanIn w A c s) (h' : SpanIn w A' c' t) (hs : Small s) (ht : Small t) :
    Calls Try.prog 26 #[.agg #[.int .i64 s.1, .slice A s.2.length c], .agg #[.int .i64 t.1, .slice A' t.2.length c']] w (RetSpan (refUnionF s t) w) := by
  have HI := Lib.hid h.1
  have HI' := Lib.hid h'.1
  have HSs := Lib.hid hs
  have HSt := Lib.hid ht
  clear h h' hs ht
  go_enter Try.func26, Try.ntmps26
  go_upto_if 12 with fail
  go_cut [] (fun wx => ∃ (p q : Int × List Int) (Pa Qa : Option Addr) (Pc Qc : Nat), Hid (Small p) ∧ Hid (Small q) ∧ Hid (IntsAt w w.heap.size Pa p.2.length p.2) ∧ Hid (IntsAt w w.heap.size Qa q.2.length q.2) ∧ Hid (refUnionF s t = q.2.foldl refAddF (p.2.foldl refAddF (p.1, []))) ∧ wx.cell? ⟨w.heap.size, 0, none⟩ = some (.int .i64 p.1) ∧ wx.cell? ⟨w.heap.size, 1, none⟩ = some (.slice Pa p.2.length Pc) ∧ wx.cell? ⟨w.heap.size + 1, 1, none⟩ = some (.slice Qa q.2.length Qc) ∧ wx.cell? ⟨w.heap.size + 2, 0, none⟩ = some (.int .i64 0) ∧ wx.cell? ⟨w.heap.size + 2, 1, none⟩ = some (.slice none 0 0) ∧ wx.frozen? ⟨w.heap.size + 2, 0, none⟩ = false ∧ wx.frozen? ⟨w.heap.size + 2, 1, none⟩ = false ∧ Hid (Below w.heap.size w wx) ∧ Hid (wx.heap.size = w.heap.size + 3))
  case first =>
    by_cases hlt : s.1 < t.1
    · have HF : Hid (refUnionF s t = s.2.foldl refAddF (t.2.foldl refAddF (t.1, []))) := if_pos hlt
      go_wp2
      go_meet
      case rel =>
        refine ⟨t, s, A', A, c', c, HSt, HSs, HI', HI, HF, by simp [go_sem], by simp [go_sem], by simp [go_sem], by simp [go_sem], by simp [go_sem], by simp [go_sem], by simp [go_sem], ?_, by show _ = _; simp⟩
        exact (((Below.refl _ _).alloc (Nat.le_refl _) _).alloc (by simp) _).alloc (by simp; omega) _
    · have HF : Hid (refUnionF s t = t.2.foldl refAddF (s.2.foldl refAddF (s.1, []))) := if_neg hlt
      go_wp2
      go_meet
      case rel =>
        refine ⟨s, t, A, A', c, c', HSs, HSt, HI, HI', HF, by simp [go_sem], by simp [go_sem], by simp [go_sem], by simp [go_sem], by simp [go_sem], by simp [go_sem], by simp [go_sem], ?_, by show _ = _; simp⟩
        exact (((Below.refl _ _).alloc (Nat.le_refl _) _).alloc (by simp) _).alloc (by simp; omega) _
  case rest =>
  obtain ⟨p, q, Pa, Qa, Pc, Qc, HSp, HSq, HP, HQ, HRe, i0, i1, i2, i3, i4, i5, i6, HB, HZ⟩ := hcut
  generalize hR : refUnionF s t = R at HRe
  have HRR := Lib.hid hR
  clear hR
  have e3a : (wc.alloc (Obj.cells #[Value.int IntKind.i64 p.1, Value.slice none 0 0] 24)).cell? ⟨w.heap.size + 3, 0, none⟩ = some (.int .i64 p.1) := by rw [← HZ.out]; simp [go_sem]
  have e3b : (wc.alloc (Obj.cells #[Value.int IntKind.i64 p.1, Value.slice none 0 0] 24)).cell? ⟨w.heap.size + 3, 1, none⟩ = some (.slice none 0 0) := by rw [← HZ.out]; simp [go_sem]
  have e3c : (wc.alloc (Obj.cells #[Value.int IntKind.i64 p.1, Value.slice none 0 0] 24)).frozen? ⟨w.heap.size + 3, 0, none⟩ = false := by rw [← HZ.out]; simp [go_sem]
  have e3d : (wc.alloc (Obj.cells #[Value.int IntKind.i64 p.1, Value.slice none 0 0] 24)).frozen? ⟨w.heap.size + 3, 1, none⟩ = false := by rw [← HZ.out]; simp [go_sem]
  have hz0 : w.heap.size < wc.heap.size := by rw [HZ.out]; omega
  have hz1 : w.heap.size + 1 < wc.heap.size := by rw [HZ.out]; omega
  have hz2 : w.heap.size + 2 < wc.heap.size := by rw [HZ.out]; omega
  have l1 := cell_new (Obj.cells #[Value.int IntKind.i64 p.1, Value.slice none 0 0] 24) hz0 i1
  have l2 := cell_new (Obj.cells #[Value.int IntKind.i64 p.1, Value.slice none 0 0] 24) hz1 i2
  have l3 := cell_new (Obj.cells #[Value.int IntKind.i64 p.1, Value.slice none 0 0] 24) hz2 i3
  have l4 := cell_new (Obj.cells #[Value.int IntKind.i64 p.1, Value.slice none 0 0] 24) hz2 i4
  have l5 := frozen_new (Obj.cells #[Value.int IntKind.i64 p.1, Value.slice none 0 0] 24) hz2 i5
  have l6 := frozen_new (Obj.cells #[Value.int IntKind.i64 p.1, Value.slice none 0 0] 24) hz2 i6
  have HBa : Hid (Below w.heap.size w (wc.alloc (Obj.cells #[Value.int IntKind.i64 p.1, Value.slice none 0 0] 24))) := HB.out.alloc HB.out.size _
  have lsz : w.heap.size + 4 ≤ (wc.alloc (Obj.cells #[Value.int IntKind.i64 p.1, Value.slice none 0 0] 24)).heap.size := by simp [HZ.out]
  have hp0 := HSp.out.1.1
  have hpl := HSp.out.2.2.2
  have hql := HSq.out.2.2.2
  go_wp2
  rw [HZ.out]
  go_loopw [6] (fun i wr => ∃ (k : Nat) (st : Int × List Int), k ≤ p.2.length ∧ i = .int .i64 k ∧ Hid (Small st) ∧ Hid ((p.2.take k).foldl refAddF (p.1, []) = st) ∧ Hid (UnRel w st Pa p.2.length Pc Qa q.2.length Qc wr)) (fun i _ => p.2.length - (intOf i).toNat)
  case atStart => exact ⟨0, (p.1, []), by omega, rfl, small_base HSp.out, rfl, none, 0, e3a, e3b, e3c, e3d, World.ownsRow_nil _ _ _ _, l1, l2, l3, l4, l5, l6, HBa.out, lsz⟩
  case round =>
    obtain ⟨k, st, hk, rfl, HSm, HFo, HU⟩ := hrel
    obtain ⟨Ak, ck, p0, p1, f0, f1, hown, htwo⟩ := HU.out
    have HOw := Lib.hid hown
    have HTw := Lib.hid htwo
    obtain ⟨j0, j1, j2, j3, j4, j5, hbel, hsz⟩ := htwo
    have HBe := Lib.hid hbel
    have hs0 := HSm.out.1.1
    have hs1 := HSm.out.2.2.1
    have hs2 := HSm.out.2.2.2
    clear hown hbel
    by_cases hlt : k < p.2.length
    · obtain ⟨b, off, rfl, hbB, hc⟩ := HP.out.2 (by omega)
      have hck := (HBe.out.cell (p := ⟨b, off + k, none⟩) hbB).trans (hc k hlt)
      have hkI : (k : Int) < p.2.length := by omega
      clear hc
      generalize hy : p.2.getD k 0 = y at hck
      have HY := Lib.hid hy
      clear hy
      have hym := small_els HSp.out y (by rw [← HY.out]; exact mem_getD.2 ⟨k, hlt, rfl⟩)
      obtain ⟨s1, HS1⟩ : ∃ s1, Hid (refAddF st y = s1) := ⟨_, rfl⟩
      have HSm1 : Hid (Small s1) := by show Small s1; rw [← HS1.out]; exact (refAdd_small HSm.out hym.2).1
      have HF1 : Hid ((p.2.take (k + 1)).foldl refAddF (p.1, []) = s1) := by
        show _ = s1
        rw [take_next _ k hlt, List.foldl_append, HFo.out, HY.out, ← HS1.out]; rfl
      go_wp2_with fail
      go_region_law
        (first
          | (go_simp
             go_at_call 16
             refine (refAdd_any st.1 Ak st.2.length ck st.2 y wr.heap.size _ ?_ ?_ ?_ ?_ ?_).mono ?_
             · exact Nat.le_refl _
             · exact ints_same (own_ints HOw.out) rfl
             · omega
             · exact hs0
             · omega
             rw [show refAddF (st.1, st.2) y = s1 from HS1.out]
             rintro e w1 ⟨A1, c1, rfl, hown1, hg1, _⟩
             have hb1 := grown_none hg1
             have q0 := (hb1.cell (p := ⟨w.heap.size + 3, 0, none⟩) hsz).trans p0
             have q1 := (hb1.cell (p := ⟨w.heap.size + 3, 1, none⟩) hsz).trans p1
             have q2 := (hb1.frozen (p := ⟨w.heap.size + 3, 0, none⟩) hsz).trans f0
             have q3 := (hb1.frozen (p := ⟨w.heap.size + 3, 1, none⟩) hsz).trans f1
             have HT1 := Lib.hid (HTw.out.on hb1 ⟨rfl, rfl, rfl, rfl⟩)
             have HO1 : Hid (w1.ownsRow (w.heap.size + 4) 3 1 (.slice A1 s1.2.length c1) s1.2.length (s1.2.map (.int .i64))) := own_base hown1 hsz
             clear hown1 hg1 hb1))
      all_goals
        go_wp2_with fail
        go_roundw
        case rel =>
          have hn1 : Value.ownBlock (.slice A1 s1.2.length c1) ≠ some (w.heap.size + 3) := fun e => by have := (HO1.out.lt _ e).1; omega
          refine ⟨k + 1, s1, by omega, by go_num, HSm1, HF1, A1, c1, by simp [go_sem, q0], by simp [go_sem, q1], by simp [go_sem, q2], by simp [go_sem, q3], ?_, ?_⟩
          · exact own_setCell (own_setCell HO1.out (p := ⟨w.heap.size + 3, 0, none⟩) hn1 _) (p := ⟨w.heap.size + 3, 1, none⟩) hn1 _
          · exact Two.set (Two.set HT1.out (by simp) _) (by simp) _
        case measure => simp [intOf]; omega
    · have hkn : k = p.2.length := by omega
      have HFk : Hid (p.2.foldl refAddF (p.1, []) = st) := by
        show _ = st
        rw [← HFo.out, List.take_of_length_le (by omega)]
      clear HFo hkn hk
      obtain ⟨st1, HSt1e⟩ : ∃ st1, Hid (st = st1) := ⟨_, rfl⟩
      have HSt1 : Hid (Small st1) := by show Small st1; rw [← HSt1e.out]; exact HSm.out
      have HU1 : Hid (UnRel w st1 Pa p.2.length Pc Qa q.2.length Qc wr) := by show UnRel w st1 _ _ _ _ _ _ wr; rw [← HSt1e.out]; exact HU.out
      have HR : Hid (R = q.2.foldl refAddF st1) := by show R = _; rw [HRe.out, HFk.out, HSt1e.out]
      clear HU HSm HFk HSt1e HOw HTw HBe
      go_wp2
      clear j0 j1 j2 j3 j4 j5 p0 p1 f0 f1 hsz hs0 hs1 hs2
      go_loopw [7] (fun i wr => ∃ (k : Nat) (st : Int × List Int), k ≤ q.2.length ∧ i = .int .i64 k ∧ Hid (Small st) ∧ Hid ((q.2.take k).foldl refAddF st1 = st) ∧ Hid (UnRel w st Pa p.2.length Pc Qa q.2.length Qc wr)) (fun i _ => q.2.length - (intOf i).toNat)
      case atStart => exact ⟨0, st1, by omega, rfl, HSt1, rfl, HU1⟩
      case round =>
        obtain ⟨k, st, hk, rfl, HSm, HFo, HU⟩ := hrel
        obtain ⟨Ak, ck, p0, p1, f0, f1, hown, htwo⟩ := HU.out
        have HOw := Lib.hid hown
        have HTw := Lib.hid htwo
        obtain ⟨j0, j1, j2, j3, j4, j5, hbel, hsz⟩ := htwo
        have HBe := Lib.hid hbel
        have hs0 := HSm.out.1.1
        have hs1 := HSm.out.2.2.1
        have hs2 := HSm.out.2.2.2
        clear hown hbel
        by_cases hlt : k < q.2.length
        · obtain ⟨b, off, rfl, hbB, hc⟩ := HQ.out.2 (by omega)
          have hck := (HBe.out.cell (p := ⟨b, off + k, none⟩) hbB).trans (hc k hlt)
          have hkI : (k : Int) < q.2.length := by omega
          clear hc
          generalize hy : q.2.getD k 0 = y at hck
          have HY := Lib.hid hy
          clear hy
          have hym := small_els HSq.out y (by rw [← HY.out]; exact mem_getD.2 ⟨k, hlt, rfl⟩)
          obtain ⟨s1, HS1⟩ : ∃ s1, Hid (refAddF st y = s1) := ⟨_, rfl⟩
          have HSm1 : Hid (Small s1) := by show Small s1; rw [← HS1.out]; exact (refAdd_small HSm.out hym.2).1
          have HF1 : Hid ((q.2.take (k + 1)).foldl refAddF st1 = s1) := by
            show _ = s1
            rw [take_next _ k hlt, List.foldl_append, HFo.out, HY.out, ← HS1.out]; rfl
          go_wp2_with fail
          go_region_law
            (first
              | (go_simp
                 go_at_call 16
                 refine (refAdd_any st.1 Ak st.2.length ck st.2 y wr.heap.size _ ?_ ?_ ?_ ?_ ?_).mono ?_
                 · exact Nat.le_refl _
                 · exact ints_same (own_ints HOw.out) rfl
                 · omega
                 · exact hs0
                 · omega
                 rw [show refAddF (st.1, st.2) y = s1 from HS1.out]
                 rintro e w1 ⟨A1, c1, rfl, hown1, hg1, _⟩
                 have hb1 := grown_none hg1
                 have q0 := (hb1.cell (p := ⟨w.heap.size + 3, 0, none⟩) hsz).trans p0
                 have q1 := (hb1.cell (p := ⟨w.heap.size + 3, 1, none⟩) hsz).trans p1
                 have q2 := (hb1.frozen (p := ⟨w.heap.size + 3, 0, none⟩) hsz).trans f0
                 have q3 := (hb1.frozen (p := ⟨w.heap.size + 3, 1, none⟩) hsz).trans f1
                 have HT1 := Lib.hid (HTw.out.on hb1 ⟨rfl, rfl, rfl, rfl⟩)
                 have HO1 : Hid (w1.ownsRow (w.heap.size + 4) 3 1 (.slice A1 s1.2.length c1) s1.2.length (s1.2.map (.int .i64))) := own_base hown1 hsz
                 clear hown1 hg1 hb1))
          all_goals
            go_wp2_with fail
            go_roundw
            case rel =>
              have hn1 : Value.ownBlock (.slice A1 s1.2.length c1) ≠ some (w.heap.size + 3) := fun e => by have := (HO1.out.lt _ e).1; omega
              refine ⟨k + 1, s1, by omega, by go_num, HSm1, HF1, A1, c1, by simp [go_sem, q0], by simp [go_sem, q1], by simp [go_sem, q2], by simp [go_sem, q3], ?_, ?_⟩
              · exact own_setCell (own_setCell HO1.out (p := ⟨w.heap.size + 3, 0, none⟩) hn1 _) (p := ⟨w.heap.size + 3, 1, none⟩) hn1 _
              · exact Two.set (Two.set HT1.out (by simp) _) (by simp) _
            case measure => simp [intOf]; omega
        · have hkn : k = q.2.length := by omega
          have HFk : Hid (q.2.foldl refAddF st1 = st) := by
            show _ = st
            rw [← HFo.out, List.take_of_length_le (by omega)]
          clear HFo hkn hk
          go_wp2
          refine bodyPost_ret (v := .agg #[.int .i64 st.1, .slice Ak st.2.length ck]) ?_ rfl ?_
          · simp [results, Try.results26, go_sem, j2, j3]
          · exact ret_of_own (copy_end3 HOw.out HBe.out (HRR.out.trans (HR.out.trans HFk.out)) rfl)
end Go.Proofs.Ytgkheoaajpialaa
