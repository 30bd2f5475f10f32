/- SpanGroups: the walk. -/
import Derived.Test.YtgkheoaajpialaaSw
namespace Go.Proofs.Ytgkheoaajpialaa
open Go.RowKit

/-- The three Spans that came in, where they lie; nothing else of old has turned. -/
def Base3 (w : World) (u0 u1 u2 : Int) (B0 B1 B2 : Option Addr) (n0 n1 n2 d0 d1 d2 : Nat) (w' : World) : Prop :=
  w'.cell? ⟨w.heap.size, 0, none⟩ = some (.int .i64 u0) ∧ w'.cell? ⟨w.heap.size, 1, none⟩ = some (.slice B0 n0 d0) ∧ w'.cell? ⟨w.heap.size + 1, 0, none⟩ = some (.int .i64 u1) ∧ w'.cell? ⟨w.heap.size + 1, 1, none⟩ = some (.slice B1 n1 d1) ∧
    w'.cell? ⟨w.heap.size + 2, 0, none⟩ = some (.int .i64 u2) ∧ w'.cell? ⟨w.heap.size + 2, 1, none⟩ = some (.slice B2 n2 d2) ∧ w.heap.size + 3 ≤ w'.heap.size ∧ Below w.heap.size w w'
theorem Base3.keep {w : World} {u0 u1 u2 : Int} {B0 B1 B2 : Option Addr} {n0 n1 n2 d0 d1 d2 : Nat} {W w1 : World} (h : Base3 w u0 u1 u2 B0 B1 B2 n0 n1 n2 d0 d1 d2 W) (hb : Below W.heap.size W w1) : Base3 w u0 u1 u2 B0 B1 B2 n0 n1 n2 d0 d1 d2 w1 := by
  obtain ⟨h0, h1, h2, h3, h4, h5, hz, hbl⟩ := h
  exact ⟨(hb.cell (by simp; omega)).trans h0, (hb.cell (by simp; omega)).trans h1, (hb.cell (by simp; omega)).trans h2, (hb.cell (by simp; omega)).trans h3, (hb.cell (by simp; omega)).trans h4, (hb.cell (by simp; omega)).trans h5, Nat.le_trans hz hb.size, hbl.trans (hb.mono hbl.size)⟩
theorem Base3.far2 {w : World} {u0 u1 u2 : Int} {B0 B1 B2 : Option Addr} {n0 n1 n2 d0 d1 d2 : Nat} {W : World} (h : Base3 w u0 u1 u2 B0 B1 B2 n0 n1 n2 d0 d1 d2 W) {B : Nat} (hB : w.heap.size + 3 ≤ B) (x y : Value) : Base3 w u0 u1 u2 B0 B1 B2 n0 n1 n2 d0 d1 d2 ((W.setCell ⟨B, 0, none⟩ x).setCell ⟨B, 1, none⟩ y) := by
  obtain ⟨h0, h1, h2, h3, h4, h5, hz, hbl⟩ := h
  have hb : Below (w.heap.size + 3) W ((W.setCell ⟨B, 0, none⟩ x).setCell ⟨B, 1, none⟩ y) := ((Below.refl _ _).setCell (by simpa using hB) x).setCell (by simpa using hB) y
  exact ⟨(hb.cell (by simp)).trans h0, (hb.cell (by simp)).trans h1, (hb.cell (by simp)).trans h2, (hb.cell (by simp)).trans h3, (hb.cell (by simp)).trans h4, (hb.cell (by simp)).trans h5, by simpa [World.setCell] using hz, (hbl.setCell (by simp; omega) x).setCell (by simp; omega) y⟩

/-- A Span that Fix has made. -/
def CF (l : Bool) (s : Value) (sp : Int × List Int) (w' : World) : Prop := l = true → ∃ A c, s = spanV sp A c ∧ OwnAny w' A c sp
theorem CF.keep {l : Bool} {s : Value} {sp : Int × List Int} {W w1 : World} (h : CF l s sp W) (hb : Below W.heap.size W w1) : CF l s sp w1 := fun hl => by
  obtain ⟨A, c, e, ho⟩ := h hl
  exact ⟨A, c, e, ho.keep hb⟩
theorem CF.far2 {l : Bool} {s : Value} {sp : Int × List Int} {W : World} (h : CF l s sp W) {B : Nat} {cs : Array Value} (hv : Var W B cs) (x y : Value) : CF l s sp ((W.setCell ⟨B, 0, none⟩ x).setCell ⟨B, 1, none⟩ y) := fun hl => by
  obtain ⟨A, c, e, ho⟩ := h hl
  exact ⟨A, c, e, ho.far2 hv x y⟩

def Inv3 (w : World) (u0 u1 u2 : Int) (B0 B1 B2 : Option Addr) (n0 n1 n2 d0 d1 d2 : Nat) (sa sb sc : Int × List Int) (a : Act) (listed : Array Bool) (a' : Act) (w' : World) : Prop :=
  ∃ (l0 l1 l2 l3 l4 l5 l6 l7 l8 l9 l10 l11 l12 l13 l14 : Bool) (s7 s8 s9 s10 s11 s12 s13 s14 s15 s16 s17 s18 : Value), listed = #[l0, l1, l2, l3, l4, l5, l6, l7, l8, l9, l10, l11, l12, l13, l14] ∧ a' = { a with tmps := ((((((((((((a.tmps.setIfInBounds 7 s7).setIfInBounds 8 s8).setIfInBounds 9 s9).setIfInBounds 10 s10).setIfInBounds 11 s11).setIfInBounds 12 s12).setIfInBounds 13 s13).setIfInBounds 14 s14).setIfInBounds 15 s15).setIfInBounds 16 s16).setIfInBounds 17 s17).setIfInBounds 18 s18) } ∧ Base3 w u0 u1 u2 B0 B1 B2 n0 n1 n2 d0 d1 d2 w' ∧ (l0 = true → s10 = .agg #[.int .i64 u0, .slice B0 n0 d0]) ∧ (l3 = true → s13 = .agg #[.int .i64 u1, .slice B1 n1 d1]) ∧ (l6 = true → s16 = .agg #[.int .i64 u2, .slice B2 n2 d2]) ∧ CF l1 s11 sa w' ∧ CF l4 s14 sb w' ∧ CF l7 s17 sc w' ∧ C1 l2 l12 s12 s7 sa w' ∧ C1 l5 l13 s15 s8 sb w' ∧ C1 l8 l14 s18 s9 sc w' ∧ C4 (w.heap.size + 1) l9 l12 s7 w' ∧ C4 (w.heap.size + 1) l10 l13 s8 w' ∧ C4 (w.heap.size + 1) l11 l14 s9 w' ∧ (l9 = true → l10 = true → s7 ≠ s8) ∧ (l9 = true → l11 = true → s7 ≠ s9) ∧ (l10 = true → l11 = true → s8 ≠ s9) ∧ (l12 = true → l2 = true ∧ l9 = true) ∧ (l13 = true → l5 = true ∧ l10 = true) ∧ (l14 = true → l8 = true ∧ l11 = true)

theorem groups_facts {sa sb sc : Int × List Int} (ha : Small sa) (hb : Small sb) (hc : Small sc) : Small (unionF sa sb) ∧ Small (unionF sb sc) ∧ unionF (unionF sa sb) sc = unionF sa (unionF sb sc) ∧ Small (unionF sa (unionF sb sc)) ∧ unionF sa sa = sa ∧ (withinF sa sb = true → withinF sb sc = true → withinF sa sc = true) := by
  obtain ⟨a, b⟩ := union_small ha hb
  obtain ⟨c, d⟩ := union_small hb hc
  obtain ⟨e, f⟩ := union_small a hc
  obtain ⟨g, h⟩ := union_small ha c
  obtain ⟨i, j⟩ := union_small ha ha
  refine ⟨a, c, Ok.ext e.1 g.1 (fun x => ?_), g, Ok.ext i.1 ha.1 (fun x => (j x).trans or_self_iff), fun h1 h2 => (within_mem hc.1).2 (fun x hx => (within_mem hc.1).1 h2 x ((within_mem hb.1).1 h1 x hx))⟩
  rw [f x, b x, h x, d x, or_assoc]

set_option maxRecDepth 100000 in
set_option maxHeartbeats 8000000 in
theorem spanGroups_walk (u0 : Int) (B0 : Option Addr) (n0 d0 : Nat) (z0 : List Int) (u1 : Int) (B1 : Option Addr) (n1 d1 : Nat) (z1 : List Int) (u2 : Int) (B2 : Option Addr) (n2 d2 : Nat) (z2 : List Int) (w : World) (hz0 : IntsAt w w.heap.size B0 n0 z0) (_hc0 : n0 ≤ d0) (hn0 : n0 ≤ 9223372036854775807) (hz1 : IntsAt w w.heap.size B1 n1 z1) (_hc1 : n1 ≤ d1) (hn1 : n1 ≤ 9223372036854775807) (hz2 : IntsAt w w.heap.size B2 n2 z2) (_hc2 : n2 ≤ d2) (hn2 : n2 ≤ 9223372036854775807) :
    Calls Try.prog 8 #[.agg #[.int .i64 u0, .slice B0 n0 d0], .agg #[.int .i64 u1, .slice B1 n1 d1], .agg #[.int .i64 u2, .slice B2 n2 d2]] w fun e w' => e = .returned (.bool true) ∧ Below w.heap.size w w' := by
  have HZ0 := Lib.hid hz0
  have HZ1 := Lib.hid hz1
  have HZ2 := Lib.hid hz2
  clear hz0 hz1 hz2
  have ha := fix_small u0 z0
  have hb := fix_small u1 z1
  have hc := fix_small u2 z2
  obtain ⟨sa, HF0⟩ : ∃ s, Hid (fixF u0 z0 = s) := ⟨_, rfl⟩
  obtain ⟨sb, HF1⟩ : ∃ s, Hid (fixF u1 z1 = s) := ⟨_, rfl⟩
  obtain ⟨sc, HF2⟩ : ∃ s, Hid (fixF u2 z2 = s) := ⟨_, rfl⟩
  rw [HF0.out] at ha
  rw [HF1.out] at hb
  rw [HF2.out] at hc
  obtain ⟨hp, hq, hass, ht, hid, htr⟩ := groups_facts ha hb hc
  obtain ⟨p, HP⟩ : ∃ p, Hid (unionF sa sb = p) := ⟨_, rfl⟩
  obtain ⟨q, HQ⟩ : ∃ q, Hid (unionF sb sc = q) := ⟨_, rfl⟩
  rw [HP.out] at hp hass
  rw [HQ.out] at hq hass ht
  obtain ⟨t, HU⟩ : ∃ t, Hid (unionF sa q = t) := ⟨_, rfl⟩
  rw [HU.out] at hass ht
  have HT := Lib.hid hass
  have HO := Lib.hid hid
  have HTr := Lib.hid htr
  have HSb := Lib.hid hb
  have HSc := Lib.hid hc
  have hLa : sa.2.length ≤ 100000 := by have := ha.2.2.2; omega
  have hLb : sb.2.length ≤ 100000 := by have := hb.2.2.2; omega
  have hLc : sc.2.length ≤ 100000 := by have := hc.2.2.2; omega
  have hLp : p.2.length ≤ 100000 := by have := hp.2.2.2; omega
  have hLq : q.2.length ≤ 100000 := by have := hq.2.2.2; omega
  have hLt : t.2.length ≤ 100000 := by have := ht.2.2.2; omega
  clear ha hb hc hp hq hass ht hid htr
  go_enter Try.func8, Try.ntmps8
  go_upto_region 1 with fail
  go_cut [7, 8, 9] (fun s7 s8 s9 wx => ∃ (G7 G8 G9 : Nat) (A7 A8 A9 : Option Addr) (c7 c8 c9 : Nat), s7 = .pointer (some ⟨G7, 0, none⟩) ∧ s8 = .pointer (some ⟨G8, 0, none⟩) ∧ s9 = .pointer (some ⟨G9, 0, none⟩) ∧ At wx G7 A7 c7 sa ∧ At wx G8 A8 c8 sb ∧ At wx G9 A9 c9 sc ∧ Below w.heap.size w wx)
  case first =>
    go_wp2_with fail
    refine region_inv (D := [[], [0], [1, 1], [], [3, 2], [4, 4], [], [6, 5], [7, 7], [], [], [], [9, 2, 8, 0, 1, 2, 9, 10, 11], [10, 5, 12, 0, 1, 2, 3, 4, 5, 9, 10, 11, 12], [11, 8, 13, 0, 1, 2, 3, 4, 5, 6, 7, 8, 9, 10, 11, 12, 13]]) (by kernel_rfl) (by kernel_rfl) (by decide) (Inv3 w u0 u1 u2 B0 B1 B2 n0 n1 n2 d0 d1 d2 sa sb sc) ?_ ?_ ?_
    · exact ⟨false, false, false, false, false, false, false, false, false, false, false, false, false, false, false, undef, undef, undef, undef, undef, undef, undef, undef, undef, undef, undef, undef, rfl, by simp only [List.setIfInBounds_toArray, List.set_cons_zero, List.set_cons_succ], ⟨by simp [go_sem], by simp [go_sem], by simp [go_sem], by simp [go_sem], by simp [go_sem], by simp [go_sem], by simp, ((((Below.refl _ _).alloc (Nat.le_refl _) _).alloc (by simp) _).alloc (by simp; omega) _).drew⟩, (fun h => by cases h), (fun h => by cases h), (fun h => by cases h), (fun h => by cases h), (fun h => by cases h), (fun h => by cases h), (fun h => by cases h), (fun h => by cases h), (fun h => by cases h), (fun h => by cases h), (fun h => by cases h), (fun h => by cases h), (fun h => by cases h), (fun h => by cases h), (fun h => by cases h), (fun h => by cases h), (fun h => by cases h), (fun h => by cases h)⟩
    · intro listed a' w' i hI hs
      obtain ⟨l0, l1, l2, l3, l4, l5, l6, l7, l8, l9, l10, l11, l12, l13, l14, s7, s8, s9, s10, s11, s12, s13, s14, s15, s16, s17, s18, rfl, rfl, hB, r0, r1, r2, f0, f1, f2, t0, t1, t2, v0, v1, v2, n01, n02, n12, j0, j1, j2⟩ := hI
      obtain ⟨hi, hl, hd⟩ := hs
      simp only [List.setIfInBounds_toArray, List.set_cons_zero, List.set_cons_succ]
      have HB := Lib.hid hB
      obtain ⟨x0, x1, y0, y1, q0, q1, hsz, hbl⟩ := hB
      have HBl := Lib.hid hbl
      clear hbl
      have R0 := Lib.hid r0
      have R1 := Lib.hid r1
      have R2 := Lib.hid r2
      have F0 := Lib.hid f0
      have F1 := Lib.hid f1
      have F2 := Lib.hid f2
      have T0 := Lib.hid t0
      have T1 := Lib.hid t1
      have T2 := Lib.hid t2
      have V0 := Lib.hid v0
      have V1 := Lib.hid v1
      have V2 := Lib.hid v2
      have N01 := Lib.hid n01
      have N02 := Lib.hid n02
      have N12 := Lib.hid n12
      have J0 := Lib.hid j0
      have J1 := Lib.hid j1
      have J2 := Lib.hid j2
      clear r0 r1 r2 f0 f1 f2 t0 t1 t2 v0 v1 v2 n01 n02 n12 j0 j1 j2
      rcases (show i = 0 ∨ i = 1 ∨ i = 2 ∨ i = 3 ∨ i = 4 ∨ i = 5 ∨ i = 6 ∨ i = 7 ∨ i = 8 ∨ i = 9 ∨ i = 10 ∨ i = 11 ∨ i = 12 ∨ i = 13 ∨ i = 14 by simp at hi; omega) with rfl | rfl | rfl | rfl | rfl | rfl | rfl | rfl | rfl | rfl | rfl | rfl | rfl | rfl | rfl
      · have e0 : l0 = false := hl
        subst e0
        refine wpOp_step (o := { dst := some 10, op := Go.Op.load 24 (Go.Operand.tmp 3), type := 24, pos := "law.go:91", after := #[], guard := none }) rfl (fun K hK => ?_)
        have HK := Lib.hid hK
        clear hK hd hl
        go_simp
        refine HK.out _ _ ?_
        exact ⟨true, l1, l2, l3, l4, l5, l6, l7, l8, l9, l10, l11, l12, l13, l14, s7, s8, s9, .agg #[.int .i64 u0, .slice B0 n0 d0], s11, s12, s13, s14, s15, s16, s17, s18, rfl, by simp only [List.setIfInBounds_toArray, List.set_cons_zero, List.set_cons_succ], HB.out, (fun _ => rfl), (R1.out), (R2.out), (F0.out), (F1.out), (F2.out), (T0.out), (T1.out), (T2.out), (V0.out), (V1.out), (V2.out), (N01.out), (N02.out), (N12.out), (J0.out), (J1.out), (J2.out)⟩
      · have e0 : l1 = false := hl
        subst e0
        have dd : l0 = true := hd 0 (by decide)
        have e1 := R0.out dd
        subst e1
        refine wpOp_step (o := { dst := some 11, op := Go.Op.call { callee := Go.Callee.value (Go.Operand.func 14), args := #[Go.Operand.tmp 10], argTypes := #[24] }, type := 24, pos := "law.go:91", after := #[{ on := 0, ground := Go.Ground.data }], guard := none }) rfl (fun K hK => ?_)
        have HK := Lib.hid hK
        clear hK hd hl
        go_simp
        refine (fix_any u0 B0 n0 d0 z0 w.heap.size w' HBl.out.size (HZ0.out.keep HBl.out) hn0).mono ?_
        rw [HF0.out]
        rintro e w1 ⟨A9, c9, rfl, hown, hg, _⟩
        have hb := grown_none hg
        refine HK.out _ _ ?_
        exact ⟨l0, true, l2, l3, l4, l5, l6, l7, l8, l9, l10, l11, l12, l13, l14, s7, s8, s9, .agg #[.int .i64 u0, .slice B0 n0 d0], spanV sa A9 c9, s12, s13, s14, s15, s16, s17, s18, rfl, by simp only [List.setIfInBounds_toArray, List.set_cons_zero, List.set_cons_succ], HB.out.keep hb, (fun _ => rfl), (R1.out), (R2.out), (fun _ => ⟨A9, c9, rfl, own_base hown (Nat.zero_le _)⟩), (F1.out.keep hb), (F2.out.keep hb), (T0.out.keep hb), (T1.out.keep hb), (T2.out.keep hb), (V0.out.keep hb), (V1.out.keep hb), (V2.out.keep hb), (N01.out), (N02.out), (N12.out), (J0.out), (J1.out), (J2.out)⟩
      · have e0 : l2 = false := hl
        subst e0
        have dd : l1 = true := hd 1 (by decide)
        have h6 : l12 = false := by
          rcases hq : l12 with _ | _
          · rfl
          · have := (J0.out hq).1; simp at this
        obtain ⟨A8, c8, e8, ho8⟩ := F0.out dd
        subst e8
        have HO8 := Lib.hid ho8
        clear ho8
        refine wpOp_step (o := { dst := some 12, op := Go.Op.call { callee := Go.Callee.value (Go.Operand.func 12), args := #[Go.Operand.tmp 11], argTypes := #[24] }, type := 27, pos := "law.go:91", after := #[{ on := 1, ground := Go.Ground.data }, { on := 1, ground := Go.Ground.chain }], guard := none }) rfl (fun K hK => ?_)
        have HK := Lib.hid hK
        clear hK hd hl
        go_simp
        refine (to_any sa.1 A8 sa.2.length c8 sa.2 w'.heap.size w' (Nat.le_refl _) (own_ints HO8.out) (by omega)).mono ?_
        rintro e w1 ⟨A9, c9, rfl, hown, hg, _⟩
        have hb := grown_none hg
        refine HK.out _ _ ?_
        exact ⟨l0, l1, true, l3, l4, l5, l6, l7, l8, l9, l10, l11, l12, l13, l14, s7, s8, s9, s10, spanV sa A8 c8, spanV sa A9 c9, s13, s14, s15, s16, s17, s18, rfl, by simp only [List.setIfInBounds_toArray, List.set_cons_zero, List.set_cons_succ], HB.out.keep hb, (R0.out), (R1.out), (R2.out), (fun _ => ⟨A8, c8, rfl, HO8.out.keep hb⟩), (F1.out.keep hb), (F2.out.keep hb), (fun _ => ⟨A9, c9, rfl, own_base hown (Nat.zero_le _), fun h => by rw [h6] at h; cases h⟩), (T1.out.keep hb), (T2.out.keep hb), (V0.out.keep hb), (V1.out.keep hb), (V2.out.keep hb), (N01.out), (N02.out), (N12.out), (fun h => by rw [h6] at h; cases h), (J1.out), (J2.out)⟩
      · have e0 : l3 = false := hl
        subst e0
        refine wpOp_step (o := { dst := some 13, op := Go.Op.load 24 (Go.Operand.tmp 4), type := 24, pos := "law.go:91", after := #[], guard := none }) rfl (fun K hK => ?_)
        have HK := Lib.hid hK
        clear hK hd hl
        go_simp
        refine HK.out _ _ ?_
        exact ⟨l0, l1, l2, true, l4, l5, l6, l7, l8, l9, l10, l11, l12, l13, l14, s7, s8, s9, s10, s11, s12, .agg #[.int .i64 u1, .slice B1 n1 d1], s14, s15, s16, s17, s18, rfl, by simp only [List.setIfInBounds_toArray, List.set_cons_zero, List.set_cons_succ], HB.out, (R0.out), (fun _ => rfl), (R2.out), (F0.out), (F1.out), (F2.out), (T0.out), (T1.out), (T2.out), (V0.out), (V1.out), (V2.out), (N01.out), (N02.out), (N12.out), (J0.out), (J1.out), (J2.out)⟩
      · have e0 : l4 = false := hl
        subst e0
        have dd : l3 = true := hd 3 (by decide)
        have e1 := R1.out dd
        subst e1
        refine wpOp_step (o := { dst := some 14, op := Go.Op.call { callee := Go.Callee.value (Go.Operand.func 14), args := #[Go.Operand.tmp 13], argTypes := #[24] }, type := 24, pos := "law.go:91", after := #[{ on := 3, ground := Go.Ground.data }, { on := 2, ground := Go.Ground.chain }], guard := none }) rfl (fun K hK => ?_)
        have HK := Lib.hid hK
        clear hK hd hl
        go_simp
        refine (fix_any u1 B1 n1 d1 z1 w.heap.size w' HBl.out.size (HZ1.out.keep HBl.out) hn1).mono ?_
        rw [HF1.out]
        rintro e w1 ⟨A9, c9, rfl, hown, hg, _⟩
        have hb := grown_none hg
        refine HK.out _ _ ?_
        exact ⟨l0, l1, l2, l3, true, l5, l6, l7, l8, l9, l10, l11, l12, l13, l14, s7, s8, s9, s10, s11, s12, .agg #[.int .i64 u1, .slice B1 n1 d1], spanV sb A9 c9, s15, s16, s17, s18, rfl, by simp only [List.setIfInBounds_toArray, List.set_cons_zero, List.set_cons_succ], HB.out.keep hb, (R0.out), (fun _ => rfl), (R2.out), (F0.out.keep hb), (fun _ => ⟨A9, c9, rfl, own_base hown (Nat.zero_le _)⟩), (F2.out.keep hb), (T0.out.keep hb), (T1.out.keep hb), (T2.out.keep hb), (V0.out.keep hb), (V1.out.keep hb), (V2.out.keep hb), (N01.out), (N02.out), (N12.out), (J0.out), (J1.out), (J2.out)⟩
      · have e0 : l5 = false := hl
        subst e0
        have dd : l4 = true := hd 4 (by decide)
        have h6 : l13 = false := by
          rcases hq : l13 with _ | _
          · rfl
          · have := (J1.out hq).1; simp at this
        obtain ⟨A8, c8, e8, ho8⟩ := F1.out dd
        subst e8
        have HO8 := Lib.hid ho8
        clear ho8
        refine wpOp_step (o := { dst := some 15, op := Go.Op.call { callee := Go.Callee.value (Go.Operand.func 12), args := #[Go.Operand.tmp 14], argTypes := #[24] }, type := 27, pos := "law.go:91", after := #[{ on := 4, ground := Go.Ground.data }, { on := 4, ground := Go.Ground.chain }], guard := none }) rfl (fun K hK => ?_)
        have HK := Lib.hid hK
        clear hK hd hl
        go_simp
        refine (to_any sb.1 A8 sb.2.length c8 sb.2 w'.heap.size w' (Nat.le_refl _) (own_ints HO8.out) (by omega)).mono ?_
        rintro e w1 ⟨A9, c9, rfl, hown, hg, _⟩
        have hb := grown_none hg
        refine HK.out _ _ ?_
        exact ⟨l0, l1, l2, l3, l4, true, l6, l7, l8, l9, l10, l11, l12, l13, l14, s7, s8, s9, s10, s11, s12, s13, spanV sb A8 c8, spanV sb A9 c9, s16, s17, s18, rfl, by simp only [List.setIfInBounds_toArray, List.set_cons_zero, List.set_cons_succ], HB.out.keep hb, (R0.out), (R1.out), (R2.out), (F0.out.keep hb), (fun _ => ⟨A8, c8, rfl, HO8.out.keep hb⟩), (F2.out.keep hb), (T0.out.keep hb), (fun _ => ⟨A9, c9, rfl, own_base hown (Nat.zero_le _), fun h => by rw [h6] at h; cases h⟩), (T2.out.keep hb), (V0.out.keep hb), (V1.out.keep hb), (V2.out.keep hb), (N01.out), (N02.out), (N12.out), (J0.out), (fun h => by rw [h6] at h; cases h), (J2.out)⟩
      · have e0 : l6 = false := hl
        subst e0
        refine wpOp_step (o := { dst := some 16, op := Go.Op.load 24 (Go.Operand.tmp 5), type := 24, pos := "law.go:91", after := #[], guard := none }) rfl (fun K hK => ?_)
        have HK := Lib.hid hK
        clear hK hd hl
        go_simp
        refine HK.out _ _ ?_
        exact ⟨l0, l1, l2, l3, l4, l5, true, l7, l8, l9, l10, l11, l12, l13, l14, s7, s8, s9, s10, s11, s12, s13, s14, s15, .agg #[.int .i64 u2, .slice B2 n2 d2], s17, s18, rfl, by simp only [List.setIfInBounds_toArray, List.set_cons_zero, List.set_cons_succ], HB.out, (R0.out), (R1.out), (fun _ => rfl), (F0.out), (F1.out), (F2.out), (T0.out), (T1.out), (T2.out), (V0.out), (V1.out), (V2.out), (N01.out), (N02.out), (N12.out), (J0.out), (J1.out), (J2.out)⟩
      · have e0 : l7 = false := hl
        subst e0
        have dd : l6 = true := hd 6 (by decide)
        have e1 := R2.out dd
        subst e1
        refine wpOp_step (o := { dst := some 17, op := Go.Op.call { callee := Go.Callee.value (Go.Operand.func 14), args := #[Go.Operand.tmp 16], argTypes := #[24] }, type := 24, pos := "law.go:91", after := #[{ on := 6, ground := Go.Ground.data }, { on := 5, ground := Go.Ground.chain }], guard := none }) rfl (fun K hK => ?_)
        have HK := Lib.hid hK
        clear hK hd hl
        go_simp
        refine (fix_any u2 B2 n2 d2 z2 w.heap.size w' HBl.out.size (HZ2.out.keep HBl.out) hn2).mono ?_
        rw [HF2.out]
        rintro e w1 ⟨A9, c9, rfl, hown, hg, _⟩
        have hb := grown_none hg
        refine HK.out _ _ ?_
        exact ⟨l0, l1, l2, l3, l4, l5, l6, true, l8, l9, l10, l11, l12, l13, l14, s7, s8, s9, s10, s11, s12, s13, s14, s15, .agg #[.int .i64 u2, .slice B2 n2 d2], spanV sc A9 c9, s18, rfl, by simp only [List.setIfInBounds_toArray, List.set_cons_zero, List.set_cons_succ], HB.out.keep hb, (R0.out), (R1.out), (fun _ => rfl), (F0.out.keep hb), (F1.out.keep hb), (fun _ => ⟨A9, c9, rfl, own_base hown (Nat.zero_le _)⟩), (T0.out.keep hb), (T1.out.keep hb), (T2.out.keep hb), (V0.out.keep hb), (V1.out.keep hb), (V2.out.keep hb), (N01.out), (N02.out), (N12.out), (J0.out), (J1.out), (J2.out)⟩
      · have e0 : l8 = false := hl
        subst e0
        have dd : l7 = true := hd 7 (by decide)
        have h6 : l14 = false := by
          rcases hq : l14 with _ | _
          · rfl
          · have := (J2.out hq).1; simp at this
        obtain ⟨A8, c8, e8, ho8⟩ := F2.out dd
        subst e8
        have HO8 := Lib.hid ho8
        clear ho8
        refine wpOp_step (o := { dst := some 18, op := Go.Op.call { callee := Go.Callee.value (Go.Operand.func 12), args := #[Go.Operand.tmp 17], argTypes := #[24] }, type := 27, pos := "law.go:91", after := #[{ on := 7, ground := Go.Ground.data }, { on := 7, ground := Go.Ground.chain }], guard := none }) rfl (fun K hK => ?_)
        have HK := Lib.hid hK
        clear hK hd hl
        go_simp
        refine (to_any sc.1 A8 sc.2.length c8 sc.2 w'.heap.size w' (Nat.le_refl _) (own_ints HO8.out) (by omega)).mono ?_
        rintro e w1 ⟨A9, c9, rfl, hown, hg, _⟩
        have hb := grown_none hg
        refine HK.out _ _ ?_
        exact ⟨l0, l1, l2, l3, l4, l5, l6, l7, true, l9, l10, l11, l12, l13, l14, s7, s8, s9, s10, s11, s12, s13, s14, s15, s16, spanV sc A8 c8, spanV sc A9 c9, rfl, by simp only [List.setIfInBounds_toArray, List.set_cons_zero, List.set_cons_succ], HB.out.keep hb, (R0.out), (R1.out), (R2.out), (F0.out.keep hb), (F1.out.keep hb), (fun _ => ⟨A8, c8, rfl, HO8.out.keep hb⟩), (T0.out.keep hb), (T1.out.keep hb), (fun _ => ⟨A9, c9, rfl, own_base hown (Nat.zero_le _), fun h => by rw [h6] at h; cases h⟩), (V0.out.keep hb), (V1.out.keep hb), (V2.out.keep hb), (N01.out), (N02.out), (N12.out), (J0.out), (J1.out), (fun h => by rw [h6] at h; cases h)⟩
      · have e0 : l9 = false := hl
        subst e0
        have h6 : l12 = false := by
          rcases hq : l12 with _ | _
          · rfl
          · have := (J0.out hq).2; simp at this
        refine wpOp_step (o := { dst := some 7, op := Go.Op.alloc 27, type := 0, pos := "law.go:91", after := #[], guard := none }) rfl (fun K hK => ?_)
        have HK := Lib.hid hK
        clear hK hd hl
        go_simp
        have hb := alloc_below w' (Obj.cells zeroC 27)
        refine HK.out _ _ ?_
        exact ⟨l0, l1, l2, l3, l4, l5, l6, l7, l8, true, l10, l11, l12, l13, l14, .pointer (some ⟨w'.heap.size, 0, none⟩), s8, s9, s10, s11, s12, s13, s14, s15, s16, s17, s18, rfl, by simp only [List.setIfInBounds_toArray, List.set_cons_zero, List.set_cons_succ], HB.out.keep hb, (R0.out), (R1.out), (R2.out), (F0.out.keep hb), (F1.out.keep hb), (F2.out.keep hb), (fun h => by obtain ⟨A, c, e, ho, _⟩ := T0.out h; exact ⟨A, c, e, ho.keep hb, fun h' => by rw [h6] at h'; cases h'⟩), (T1.out.keep hb), (T2.out.keep hb), (fun _ => ⟨w'.heap.size, rfl, by omega, by simp, fun _ => zero_new w'⟩), (V1.out.keep hb), (V2.out.keep hb), (fun _ h5 e => by obtain ⟨G, e', _, h2, _⟩ := V1.out h5; rw [e'] at e; injection e with e; injection e with e; injection e with e; omega), (fun _ h5 e => by obtain ⟨G, e', _, h2, _⟩ := V2.out h5; rw [e'] at e; injection e with e; injection e with e; injection e with e; omega), (N12.out), (fun h => by rw [h6] at h; cases h), (J1.out), (J2.out)⟩
      · have e0 : l10 = false := hl
        subst e0
        have h6 : l13 = false := by
          rcases hq : l13 with _ | _
          · rfl
          · have := (J1.out hq).2; simp at this
        refine wpOp_step (o := { dst := some 8, op := Go.Op.alloc 27, type := 0, pos := "law.go:91", after := #[], guard := none }) rfl (fun K hK => ?_)
        have HK := Lib.hid hK
        clear hK hd hl
        go_simp
        have hb := alloc_below w' (Obj.cells zeroC 27)
        refine HK.out _ _ ?_
        exact ⟨l0, l1, l2, l3, l4, l5, l6, l7, l8, l9, true, l11, l12, l13, l14, s7, .pointer (some ⟨w'.heap.size, 0, none⟩), s9, s10, s11, s12, s13, s14, s15, s16, s17, s18, rfl, by simp only [List.setIfInBounds_toArray, List.set_cons_zero, List.set_cons_succ], HB.out.keep hb, (R0.out), (R1.out), (R2.out), (F0.out.keep hb), (F1.out.keep hb), (F2.out.keep hb), (T0.out.keep hb), (fun h => by obtain ⟨A, c, e, ho, _⟩ := T1.out h; exact ⟨A, c, e, ho.keep hb, fun h' => by rw [h6] at h'; cases h'⟩), (T2.out.keep hb), (V0.out.keep hb), (fun _ => ⟨w'.heap.size, rfl, by omega, by simp, fun _ => zero_new w'⟩), (V2.out.keep hb), (fun h4 _ e => by obtain ⟨G, e', _, h2, _⟩ := V0.out h4; rw [e'] at e; injection e with e; injection e with e; injection e with e; omega), (N02.out), (fun _ h5 e => by obtain ⟨G, e', _, h2, _⟩ := V2.out h5; rw [e'] at e; injection e with e; injection e with e; injection e with e; omega), (J0.out), (fun h => by rw [h6] at h; cases h), (J2.out)⟩
      · have e0 : l11 = false := hl
        subst e0
        have h6 : l14 = false := by
          rcases hq : l14 with _ | _
          · rfl
          · have := (J2.out hq).2; simp at this
        refine wpOp_step (o := { dst := some 9, op := Go.Op.alloc 27, type := 0, pos := "law.go:91", after := #[], guard := none }) rfl (fun K hK => ?_)
        have HK := Lib.hid hK
        clear hK hd hl
        go_simp
        have hb := alloc_below w' (Obj.cells zeroC 27)
        refine HK.out _ _ ?_
        exact ⟨l0, l1, l2, l3, l4, l5, l6, l7, l8, l9, l10, true, l12, l13, l14, s7, s8, .pointer (some ⟨w'.heap.size, 0, none⟩), s10, s11, s12, s13, s14, s15, s16, s17, s18, rfl, by simp only [List.setIfInBounds_toArray, List.set_cons_zero, List.set_cons_succ], HB.out.keep hb, (R0.out), (R1.out), (R2.out), (F0.out.keep hb), (F1.out.keep hb), (F2.out.keep hb), (T0.out.keep hb), (T1.out.keep hb), (fun h => by obtain ⟨A, c, e, ho, _⟩ := T2.out h; exact ⟨A, c, e, ho.keep hb, fun h' => by rw [h6] at h'; cases h'⟩), (V0.out.keep hb), (V1.out.keep hb), (fun _ => ⟨w'.heap.size, rfl, by omega, by simp, fun _ => zero_new w'⟩), (N01.out), (fun h4 _ e => by obtain ⟨G, e', _, h2, _⟩ := V0.out h4; rw [e'] at e; injection e with e; injection e with e; injection e with e; omega), (fun h4 _ e => by obtain ⟨G, e', _, h2, _⟩ := V1.out h4; rw [e'] at e; injection e with e; injection e with e; injection e with e; omega), (J0.out), (J1.out), (fun h => by rw [h6] at h; cases h)⟩
      · have e0 : l12 = false := hl
        subst e0
        have dt : l2 = true := hd 2 (by decide)
        have dv0 : l9 = true := hd 9 (by decide)
        have dv1 : l10 = true := hd 10 (by decide)
        have dv2 : l11 = true := hd 11 (by decide)
        obtain ⟨A9, c9, e9, ho9, _⟩ := T0.out dt
        subst e9
        obtain ⟨G, e5, hG1, hG2, hv⟩ := V0.out dv0
        subst e5
        have hV := hv rfl
        have HV := Lib.hid hV
        have v0 : w'.cell? ⟨G, 0, none⟩ = some (.int .i64 0) := hV.cell 0
        have v1 : w'.cell? ⟨G, 1, none⟩ = some (.slice none 0 0) := hV.cell 1
        have v2 := hV.frozen 0
        have v3 := hV.frozen 1
        have HO9 := Lib.hid ho9
        clear hv hV ho9
        refine wpOp_step (o := { dst := none, op := Go.Op.store 27 (Go.Operand.tmp 7) (Go.Operand.tmp 12), type := 0, pos := "law.go:91", after := #[{ on := 9, ground := Go.Ground.data }, { on := 2, ground := Go.Ground.data }, { on := 8, ground := Go.Ground.chain }, { on := 0, ground := Go.Ground.phase }, { on := 1, ground := Go.Ground.phase }, { on := 2, ground := Go.Ground.phase }, { on := 3, ground := Go.Ground.textOnly Go.Departure.lateStores }, { on := 4, ground := Go.Ground.textOnly Go.Departure.lateStoresUnsure }, { on := 5, ground := Go.Ground.textOnly Go.Departure.lateStoresUnsure }, { on := 6, ground := Go.Ground.textOnly Go.Departure.lateStores }, { on := 7, ground := Go.Ground.textOnly Go.Departure.lateStoresUnsure }, { on := 8, ground := Go.Ground.textOnly Go.Departure.lateStoresUnsure }, { on := 9, ground := Go.Ground.phase }, { on := 10, ground := Go.Ground.phase }, { on := 11, ground := Go.Ground.phase }], guard := none }) rfl (fun K hK => ?_)
        have HK := Lib.hid hK
        clear hK hd hl
        go_simp
        refine HK.out _ _ ?_
        exact ⟨l0, l1, l2, l3, l4, l5, l6, l7, l8, l9, l10, l11, true, l13, l14, .pointer (some ⟨G, 0, none⟩), s8, s9, s10, s11, spanV sa A9 c9, s13, s14, s15, s16, s17, s18, rfl, by simp only [List.setIfInBounds_toArray, List.set_cons_zero, List.set_cons_succ], HB.out.far2 (by omega) _ _, (R0.out), (R1.out), (R2.out), (F0.out.far2 HV.out _ _), (F1.out.far2 HV.out _ _), (F2.out.far2 HV.out _ _), (fun _ => ⟨A9, c9, rfl, HO9.out.far2 HV.out _ _, fun _ => ⟨G, rfl, HV.out.set2 _ _⟩⟩), (T1.out.far2 HV.out (fun h => N01.out dv0 dv1 h.symm) _ _), (T2.out.far2 HV.out (fun h => N02.out dv0 dv2 h.symm) _ _), (fun _ => ⟨G, rfl, hG1, by simpa [World.setCell] using hG2, fun h => by cases h⟩), (V1.out.far2 (fun h => N01.out dv0 dv1 h.symm) _ _), (V2.out.far2 (fun h => N02.out dv0 dv2 h.symm) _ _), (N01.out), (N02.out), (N12.out), (fun _ => ⟨dt, dv0⟩), (J1.out), (J2.out)⟩
      · have e0 : l13 = false := hl
        subst e0
        have dt : l5 = true := hd 5 (by decide)
        have dv0 : l9 = true := hd 9 (by decide)
        have dv1 : l10 = true := hd 10 (by decide)
        have dv2 : l11 = true := hd 11 (by decide)
        obtain ⟨A9, c9, e9, ho9, _⟩ := T1.out dt
        subst e9
        obtain ⟨G, e5, hG1, hG2, hv⟩ := V1.out dv1
        subst e5
        have hV := hv rfl
        have HV := Lib.hid hV
        have v0 : w'.cell? ⟨G, 0, none⟩ = some (.int .i64 0) := hV.cell 0
        have v1 : w'.cell? ⟨G, 1, none⟩ = some (.slice none 0 0) := hV.cell 1
        have v2 := hV.frozen 0
        have v3 := hV.frozen 1
        have HO9 := Lib.hid ho9
        clear hv hV ho9
        refine wpOp_step (o := { dst := none, op := Go.Op.store 27 (Go.Operand.tmp 8) (Go.Operand.tmp 15), type := 0, pos := "law.go:91", after := #[{ on := 10, ground := Go.Ground.data }, { on := 5, ground := Go.Ground.data }, { on := 12, ground := Go.Ground.chain }, { on := 0, ground := Go.Ground.phase }, { on := 1, ground := Go.Ground.phase }, { on := 2, ground := Go.Ground.phase }, { on := 3, ground := Go.Ground.phase }, { on := 4, ground := Go.Ground.phase }, { on := 5, ground := Go.Ground.phase }, { on := 6, ground := Go.Ground.textOnly Go.Departure.lateStores }, { on := 7, ground := Go.Ground.textOnly Go.Departure.lateStoresUnsure }, { on := 8, ground := Go.Ground.textOnly Go.Departure.lateStoresUnsure }, { on := 9, ground := Go.Ground.phase }, { on := 10, ground := Go.Ground.phase }, { on := 11, ground := Go.Ground.phase }, { on := 12, ground := Go.Ground.phase }], guard := none }) rfl (fun K hK => ?_)
        have HK := Lib.hid hK
        clear hK hd hl
        go_simp
        refine HK.out _ _ ?_
        exact ⟨l0, l1, l2, l3, l4, l5, l6, l7, l8, l9, l10, l11, l12, true, l14, s7, .pointer (some ⟨G, 0, none⟩), s9, s10, s11, s12, s13, s14, spanV sb A9 c9, s16, s17, s18, rfl, by simp only [List.setIfInBounds_toArray, List.set_cons_zero, List.set_cons_succ], HB.out.far2 (by omega) _ _, (R0.out), (R1.out), (R2.out), (F0.out.far2 HV.out _ _), (F1.out.far2 HV.out _ _), (F2.out.far2 HV.out _ _), (T0.out.far2 HV.out (fun h => N01.out dv0 dv1 h) _ _), (fun _ => ⟨A9, c9, rfl, HO9.out.far2 HV.out _ _, fun _ => ⟨G, rfl, HV.out.set2 _ _⟩⟩), (T2.out.far2 HV.out (fun h => N12.out dv1 dv2 h.symm) _ _), (V0.out.far2 (fun h => N01.out dv0 dv1 h) _ _), (fun _ => ⟨G, rfl, hG1, by simpa [World.setCell] using hG2, fun h => by cases h⟩), (V2.out.far2 (fun h => N12.out dv1 dv2 h.symm) _ _), (N01.out), (N02.out), (N12.out), (J0.out), (fun _ => ⟨dt, dv1⟩), (J2.out)⟩
      · have e0 : l14 = false := hl
        subst e0
        have dt : l8 = true := hd 8 (by decide)
        have dv0 : l9 = true := hd 9 (by decide)
        have dv1 : l10 = true := hd 10 (by decide)
        have dv2 : l11 = true := hd 11 (by decide)
        obtain ⟨A9, c9, e9, ho9, _⟩ := T2.out dt
        subst e9
        obtain ⟨G, e5, hG1, hG2, hv⟩ := V2.out dv2
        subst e5
        have hV := hv rfl
        have HV := Lib.hid hV
        have v0 : w'.cell? ⟨G, 0, none⟩ = some (.int .i64 0) := hV.cell 0
        have v1 : w'.cell? ⟨G, 1, none⟩ = some (.slice none 0 0) := hV.cell 1
        have v2 := hV.frozen 0
        have v3 := hV.frozen 1
        have HO9 := Lib.hid ho9
        clear hv hV ho9
        refine wpOp_step (o := { dst := none, op := Go.Op.store 27 (Go.Operand.tmp 9) (Go.Operand.tmp 18), type := 0, pos := "law.go:91", after := #[{ on := 11, ground := Go.Ground.data }, { on := 8, ground := Go.Ground.data }, { on := 13, ground := Go.Ground.chain }, { on := 0, ground := Go.Ground.phase }, { on := 1, ground := Go.Ground.phase }, { on := 2, ground := Go.Ground.phase }, { on := 3, ground := Go.Ground.phase }, { on := 4, ground := Go.Ground.phase }, { on := 5, ground := Go.Ground.phase }, { on := 6, ground := Go.Ground.phase }, { on := 7, ground := Go.Ground.phase }, { on := 8, ground := Go.Ground.phase }, { on := 9, ground := Go.Ground.phase }, { on := 10, ground := Go.Ground.phase }, { on := 11, ground := Go.Ground.phase }, { on := 12, ground := Go.Ground.phase }, { on := 13, ground := Go.Ground.phase }], guard := none }) rfl (fun K hK => ?_)
        have HK := Lib.hid hK
        clear hK hd hl
        go_simp
        refine HK.out _ _ ?_
        exact ⟨l0, l1, l2, l3, l4, l5, l6, l7, l8, l9, l10, l11, l12, l13, true, s7, s8, .pointer (some ⟨G, 0, none⟩), s10, s11, s12, s13, s14, s15, s16, s17, spanV sc A9 c9, rfl, by simp only [List.setIfInBounds_toArray, List.set_cons_zero, List.set_cons_succ], HB.out.far2 (by omega) _ _, (R0.out), (R1.out), (R2.out), (F0.out.far2 HV.out _ _), (F1.out.far2 HV.out _ _), (F2.out.far2 HV.out _ _), (T0.out.far2 HV.out (fun h => N02.out dv0 dv2 h) _ _), (T1.out.far2 HV.out (fun h => N12.out dv1 dv2 h) _ _), (fun _ => ⟨A9, c9, rfl, HO9.out.far2 HV.out _ _, fun _ => ⟨G, rfl, HV.out.set2 _ _⟩⟩), (V0.out.far2 (fun h => N02.out dv0 dv2 h) _ _), (V1.out.far2 (fun h => N12.out dv1 dv2 h) _ _), (fun _ => ⟨G, rfl, hG1, by simpa [World.setCell] using hG2, fun h => by cases h⟩), (N01.out), (N02.out), (N12.out), (J0.out), (J1.out), (fun _ => ⟨dt, dv2⟩)⟩
    · intro listed a' w' hI hall
      obtain ⟨l0, l1, l2, l3, l4, l5, l6, l7, l8, l9, l10, l11, l12, l13, l14, s7, s8, s9, s10, s11, s12, s13, s14, s15, s16, s17, s18, rfl, rfl, hB, r0, r1, r2, f0, f1, f2, t0, t1, t2, v0, v1, v2, n01, n02, n12, j0, j1, j2⟩ := hI
      obtain ⟨A7, c7, e7, ho7, hv7⟩ := t0 (hall 2 (by decide))
      obtain ⟨A8, c8, e8, ho8, hv8⟩ := t1 (hall 5 (by decide))
      obtain ⟨A9, c9, e9, ho9, hv9⟩ := t2 (hall 8 (by decide))
      obtain ⟨G7, g7, hV7⟩ := hv7 (hall 12 (by decide))
      obtain ⟨G8, g8, hV8⟩ := hv8 (hall 13 (by decide))
      obtain ⟨G9, g9, hV9⟩ := hv9 (hall 14 (by decide))
      subst e7 e8 e9 g7 g8 g9
      simp only [List.setIfInBounds_toArray, List.set_cons_zero, List.set_cons_succ]
      have HR : Hid (At w' G7 A7 c7 sa ∧ At w' G8 A8 c8 sb ∧ At w' G9 A9 c9 sc ∧ Below w.heap.size w w') := ⟨⟨hV7.cell 0, hV7.cell 1, hV7.lt, ho7.spanIn⟩, ⟨hV8.cell 0, hV8.cell 1, hV8.lt, ho8.spanIn⟩, ⟨hV9.cell 0, hV9.cell 1, hV9.lt, ho9.spanIn⟩, hB.2.2.2.2.2.2.2⟩
      clear hB r0 r1 r2 f0 f1 f2 t0 t1 t2 v0 v1 v2 n01 n02 n12 j0 j1 j2 hall ho7 ho8 ho9 hv7 hv8 hv9 hV7 hV8 hV9
      go_wp2_with fail
      go_meet
      case rel => exact ⟨G7, G8, G9, A7, A8, A9, c7, c8, c9, rfl, rfl, rfl, HR.out.1, HR.out.2.1, HR.out.2.2.1, HR.out.2.2.2⟩
  case rest =>
    obtain ⟨G7, G8, G9, A7, A8, A9, c7, c8, c9, rfl, rfl, rfl, ⟨x0, x1, hzx, hix⟩, ⟨y0, y1, hzy, hiy⟩, ⟨z0, z1, hzz, hiz⟩, hbl⟩ := hcut
    have HIx := Lib.hid hix
    have HIy := Lib.hid hiy
    have HIz := Lib.hid hiz
    have HBc := Lib.hid hbl
    clear hix hiy hiz hbl
    go_wp2_with fail
    refine wp_region_held_drew (S := fun w' => w'.cell? ⟨G7, 0, none⟩ = some (.int .i64 sa.1) ∧ w'.cell? ⟨G7, 1, none⟩ = some (.slice A7 sa.2.length c7) ∧ w'.cell? ⟨G8, 0, none⟩ = some (.int .i64 sb.1) ∧ w'.cell? ⟨G8, 1, none⟩ = some (.slice A8 sb.2.length c8) ∧ w'.cell? ⟨G9, 0, none⟩ = some (.int .i64 sc.1) ∧ w'.cell? ⟨G9, 1, none⟩ = some (.slice A9 sc.2.length c9)) (by kernel_rfl) ⟨x0, x1, y0, y1, z0, z1⟩ (fun hHeld => ?_)
    refine wpAnyH_ready (rs := [0]) (by kernel_rfl) (by simp) ?_
    refine AllReadyH.cons (o := { dst := some 19, op := Go.Op.call { callee := Go.Callee.value (Go.Operand.func 10), args := #[], argTypes := #[] }, type := 4, pos := "law.go:92", after := #[], guard := none }) rfl (fun K hK => ?_) AllReadyH.nil
    go_simp
    go_at_call 10
    refine (told_any _).mono ?_
    rintro e v0 ⟨rfl, hw⟩
    replace x0 := (hw.cell (p := ⟨G7, 0, none⟩) hzx).trans x0
    replace x1 := (hw.cell (p := ⟨G7, 1, none⟩) hzx).trans x1
    replace y0 := (hw.cell (p := ⟨G8, 0, none⟩) hzy).trans y0
    replace y1 := (hw.cell (p := ⟨G8, 1, none⟩) hzy).trans y1
    replace z0 := (hw.cell (p := ⟨G9, 0, none⟩) hzz).trans z0
    replace z1 := (hw.cell (p := ⟨G9, 1, none⟩) hzz).trans z1
    replace hzx := Nat.lt_of_lt_of_le hzx hw.size
    replace hzy := Nat.lt_of_lt_of_le hzy hw.size
    replace hzz := Nat.lt_of_lt_of_le hzz hw.size
    replace HIx := Lib.hid (HIx.out.on hw ⟨rfl, rfl, rfl, rfl⟩)
    replace HIy := Lib.hid (HIy.out.on hw ⟨rfl, rfl, rfl, rfl⟩)
    replace HIz := Lib.hid (HIz.out.on hw ⟨rfl, rfl, rfl, rfl⟩)
    replace HBc : Hid (Below w.heap.size w v0) := below_via HBc.out hw HBc.out.size ⟨rfl, rfl, rfl, rfl⟩
    clear hw
    refine hK.out _ _ ⟨x0, x1, y0, y1, z0, z1⟩ (fun hHeld => ?_)
    clear hK K
    try simp only [Act.put, List.setIfInBounds_toArray, List.set_cons_zero, List.set_cons_succ]
    refine wpAnyH_take (i := 1) (oi := { dst := some 20, op := Go.Op.unOp Go.UnOp.not 4 (Go.Operand.tmp 19), type := 4, pos := "law.go:92", after := #[{ on := 0, ground := Go.Ground.data }], guard := none }) (v := ?_) rfl (by kernel_rfl) (by kernel_rfl) (by kernel_rfl) (fun _ _ _ h => h) (Or.inl ⟨rfl, ?_⟩) (by assumption) ?_
    rotate_left
    · intro wz hSw; (try dsimp only at hSw); go_simp; try (with_reducible rfl)
    try simp only [Act.put, List.setIfInBounds_toArray, List.set_cons_zero, List.set_cons_succ]
    refine wpAnyH_take (i := 2) (oi := { dst := some 21, op := Go.Op.move (Go.Operand.tmp 20), type := 4, pos := "law.go:92", after := #[{ on := 1, ground := Go.Ground.data }, { on := 0, ground := Go.Ground.chain }], guard := none }) (v := ?_) rfl (by kernel_rfl) (by kernel_rfl) (by kernel_rfl) (fun _ _ _ h => h) (Or.inl ⟨rfl, ?_⟩) (by assumption) ?_
    rotate_left
    · intro wz hSw; (try dsimp only at hSw); go_simp; try (with_reducible rfl)
    try simp only [Act.put, List.setIfInBounds_toArray, List.set_cons_zero, List.set_cons_succ]
    refine wpAnyH_take (i := 3) (oi := { dst := some 22, op := Go.Op.load 27 (Go.Operand.tmp 7), type := 27, pos := "law.go:92", after := #[{ on := 2, ground := Go.Ground.guard }], guard := some (2, false) }) (v := ?_) rfl (by kernel_rfl) (by kernel_rfl) (by kernel_rfl) (fun _ _ _ h => h) (Or.inl ⟨rfl, ?_⟩) (by assumption) ?_
    rotate_left
    · intro wz hSw; (try dsimp only at hSw); go_simp; try (with_reducible rfl)
    try simp only [Act.put, List.setIfInBounds_toArray, List.set_cons_zero, List.set_cons_succ]
    refine wpAnyH_take (i := 4) (oi := { dst := some 23, op := Go.Op.load 27 (Go.Operand.tmp 8), type := 27, pos := "law.go:92", after := #[{ on := 2, ground := Go.Ground.guard }], guard := some (2, false) }) (v := ?_) rfl (by kernel_rfl) (by kernel_rfl) (by kernel_rfl) (fun _ _ _ h => h) (Or.inl ⟨rfl, ?_⟩) (by assumption) ?_
    rotate_left
    · intro wz hSw; (try dsimp only at hSw); go_simp; try (with_reducible rfl)
    try simp only [Act.put, List.setIfInBounds_toArray, List.set_cons_zero, List.set_cons_succ]
    refine wpAnyH_take (i := 6) (oi := { dst := some 25, op := Go.Op.load 27 (Go.Operand.tmp 9), type := 27, pos := "law.go:92", after := #[{ on := 2, ground := Go.Ground.guard }], guard := some (2, false) }) (v := ?_) rfl (by kernel_rfl) (by kernel_rfl) (by kernel_rfl) (fun _ _ _ h => h) (Or.inl ⟨rfl, ?_⟩) (by assumption) ?_
    rotate_left
    · intro wz hSw; (try dsimp only at hSw); go_simp; try (with_reducible rfl)
    try simp only [Act.put, List.setIfInBounds_toArray, List.set_cons_zero, List.set_cons_succ]
    refine wpAnyH_take (i := 8) (oi := { dst := some 27, op := Go.Op.load 27 (Go.Operand.tmp 7), type := 27, pos := "law.go:92", after := #[{ on := 2, ground := Go.Ground.guard }], guard := some (2, false) }) (v := ?_) rfl (by kernel_rfl) (by kernel_rfl) (by kernel_rfl) (fun _ _ _ h => h) (Or.inl ⟨rfl, ?_⟩) (by assumption) ?_
    rotate_left
    · intro wz hSw; (try dsimp only at hSw); go_simp; try (with_reducible rfl)
    try simp only [Act.put, List.setIfInBounds_toArray, List.set_cons_zero, List.set_cons_succ]
    refine wpAnyH_take (i := 9) (oi := { dst := some 28, op := Go.Op.load 27 (Go.Operand.tmp 8), type := 27, pos := "law.go:92", after := #[{ on := 2, ground := Go.Ground.guard }], guard := some (2, false) }) (v := ?_) rfl (by kernel_rfl) (by kernel_rfl) (by kernel_rfl) (fun _ _ _ h => h) (Or.inl ⟨rfl, ?_⟩) (by assumption) ?_
    rotate_left
    · intro wz hSw; (try dsimp only at hSw); go_simp; try (with_reducible rfl)
    try simp only [Act.put, List.setIfInBounds_toArray, List.set_cons_zero, List.set_cons_succ]
    refine wpAnyH_take (i := 10) (oi := { dst := some 29, op := Go.Op.load 27 (Go.Operand.tmp 9), type := 27, pos := "law.go:92", after := #[{ on := 2, ground := Go.Ground.guard }], guard := some (2, false) }) (v := ?_) rfl (by kernel_rfl) (by kernel_rfl) (by kernel_rfl) (fun _ _ _ h => h) (Or.inl ⟨rfl, ?_⟩) (by assumption) ?_
    rotate_left
    · intro wz hSw; (try dsimp only at hSw); go_simp; try (with_reducible rfl)
    try simp only [Act.put, List.setIfInBounds_toArray, List.set_cons_zero, List.set_cons_succ]
    refine wpAnyH_ready (rs := [5]) (by kernel_rfl) (by simp) ?_
    refine AllReadyH.cons (o := { dst := some 24, op := Go.Op.call { callee := Go.Callee.value (Go.Operand.func 25), args := #[Go.Operand.tmp 22, Go.Operand.tmp 23], argTypes := #[27, 27] }, type := 27, pos := "law.go:92", after := #[{ on := 3, ground := Go.Ground.data }, { on := 4, ground := Go.Ground.data }, { on := 2, ground := Go.Ground.chain }, { on := 2, ground := Go.Ground.guard }], guard := some (2, false) }) rfl (fun K hK => ?_) AllReadyH.nil
    go_simp
    go_at_call 25
    refine (cUnion (s := sa) (t := sb) (by exact HIx.out.same rfl) (by exact HIy.out.same rfl) hLa hLb).mono ?_
    rw [HP.out]
    rintro e v1 ⟨P1, e1, rfl, hin, hw⟩
    replace x0 := (hw.cell (p := ⟨G7, 0, none⟩) hzx).trans x0
    replace x1 := (hw.cell (p := ⟨G7, 1, none⟩) hzx).trans x1
    replace y0 := (hw.cell (p := ⟨G8, 0, none⟩) hzy).trans y0
    replace y1 := (hw.cell (p := ⟨G8, 1, none⟩) hzy).trans y1
    replace z0 := (hw.cell (p := ⟨G9, 0, none⟩) hzz).trans z0
    replace z1 := (hw.cell (p := ⟨G9, 1, none⟩) hzz).trans z1
    replace hzx := Nat.lt_of_lt_of_le hzx hw.size
    replace hzy := Nat.lt_of_lt_of_le hzy hw.size
    replace hzz := Nat.lt_of_lt_of_le hzz hw.size
    replace HIx := Lib.hid (HIx.out.on hw ⟨rfl, rfl, rfl, rfl⟩)
    replace HIy := Lib.hid (HIy.out.on hw ⟨rfl, rfl, rfl, rfl⟩)
    replace HIz := Lib.hid (HIz.out.on hw ⟨rfl, rfl, rfl, rfl⟩)
    replace HBc : Hid (Below w.heap.size w v1) := below_via HBc.out hw HBc.out.size ⟨rfl, rfl, rfl, rfl⟩
    have HP1 := Lib.hid hin
    clear hin
    clear hw
    refine hK.out _ _ ⟨x0, x1, y0, y1, z0, z1⟩ (fun hHeld => ?_)
    clear hK K
    try simp only [Act.put, List.setIfInBounds_toArray, List.set_cons_zero, List.set_cons_succ]
    refine wpAnyH_ready (rs := [7]) (by kernel_rfl) (by simp) ?_
    refine AllReadyH.cons (o := { dst := some 26, op := Go.Op.call { callee := Go.Callee.value (Go.Operand.func 25), args := #[Go.Operand.tmp 24, Go.Operand.tmp 25], argTypes := #[27, 27] }, type := 27, pos := "law.go:92", after := #[{ on := 5, ground := Go.Ground.data }, { on := 6, ground := Go.Ground.data }, { on := 5, ground := Go.Ground.chain }, { on := 2, ground := Go.Ground.guard }], guard := some (2, false) }) rfl (fun K hK => ?_) AllReadyH.nil
    go_simp
    go_at_call 25
    refine (cUnion (s := p) (t := sc) (by exact HP1.out.same rfl) (by exact HIz.out.same rfl) hLp hLc).mono ?_
    rw [HT.out]
    rintro e v2 ⟨P2, e2, rfl, hin, hw⟩
    replace x0 := (hw.cell (p := ⟨G7, 0, none⟩) hzx).trans x0
    replace x1 := (hw.cell (p := ⟨G7, 1, none⟩) hzx).trans x1
    replace y0 := (hw.cell (p := ⟨G8, 0, none⟩) hzy).trans y0
    replace y1 := (hw.cell (p := ⟨G8, 1, none⟩) hzy).trans y1
    replace z0 := (hw.cell (p := ⟨G9, 0, none⟩) hzz).trans z0
    replace z1 := (hw.cell (p := ⟨G9, 1, none⟩) hzz).trans z1
    replace hzx := Nat.lt_of_lt_of_le hzx hw.size
    replace hzy := Nat.lt_of_lt_of_le hzy hw.size
    replace hzz := Nat.lt_of_lt_of_le hzz hw.size
    replace HIx := Lib.hid (HIx.out.on hw ⟨rfl, rfl, rfl, rfl⟩)
    replace HIy := Lib.hid (HIy.out.on hw ⟨rfl, rfl, rfl, rfl⟩)
    replace HIz := Lib.hid (HIz.out.on hw ⟨rfl, rfl, rfl, rfl⟩)
    replace HP1 := Lib.hid (HP1.out.on hw ⟨rfl, rfl, rfl, rfl⟩)
    replace HBc : Hid (Below w.heap.size w v2) := below_via HBc.out hw HBc.out.size ⟨rfl, rfl, rfl, rfl⟩
    have HP2 := Lib.hid hin
    clear hin
    clear hw
    refine hK.out _ _ ⟨x0, x1, y0, y1, z0, z1⟩ (fun hHeld => ?_)
    clear hK K
    try simp only [Act.put, List.setIfInBounds_toArray, List.set_cons_zero, List.set_cons_succ]
    refine wpAnyH_ready (rs := [11]) (by kernel_rfl) (by simp) ?_
    refine AllReadyH.cons (o := { dst := some 30, op := Go.Op.call { callee := Go.Callee.value (Go.Operand.func 25), args := #[Go.Operand.tmp 28, Go.Operand.tmp 29], argTypes := #[27, 27] }, type := 27, pos := "law.go:92", after := #[{ on := 9, ground := Go.Ground.data }, { on := 10, ground := Go.Ground.data }, { on := 7, ground := Go.Ground.chain }, { on := 2, ground := Go.Ground.guard }], guard := some (2, false) }) rfl (fun K hK => ?_) AllReadyH.nil
    go_simp
    go_at_call 25
    refine (cUnion (s := sb) (t := sc) (by exact HIy.out.same rfl) (by exact HIz.out.same rfl) hLb hLc).mono ?_
    rw [HQ.out]
    rintro e v3 ⟨P3, e3, rfl, hin, hw⟩
    replace x0 := (hw.cell (p := ⟨G7, 0, none⟩) hzx).trans x0
    replace x1 := (hw.cell (p := ⟨G7, 1, none⟩) hzx).trans x1
    replace y0 := (hw.cell (p := ⟨G8, 0, none⟩) hzy).trans y0
    replace y1 := (hw.cell (p := ⟨G8, 1, none⟩) hzy).trans y1
    replace z0 := (hw.cell (p := ⟨G9, 0, none⟩) hzz).trans z0
    replace z1 := (hw.cell (p := ⟨G9, 1, none⟩) hzz).trans z1
    replace hzx := Nat.lt_of_lt_of_le hzx hw.size
    replace hzy := Nat.lt_of_lt_of_le hzy hw.size
    replace hzz := Nat.lt_of_lt_of_le hzz hw.size
    replace HIx := Lib.hid (HIx.out.on hw ⟨rfl, rfl, rfl, rfl⟩)
    replace HIy := Lib.hid (HIy.out.on hw ⟨rfl, rfl, rfl, rfl⟩)
    replace HIz := Lib.hid (HIz.out.on hw ⟨rfl, rfl, rfl, rfl⟩)
    replace HP2 := Lib.hid (HP2.out.on hw ⟨rfl, rfl, rfl, rfl⟩)
    replace HBc : Hid (Below w.heap.size w v3) := below_via HBc.out hw HBc.out.size ⟨rfl, rfl, rfl, rfl⟩
    have HP3 := Lib.hid hin
    clear hin
    clear hw
    refine hK.out _ _ ⟨x0, x1, y0, y1, z0, z1⟩ (fun hHeld => ?_)
    clear hK K
    try simp only [Act.put, List.setIfInBounds_toArray, List.set_cons_zero, List.set_cons_succ]
    refine wpAnyH_ready (rs := [12]) (by kernel_rfl) (by simp) ?_
    refine AllReadyH.cons (o := { dst := some 31, op := Go.Op.call { callee := Go.Callee.value (Go.Operand.func 25), args := #[Go.Operand.tmp 27, Go.Operand.tmp 30], argTypes := #[27, 27] }, type := 27, pos := "law.go:92", after := #[{ on := 8, ground := Go.Ground.data }, { on := 11, ground := Go.Ground.data }, { on := 11, ground := Go.Ground.chain }, { on := 2, ground := Go.Ground.guard }], guard := some (2, false) }) rfl (fun K hK => ?_) AllReadyH.nil
    go_simp
    go_at_call 25
    refine (cUnion (s := sa) (t := q) (by exact HIx.out.same rfl) (by exact HP3.out.same rfl) hLa hLq).mono ?_
    rw [HU.out]
    rintro e v4 ⟨P4, e4, rfl, hin, hw⟩
    replace x0 := (hw.cell (p := ⟨G7, 0, none⟩) hzx).trans x0
    replace x1 := (hw.cell (p := ⟨G7, 1, none⟩) hzx).trans x1
    replace y0 := (hw.cell (p := ⟨G8, 0, none⟩) hzy).trans y0
    replace y1 := (hw.cell (p := ⟨G8, 1, none⟩) hzy).trans y1
    replace z0 := (hw.cell (p := ⟨G9, 0, none⟩) hzz).trans z0
    replace z1 := (hw.cell (p := ⟨G9, 1, none⟩) hzz).trans z1
    replace hzx := Nat.lt_of_lt_of_le hzx hw.size
    replace hzy := Nat.lt_of_lt_of_le hzy hw.size
    replace hzz := Nat.lt_of_lt_of_le hzz hw.size
    replace HIx := Lib.hid (HIx.out.on hw ⟨rfl, rfl, rfl, rfl⟩)
    replace HIy := Lib.hid (HIy.out.on hw ⟨rfl, rfl, rfl, rfl⟩)
    replace HIz := Lib.hid (HIz.out.on hw ⟨rfl, rfl, rfl, rfl⟩)
    replace HP2 := Lib.hid (HP2.out.on hw ⟨rfl, rfl, rfl, rfl⟩)
    replace HP3 := Lib.hid (HP3.out.on hw ⟨rfl, rfl, rfl, rfl⟩)
    replace HBc : Hid (Below w.heap.size w v4) := below_via HBc.out hw HBc.out.size ⟨rfl, rfl, rfl, rfl⟩
    have HP4 := Lib.hid hin
    clear hin
    clear hw
    refine hK.out _ _ ⟨x0, x1, y0, y1, z0, z1⟩ (fun hHeld => ?_)
    clear hK K
    try simp only [Act.put, List.setIfInBounds_toArray, List.set_cons_zero, List.set_cons_succ]
    refine wpAnyH_ready (rs := [13]) (by kernel_rfl) (by simp) ?_
    refine AllReadyH.cons (o := { dst := some 32, op := Go.Op.call { callee := Go.Callee.value (Go.Operand.func 27), args := #[Go.Operand.tmp 26, Go.Operand.tmp 31], argTypes := #[27, 27] }, type := 4, pos := "law.go:92", after := #[{ on := 7, ground := Go.Ground.data }, { on := 12, ground := Go.Ground.data }, { on := 12, ground := Go.Ground.chain }, { on := 2, ground := Go.Ground.guard }], guard := some (2, false) }) rfl (fun K hK => ?_) AllReadyH.nil
    go_simp
    go_at_call 27
    refine (cSame (s := t) (t := t) (by exact HP2.out.same rfl) (by exact HP4.out.same rfl) hLt).mono ?_
    rw [same_true rfl]
    rintro e v5 ⟨rfl, hw⟩
    replace x0 := (hw.cell (p := ⟨G7, 0, none⟩) hzx).trans x0
    replace x1 := (hw.cell (p := ⟨G7, 1, none⟩) hzx).trans x1
    replace y0 := (hw.cell (p := ⟨G8, 0, none⟩) hzy).trans y0
    replace y1 := (hw.cell (p := ⟨G8, 1, none⟩) hzy).trans y1
    replace z0 := (hw.cell (p := ⟨G9, 0, none⟩) hzz).trans z0
    replace z1 := (hw.cell (p := ⟨G9, 1, none⟩) hzz).trans z1
    replace hzx := Nat.lt_of_lt_of_le hzx hw.size
    replace hzy := Nat.lt_of_lt_of_le hzy hw.size
    replace hzz := Nat.lt_of_lt_of_le hzz hw.size
    replace HIx := Lib.hid (HIx.out.on hw ⟨rfl, rfl, rfl, rfl⟩)
    replace HIy := Lib.hid (HIy.out.on hw ⟨rfl, rfl, rfl, rfl⟩)
    replace HIz := Lib.hid (HIz.out.on hw ⟨rfl, rfl, rfl, rfl⟩)
    replace HP2 := Lib.hid (HP2.out.on hw ⟨rfl, rfl, rfl, rfl⟩)
    replace HP4 := Lib.hid (HP4.out.on hw ⟨rfl, rfl, rfl, rfl⟩)
    replace HBc : Hid (Below w.heap.size w v5) := below_via HBc.out hw HBc.out.size ⟨rfl, rfl, rfl, rfl⟩
    clear hw
    refine hK.out _ _ ⟨x0, x1, y0, y1, z0, z1⟩ (fun hHeld => ?_)
    clear hK K
    try simp only [Act.put, List.setIfInBounds_toArray, List.set_cons_zero, List.set_cons_succ]
    refine wpAnyH_take (i := 14) (oi := { dst := some 33, op := Go.Op.unOp Go.UnOp.not 4 (Go.Operand.tmp 32), type := 4, pos := "law.go:92", after := #[{ on := 13, ground := Go.Ground.data }, { on := 2, ground := Go.Ground.guard }], guard := some (2, false) }) (v := ?_) rfl (by kernel_rfl) (by kernel_rfl) (by kernel_rfl) (fun _ _ _ h => h) (Or.inl ⟨rfl, ?_⟩) (by assumption) ?_
    rotate_left
    · intro wz hSw; (try dsimp only at hSw); go_simp; try (with_reducible rfl)
    try simp only [Act.put, List.setIfInBounds_toArray, List.set_cons_zero, List.set_cons_succ]
    refine wpAnyH_take (i := 15) (oi := { dst := some 34, op := Go.Op.pick (Go.Operand.tmp 21) (Go.Operand.const (Go.Value.bool true)) (Go.Operand.tmp 33), type := 4, pos := "law.go:92", after := #[{ on := 2, ground := Go.Ground.data }, { on := 14, ground := Go.Ground.data }], guard := none }) (v := ?_) rfl (by kernel_rfl) (by kernel_rfl) (by kernel_rfl) (fun _ _ _ h => h) (Or.inl ⟨rfl, ?_⟩) (by assumption) ?_
    rotate_left
    · intro wz hSw; (try dsimp only at hSw); go_simp; try (with_reducible rfl)
    try simp only [Act.put, List.setIfInBounds_toArray, List.set_cons_zero, List.set_cons_succ]
    refine wpAnyH_take (i := 16) (oi := { dst := some 35, op := Go.Op.move (Go.Operand.tmp 34), type := 4, pos := "law.go:92", after := #[{ on := 15, ground := Go.Ground.data }, { on := 13, ground := Go.Ground.chain }], guard := none }) (v := ?_) rfl (by kernel_rfl) (by kernel_rfl) (by kernel_rfl) (fun _ _ _ h => h) (Or.inl ⟨rfl, ?_⟩) (by assumption) ?_
    rotate_left
    · intro wz hSw; (try dsimp only at hSw); go_simp; try (with_reducible rfl)
    try simp only [Act.put, List.setIfInBounds_toArray, List.set_cons_zero, List.set_cons_succ]
    refine wpAnyH_take (i := 17) (oi := { dst := some 36, op := Go.Op.load 27 (Go.Operand.tmp 7), type := 27, pos := "law.go:92", after := #[{ on := 16, ground := Go.Ground.guard }], guard := some (16, false) }) (v := ?_) rfl (by kernel_rfl) (by kernel_rfl) (by kernel_rfl) (fun _ _ _ h => h) (Or.inl ⟨rfl, ?_⟩) (by assumption) ?_
    rotate_left
    · intro wz hSw; (try dsimp only at hSw); go_simp; try (with_reducible rfl)
    try simp only [Act.put, List.setIfInBounds_toArray, List.set_cons_zero, List.set_cons_succ]
    refine wpAnyH_take (i := 18) (oi := { dst := some 37, op := Go.Op.load 27 (Go.Operand.tmp 7), type := 27, pos := "law.go:92", after := #[{ on := 16, ground := Go.Ground.guard }], guard := some (16, false) }) (v := ?_) rfl (by kernel_rfl) (by kernel_rfl) (by kernel_rfl) (fun _ _ _ h => h) (Or.inl ⟨rfl, ?_⟩) (by assumption) ?_
    rotate_left
    · intro wz hSw; (try dsimp only at hSw); go_simp; try (with_reducible rfl)
    try simp only [Act.put, List.setIfInBounds_toArray, List.set_cons_zero, List.set_cons_succ]
    refine wpAnyH_take (i := 20) (oi := { dst := some 39, op := Go.Op.load 27 (Go.Operand.tmp 7), type := 27, pos := "law.go:92", after := #[{ on := 16, ground := Go.Ground.guard }], guard := some (16, false) }) (v := ?_) rfl (by kernel_rfl) (by kernel_rfl) (by kernel_rfl) (fun _ _ _ h => h) (Or.inl ⟨rfl, ?_⟩) (by assumption) ?_
    rotate_left
    · intro wz hSw; (try dsimp only at hSw); go_simp; try (with_reducible rfl)
    try simp only [Act.put, List.setIfInBounds_toArray, List.set_cons_zero, List.set_cons_succ]
    refine wpAnyH_ready (rs := [19]) (by kernel_rfl) (by simp) ?_
    refine AllReadyH.cons (o := { dst := some 38, op := Go.Op.call { callee := Go.Callee.value (Go.Operand.func 25), args := #[Go.Operand.tmp 36, Go.Operand.tmp 37], argTypes := #[27, 27] }, type := 27, pos := "law.go:92", after := #[{ on := 17, ground := Go.Ground.data }, { on := 18, ground := Go.Ground.data }, { on := 16, ground := Go.Ground.chain }, { on := 16, ground := Go.Ground.guard }], guard := some (16, false) }) rfl (fun K hK => ?_) AllReadyH.nil
    go_simp
    go_at_call 25
    refine (cUnion (s := sa) (t := sa) (by exact HIx.out.same rfl) (by exact HIx.out.same rfl) hLa hLa).mono ?_
    rw [HO.out]
    rintro e v6 ⟨P5, e5, rfl, hin, hw⟩
    replace x0 := (hw.cell (p := ⟨G7, 0, none⟩) hzx).trans x0
    replace x1 := (hw.cell (p := ⟨G7, 1, none⟩) hzx).trans x1
    replace y0 := (hw.cell (p := ⟨G8, 0, none⟩) hzy).trans y0
    replace y1 := (hw.cell (p := ⟨G8, 1, none⟩) hzy).trans y1
    replace z0 := (hw.cell (p := ⟨G9, 0, none⟩) hzz).trans z0
    replace z1 := (hw.cell (p := ⟨G9, 1, none⟩) hzz).trans z1
    replace hzx := Nat.lt_of_lt_of_le hzx hw.size
    replace hzy := Nat.lt_of_lt_of_le hzy hw.size
    replace hzz := Nat.lt_of_lt_of_le hzz hw.size
    replace HIx := Lib.hid (HIx.out.on hw ⟨rfl, rfl, rfl, rfl⟩)
    replace HIy := Lib.hid (HIy.out.on hw ⟨rfl, rfl, rfl, rfl⟩)
    replace HIz := Lib.hid (HIz.out.on hw ⟨rfl, rfl, rfl, rfl⟩)
    replace HBc : Hid (Below w.heap.size w v6) := below_via HBc.out hw HBc.out.size ⟨rfl, rfl, rfl, rfl⟩
    have HP5 := Lib.hid hin
    clear hin
    clear hw
    refine hK.out _ _ ⟨x0, x1, y0, y1, z0, z1⟩ (fun hHeld => ?_)
    clear hK K
    try simp only [Act.put, List.setIfInBounds_toArray, List.set_cons_zero, List.set_cons_succ]
    refine wpAnyH_ready (rs := [21]) (by kernel_rfl) (by simp) ?_
    refine AllReadyH.cons (o := { dst := some 40, op := Go.Op.call { callee := Go.Callee.value (Go.Operand.func 27), args := #[Go.Operand.tmp 38, Go.Operand.tmp 39], argTypes := #[27, 27] }, type := 4, pos := "law.go:92", after := #[{ on := 19, ground := Go.Ground.data }, { on := 20, ground := Go.Ground.data }, { on := 19, ground := Go.Ground.chain }, { on := 16, ground := Go.Ground.guard }], guard := some (16, false) }) rfl (fun K hK => ?_) AllReadyH.nil
    go_simp
    go_at_call 27
    refine (cSame (s := sa) (t := sa) (by exact HP5.out.same rfl) (by exact HIx.out.same rfl) hLa).mono ?_
    rw [same_true rfl]
    rintro e v7 ⟨rfl, hw⟩
    replace x0 := (hw.cell (p := ⟨G7, 0, none⟩) hzx).trans x0
    replace x1 := (hw.cell (p := ⟨G7, 1, none⟩) hzx).trans x1
    replace y0 := (hw.cell (p := ⟨G8, 0, none⟩) hzy).trans y0
    replace y1 := (hw.cell (p := ⟨G8, 1, none⟩) hzy).trans y1
    replace z0 := (hw.cell (p := ⟨G9, 0, none⟩) hzz).trans z0
    replace z1 := (hw.cell (p := ⟨G9, 1, none⟩) hzz).trans z1
    replace hzx := Nat.lt_of_lt_of_le hzx hw.size
    replace hzy := Nat.lt_of_lt_of_le hzy hw.size
    replace hzz := Nat.lt_of_lt_of_le hzz hw.size
    replace HIx := Lib.hid (HIx.out.on hw ⟨rfl, rfl, rfl, rfl⟩)
    replace HIy := Lib.hid (HIy.out.on hw ⟨rfl, rfl, rfl, rfl⟩)
    replace HIz := Lib.hid (HIz.out.on hw ⟨rfl, rfl, rfl, rfl⟩)
    replace HP5 := Lib.hid (HP5.out.on hw ⟨rfl, rfl, rfl, rfl⟩)
    replace HBc : Hid (Below w.heap.size w v7) := below_via HBc.out hw HBc.out.size ⟨rfl, rfl, rfl, rfl⟩
    clear hw
    refine hK.out _ _ ⟨x0, x1, y0, y1, z0, z1⟩ (fun hHeld => ?_)
    clear hK K
    try simp only [Act.put, List.setIfInBounds_toArray, List.set_cons_zero, List.set_cons_succ]
    refine wpAnyH_take (i := 22) (oi := { dst := some 41, op := Go.Op.unOp Go.UnOp.not 4 (Go.Operand.tmp 40), type := 4, pos := "law.go:92", after := #[{ on := 21, ground := Go.Ground.data }, { on := 16, ground := Go.Ground.guard }], guard := some (16, false) }) (v := ?_) rfl (by kernel_rfl) (by kernel_rfl) (by kernel_rfl) (fun _ _ _ h => h) (Or.inl ⟨rfl, ?_⟩) (by assumption) ?_
    rotate_left
    · intro wz hSw; (try dsimp only at hSw); go_simp; try (with_reducible rfl)
    try simp only [Act.put, List.setIfInBounds_toArray, List.set_cons_zero, List.set_cons_succ]
    refine wpAnyH_take (i := 23) (oi := { dst := some 42, op := Go.Op.pick (Go.Operand.tmp 35) (Go.Operand.const (Go.Value.bool true)) (Go.Operand.tmp 41), type := 4, pos := "law.go:92", after := #[{ on := 16, ground := Go.Ground.data }, { on := 22, ground := Go.Ground.data }], guard := none }) (v := ?_) rfl (by kernel_rfl) (by kernel_rfl) (by kernel_rfl) (fun _ _ _ h => h) (Or.inl ⟨rfl, ?_⟩) (by assumption) ?_
    rotate_left
    · intro wz hSw; (try dsimp only at hSw); go_simp; try (with_reducible rfl)
    try simp only [Act.put, List.setIfInBounds_toArray, List.set_cons_zero, List.set_cons_succ]
    refine wpAnyH_done (by kernel_rfl) ?_ _
    go_wp2_with fail
    rcases h1 : withinF sa sb with _ | _
    · refine (cWithin (s := sa) (t := sb) HIx.out HIy.out hLa hLb HSb.out.1).mono ?_
      rw [h1]
      rintro e b0 ⟨rfl, hw⟩
      replace x0 := (hw.cell (p := ⟨G7, 0, none⟩) hzx).trans x0
      replace x1 := (hw.cell (p := ⟨G7, 1, none⟩) hzx).trans x1
      replace y0 := (hw.cell (p := ⟨G8, 0, none⟩) hzy).trans y0
      replace y1 := (hw.cell (p := ⟨G8, 1, none⟩) hzy).trans y1
      replace z0 := (hw.cell (p := ⟨G9, 0, none⟩) hzz).trans z0
      replace z1 := (hw.cell (p := ⟨G9, 1, none⟩) hzz).trans z1
      replace hzx := Nat.lt_of_lt_of_le hzx hw.size
      replace hzy := Nat.lt_of_lt_of_le hzy hw.size
      replace hzz := Nat.lt_of_lt_of_le hzz hw.size
      replace HIx := Lib.hid (HIx.out.keep hw)
      replace HIy := Lib.hid (HIy.out.keep hw)
      replace HIz := Lib.hid (HIz.out.keep hw)
      replace HBc : Hid (Below w.heap.size w b0) := HBc.out.trans (hw.mono HBc.out.size)
      clear hw
      clear h1
      go_wp2
      go_ret
      exact ⟨rfl, HBc.out⟩
    · rcases h2 : withinF sb sc with _ | _
      · refine (cWithin (s := sa) (t := sb) HIx.out HIy.out hLa hLb HSb.out.1).mono ?_
        rw [h1]
        rintro e b0 ⟨rfl, hw⟩
        replace x0 := (hw.cell (p := ⟨G7, 0, none⟩) hzx).trans x0
        replace x1 := (hw.cell (p := ⟨G7, 1, none⟩) hzx).trans x1
        replace y0 := (hw.cell (p := ⟨G8, 0, none⟩) hzy).trans y0
        replace y1 := (hw.cell (p := ⟨G8, 1, none⟩) hzy).trans y1
        replace z0 := (hw.cell (p := ⟨G9, 0, none⟩) hzz).trans z0
        replace z1 := (hw.cell (p := ⟨G9, 1, none⟩) hzz).trans z1
        replace hzx := Nat.lt_of_lt_of_le hzx hw.size
        replace hzy := Nat.lt_of_lt_of_le hzy hw.size
        replace hzz := Nat.lt_of_lt_of_le hzz hw.size
        replace HIx := Lib.hid (HIx.out.keep hw)
        replace HIy := Lib.hid (HIy.out.keep hw)
        replace HIz := Lib.hid (HIz.out.keep hw)
        replace HBc : Hid (Below w.heap.size w b0) := HBc.out.trans (hw.mono HBc.out.size)
        clear hw
        clear h1
        go_wp2_with fail
        refine (cWithin (s := sb) (t := sc) HIy.out HIz.out hLb hLc HSc.out.1).mono ?_
        rw [h2]
        rintro e b1 ⟨rfl, hw⟩
        replace x0 := (hw.cell (p := ⟨G7, 0, none⟩) hzx).trans x0
        replace x1 := (hw.cell (p := ⟨G7, 1, none⟩) hzx).trans x1
        replace y0 := (hw.cell (p := ⟨G8, 0, none⟩) hzy).trans y0
        replace y1 := (hw.cell (p := ⟨G8, 1, none⟩) hzy).trans y1
        replace z0 := (hw.cell (p := ⟨G9, 0, none⟩) hzz).trans z0
        replace z1 := (hw.cell (p := ⟨G9, 1, none⟩) hzz).trans z1
        replace hzx := Nat.lt_of_lt_of_le hzx hw.size
        replace hzy := Nat.lt_of_lt_of_le hzy hw.size
        replace hzz := Nat.lt_of_lt_of_le hzz hw.size
        replace HIx := Lib.hid (HIx.out.keep hw)
        replace HIy := Lib.hid (HIy.out.keep hw)
        replace HIz := Lib.hid (HIz.out.keep hw)
        replace HBc : Hid (Below w.heap.size w b1) := HBc.out.trans (hw.mono HBc.out.size)
        clear hw
        clear h2
        go_wp2
        go_ret
        exact ⟨rfl, HBc.out⟩
      · have h3 := HTr.out h1 h2
        refine (cWithin (s := sa) (t := sb) HIx.out HIy.out hLa hLb HSb.out.1).mono ?_
        rw [h1]
        rintro e b0 ⟨rfl, hw⟩
        replace x0 := (hw.cell (p := ⟨G7, 0, none⟩) hzx).trans x0
        replace x1 := (hw.cell (p := ⟨G7, 1, none⟩) hzx).trans x1
        replace y0 := (hw.cell (p := ⟨G8, 0, none⟩) hzy).trans y0
        replace y1 := (hw.cell (p := ⟨G8, 1, none⟩) hzy).trans y1
        replace z0 := (hw.cell (p := ⟨G9, 0, none⟩) hzz).trans z0
        replace z1 := (hw.cell (p := ⟨G9, 1, none⟩) hzz).trans z1
        replace hzx := Nat.lt_of_lt_of_le hzx hw.size
        replace hzy := Nat.lt_of_lt_of_le hzy hw.size
        replace hzz := Nat.lt_of_lt_of_le hzz hw.size
        replace HIx := Lib.hid (HIx.out.keep hw)
        replace HIy := Lib.hid (HIy.out.keep hw)
        replace HIz := Lib.hid (HIz.out.keep hw)
        replace HBc : Hid (Below w.heap.size w b0) := HBc.out.trans (hw.mono HBc.out.size)
        clear hw
        clear h1
        go_wp2_with fail
        refine (cWithin (s := sb) (t := sc) HIy.out HIz.out hLb hLc HSc.out.1).mono ?_
        rw [h2]
        rintro e b1 ⟨rfl, hw⟩
        replace x0 := (hw.cell (p := ⟨G7, 0, none⟩) hzx).trans x0
        replace x1 := (hw.cell (p := ⟨G7, 1, none⟩) hzx).trans x1
        replace y0 := (hw.cell (p := ⟨G8, 0, none⟩) hzy).trans y0
        replace y1 := (hw.cell (p := ⟨G8, 1, none⟩) hzy).trans y1
        replace z0 := (hw.cell (p := ⟨G9, 0, none⟩) hzz).trans z0
        replace z1 := (hw.cell (p := ⟨G9, 1, none⟩) hzz).trans z1
        replace hzx := Nat.lt_of_lt_of_le hzx hw.size
        replace hzy := Nat.lt_of_lt_of_le hzy hw.size
        replace hzz := Nat.lt_of_lt_of_le hzz hw.size
        replace HIx := Lib.hid (HIx.out.keep hw)
        replace HIy := Lib.hid (HIy.out.keep hw)
        replace HIz := Lib.hid (HIz.out.keep hw)
        replace HBc : Hid (Below w.heap.size w b1) := HBc.out.trans (hw.mono HBc.out.size)
        clear hw
        clear h2
        go_wp2_with fail
        refine (cWithin (s := sa) (t := sc) HIx.out HIz.out hLa hLc HSc.out.1).mono ?_
        rw [h3]
        rintro e b2 ⟨rfl, hw⟩
        replace x0 := (hw.cell (p := ⟨G7, 0, none⟩) hzx).trans x0
        replace x1 := (hw.cell (p := ⟨G7, 1, none⟩) hzx).trans x1
        replace y0 := (hw.cell (p := ⟨G8, 0, none⟩) hzy).trans y0
        replace y1 := (hw.cell (p := ⟨G8, 1, none⟩) hzy).trans y1
        replace z0 := (hw.cell (p := ⟨G9, 0, none⟩) hzz).trans z0
        replace z1 := (hw.cell (p := ⟨G9, 1, none⟩) hzz).trans z1
        replace hzx := Nat.lt_of_lt_of_le hzx hw.size
        replace hzy := Nat.lt_of_lt_of_le hzy hw.size
        replace hzz := Nat.lt_of_lt_of_le hzz hw.size
        replace HIx := Lib.hid (HIx.out.keep hw)
        replace HIy := Lib.hid (HIy.out.keep hw)
        replace HIz := Lib.hid (HIz.out.keep hw)
        replace HBc : Hid (Below w.heap.size w b2) := HBc.out.trans (hw.mono HBc.out.size)
        clear hw
        clear h3
        go_wp2
        go_ret
        exact ⟨rfl, HBc.out⟩
end Go.Proofs.Ytgkheoaajpialaa
