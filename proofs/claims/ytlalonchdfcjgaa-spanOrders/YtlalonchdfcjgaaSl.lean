/- The document's Add. -/
import Derived.Test.YtlalonchdfcjgaaSk
namespace Go.Proofs.Ytlalonchdfcjgaa
open Go.RowKit

def condF (s : Int × List Int) (m : Int) : Bool := decide (m < 1) || (decide (1048576 < m) || refHasF s m)

theorem ins_take {m : Int} {zs : List Int} {k : Nat} (h : k < zs.length) (hk : zs.getD k 0 ≤ m) (he : insF m zs = zs.take k ++ insF m (zs.drop k)) : insF m zs = zs.take (k + 1) ++ insF m (zs.drop (k + 1)) := by
  rw [he, drop_next zs k h, take_next zs k h]
  show _ ++ (if m < zs.getD k 0 then _ else _) = _
  rw [if_neg (by omega), List.append_assoc]
  rfl

theorem ins_hit {m : Int} {zs : List Int} {k : Nat} (h : k < zs.length) (hk : m < zs.getD k 0) (he : insF m zs = zs.take k ++ insF m (zs.drop k)) : zs.take k ++ [m] ++ [zs.getD k 0] ++ zs.drop (k + 1) = insF m zs := by
  rw [he, drop_next zs k h]
  show _ = _ ++ (if m < zs.getD k 0 then _ else _)
  rw [if_pos hk]
  simp

theorem ins_done {m : Int} {zs l : List Int} {k : Nat} (h : k < zs.length) (he : l ++ zs.drop k = insF m zs) : l ++ [zs.getD k 0] ++ zs.drop (k + 1) = insF m zs := by
  rw [← he, drop_next zs k h]
  simp

/-- The call's own variables, in the world wr: the Span that came in lies in its block, the answer's block is still empty; G: the first block of its own rows. -/
def Locals (w : World) (G : Nat) (u : Int) (A : Option Addr) (n c : Nat) (wr : World) : Prop :=
  wr.cell? ⟨w.heap.size, 0, none⟩ = some (.int .i64 u) ∧ wr.cell? ⟨w.heap.size, 1, none⟩ = some (.slice A n c) ∧
    wr.cell? ⟨w.heap.size + 1, 0, none⟩ = some (.int .i64 0) ∧ wr.cell? ⟨w.heap.size + 1, 1, none⟩ = some (.slice none 0 0) ∧ wr.frozen? ⟨w.heap.size + 1, 0, none⟩ = false ∧ wr.frozen? ⟨w.heap.size + 1, 1, none⟩ = false ∧
    Below w.heap.size w wr ∧ G ≤ wr.heap.size

theorem Locals.app {w : World} {G : Nat} {u : Int} {A : Option Addr} {n c : Nat} {wr w3 : World} (h : Locals w G u A n c wr) {v : Value} {k : Nat} {xs : List Value} (ho : wr.ownsRow G 3 1 v k xs) (hG : w.heap.size + 2 ≤ G) {o : Obj} (hg : (wr.alloc o).grownBy w3 v.ownBlock) : Locals w G u A n c w3 := by
  obtain ⟨j0, j1, j2, j3, j4, j5, hb, hs⟩ := h
  have hne : ∀ i, i < G → some i ≠ v.ownBlock := fun i hi e => by have := (ho.lt i e.symm).1; omega
  obtain ⟨c0, _⟩ := grown_new hg (b := w.heap.size) (by omega) (hne _ (by omega))
  obtain ⟨c1, f1⟩ := grown_new hg (b := w.heap.size + 1) (by omega) (hne _ (by omega))
  exact ⟨(c0 0).trans j0, (c0 1).trans j1, (c1 0).trans j2, (c1 1).trans j3, (f1 0).trans j4, (f1 1).trans j5, (hb.alloc hb.size _).grown hg (by simp; omega) (fun i hi => by have := (ho.lt i hi).1; omega), Nat.le_trans hs (by have := hg.size; simp at this; omega)⟩

/-- What holds in the first loop's round k. -/
def InsRel (w : World) (G : Nat) (u : Int) (A : Option Addr) (n c : Nat) (zs : List Int) (m : Int) (k : Nat) (done : Bool) (Al : Option Addr) (nl cl : Nat) (wr : World) : Prop :=
  ∃ l : List Int, (if done then l ++ zs.drop k = insF m zs ∧ nl = k + 1 else l = zs.take k ∧ insF m zs = zs.take k ++ insF m (zs.drop k) ∧ nl = k) ∧
    wr.ownsRow G 3 1 (.slice Al nl cl) nl (l.map (.int .i64)) ∧ Locals w G u A n c wr

theorem Locals.fin {w : World} {G : Nat} {u : Int} {A : Option Addr} {n c : Nat} {wr w3 : World} (h : Locals w G u A n c wr) (hG : w.heap.size + 2 ≤ G) {o : Obj} {k : Nat} (hg : (wr.alloc o).grownBy w3 (Value.ownBlock (.slice (some ⟨wr.heap.size, 0, none⟩) k k))) : Locals w G u A n c w3 := by
  obtain ⟨j0, j1, j2, j3, j4, j5, hb, hs⟩ := h
  have hne : ∀ i, i < wr.heap.size → some i ≠ Value.ownBlock (.slice (some ⟨wr.heap.size, 0, none⟩) k k) := fun i hi e => by simp only [Value.ownBlock, Option.some.injEq] at e; omega
  obtain ⟨c0, _⟩ := grown_new hg (b := w.heap.size) (by omega) (hne _ (by omega))
  obtain ⟨c1, f1⟩ := grown_new hg (b := w.heap.size + 1) (by omega) (hne _ (by omega))
  exact ⟨(c0 0).trans j0, (c0 1).trans j1, (c1 0).trans j2, (c1 1).trans j3, (f1 0).trans j4, (f1 1).trans j5, (hb.alloc hb.size _).grown hg (by simp; omega) (fun i hi => by simp only [Value.ownBlock, Option.some.injEq] at hi; omega), Nat.le_trans hs (by have := hg.size; simp at this; omega)⟩

theorem empty_own0 (w : World) : (w.alloc (Obj.cells #[] 3)).ownsRow w.heap.size 3 1 (.slice (some ⟨w.heap.size, 0, none⟩) 0 0) 0 (([] : List Int).map (.int .i64)) :=
  ⟨rfl, .inr ⟨w.heap.size, 0, #[], rfl, Nat.le_refl _, heap_alloc_new w _, Nat.le_refl _, Nat.zero_le _, rfl, rfl⟩⟩

theorem own_cap {w : World} {B : Nat} {A : Option Addr} {n c : Nat} {xs : List Value} (h : w.ownsRow B 3 1 (.slice A n c) n xs) : n ≤ c := by
  rcases h.2 with ⟨e, rfl⟩ | ⟨g, cap, _, e, _, _, hn, _⟩
  · exact Nat.zero_le _
  · injection e with _ _ e; omega

theorem copy_end {w : World} {G : Nat} {wr : World} {u : Int} {l : List Int} {Al : Option Addr} {nl cl : Nat} (hown : wr.ownsRow G 3 1 (.slice Al nl cl) nl (l.map (.int .i64))) (hG : w.heap.size + 2 ≤ G) (hb : Below w.heap.size w wr) {s : Int × List Int} (hs : s = (u, l)) (hl : l.length = nl) :
    OwnSpan w.heap.size none s w (.returned (.agg #[.int .i64 u, .slice Al nl cl])) ((wr.setCell ⟨w.heap.size + 1, 0, none⟩ (.int .i64 u)).setCell ⟨w.heap.size + 1, 1, none⟩ (.slice Al nl cl)) := by
  have hn4 : Value.ownBlock (.slice Al nl cl) ≠ some (w.heap.size + 1) := fun e => by have := (hown.lt _ e).1; omega
  exact ownSpan_of hs hl (own_base (own_setCell (own_setCell hown (p := ⟨w.heap.size + 1, 0, none⟩) hn4 _) (p := ⟨w.heap.size + 1, 1, none⟩) hn4 _) (by omega)) (grown_of_below ((hb.setCell (by simp) _).setCell (by simp) _) _) (lies_own hown (by omega))

set_option maxRecDepth 100000 in
set_option maxHeartbeats 2000000 in
theorem refAdd_any (u : Int) (A : Option Addr) (n c : Nat) (zs : List Int) (m : Int) (B : Nat) (w : World) (hB : B ≤ w.heap.size) (hz : IntsAt w B A n zs) (hn : n ≤ 1048576) (h0 : 0 ≤ u) (h1 : u ≤ 1073741824) :
    Calls Try.prog 16 #[.agg #[.int .i64 u, .slice A n c], .int .i64 m] w (OwnSpan w.heap.size none (refAddF (u, zs) m) w) := by
  have HZ := Lib.hid hz
  have HL : Hid (zs.length = n) := hz.1
  clear hz
  go_enter Try.func16, Try.ntmps16
  go_upto_region 1 with fail
  go_cut [19] (fun s19 wx => s19 = .bool (condF (u, zs) m) ∧ wx.cell? ⟨w.heap.size, 0, none⟩ = some (.int .i64 u) ∧ wx.cell? ⟨w.heap.size, 1, none⟩ = some (.slice A n c) ∧ wx.cell? ⟨w.heap.size + 1, 0, none⟩ = some (.int .i64 0) ∧ wx.cell? ⟨w.heap.size + 1, 1, none⟩ = some (.slice none 0 0) ∧ wx.frozen? ⟨w.heap.size + 1, 0, none⟩ = false ∧ wx.frozen? ⟨w.heap.size + 1, 1, none⟩ = false ∧ Hid (Below w.heap.size w wx) ∧ w.heap.size + 2 ≤ wx.heap.size)
  case first =>
    by_cases c1 : m < 1
    · have HC : Hid (condF (u, zs) m = true) := by show condF (u, zs) m = true; unfold condF; rw [decide_eq_true c1]; rfl
      go_wp2
      go_meet
      case rel => exact ⟨by rw [HC.out], by simp [go_sem], by simp [go_sem], by simp [go_sem], by simp [go_sem], by simp [go_sem], by simp [go_sem], ((Below.refl _ _).alloc (Nat.le_refl _) _).alloc (by simp) _, by simp⟩
    · by_cases c2 : 1048576 < m
      · have HC : Hid (condF (u, zs) m = true) := by show condF (u, zs) m = true; unfold condF; rw [decide_eq_true c2]; simp
        go_wp2
        go_meet
        case rel => exact ⟨by rw [HC.out], by simp [go_sem], by simp [go_sem], by simp [go_sem], by simp [go_sem], by simp [go_sem], by simp [go_sem], ((Below.refl _ _).alloc (Nat.le_refl _) _).alloc (by simp) _, by simp⟩
      · have HC : Hid (condF (u, zs) m = refHasF (u, zs) m) := by show condF (u, zs) m = _; unfold condF; rw [decide_eq_false c1, decide_eq_false c2]; rfl
        go_wp2_with fail
        refine (refHas_any u A n c zs m B _ (by simp; omega) (HZ.out.keep (((Below.refl _ _).alloc hB _).alloc (by simp; omega) _)) (by omega)).mono ?_
        rintro e w1 ⟨rfl, hb1⟩
        have k0 := (hb1.cell (p := ⟨w.heap.size, 0, none⟩) (by simp; omega)).trans (show _ = some (.int .i64 u) by simp [go_sem])
        have k1 := (hb1.cell (p := ⟨w.heap.size, 1, none⟩) (by simp; omega)).trans (show _ = some (.slice A n c) by simp [go_sem])
        have k2 := (hb1.cell (p := ⟨w.heap.size + 1, 0, none⟩) (by simp)).trans (show _ = some (.int .i64 0) by simp [go_sem])
        have k3 := (hb1.cell (p := ⟨w.heap.size + 1, 1, none⟩) (by simp)).trans (show _ = some (.slice none 0 0) by simp [go_sem])
        have k4 := (hb1.frozen (p := ⟨w.heap.size + 1, 0, none⟩) (by simp)).trans (show _ = false by simp [go_sem])
        have k5 := (hb1.frozen (p := ⟨w.heap.size + 1, 1, none⟩) (by simp)).trans (show _ = false by simp [go_sem])
        have HB1 : Hid (Below w.heap.size w w1) := (((Below.refl _ _).alloc (Nat.le_refl _) _).alloc (by simp) _).trans (hb1.mono (by simp; omega))
        have hsz : w.heap.size + 2 ≤ w1.heap.size := by have := hb1.size; simp at this; omega
        clear hb1
        go_wp2
        go_meet
        case rel => exact ⟨by rw [HC.out], k0, k1, k2, k3, k4, k5, HB1, hsz⟩
  case rest =>
    obtain ⟨rfl, k0, k1, k2, k3, k4, k5, HB, hsz⟩ := hcut
    have hlt0 : w.heap.size < wc.heap.size := by omega
    have hlt1 : w.heap.size + 1 < wc.heap.size := by omega
    rcases hcond : condF (u, zs) m with _ | _
    · have HC : Hid (refAddF (u, zs) m = absF u (insF m zs)) := by
        show refAddF (u, zs) m = _
        unfold refAddF
        unfold condF at hcond
        rw [if_neg (by simpa [or_assoc] using hcond)]
      clear hcond
      obtain ⟨G, HGe⟩ : ∃ G, Hid (wc.heap.size = G) := ⟨_, rfl⟩
      have hG2 : w.heap.size + 2 ≤ G := by rw [← HGe.out]; exact hsz
      go_wp2
      go_loopw [5, 6, 7] (fun l d i wr => ∃ (k : Nat) (done : Bool) (Al : Option Addr) (nl cl : Nat), k ≤ n ∧ i = .int .i64 k ∧ d = .bool done ∧ l = .slice Al nl cl ∧ Hid (InsRel w G u A n c zs m k done Al nl cl wr)) (fun _ _ i _ => n - (intOf i).toNat)
      case atStart => exact ⟨0, false, none, 0, 0, by omega, rfl, rfl, rfl, [], ⟨rfl, rfl, rfl⟩, World.ownsRow_nil _ _ _ _, k0, k1, k2, k3, k4, k5, HB.out, by rw [HGe.out]; exact Nat.le_refl _⟩
      case round =>
        obtain ⟨k, done, Al, nl, cl, hk, rfl, rfl, rfl, HI⟩ := hrel
        obtain ⟨l, hst, hown, hloc⟩ := HI.out
        have HLo := Lib.hid hloc
        have HOw := Lib.hid hown
        have HSt := Lib.hid hst
        obtain ⟨j0, j1, j2, j3, j4, j5, hbel, hsz2⟩ := hloc
        have HBe := Lib.hid hbel
        have hnl : nl ≤ 1048577 := by cases done <;> simp at hst <;> omega
        clear hown hbel hst k0 k1 k2 k3 k4 k5
        by_cases hlt : k < n
        · obtain ⟨b, off, rfl, hbB, hc⟩ := HZ.out.2 (by omega)
          have hck := (HBe.out.cell (p := ⟨b, off + k, none⟩) (by simp; omega)).trans (hc k hlt)
          have HKL : Hid (k < zs.length) := by show k < zs.length; rw [HL.out]; exact hlt
          have hbs : b < wr.heap.size := by omega
          clear hc
          generalize hy : zs.getD k 0 = y at hck
          have HY := Lib.hid hy
          clear hy
          rcases done with _ | _
          · by_cases hym : m < y
            · go_wp2_with (first
                | (at_builtin; refine wpList_append_ints (B := G) rfl _ _ rfl rfl (HOw.out.alloc _) rfl (one_int wr m) (by omega) (by simp; omega) ?_; intro A3 c3 w3 hown3 hg3 _; have HO3 := Lib.hid hown3; have HL3 := Lib.hid (Locals.app HLo.out HOw.out hG2 hg3); have hc3 := (((HBe.out.alloc HBe.out.size (Obj.cells #[Value.int IntKind.i64 m] 3)).grown hg3 (by simp; omega) (fun i hi => by have := (HOw.out.lt i hi).1; omega)).cell (p := ⟨b, off + k, none⟩) (by simp; omega)).trans ((HBe.out.cell (p := ⟨b, off + k, none⟩) (by simp; omega)).symm.trans hck); clear hown3 hg3; obtain ⟨i0, i1, _, _, _, _, _, isz⟩ := HL3.out)
                | (at_builtin; refine wpList_append_ints (B := G) rfl _ _ rfl rfl (HO3.out.alloc _) rfl (one_int w3 y) (by omega) (by simp; omega) ?_; intro A4 c4 w4 hown4 hg4 _; have HO4 := Lib.hid hown4; have HL4 := Lib.hid (Locals.app HL3.out HO3.out hG2 hg4); clear hown4 hg4))
              go_roundw
              case rel =>
                have hs := HSt.out
                simp only [Bool.false_eq_true, if_false] at hs
                refine ⟨k + 1, true, A4, nl + 1 + 1, c4, by omega, by go_num, rfl, rfl, l ++ [m] ++ [y], ⟨?_, by omega⟩, HO4.out, HL4.out⟩
                rw [hs.1, ← HY.out]
                exact ins_hit HKL.out (by rw [HY.out]; exact hym) hs.2.1
              case measure => simp [intOf]; omega
            · have hym' : decide (m < y) = false := by simpa using hym
              go_wp2_with (at_builtin; refine wpList_append_ints (B := G) rfl _ _ rfl rfl (HOw.out.alloc _) rfl (one_int wr y) (by omega) (by simp; omega) ?_; intro A3 c3 w3 hown3 hg3 _; have HO3 := Lib.hid hown3; have HL3 := Lib.hid (Locals.app HLo.out HOw.out hG2 hg3); clear hown3 hg3)
              go_roundw
              case rel =>
                have hs := HSt.out
                simp only [Bool.false_eq_true, if_false] at hs
                refine ⟨k + 1, false, A3, nl + 1, c3, by omega, by go_num, rfl, rfl, l ++ [y], ⟨?_, ?_, by omega⟩, HO3.out, HL3.out⟩
                · rw [hs.1, ← HY.out, take_next zs k HKL.out]
                · exact ins_take HKL.out (by rw [HY.out]; omega) hs.2.1
              case measure => simp [intOf]; omega
          · go_wp2_with (at_builtin; refine wpList_append_ints (B := G) rfl _ _ rfl rfl (HOw.out.alloc _) rfl (one_int wr y) (by omega) (by simp; omega) ?_; intro A3 c3 w3 hown3 hg3 _; have HO3 := Lib.hid hown3; have HL3 := Lib.hid (Locals.app HLo.out HOw.out hG2 hg3); clear hown3 hg3)
            go_roundw
            case rel =>
              have hs := HSt.out
              simp only [if_true] at hs
              refine ⟨k + 1, true, A3, nl + 1, c3, by omega, by go_num, rfl, rfl, l ++ [y], ⟨?_, by omega⟩, HO3.out, HL3.out⟩
              rw [← HY.out]
              exact ins_done HKL.out hs.1
            case measure => simp [intOf]; omega
        · go_upto_if 58 with fail
          go_cut [5] (fun s5 wx => ∃ (Al : Option Addr) (nl cl : Nat), s5 = .slice Al nl cl ∧ nl ≤ 1048578 ∧ wx.ownsRow G 3 1 (.slice Al nl cl) nl ((insF m zs).map (.int .i64)) ∧ Locals w G u A n c wx)
          case first =>
            rcases done with _ | _
            · go_wp2_with (at_builtin; refine wpList_append_ints (B := G) rfl _ _ rfl rfl (HOw.out.alloc _) rfl (one_int wr m) (by omega) (by simp; omega) ?_; intro A3 c3 w3 hown3 hg3 _; have HO3 := Lib.hid hown3; have HL3 := Lib.hid (Locals.app HLo.out HOw.out hG2 hg3); clear hown3 hg3)
              go_meet
              case rel =>
                have hs := HSt.out
                simp only [Bool.false_eq_true, if_false] at hs
                refine ⟨A3, nl + 1, c3, rfl, by omega, ?_, HL3.out⟩
                have h := HO3.out
                rw [show insF m zs = l ++ [m] by rw [hs.2.1, hs.1, List.drop_of_length_le (by rw [HL.out]; omega)]; rfl]
                exact h
            · go_wp2
              go_meet
              case rel =>
                have hs := HSt.out
                simp only [if_true] at hs
                refine ⟨Al, nl, cl, rfl, by omega, ?_, HLo.out⟩
                have h := HOw.out
                rw [← hs.1, List.drop_of_length_le (by rw [HL.out]; omega), List.append_nil]
                exact h
          case rest =>
            obtain ⟨Al2, nl2, cl2, rfl, hnl2, hown2, hloc2⟩ := hcut
            have HIn2 : Hid (IntsAt wc wc.heap.size Al2 nl2 (insF m zs)) := own_ints hown2
            have hncl : nl2 ≤ cl2 := own_cap hown2
            have HL2 := Lib.hid hloc2
            obtain ⟨i0, _, _, _, _, _, _, hszc⟩ := hloc2
            have hf0 : w.heap.size < wc.heap.size := by omega
            have hf1 : w.heap.size + 1 < wc.heap.size := by omega
            clear hown2 j0 j1 j2 j3 j4 j5
            go_wp2
            go_loop [5, 8] (fun l t => ∃ (Al : Option Addr) (nl cl : Nat) (l' : List Int) (u' : Int), l = .slice Al nl cl ∧ t = .int .i64 u' ∧ nl ≤ cl ∧ nl ≤ 1048578 ∧ 0 ≤ u' ∧ u' + nl ≤ 2147483648 ∧ Hid (IntsAt wc wc.heap.size Al nl l') ∧ Hid (absF u (insF m zs) = absF u' l')) (fun l _ => lenOf l)
            case atStart => exact ⟨Al2, nl2, cl2, insF m zs, u, rfl, rfl, hncl, hnl2, h0, by omega, HIn2, rfl⟩
            case round =>
              obtain ⟨Al', nl', cl', l', u', rfl, rfl, hnc', hnl', hu0, hu1, HIn, HAb⟩ := hrel
              rcases Nat.eq_zero_or_pos nl' with hz0 | hz0
              · subst hz0
                have HA : Hid (absF u (insF m zs) = (u', l')) := by show _ = _; rw [HAb.out, List.eq_nil_of_length_eq_zero HIn.out.1]; rfl
                go_wp2_with (at_builtin; refine wpList_append_ints (w := wc.alloc (Obj.cells #[] 3)) (B := wc.heap.size) (B' := wc.heap.size) (v := .slice (some ⟨wc.heap.size, 0, none⟩) 0 0) (n := 0) (zs := []) (A := Al') (m := 0) (c := cl') (ys := l') rfl _ _ rfl rfl (empty_own0 wc) rfl (HIn.out.keep ((Below.refl _ _).alloc (Nat.le_refl _) _)) (by omega) (by simp) ?_; intro A5 c5 w5 hown5 hg5 _; have HL5 := Lib.hid (Locals.fin HL2.out hG2 hg5); have HO5 := Lib.hid hown5; obtain ⟨_, _, i2, i3, i4, i5, _, _⟩ := HL5.out; clear hown5 hg5)
                refine bodyPost_ret (v := .agg #[.int .i64 u', .slice A5 0 c5]) ?_ rfl ?_
                · simp [results, Try.results16, go_sem, i2, i3]
                · have hO6 := HO5.out
                  rw [Nat.zero_add, List.nil_append] at hO6
                  exact copy_end hO6 (Nat.le_trans hG2 hszc) HL5.out.2.2.2.2.2.2.1 (HC.out.trans HA.out) HIn.out.1
              · obtain ⟨b3, o3, x, xt, rfl, hb3, rfl, hxl, hx⟩ := HIn.out.head hz0
                have hz1 : (0 : Int) < nl' := by omega
                obtain ⟨Ax, hsx, hax⟩ := cut_one ⟨b3, o3, none⟩ nl' cl' hz0 hnc'
                have HAx := Lib.hid hax
                clear hax
                by_cases he : x = u' + 1
                · have he' : (x == u' + 1) = true := by simp [he]
                  have HA : Hid (absF u (insF m zs) = absF (u' + 1) xt) := by show _ = _; rw [HAb.out, absF, if_pos he]
                  clear he
                  go_wp2
                  go_round
                  case rel => exact ⟨Ax, nl' - 1, cl' - 1, xt, u' + 1, rfl, rfl, by omega, by omega, by omega, by omega, HAx.out _ _ _ _ HIn.out, HA⟩
                  case measure => simp [lenOf]; omega
                · have he' : (x == u' + 1) = false := by simpa using he
                  have HA : Hid (absF u (insF m zs) = (u', x :: xt)) := by show _ = _; rw [HAb.out, absF, if_neg he]
                  clear he
                  go_wp2_with (at_builtin; refine wpList_append_ints (w := wc.alloc (Obj.cells #[] 3)) (B := wc.heap.size) (B' := wc.heap.size) (v := .slice (some ⟨wc.heap.size, 0, none⟩) 0 0) (n := 0) (zs := []) (A := some ⟨b3, o3, none⟩) (m := nl') (c := cl') (ys := x :: xt) rfl _ _ rfl rfl (empty_own0 wc) rfl (HIn.out.keep ((Below.refl _ _).alloc (Nat.le_refl _) _)) (by omega) (by simp) ?_; intro A5 c5 w5 hown5 hg5 _; have HL5 := Lib.hid (Locals.fin HL2.out hG2 hg5); have HO5 := Lib.hid hown5; obtain ⟨_, _, i2, i3, i4, i5, _, _⟩ := HL5.out; clear hown5 hg5)
                  refine bodyPost_ret (v := .agg #[.int .i64 u', .slice A5 nl' c5]) ?_ rfl ?_
                  · simp [results, Try.results16, go_sem, i2, i3]
                  · have hO6 := HO5.out
                    rw [Nat.zero_add, List.nil_append] at hO6
                    exact copy_end hO6 (Nat.le_trans hG2 hszc) HL5.out.2.2.2.2.2.2.1 (HC.out.trans HA.out) HIn.out.1
    · have HC : Hid (refAddF (u, zs) m = (u, zs)) := by
        show refAddF (u, zs) m = _
        unfold refAddF
        unfold condF at hcond
        rw [if_pos (by simpa [or_assoc] using hcond)]
      clear hcond
      have HO : Hid ((wc.alloc (Obj.cells #[] 3)).drew.ownsRow wc.heap.size 3 1 (.slice (some ⟨wc.heap.size, 0, none⟩) 0 0) 0 (([] : List Int).map (.int .i64))) := empty_own _ _ _ rfl (Nat.le_refl _)
      have HR : Hid (IntsAt (wc.alloc (Obj.cells #[] 3)).drew B A n zs) := HZ.out.keep (((HB.out.mono hB).alloc (by omega) _).drew)
      have HB2 : Hid (Below w.heap.size w (wc.alloc (Obj.cells #[] 3)).drew) := (HB.out.alloc (by omega) _).drew
      go_wp2_with fail
      go_region_law
        (first
          | (refine step_append_ints (w := (wc.alloc (Obj.cells #[] 3)).drew) (B := wc.heap.size) (B' := B) (v := .slice (some ⟨wc.heap.size, 0, none⟩) 0 0) (n := 0) (zs := []) (A := A) (m := n) (c := c) (ys := zs) rfl _ _ rfl rfl HO.out rfl HR.out ?_ ?_ ?_
             · omega
             · simp
             intro A3 c3 w3 hown3 hg3 _
             have hne : ∀ k, k < wc.heap.size → some k ≠ Value.ownBlock (.slice (some ⟨wc.heap.size, 0, none⟩) 0 0) := fun k hk e => by simp only [Value.ownBlock, Option.some.injEq] at e; omega
             have q0 := (grown_cell hg3 0 (b := w.heap.size) (by simp; omega) (hne _ (by omega))).1.trans (cell_new _ (by omega) k0)
             have q1 := (grown_cell hg3 1 (b := w.heap.size) (by simp; omega) (hne _ (by omega))).1.trans (cell_new _ (by omega) k1)
             have q2 := (grown_cell hg3 0 (b := w.heap.size + 1) (by simp; omega) (hne _ (by omega))).1.trans (cell_new _ (by omega) k2)
             have q3 := (grown_cell hg3 1 (b := w.heap.size + 1) (by simp; omega) (hne _ (by omega))).1.trans (cell_new _ (by omega) k3)
             have q4 := (grown_cell hg3 0 (b := w.heap.size + 1) (by simp; omega) (hne _ (by omega))).2.trans (frozen_new _ (by omega) k4)
             have q5 := (grown_cell hg3 1 (b := w.heap.size + 1) (by simp; omega) (hne _ (by omega))).2.trans (frozen_new _ (by omega) k5)
             have HB3 : Hid (Below w.heap.size w w3) := HB2.out.grown hg3 (by simp; omega) (fun k hk => by simp only [Value.ownBlock, Option.some.injEq] at hk; omega)
             have HO3 := Lib.hid hown3
             clear hown3 hg3 hne))
      all_goals
        go_wp2
        refine bodyPost_ret (v := .agg #[.int .i64 u, .slice A3 n c3]) ?_ rfl ?_
        · simp [results, Try.results16, go_sem, q2, q3]
        · have hO4 := HO3.out
          rw [Nat.zero_add, List.nil_append] at hO4
          exact copy_end hO4 hsz HB3.out HC.out HL.out
end Go.Proofs.Ytlalonchdfcjgaa
