/- Texts Ql Qn Qo Qp Qs Qt, one behind the other. -/
import Derived.Test.YthfdjebeblmmdaaHK2
import Derived.Lib.AppendZerosOnto
import Derived.Lib.SliceRun
/- The document's Add. -/
namespace Go.Proofs.Ythfdjebeblmmdaa.Sp
open Go.RowKit

def condF (s : Int × List Int) (m : Int) : Bool := decide (m < 1) || (decide (1048576 < m) || refHasF s m)

theorem ins_take {m : Int} {zs : List Int} {k : Nat} (h : k < zs.length) (hk : zs.getD k 0 ≤ m) (he : insF m zs = zs.take k ++ insF m (zs.drop k)) : insF m zs = zs.take (k + 1) ++ insF m (zs.drop (k + 1)) := by
  rw [he, drop_next zs k h, take_next zs k h]
  show _ ++ (if m < zs.getD k 0 then _ else _) = _
  rw [if_neg (by omega), List.append_assoc]
  rfl

theorem ins_hit {m : Int} {zs : List Int} {k : Nat} (h : k < zs.length) (hk : m < zs.getD k 0) (he : insF m zs = zs.take k ++ insF m (zs.drop k)) : zs.take k ++ [m] ++ [zs.getD k 0] ++ zs.drop (k + 1) = insF m zs := by
  rw [he, drop_next zs k h]
  show _ = _ ++ (if m < zs.getD k 0 then _ else _)
  rw [if_pos hk]
  simp

theorem ins_done {m : Int} {zs l : List Int} {k : Nat} (h : k < zs.length) (he : l ++ zs.drop k = insF m zs) : l ++ [zs.getD k 0] ++ zs.drop (k + 1) = insF m zs := by
  rw [← he, drop_next zs k h]
  simp

/-- The call's own variables, in the world wr: the Span that came in lies in its block, the answer's block is still empty; G: the first block of its own rows. -/
def Locals (w : World) (G : Nat) (u : Int) (A : Option Addr) (n c : Nat) (wr : World) : Prop :=
  wr.cell? ⟨w.heap.size, 0, none⟩ = some (.int .i64 u) ∧ wr.cell? ⟨w.heap.size, 1, none⟩ = some (.slice A n c) ∧
    wr.cell? ⟨w.heap.size + 1, 0, none⟩ = some (.int .i64 0) ∧ wr.cell? ⟨w.heap.size + 1, 1, none⟩ = some (.slice none 0 0) ∧ wr.frozen? ⟨w.heap.size + 1, 0, none⟩ = false ∧ wr.frozen? ⟨w.heap.size + 1, 1, none⟩ = false ∧
    Below w.heap.size w wr ∧ G ≤ wr.heap.size

theorem Locals.app {w : World} {G : Nat} {u : Int} {A : Option Addr} {n c : Nat} {wr w3 : World} (h : Locals w G u A n c wr) {v : Value} {k : Nat} {xs : List Value} (ho : wr.ownsRow G 3 1 v k xs) (hG : w.heap.size + 2 ≤ G) {o : Obj} (hg : (wr.alloc o).grownBy w3 v.ownBlock) : Locals w G u A n c w3 := by
  obtain ⟨j0, j1, j2, j3, j4, j5, hb, hs⟩ := h
  have hne : ∀ i, i < G → some i ≠ v.ownBlock := fun i hi e => by have := (ho.lt i e.symm).1; omega
  obtain ⟨c0, _⟩ := grown_new hg (b := w.heap.size) (by omega) (hne _ (by omega))
  obtain ⟨c1, f1⟩ := grown_new hg (b := w.heap.size + 1) (by omega) (hne _ (by omega))
  exact ⟨(c0 0).trans j0, (c0 1).trans j1, (c1 0).trans j2, (c1 1).trans j3, (f1 0).trans j4, (f1 1).trans j5, (hb.alloc hb.size _).grown hg (by simp; omega) (fun i hi => by have := (ho.lt i hi).1; omega), Nat.le_trans hs (by have := hg.size; simp at this; omega)⟩

/-- What holds in the first loop's round k. -/
def InsRel (w : World) (G : Nat) (u : Int) (A : Option Addr) (n c : Nat) (zs : List Int) (m : Int) (k : Nat) (done : Bool) (Al : Option Addr) (nl cl : Nat) (wr : World) : Prop :=
  ∃ l : List Int, (if done then l ++ zs.drop k = insF m zs ∧ nl = k + 1 else l = zs.take k ∧ insF m zs = zs.take k ++ insF m (zs.drop k) ∧ nl = k) ∧
    wr.ownsRow G 3 1 (.slice Al nl cl) nl (l.map (.int .i64)) ∧ Locals w G u A n c wr

theorem Locals.fin {w : World} {G : Nat} {u : Int} {A : Option Addr} {n c : Nat} {wr w3 : World} (h : Locals w G u A n c wr) (hG : w.heap.size + 2 ≤ G) {o : Obj} {k : Nat} (hg : (wr.alloc o).grownBy w3 (Value.ownBlock (.slice (some ⟨wr.heap.size, 0, none⟩) k k))) : Locals w G u A n c w3 := by
  obtain ⟨j0, j1, j2, j3, j4, j5, hb, hs⟩ := h
  have hne : ∀ i, i < wr.heap.size → some i ≠ Value.ownBlock (.slice (some ⟨wr.heap.size, 0, none⟩) k k) := fun i hi e => by simp only [Value.ownBlock, Option.some.injEq] at e; omega
  obtain ⟨c0, _⟩ := grown_new hg (b := w.heap.size) (by omega) (hne _ (by omega))
  obtain ⟨c1, f1⟩ := grown_new hg (b := w.heap.size + 1) (by omega) (hne _ (by omega))
  exact ⟨(c0 0).trans j0, (c0 1).trans j1, (c1 0).trans j2, (c1 1).trans j3, (f1 0).trans j4, (f1 1).trans j5, (hb.alloc hb.size _).grown hg (by simp; omega) (fun i hi => by simp only [Value.ownBlock, Option.some.injEq] at hi; omega), Nat.le_trans hs (by have := hg.size; simp at this; omega)⟩

theorem empty_own0 (w : World) : (w.alloc (Obj.cells #[] 3)).ownsRow w.heap.size 3 1 (.slice (some ⟨w.heap.size, 0, none⟩) 0 0) 0 (([] : List Int).map (.int .i64)) :=
  ⟨rfl, .inr ⟨w.heap.size, 0, #[], rfl, Nat.le_refl _, heap_alloc_new w _, Nat.le_refl _, Nat.zero_le _, rfl, rfl⟩⟩

theorem own_cap {w : World} {B : Nat} {A : Option Addr} {n c : Nat} {xs : List Value} (h : w.ownsRow B 3 1 (.slice A n c) n xs) : n ≤ c := by
  rcases h.2 with ⟨e, rfl⟩ | ⟨g, cap, _, e, _, _, hn, _⟩
  · exact Nat.zero_le _
  · injection e with _ _ e; omega

theorem copy_end {w : World} {G : Nat} {wr : World} {u : Int} {l : List Int} {Al : Option Addr} {nl cl : Nat} (hown : wr.ownsRow G 3 1 (.slice Al nl cl) nl (l.map (.int .i64))) (hG : w.heap.size + 2 ≤ G) (hb : Below w.heap.size w wr) {s : Int × List Int} (hs : s = (u, l)) (hl : l.length = nl) :
    OwnSpan w.heap.size none s w (.returned (.agg #[.int .i64 u, .slice Al nl cl])) ((wr.setCell ⟨w.heap.size + 1, 0, none⟩ (.int .i64 u)).setCell ⟨w.heap.size + 1, 1, none⟩ (.slice Al nl cl)) := by
  have hn4 : Value.ownBlock (.slice Al nl cl) ≠ some (w.heap.size + 1) := fun e => by have := (hown.lt _ e).1; omega
  exact ownSpan_of hs hl (own_base (own_setCell (own_setCell hown (p := ⟨w.heap.size + 1, 0, none⟩) hn4 _) (p := ⟨w.heap.size + 1, 1, none⟩) hn4 _) (by omega)) (grown_of_below ((hb.setCell (by simp) _).setCell (by simp) _) _) (lies_own hown (by omega))

set_option maxRecDepth 100000 in
set_option maxRecDepth 100000 in
set_option maxHeartbeats 2000000 in
theorem refAdd_any (u : Int) (A : Option Addr) (n c : Nat) (zs : List Int) (m : Int) (B : Nat) (w : World) (hB : B ≤ w.heap.size) (hz : IntsAt w B A n zs) (hn : n ≤ 1048576) (h0 : 0 ≤ u) (h1 : u ≤ 1073741824) :
    Calls Try.prog 61 #[.agg #[.int .i64 u, .slice A n c], .int .i64 m] w (OwnSpan w.heap.size none (refAddF (u, zs) m) w) := by
  have HZ := Lib.hid hz
  have HL : Hid (zs.length = n) := hz.1
  clear hz
  go_enter Try.func61, Try.ntmps61
  go_upto_region 1 with fail
  go_cut [19] (fun s19 wx => s19 = .bool (condF (u, zs) m) ∧ wx.cell? ⟨w.heap.size, 0, none⟩ = some (.int .i64 u) ∧ wx.cell? ⟨w.heap.size, 1, none⟩ = some (.slice A n c) ∧ wx.cell? ⟨w.heap.size + 1, 0, none⟩ = some (.int .i64 0) ∧ wx.cell? ⟨w.heap.size + 1, 1, none⟩ = some (.slice none 0 0) ∧ wx.frozen? ⟨w.heap.size + 1, 0, none⟩ = false ∧ wx.frozen? ⟨w.heap.size + 1, 1, none⟩ = false ∧ Hid (Below w.heap.size w wx) ∧ w.heap.size + 2 ≤ wx.heap.size)
  case first =>
    by_cases c1 : m < 1
    · have HC : Hid (condF (u, zs) m = true) := by show condF (u, zs) m = true; unfold condF; rw [decide_eq_true c1]; rfl
      go_wp2
      go_meet
      case rel => exact ⟨by rw [HC.out], by simp [go_sem], by simp [go_sem], by simp [go_sem], by simp [go_sem], by simp [go_sem], by simp [go_sem], ((Below.refl _ _).alloc (Nat.le_refl _) _).alloc (by simp) _, by simp⟩
    · by_cases c2 : 1048576 < m
      · have HC : Hid (condF (u, zs) m = true) := by show condF (u, zs) m = true; unfold condF; rw [decide_eq_true c2]; simp
        go_wp2
        go_meet
        case rel => exact ⟨by rw [HC.out], by simp [go_sem], by simp [go_sem], by simp [go_sem], by simp [go_sem], by simp [go_sem], by simp [go_sem], ((Below.refl _ _).alloc (Nat.le_refl _) _).alloc (by simp) _, by simp⟩
      · have HC : Hid (condF (u, zs) m = refHasF (u, zs) m) := by show condF (u, zs) m = _; unfold condF; rw [decide_eq_false c1, decide_eq_false c2]; rfl
        go_wp2_with fail
        refine (refHas_any u A n c zs m B _ (by simp; omega) (HZ.out.keep (((Below.refl _ _).alloc hB _).alloc (by simp; omega) _)) (by omega)).mono ?_
        rintro e w1 ⟨rfl, hb1⟩
        have k0 := (hb1.cell (p := ⟨w.heap.size, 0, none⟩) (by simp; omega)).trans (show _ = some (.int .i64 u) by simp [go_sem])
        have k1 := (hb1.cell (p := ⟨w.heap.size, 1, none⟩) (by simp; omega)).trans (show _ = some (.slice A n c) by simp [go_sem])
        have k2 := (hb1.cell (p := ⟨w.heap.size + 1, 0, none⟩) (by simp)).trans (show _ = some (.int .i64 0) by simp [go_sem])
        have k3 := (hb1.cell (p := ⟨w.heap.size + 1, 1, none⟩) (by simp)).trans (show _ = some (.slice none 0 0) by simp [go_sem])
        have k4 := (hb1.frozen (p := ⟨w.heap.size + 1, 0, none⟩) (by simp)).trans (show _ = false by simp [go_sem])
        have k5 := (hb1.frozen (p := ⟨w.heap.size + 1, 1, none⟩) (by simp)).trans (show _ = false by simp [go_sem])
        have HB1 : Hid (Below w.heap.size w w1) := (((Below.refl _ _).alloc (Nat.le_refl _) _).alloc (by simp) _).trans (hb1.mono (by simp; omega))
        have hsz : w.heap.size + 2 ≤ w1.heap.size := by have := hb1.size; simp at this; omega
        clear hb1
        go_wp2
        go_meet
        case rel => exact ⟨by rw [HC.out], k0, k1, k2, k3, k4, k5, HB1, hsz⟩
  case rest =>
    obtain ⟨rfl, k0, k1, k2, k3, k4, k5, HB, hsz⟩ := hcut
    have hlt0 : w.heap.size < wc.heap.size := by omega
    have hlt1 : w.heap.size + 1 < wc.heap.size := by omega
    rcases hcond : condF (u, zs) m with _ | _
    · have HC : Hid (refAddF (u, zs) m = absF u (insF m zs)) := by
        show refAddF (u, zs) m = _
        unfold refAddF
        unfold condF at hcond
        rw [if_neg (by simpa [or_assoc] using hcond)]
      clear hcond
      obtain ⟨G, HGe⟩ : ∃ G, Hid (wc.heap.size = G) := ⟨_, rfl⟩
      have hG2 : w.heap.size + 2 ≤ G := by rw [← HGe.out]; exact hsz
      go_wp2
      go_loopw [5, 6, 7] (fun l d i wr => ∃ (k : Nat) (done : Bool) (Al : Option Addr) (nl cl : Nat), k ≤ n ∧ i = .int .i64 k ∧ d = .bool done ∧ l = .slice Al nl cl ∧ Hid (InsRel w G u A n c zs m k done Al nl cl wr)) (fun _ _ i _ => n - (intOf i).toNat)
      case atStart => exact ⟨0, false, none, 0, 0, by omega, rfl, rfl, rfl, [], ⟨rfl, rfl, rfl⟩, World.ownsRow_nil _ _ _ _, k0, k1, k2, k3, k4, k5, HB.out, by rw [HGe.out]; exact Nat.le_refl _⟩
      case round =>
        obtain ⟨k, done, Al, nl, cl, hk, rfl, rfl, rfl, HI⟩ := hrel
        obtain ⟨l, hst, hown, hloc⟩ := HI.out
        have HLo := Lib.hid hloc
        have HOw := Lib.hid hown
        have HSt := Lib.hid hst
        obtain ⟨j0, j1, j2, j3, j4, j5, hbel, hsz2⟩ := hloc
        have HBe := Lib.hid hbel
        have hnl : nl ≤ 1048577 := by cases done <;> simp at hst <;> omega
        clear hown hbel hst k0 k1 k2 k3 k4 k5
        by_cases hlt : k < n
        · obtain ⟨b, off, rfl, hbB, hc⟩ := HZ.out.2 (by omega)
          have hck := (HBe.out.cell (p := ⟨b, off + k, none⟩) (by simp; omega)).trans (hc k hlt)
          have HKL : Hid (k < zs.length) := by show k < zs.length; rw [HL.out]; exact hlt
          have hbs : b < wr.heap.size := by omega
          clear hc
          generalize hy : zs.getD k 0 = y at hck
          have HY := Lib.hid hy
          clear hy
          rcases done with _ | _
          · by_cases hym : m < y
            · go_wp2_with (first
                | (at_builtin; refine wpList_append_ints (B := G) rfl _ _ rfl rfl (HOw.out.alloc _) rfl (one_int wr m) (by omega) (by simp; omega) ?_; intro A3 c3 w3 hown3 hg3 _; have HO3 := Lib.hid hown3; have HL3 := Lib.hid (Locals.app HLo.out HOw.out hG2 hg3); have hc3 := (((HBe.out.alloc HBe.out.size (Obj.cells #[Value.int IntKind.i64 m] 3)).grown hg3 (by simp; omega) (fun i hi => by have := (HOw.out.lt i hi).1; omega)).cell (p := ⟨b, off + k, none⟩) (by simp; omega)).trans ((HBe.out.cell (p := ⟨b, off + k, none⟩) (by simp; omega)).symm.trans hck); clear hown3 hg3; obtain ⟨i0, i1, _, _, _, _, _, isz⟩ := HL3.out)
                | (at_builtin; refine wpList_append_ints (B := G) rfl _ _ rfl rfl (HO3.out.alloc _) rfl (one_int w3 y) (by omega) (by simp; omega) ?_; intro A4 c4 w4 hown4 hg4 _; have HO4 := Lib.hid hown4; have HL4 := Lib.hid (Locals.app HL3.out HO3.out hG2 hg4); clear hown4 hg4))
              go_roundw
              case rel =>
                have hs := HSt.out
                simp only [Bool.false_eq_true, if_false] at hs
                refine ⟨k + 1, true, A4, nl + 1 + 1, c4, by omega, by go_num, rfl, rfl, l ++ [m] ++ [y], ⟨?_, by omega⟩, HO4.out, HL4.out⟩
                rw [hs.1, ← HY.out]
                exact ins_hit HKL.out (by rw [HY.out]; exact hym) hs.2.1
              case measure => simp [intOf]; omega
            · have hym' : decide (m < y) = false := by simpa using hym
              go_wp2_with (at_builtin; refine wpList_append_ints (B := G) rfl _ _ rfl rfl (HOw.out.alloc _) rfl (one_int wr y) (by omega) (by simp; omega) ?_; intro A3 c3 w3 hown3 hg3 _; have HO3 := Lib.hid hown3; have HL3 := Lib.hid (Locals.app HLo.out HOw.out hG2 hg3); clear hown3 hg3)
              go_roundw
              case rel =>
                have hs := HSt.out
                simp only [Bool.false_eq_true, if_false] at hs
                refine ⟨k + 1, false, A3, nl + 1, c3, by omega, by go_num, rfl, rfl, l ++ [y], ⟨?_, ?_, by omega⟩, HO3.out, HL3.out⟩
                · rw [hs.1, ← HY.out, take_next zs k HKL.out]
                · exact ins_take HKL.out (by rw [HY.out]; omega) hs.2.1
              case measure => simp [intOf]; omega
          · go_wp2_with (at_builtin; refine wpList_append_ints (B := G) rfl _ _ rfl rfl (HOw.out.alloc _) rfl (one_int wr y) (by omega) (by simp; omega) ?_; intro A3 c3 w3 hown3 hg3 _; have HO3 := Lib.hid hown3; have HL3 := Lib.hid (Locals.app HLo.out HOw.out hG2 hg3); clear hown3 hg3)
            go_roundw
            case rel =>
              have hs := HSt.out
              simp only [if_true] at hs
              refine ⟨k + 1, true, A3, nl + 1, c3, by omega, by go_num, rfl, rfl, l ++ [y], ⟨?_, by omega⟩, HO3.out, HL3.out⟩
              rw [← HY.out]
              exact ins_done HKL.out hs.1
            case measure => simp [intOf]; omega
        · go_upto_if 58 with fail
          go_cut [5] (fun s5 wx => ∃ (Al : Option Addr) (nl cl : Nat), s5 = .slice Al nl cl ∧ nl ≤ 1048578 ∧ wx.ownsRow G 3 1 (.slice Al nl cl) nl ((insF m zs).map (.int .i64)) ∧ Locals w G u A n c wx)
          case first =>
            rcases done with _ | _
            · go_wp2_with (at_builtin; refine wpList_append_ints (B := G) rfl _ _ rfl rfl (HOw.out.alloc _) rfl (one_int wr m) (by omega) (by simp; omega) ?_; intro A3 c3 w3 hown3 hg3 _; have HO3 := Lib.hid hown3; have HL3 := Lib.hid (Locals.app HLo.out HOw.out hG2 hg3); clear hown3 hg3)
              go_meet
              case rel =>
                have hs := HSt.out
                simp only [Bool.false_eq_true, if_false] at hs
                refine ⟨A3, nl + 1, c3, rfl, by omega, ?_, HL3.out⟩
                have h := HO3.out
                rw [show insF m zs = l ++ [m] by rw [hs.2.1, hs.1, List.drop_of_length_le (by rw [HL.out]; omega)]; rfl]
                exact h
            · go_wp2
              go_meet
              case rel =>
                have hs := HSt.out
                simp only [if_true] at hs
                refine ⟨Al, nl, cl, rfl, by omega, ?_, HLo.out⟩
                have h := HOw.out
                rw [← hs.1, List.drop_of_length_le (by rw [HL.out]; omega), List.append_nil]
                exact h
          case rest =>
            obtain ⟨Al2, nl2, cl2, rfl, hnl2, hown2, hloc2⟩ := hcut
            have HIn2 : Hid (IntsAt wc wc.heap.size Al2 nl2 (insF m zs)) := own_ints hown2
            have hncl : nl2 ≤ cl2 := own_cap hown2
            have HL2 := Lib.hid hloc2
            obtain ⟨i0, _, _, _, _, _, _, hszc⟩ := hloc2
            have hf0 : w.heap.size < wc.heap.size := by omega
            have hf1 : w.heap.size + 1 < wc.heap.size := by omega
            clear hown2 j0 j1 j2 j3 j4 j5
            go_wp2
            go_loop [5, 8] (fun l t => ∃ (Al : Option Addr) (nl cl : Nat) (l' : List Int) (u' : Int), l = .slice Al nl cl ∧ t = .int .i64 u' ∧ nl ≤ cl ∧ nl ≤ 1048578 ∧ 0 ≤ u' ∧ u' + nl ≤ 2147483648 ∧ Hid (IntsAt wc wc.heap.size Al nl l') ∧ Hid (absF u (insF m zs) = absF u' l')) (fun l _ => lenOf l)
            case atStart => exact ⟨Al2, nl2, cl2, insF m zs, u, rfl, rfl, hncl, hnl2, h0, by omega, HIn2, rfl⟩
            case round =>
              obtain ⟨Al', nl', cl', l', u', rfl, rfl, hnc', hnl', hu0, hu1, HIn, HAb⟩ := hrel
              rcases Nat.eq_zero_or_pos nl' with hz0 | hz0
              · subst hz0
                have HA : Hid (absF u (insF m zs) = (u', l')) := by show _ = _; rw [HAb.out, List.eq_nil_of_length_eq_zero HIn.out.1]; rfl
                go_wp2_with (at_builtin; refine wpList_append_ints (w := wc.alloc (Obj.cells #[] 3)) (B := wc.heap.size) (B' := wc.heap.size) (v := .slice (some ⟨wc.heap.size, 0, none⟩) 0 0) (n := 0) (zs := []) (A := Al') (m := 0) (c := cl') (ys := l') rfl _ _ rfl rfl (empty_own0 wc) rfl (HIn.out.keep ((Below.refl _ _).alloc (Nat.le_refl _) _)) (by omega) (by simp) ?_; intro A5 c5 w5 hown5 hg5 _; have HL5 := Lib.hid (Locals.fin HL2.out hG2 hg5); have HO5 := Lib.hid hown5; obtain ⟨_, _, i2, i3, i4, i5, _, _⟩ := HL5.out; clear hown5 hg5)
                refine bodyPost_ret (v := .agg #[.int .i64 u', .slice A5 0 c5]) ?_ rfl ?_
                · simp [results, Try.results61, go_sem, i2, i3]
                · have hO6 := HO5.out
                  rw [Nat.zero_add, List.nil_append] at hO6
                  exact copy_end hO6 (Nat.le_trans hG2 hszc) HL5.out.2.2.2.2.2.2.1 (HC.out.trans HA.out) HIn.out.1
              · obtain ⟨b3, o3, x, xt, rfl, hb3, rfl, hxl, hx⟩ := HIn.out.head hz0
                have hz1 : (0 : Int) < nl' := by omega
                obtain ⟨Ax, hsx, hax⟩ := cut_one ⟨b3, o3, none⟩ nl' cl' hz0 hnc'
                have HAx := Lib.hid hax
                clear hax
                by_cases he : x = u' + 1
                · have he' : (x == u' + 1) = true := by simp [he]
                  have HA : Hid (absF u (insF m zs) = absF (u' + 1) xt) := by show _ = _; rw [HAb.out, absF, if_pos he]
                  clear he
                  go_wp2
                  go_round
                  case rel => exact ⟨Ax, nl' - 1, cl' - 1, xt, u' + 1, rfl, rfl, by omega, by omega, by omega, by omega, HAx.out _ _ _ _ HIn.out, HA⟩
                  case measure => simp [lenOf]; omega
                · have he' : (x == u' + 1) = false := by simpa using he
                  have HA : Hid (absF u (insF m zs) = (u', x :: xt)) := by show _ = _; rw [HAb.out, absF, if_neg he]
                  clear he
                  go_wp2_with (at_builtin; refine wpList_append_ints (w := wc.alloc (Obj.cells #[] 3)) (B := wc.heap.size) (B' := wc.heap.size) (v := .slice (some ⟨wc.heap.size, 0, none⟩) 0 0) (n := 0) (zs := []) (A := some ⟨b3, o3, none⟩) (m := nl') (c := cl') (ys := x :: xt) rfl _ _ rfl rfl (empty_own0 wc) rfl (HIn.out.keep ((Below.refl _ _).alloc (Nat.le_refl _) _)) (by omega) (by simp) ?_; intro A5 c5 w5 hown5 hg5 _; have HL5 := Lib.hid (Locals.fin HL2.out hG2 hg5); have HO5 := Lib.hid hown5; obtain ⟨_, _, i2, i3, i4, i5, _, _⟩ := HL5.out; clear hown5 hg5)
                  refine bodyPost_ret (v := .agg #[.int .i64 u', .slice A5 nl' c5]) ?_ rfl ?_
                  · simp [results, Try.results61, go_sem, i2, i3]
                  · have hO6 := HO5.out
                    rw [Nat.zero_add, List.nil_append] at hO6
                    exact copy_end hO6 (Nat.le_trans hG2 hszc) HL5.out.2.2.2.2.2.2.1 (HC.out.trans HA.out) HIn.out.1
    · have HC : Hid (refAddF (u, zs) m = (u, zs)) := by
        show refAddF (u, zs) m = _
        unfold refAddF
        unfold condF at hcond
        rw [if_pos (by simpa [or_assoc] using hcond)]
      clear hcond
      have HO : Hid ((wc.alloc (Obj.cells #[] 3)).drew.ownsRow wc.heap.size 3 1 (.slice (some ⟨wc.heap.size, 0, none⟩) 0 0) 0 (([] : List Int).map (.int .i64))) := empty_own _ _ _ rfl (Nat.le_refl _)
      have HR : Hid (IntsAt (wc.alloc (Obj.cells #[] 3)).drew B A n zs) := HZ.out.keep (((HB.out.mono hB).alloc (by omega) _).drew)
      have HB2 : Hid (Below w.heap.size w (wc.alloc (Obj.cells #[] 3)).drew) := (HB.out.alloc (by omega) _).drew
      go_wp2_with fail
      go_region_law
        (first
          | (refine step_append_ints (w := (wc.alloc (Obj.cells #[] 3)).drew) (B := wc.heap.size) (B' := B) (v := .slice (some ⟨wc.heap.size, 0, none⟩) 0 0) (n := 0) (zs := []) (A := A) (m := n) (c := c) (ys := zs) rfl _ _ rfl rfl HO.out rfl HR.out ?_ ?_ ?_
             · omega
             · simp
             intro A3 c3 w3 hown3 hg3 _
             have hne : ∀ k, k < wc.heap.size → some k ≠ Value.ownBlock (.slice (some ⟨wc.heap.size, 0, none⟩) 0 0) := fun k hk e => by simp only [Value.ownBlock, Option.some.injEq] at e; omega
             have q0 := (grown_cell hg3 0 (b := w.heap.size) (by simp; omega) (hne _ (by omega))).1.trans (cell_new _ (by omega) k0)
             have q1 := (grown_cell hg3 1 (b := w.heap.size) (by simp; omega) (hne _ (by omega))).1.trans (cell_new _ (by omega) k1)
             have q2 := (grown_cell hg3 0 (b := w.heap.size + 1) (by simp; omega) (hne _ (by omega))).1.trans (cell_new _ (by omega) k2)
             have q3 := (grown_cell hg3 1 (b := w.heap.size + 1) (by simp; omega) (hne _ (by omega))).1.trans (cell_new _ (by omega) k3)
             have q4 := (grown_cell hg3 0 (b := w.heap.size + 1) (by simp; omega) (hne _ (by omega))).2.trans (frozen_new _ (by omega) k4)
             have q5 := (grown_cell hg3 1 (b := w.heap.size + 1) (by simp; omega) (hne _ (by omega))).2.trans (frozen_new _ (by omega) k5)
             have HB3 : Hid (Below w.heap.size w w3) := HB2.out.grown hg3 (by simp; omega) (fun k hk => by simp only [Value.ownBlock, Option.some.injEq] at hk; omega)
             have HO3 := Lib.hid hown3
             clear hown3 hg3 hne))
      all_goals
        go_wp2
        refine bodyPost_ret (v := .agg #[.int .i64 u, .slice A3 n c3]) ?_ rfl ?_
        · simp [results, Try.results61, go_sem, q2, q3]
        · have hO4 := HO3.out
          rw [Nat.zero_add, List.nil_append] at hO4
          exact copy_end hO4 hsz HB3.out HC.out HL.out
end Go.Proofs.Ythfdjebeblmmdaa.Sp

/- The document's Fix: a Span that may be, out of any numbers. -/
namespace Go.Proofs.Ythfdjebeblmmdaa.Sp
open Go.RowKit

def modF (x : Int) (k : Int) : Int := wrap64 ((IntKind.u64.wrap x).tmod k)
def elF (x : Int) : Int := 1 + modF x 60
def fixF (u : Int) (zs : List Int) : Int × List Int := (zs.take 30).foldl (fun s x => refAddF s (elF x)) (modF u 40, [])

theorem mod_bd (x k : Int) (h0 : 0 < k) (h1 : k ≤ 1000) : 0 ≤ modF x k ∧ modF x k < k := by
  unfold modF
  have hw : 0 ≤ IntKind.u64.wrap x := by
    have := IntKind.wrap_u64 x
    rw [this]
    exact Int.emod_nonneg _ (by decide)
  have h2 := Int.tmod_nonneg k hw
  have h3 := Int.tmod_lt_of_pos (IntKind.u64.wrap x) h0
  rw [show wrap64 ((IntKind.u64.wrap x).tmod k) = (IntKind.u64.wrap x).tmod k from IntWalk.wrap64_in _ (by omega)]
  exact ⟨h2, h3⟩

theorem el_eq (y : Int) : IntKind.i64.wrap (1 + IntKind.i64.wrap ((IntKind.u64.wrap y).tmod 60)) = elF y := by
  have h := mod_bd y 60 (by omega) (by omega)
  unfold elF
  have e : IntKind.i64.wrap ((IntKind.u64.wrap y).tmod 60) = modF y 60 := IntWalk.i64_left _
  rw [e]
  exact IntWalk.i64_in _ (by omega)

theorem abs_bd : ∀ (l : List Int) (u : Int), u ≤ (absF u l).1 ∧ (absF u l).1 ≤ u + l.length ∧ (absF u l).2.length ≤ l.length
  | [], u => by simp [absF]
  | z :: t, u => by
    unfold absF
    split
    · have := abs_bd t (u + 1)
      simp only [List.length_cons]
      omega
    · simp; omega
theorem ins_len (m : Int) : ∀ l : List Int, (insF m l).length = l.length + 1
  | [] => rfl
  | z :: t => by
    unfold insF
    split
    · simp
    · simp [ins_len m t]
theorem refAdd_bd (s : Int × List Int) (m : Int) : s.1 ≤ (refAddF s m).1 ∧ (refAddF s m).1 ≤ s.1 + s.2.length + 1 ∧ (refAddF s m).2.length ≤ s.2.length + 1 := by
  unfold refAddF
  split
  · omega
  · have h1 := abs_bd (insF m s.2) s.1
    rw [ins_len] at h1
    omega

theorem Locals.on {w : World} {G : Nat} {u : Int} {A : Option Addr} {n c : Nat} {wr W w1 : World} (h : Locals w G u A n c wr) (hb : Below W.heap.size W w1) (e : SameW wr W) (hG : w.heap.size + 2 ≤ G) : Locals w G u A n c w1 := by
  obtain ⟨j0, j1, j2, j3, j4, j5, hbel, hs⟩ := h
  have hb' := below_via (Below.refl wr.heap.size wr) hb (Nat.le_refl _) e
  exact ⟨(hb'.cell (by simp; omega)).trans j0, (hb'.cell (by simp; omega)).trans j1, (hb'.cell (by simp; omega)).trans j2, (hb'.cell (by simp; omega)).trans j3, (hb'.frozen (by simp; omega)).trans j4, (hb'.frozen (by simp; omega)).trans j5, hbel.trans (hb'.mono hbel.size), Nat.le_trans hs hb'.size⟩

theorem Locals.set {w : World} {G : Nat} {u : Int} {A : Option Addr} {n c : Nat} {wr : World} (h : Locals w G u A n c wr) {p : Addr} (hp : w.heap.size + 2 ≤ p.block) (v : Value) : Locals w G u A n c (wr.setCell p v) := by
  obtain ⟨j0, j1, j2, j3, j4, j5, hbel, hs⟩ := h
  have hb' : Below (w.heap.size + 2) wr (wr.setCell p v) := (Below.refl _ _).setCell hp v
  exact ⟨(hb'.cell (by simp)).trans j0, (hb'.cell (by simp)).trans j1, (hb'.cell (by simp)).trans j2, (hb'.cell (by simp)).trans j3, (hb'.frozen (by simp)).trans j4, (hb'.frozen (by simp)).trans j5, hbel.setCell (by omega) v, by simpa [World.setCell] using hs⟩

def FixRel (w : World) (u : Int) (A : Option Addr) (n c : Nat) (zs : List Int) (k : Nat) (wr : World) : Prop :=
  ∃ (uk : Int) (zk : List Int) (Ak : Option Addr) (ck : Nat), (zs.take k).foldl (fun s x => refAddF s (elF x)) (modF u 40, []) = (uk, zk) ∧ 0 ≤ uk ∧ uk ≤ 40 + 31 * k ∧ zk.length ≤ k ∧
    wr.cell? ⟨w.heap.size + 2, 0, none⟩ = some (.int .i64 uk) ∧ wr.cell? ⟨w.heap.size + 2, 1, none⟩ = some (.slice Ak zk.length ck) ∧ wr.frozen? ⟨w.heap.size + 2, 0, none⟩ = false ∧ wr.frozen? ⟨w.heap.size + 2, 1, none⟩ = false ∧
    wr.ownsRow (w.heap.size + 3) 3 1 (.slice Ak zk.length ck) zk.length (zk.map (.int .i64)) ∧ Locals w (w.heap.size + 3) u A n c wr

set_option maxRecDepth 100000 in
set_option maxRecDepth 100000 in
set_option maxHeartbeats 2000000 in
theorem fix_any (u : Int) (A : Option Addr) (n c : Nat) (zs : List Int) (B : Nat) (w : World) (hB : B ≤ w.heap.size) (hz : IntsAt w B A n zs) (hn : n ≤ 9223372036854775807) :
    Calls Try.prog 58 #[.agg #[.int .i64 u, .slice A n c]] w (OwnSpan w.heap.size none (fixF u zs) w) := by
  have HZ := Lib.hid hz
  have HL : Hid (zs.length = n) := hz.1
  have hmb := mod_bd u 40 (by omega) (by omega)
  clear hz
  go_enter Try.func58, Try.ntmps58
  go_wp2
  go_loopw [4] (fun i wr => ∃ k : Nat, k ≤ n ∧ k ≤ 30 ∧ i = .int .i64 k ∧ Hid (FixRel w u A n c zs k wr)) (fun i _ => 30 - (intOf i).toNat)
  case atStart =>
    refine ⟨0, by omega, by omega, rfl, modF u 40, [], none, 0, rfl, by omega, by omega, by simp, by simp [go_sem, modF], by simp [go_sem], by simp [go_sem], by simp [go_sem], World.ownsRow_nil _ _ _ _, by simp [go_sem], by simp [go_sem], by simp [go_sem], by simp [go_sem], by simp [go_sem], by simp [go_sem], ?_, by simp⟩
    exact (((Below.refl _ _).alloc (Nat.le_refl _) _).alloc (by simp) _).alloc (by simp; omega) _
  case round =>
    obtain ⟨k, hk, hk30, rfl, HR⟩ := hrel
    obtain ⟨uk, zk, Ak, ck, hfold, hu0, hu1, hzl, p0, p1, f0, f1, hown, hloc⟩ := HR.out
    have HFo := Lib.hid hfold
    have HOw := Lib.hid hown
    have HLo := Lib.hid hloc
    obtain ⟨j0, j1, j2, j3, j4, j5, hbel, hsz⟩ := hloc
    have HBe := Lib.hid hbel
    clear hfold hown hbel hmb
    by_cases hlt : k < n ∧ k < 30
    · obtain ⟨hl1, hl2⟩ := hlt
      obtain ⟨b, off, rfl, hbB, hc⟩ := HZ.out.2 (by omega)
      have hck := (HBe.out.cell (p := ⟨b, off + k, none⟩) (by simp; omega)).trans (hc k hl1)
      have hkI : (k : Int) < n := by omega
      have hkJ : (k : Int) < 30 := by omega
      clear hc
      generalize hy : zs.getD k 0 = y at hck
      have HY := Lib.hid hy
      clear hy
      have HE := Lib.hid (el_eq y)
      have hpl := refAdd_bd (uk, zk) (elF y)
      have hfo : (zs.take (k + 1)).foldl (fun s x => refAddF s (elF x)) (modF u 40, []) = refAddF (uk, zk) (elF y) := by
        rw [take_next zs k (by rw [HL.out]; exact hl1), List.foldl_append, HFo.out, HY.out]; rfl
      obtain ⟨s1, HS1⟩ : ∃ s1, Hid (refAddF (uk, zk) (elF y) = s1) := ⟨_, rfl⟩
      rw [HS1.out] at hpl hfo
      obtain ⟨u1, z1⟩ := s1
      have HF1 := Lib.hid hfo
      clear hfo
      simp only at hpl
      go_wp2_with fail
      go_region_law
        (first
          | (go_simp
             go_at_call 61
             rw [HE.out]
             refine (refAdd_any uk Ak zk.length ck zk (elF y) wr.heap.size _ ?_ ?_ ?_ ?_ ?_).mono ?_
             · exact Nat.le_refl _
             · exact ints_same (own_ints HOw.out) rfl
             · omega
             · exact hu0
             · omega
             rw [HS1.out]
             rintro e w1 ⟨A1, c1, rfl, hown1, hg1, _⟩
             have hb1 := grown_none hg1
             have q0 := (hb1.cell (p := ⟨w.heap.size + 2, 0, none⟩) hsz).trans p0
             have q1 := (hb1.cell (p := ⟨w.heap.size + 2, 1, none⟩) hsz).trans p1
             have q2 := (hb1.frozen (p := ⟨w.heap.size + 2, 0, none⟩) hsz).trans f0
             have q3 := (hb1.frozen (p := ⟨w.heap.size + 2, 1, none⟩) hsz).trans f1
             have HL1 : Hid (Locals w (w.heap.size + 3) u (some ⟨b, off, none⟩) n c w1) := Locals.on HLo.out hb1 ⟨rfl, rfl, rfl, rfl⟩ (by omega)
             have HO1 : Hid (w1.ownsRow (w.heap.size + 3) 3 1 (.slice A1 z1.length c1) z1.length (z1.map (.int .i64))) := own_base hown1 hsz
             clear hown1 hg1 hb1))
      all_goals
        go_wp2_with fail
        go_roundw
        case rel =>
          have hn1 : Value.ownBlock (.slice A1 z1.length c1) ≠ some (w.heap.size + 2) := fun e => by have := (HO1.out.lt _ e).1; omega
          refine ⟨k + 1, by omega, by omega, by go_num, u1, z1, A1, c1, HF1.out, by omega, by omega, by omega, by simp [go_sem, q0], by simp [go_sem, q1], by simp [go_sem, q2], by simp [go_sem, q3], ?_, ?_⟩
          · exact own_setCell (own_setCell HO1.out (p := ⟨w.heap.size + 2, 0, none⟩) hn1 _) (p := ⟨w.heap.size + 2, 1, none⟩) hn1 _
          · exact Locals.set (Locals.set HL1.out (by simp) _) (by simp) _
        case measure => simp [intOf]; omega
    · have HE : Hid (fixF u zs = (uk, zk)) := by
        show fixF u zs = (uk, zk)
        unfold fixF
        rw [← HFo.out]
        congr 1
        rcases Nat.lt_or_ge k 30 with h | h
        · have hkn : k = n := by omega
          rw [List.take_of_length_le (by rw [HL.out]; omega), List.take_of_length_le (by rw [HL.out]; omega)]
        · rw [show k = 30 by omega]
      have hf1 : w.heap.size + 1 < wr.heap.size := by omega
      by_cases hkn : k < n
      · have hkI : (k : Int) < n := by omega
        have hkJ : decide ((k : Int) < 30) = false := by simp; omega
        go_wp2
        refine bodyPost_ret (v := .agg #[.int .i64 uk, .slice Ak zk.length ck]) ?_ rfl ?_
        · simp [results, Try.results58, go_sem, j2, j3]
        · exact copy_end (HOw.out) (by omega) HBe.out HE.out rfl
      · have hkI : decide ((k : Int) < n) = false := by simp; omega
        go_wp2
        refine bodyPost_ret (v := .agg #[.int .i64 uk, .slice Ak zk.length ck]) ?_ rfl ?_
        · simp [results, Try.results58, go_sem, j2, j3]
        · exact copy_end (HOw.out) (by omega) HBe.out HE.out rfl
end Go.Proofs.Ythfdjebeblmmdaa.Sp

/- The calls' answers said in one form, for the laws: a Span that reads so in the world at hand; the calls turn nothing that was there. And what Fix makes. -/
namespace Go.Proofs.Ythfdjebeblmmdaa.Sp
open Go.RowKit

/-- In w the slice (A, c) holds the Extra of the Span s. -/
def SpanIn (w : World) (A : Option Addr) (c : Nat) (s : Int × List Int) : Prop := IntsAt w w.heap.size A s.2.length s.2 ∧ s.2.length ≤ c
def RetSpan (s : Int × List Int) (W : World) (e : Ending) (w' : World) : Prop := ∃ A c, e = .returned (.agg #[.int .i64 s.1, .slice A s.2.length c]) ∧ SpanIn w' A c s ∧ Below W.heap.size W w'

theorem SpanIn.on {W W' w1 : World} {A : Option Addr} {c : Nat} {s : Int × List Int} (h : SpanIn W A c s) (hb : Below W'.heap.size W' w1) (e : SameW W W') : SpanIn w1 A c s :=
  ⟨(ints_via h.1 hb (Nat.le_refl _) e).more (by have := hb.size; rw [e.1] at this; exact this), h.2⟩
theorem SpanIn.same {W W' : World} {A : Option Addr} {c : Nat} {s : Int × List Int} (h : SpanIn W A c s) (e : W'.heap = W.heap) : SpanIn W' A c s := by
  refine ⟨?_, h.2⟩
  have h1 := ints_same h.1 e
  rw [e]
  exact h1
theorem SpanIn.keep {W w1 : World} {A : Option Addr} {c : Nat} {s : Int × List Int} (h : SpanIn W A c s) (hb : Below W.heap.size W w1) : SpanIn w1 A c s := h.on hb ⟨rfl, rfl, rfl, rfl⟩

theorem ret_of_own {W : World} {s : Int × List Int} {e : Ending} {w' : World} (h : OwnSpan W.heap.size none s W e w') : RetSpan s W e w' := by
  obtain ⟨A, c, he, ho, hg, _⟩ := h
  exact ⟨A, c, he, ⟨own_ints ho, own_cap ho⟩, grown_none hg⟩

section
variable {W : World} {A A' : Option Addr} {c c' : Nat} {s t : Int × List Int}
theorem cTo (h : SpanIn W A c s) (hn : s.2.length ≤ 100000) : Calls Try.prog 51 #[.agg #[.int .i64 s.1, .slice A s.2.length c]] W (RetSpan s W) :=
  (to_any s.1 A s.2.length c s.2 W.heap.size W (Nat.le_refl _) h.1 (by omega)).mono fun _ _ h => ret_of_own h
theorem cFrom (h : SpanIn W A c s) (hn : s.2.length ≤ 100000) : Calls Try.prog 21 #[.agg #[.int .i64 s.1, .slice A s.2.length c]] W (RetSpan s W) :=
  (from_any s.1 A s.2.length c s.2 W.heap.size W (Nat.le_refl _) h.1 (by omega)).mono fun _ _ h => ret_of_own h
theorem cUnion (h : SpanIn W A c s) (h' : SpanIn W A' c' t) (hn : s.2.length ≤ 100000) (hm : t.2.length ≤ 100000) : Calls Try.prog 67 #[.agg #[.int .i64 s.1, .slice A s.2.length c], .agg #[.int .i64 t.1, .slice A' t.2.length c']] W (RetSpan (unionF s t) W) :=
  (union_any s.1 t.1 A s.2.length c s.2 A' t.2.length c' t.2 W.heap.size W (Nat.le_refl _) h.1 h'.1 h.2 h'.2 (by omega) (by omega)).mono fun _ _ h => ret_of_own h
theorem cAdd (h : SpanIn W A c s) (hn : s.2.length ≤ 100000) (m : Int) (h1 : 1 ≤ m) (h2 : m ≤ 1048576) : Calls Try.prog 59 #[.agg #[.int .i64 s.1, .slice A s.2.length c], .int .i64 m] W (RetSpan (unionF s (0, [m])) W) :=
  (add_yes s.1 A s.2.length c s.2 m W.heap.size W (Nat.le_refl _) h.1 h.2 (by omega) h1 h2).mono fun _ _ h => ret_of_own h
theorem cRefAdd (h : SpanIn W A c s) (hn : s.2.length ≤ 100000) (h0 : 0 ≤ s.1) (h1 : s.1 ≤ 100000) (m : Int) : Calls Try.prog 61 #[.agg #[.int .i64 s.1, .slice A s.2.length c], .int .i64 m] W (RetSpan (refAddF s m) W) :=
  (refAdd_any s.1 A s.2.length c s.2 m W.heap.size W (Nat.le_refl _) h.1 (by omega) h0 (by omega)).mono fun _ _ h => ret_of_own h
theorem cSame (h : SpanIn W A c s) (h' : SpanIn W A' c' t) (hn : s.2.length ≤ 100000) : Calls Try.prog 85 #[.agg #[.int .i64 s.1, .slice A s.2.length c], .agg #[.int .i64 t.1, .slice A' t.2.length c']] W fun e w' => e = .returned (.bool (sameF s t)) ∧ Below W.heap.size W w' :=
  same_any s.1 A s.2.length c s.2 t.1 A' t.2.length c' t.2 W.heap.size W (Nat.le_refl _) h.1 h'.1 (by omega)
theorem cRefSame (h : SpanIn W A c s) (h' : SpanIn W A' c' t) (hn : s.2.length ≤ 100000) : Calls Try.prog 20 #[.agg #[.int .i64 s.1, .slice A s.2.length c], .agg #[.int .i64 t.1, .slice A' t.2.length c']] W fun e w' => e = .returned (.bool (sameF s t)) ∧ Below W.heap.size W w' :=
  refSame_any s.1 A s.2.length c s.2 t.1 A' t.2.length c' t.2 W.heap.size W (Nat.le_refl _) h.1 h'.1 (by omega)
theorem cWithin (h : SpanIn W A c s) (h' : SpanIn W A' c' t) (hn : s.2.length ≤ 100000) (hm : t.2.length ≤ 100000) (hs : Ok t) : Calls Try.prog 70 #[.agg #[.int .i64 s.1, .slice A s.2.length c], .agg #[.int .i64 t.1, .slice A' t.2.length c']] W fun e w' => e = .returned (.bool (withinF s t)) ∧ Below W.heap.size W w' :=
  within_any s.1 A s.2.length c s.2 t.1 A' t.2.length c' t.2 W.heap.size W (Nat.le_refl _) h.1 h'.1 (by omega) (by omega) hs.2.1
theorem cHas (h : SpanIn W A c s) (hn : s.2.length ≤ 100000) (hs : Ok s) (m : Int) : Calls Try.prog 64 #[.agg #[.int .i64 s.1, .slice A s.2.length c], .int .i64 m] W fun e w' => e = .returned (.bool (hasOf s.1 s.2 m)) ∧ Below W.heap.size W w' :=
  has_any s.1 A s.2.length c s.2 m W.heap.size W (Nat.le_refl _) h.1 (by omega) hs.2.1
theorem cRefHas (h : SpanIn W A c s) (hn : s.2.length ≤ 100000) (m : Int) : Calls Try.prog 65 #[.agg #[.int .i64 s.1, .slice A s.2.length c], .int .i64 m] W fun e w' => e = .returned (.bool (refHasF s m)) ∧ Below W.heap.size W w' :=
  refHas_any s.1 A s.2.length c s.2 m W.heap.size W (Nat.le_refl _) h.1 (by omega)
theorem cTop (h : SpanIn W A c s) (hn : s.2.length ≤ 100000) : Calls Try.prog 93 #[.agg #[.int .i64 s.1, .slice A s.2.length c]] W fun e w' => e = .returned (.int .i64 (topOf s.1 s.2)) ∧ Below W.heap.size W w' :=
  top_any s.1 A s.2.length c s.2 W.heap.size W (Nat.le_refl _) h.1 (by omega)
theorem cCount (h0 : 0 ≤ s.1) (h1 : s.1 ≤ 100000) (hn : s.2.length ≤ 100000) : Calls Try.prog 49 #[.agg #[.int .i64 s.1, .slice A s.2.length c]] W fun e w' => e = .returned (.int .i64 (s.1 + s.2.length)) ∧ Below W.heap.size W w' :=
  count_any s.1 A s.2.length c W h0 (by omega) (by omega)
theorem cRefCount (h0 : 0 ≤ s.1) (h1 : s.1 ≤ 100000) (hn : s.2.length ≤ 100000) : Calls Try.prog 54 #[.agg #[.int .i64 s.1, .slice A s.2.length c]] W fun e w' => e = .returned (.int .i64 (s.1 + s.2.length)) ∧ Below W.heap.size W w' :=
  refCount_any s.1 A s.2.length c W h0 (by omega) (by omega)
theorem cRight (h : SpanIn W A c s) (hn : s.2.length ≤ 100000) : Calls Try.prog 48 #[.agg #[.int .i64 s.1, .slice A s.2.length c]] W fun e w' => e = .returned (.bool (rightF s.1 s.2)) ∧ Below W.heap.size W w' :=
  right_any s.1 A s.2.length c s.2 W.heap.size W (Nat.le_refl _) h.1 (by omega)
end

theorem cFix (u : Int) (A : Option Addr) (n c : Nat) (zs : List Int) {B : Nat} {W : World} (hB : B ≤ W.heap.size) (h : IntsAt W B A n zs) (hn : n ≤ 9223372036854775807) : Calls Try.prog 58 #[.agg #[.int .i64 u, .slice A n c]] W (RetSpan (fixF u zs) W) :=
  (fix_any u A n c zs B W hB h hn).mono fun _ _ h => ret_of_own h

/-- Spans as Fix makes them. -/
def Small (s : Int × List Int) : Prop := Ok s ∧ (∀ x, Mem x s → x ≤ 60) ∧ s.1 ≤ 60 ∧ s.2.length ≤ 60

theorem small_u {s : Int × List Int} (hm : ∀ x, Mem x s → x ≤ 60) : s.1 ≤ 60 := by
  rcases Int.lt_or_le s.1 1 with h1 | h1
  · omega
  · exact hm _ (.inl ⟨h1, by omega⟩)

theorem sorted_len : ∀ (l : List Int) (a b : Int), l.Pairwise (· < ·) → (∀ z ∈ l, a < z ∧ z ≤ b) → a ≤ b → (l.length : Int) ≤ b - a
  | [], a, b, _, _, hab => by simp; omega
  | z :: t, a, b, hs, hb, hab => by
    rw [List.pairwise_cons] at hs
    have h1 := hb z (by simp)
    have := sorted_len t z b hs.2 (fun y hy => ⟨hs.1 y hy, (hb y (by simp [hy])).2⟩) h1.2
    simp only [List.length_cons]
    omega

theorem small_of {s : Int × List Int} (h : Ok s) (hm : ∀ x, Mem x s → x ≤ 60) : Small s := by
  have hu := small_u hm
  have hl := sorted_len s.2 s.1 60 h.2.1 (fun z hz => ⟨by have := h.2.2 z hz; omega, hm z (.inr hz)⟩) hu
  have := h.1
  exact ⟨h, hm, hu, by omega⟩

theorem fix_small (u : Int) (zs : List Int) : Small (fixF u zs) := by
  unfold fixF
  have hm := mod_bd u 40 (by omega) (by omega)
  have h0 : Ok (modF u 40, ([] : List Int)) ∧ ∀ x, Mem x (modF u 40, ([] : List Int)) → x ≤ 60 := ⟨⟨hm.1, by simp, by simp⟩, fun x hx => by rcases hx with hx | hx; (simp only at hx; omega); simp at hx⟩
  have hind : ∀ (l : List Int) (s : Int × List Int), (Ok s ∧ ∀ x, Mem x s → x ≤ 60) → (Ok (l.foldl (fun s x => refAddF s (elF x)) s) ∧ ∀ x, Mem x (l.foldl (fun s x => refAddF s (elF x)) s) → x ≤ 60) := by
    intro l
    induction l with
    | nil => intro s h; exact h
    | cons y l ih =>
      intro s h
      refine ih _ ?_
      obtain ⟨a, b⟩ := refAdd_ok h.1 (elF y)
      refine ⟨a, fun x hx => ?_⟩
      rcases (b x).1 hx with hx | ⟨rfl, _, _⟩
      · exact h.2 x hx
      · have := mod_bd y 60 (by omega) (by omega); unfold elF; omega
  obtain ⟨a, b⟩ := hind (zs.take 30) _ h0
  exact small_of a b

theorem union_small {s t : Int × List Int} (hs : Small s) (ht : Small t) : Small (unionF s t) ∧ ∀ x, Mem x (unionF s t) ↔ Mem x s ∨ Mem x t := by
  obtain ⟨a, b⟩ := union_ok hs.1 ht.1 (by have := hs.2.2.1; omega) (by have := ht.2.2.1; omega)
  exact ⟨small_of a (fun x hx => by rcases (b x).1 hx with h | h; exact hs.2.1 x h; exact ht.2.1 x h), b⟩

theorem same_true {s t : Int × List Int} (h : s = t) : sameF s t = true := by unfold sameF; simp [h]
theorem small_right {s : Int × List Int} (h : Small s) : rightF s.1 s.2 = true := by
  have hc : ∀ (l : List Int) (a : Int), l.Pairwise (· < ·) → (∀ z ∈ l, a < z ∧ z ≤ 60) → chainB a l = true := by
    intro l
    induction l with
    | nil => intro a _ _; rfl
    | cons z t ih =>
      intro a hs hb
      rw [List.pairwise_cons] at hs
      have h1 := hb z (by simp)
      unfold chainB
      rw [decide_eq_true (by omega), ih z hs.2 (fun y hy => ⟨hs.1 y hy, (hb y (by simp [hy])).2⟩)]
      rfl
  unfold rightF
  have h0 := h.1.1
  have h2 := h.2.2.1
  have h3 := h.2.2.2
  rw [decide_eq_true (by omega), hc s.2 (s.1 + 1) h.1.2.1 (fun z hz => ⟨h.1.2.2 z hz, h.2.1 z (.inr hz)⟩)]
  rfl
end Go.Proofs.Ythfdjebeblmmdaa.Sp

/- SpanHoles: the walk. -/
namespace Go.Proofs.Ythfdjebeblmmdaa.Sp
open Go.RowKit

def holesF (s : Int × List Int) : Nat → Nat
  | 0 => 0
  | k + 1 => holesF s k + if hasOf s.1 s.2 (k + 1) then 0 else 1
def membF (s : Int × List Int) : Nat → Nat
  | 0 => 0
  | k + 1 => membF s k + if hasOf s.1 s.2 (k + 1) then 1 else 0
theorem holes_memb (s : Int × List Int) : ∀ k, holesF s k + membF s k = k
  | 0 => rfl
  | k + 1 => by
    have := holes_memb s k
    unfold holesF membF
    split <;> omega

def upL (k : Nat) : List Int := (List.range k).map (fun j : Nat => (j : Int) + 1)
theorem upL_succ (k : Nat) : upL (k + 1) = upL k ++ [(k : Int) + 1] := by unfold upL; rw [List.range_succ, List.map_append]; rfl
theorem upL_mem (k : Nat) (x : Int) : x ∈ upL k ↔ 1 ≤ x ∧ x ≤ k := by
  unfold upL
  simp only [List.mem_map, List.mem_range]
  constructor
  · rintro ⟨j, hj, rfl⟩; omega
  · rintro ⟨h1, h2⟩; exact ⟨(x - 1).toNat, by omega, by omega⟩
theorem upL_sorted (k : Nat) : (upL k).Pairwise (· < ·) := by
  induction k with
  | zero => simp [upL]
  | succ k ih =>
    rw [upL_succ, List.pairwise_append]
    refine ⟨ih, by simp, fun a ha b hb => ?_⟩
    rw [upL_mem] at ha
    simp only [List.mem_singleton] at hb
    omega
theorem memb_len (s : Int × List Int) (k : Nat) : membF s k = ((upL k).filter (fun x => hasOf s.1 s.2 x)).length := by
  induction k with
  | zero => rfl
  | succ k ih =>
    rw [upL_succ, List.filter_append, List.length_append, ← ih]
    show membF s k + (if hasOf s.1 s.2 ((k : Int) + 1) then 1 else 0) = _
    by_cases h : hasOf s.1 s.2 ((k : Int) + 1) = true
    · simp [h]
    · simp [h]

theorem memb_count {s : Int × List Int} (h : Ok s) (k : Nat) (hk : topOf s.1 s.2 ≤ k) : (membF s k : Int) = s.1 + s.2.length := by
  have h0 := h.1
  have he : (upL k).filter (fun x => hasOf s.1 s.2 x) = upL s.1.toNat ++ s.2 := by
    refine sorted_ext ((upL_sorted k).filter _) ?_ fun x => ?_
    · rw [List.pairwise_append]
      refine ⟨upL_sorted _, h.2.1, fun a ha b hb => ?_⟩
      rw [upL_mem] at ha
      have := h.2.2 b hb
      omega
    · rw [List.mem_filter, upL_mem, has_mem h, List.mem_append, upL_mem]
      unfold Mem
      constructor
      · rintro ⟨_, h2 | h2⟩
        · exact .inl ⟨h2.1, by omega⟩
        · exact .inr h2
      · rintro (h2 | h2)
        · have := top_ge h
          exact ⟨⟨h2.1, by omega⟩, .inl ⟨h2.1, by omega⟩⟩
        · have h3 := le_top (u := s.1) h.2.1 h2
          have h4 := h.2.2 x h2
          exact ⟨⟨by omega, by omega⟩, .inr h2⟩
  rw [memb_len, he, List.length_append]
  have : (upL s.1.toNat).length = s.1.toNat := by unfold upL; simp
  rw [this]
  omega

theorem holes_end {s : Int × List Int} (h : Ok s) (k : Nat) (hk : topOf s.1 s.2 = k) : (holesF s k : Int) = topOf s.1 s.2 - (s.1 + s.2.length) := by
  have h1 := holes_memb s k
  have h2 := memb_count h k (by omega)
  omega

theorem len_zero {s : Int × List Int} (h : Ok s) (k : Nat) (hk : topOf s.1 s.2 = k) : (((s.2.length : Int) == 0) == ((holesF s k : Int) == 0)) = true := by
  have he := holes_end h k hk
  rcases e : s.2 with _ | ⟨z, t⟩
  · have : holesF s k = 0 := by rw [e] at he; simp [topOf] at he; omega
    simp [this]
  · have hne : s.2 ≠ [] := by simp [e]
    have hl := sorted_len s.2 (s.1 + 1) (topOf s.1 s.2) h.2.1 (fun y hy => ⟨h.2.2 y hy, le_top h.2.1 hy⟩) (by have := h.2.2 _ (top_mem (u := s.1) hne); omega)
    have : 1 ≤ (holesF s k : Int) := by omega
    have h2 : ((holesF s k : Int) == 0) = false := by simp; omega
    rw [h2]
    simp
    omega

theorem first_small {s : Int × List Int} (h : Small s) : firstU s.1 = s.1 := by have := h.1.1; have := h.2.2.1; unfold firstU; omega
theorem first_within {s : Int × List Int} : withinF (s.1, []) s = true := by unfold withinF; simp
theorem has_next {s : Int × List Int} (h : Ok s) : hasOf s.1 s.2 (s.1 + 1) = false := by
  have := not_next h
  rw [← has_mem h] at this
  simpa using this

end Go.Proofs.Ythfdjebeblmmdaa.Sp

/- The library's Grow of no slice, its Concat of one, and span.Add of a number that can't be: a copy. -/
namespace Go.Proofs.Ythfdjebeblmmdaa.Sp
open Go.RowKit

/-- A row of the call's own, empty, with room. -/
def EmptyRow (w : World) (e : Ending) (w' : World) : Prop := ∃ A c, e = .returned (.slice A 0 c) ∧ w'.ownsRow w.heap.size 3 1 (.slice A 0 c) 0 (([] : List Int).map (.int .i64)) ∧ Below w.heap.size w w'

set_option maxRecDepth 100000 in
set_option maxHeartbeats 1000000 in
theorem grow_nil (n : Nat) (w : World) (hn : n ≤ 1073741824) : Calls Try.prog 90 #[.slice none 0 0, .int .i64 n] w (EmptyRow w) := by
  rcases Nat.eq_zero_or_pos n with h0 | h0
  · subst h0
    go_enter Try.func90, Try.ntmps90
    go_wp2
    go_ret
    exact ⟨none, 0, rfl, World.ownsRow_nil _ _ _ _, Below.refl _ _⟩
  · obtain ⟨i0, hi, hz0, hz1, hz2⟩ := info_parts Try.info3
    have hold : (Builtin.firstCells i0.size 0 (.slice none 0 0)).run Try.prog w.drew = .ok (([] : List Value).toArray) w.drew := run_firstCells_none w.drew i0.size 0 0 0
    have hrz : ∀ ty, (Builtin.append_ #[23, 3] ty #[.slice none 0 0, .int .i64 (n : Int)]).run Try.prog w =
        .ok (.slice (some ⟨w.heap.size, 0, none⟩) n (grownCap w n 0 3)) (w.drew.alloc (.cells (([] : List Value).toArray ++ Builtin.zeroCells (Value.int .i64 0).cells n ++ Builtin.zeroCells (Value.int .i64 0).cells (grownCap w n 0 3 - n)) 3)) := fun ty => by
      have h := Lib.run_append_grow_zeros (P := Try.prog) w 23 3 ty 3 i0 (.int .i64 0) .i64 .i64 Try.underlying23 Try.underlying3 hi hz0 none 0 0 [] hold n h0 (by omega) (by omega) (by omega) (by rw [hz2]; omega)
        (by rw [Nat.zero_add]; exact growslice_fits h0 (by rw [hz2]; omega))
      rw [Nat.zero_add] at h
      exact h
    have hG := grownCap_ge w n 0 3
    have hGm := grownCap_le_maxLen w n 0 3 (by unfold maxLen; omega)
    have hsz : (([] : List Value).toArray ++ Builtin.zeroCells (Value.int .i64 0).cells n ++ Builtin.zeroCells (Value.int .i64 0).cells (grownCap w n 0 3 - n)).size = grownCap w n 0 3 * 1 := by
      simp only [Array.size_append, size_zeroCells]
      simp [Value.cells]
      omega
    generalize hcs : ([] : List Value).toArray ++ Builtin.zeroCells (Value.int .i64 0).cells n ++ Builtin.zeroCells (Value.int .i64 0).cells (grownCap w n 0 3 - n) = cs at hrz hsz
    generalize hg : grownCap w n 0 3 = G at hrz hsz hG hGm
    clear hcs hg hold
    have HR := Lib.hid hrz
    have HSz := Lib.hid hsz
    clear hrz hsz
    have hp : (0 : Int) < n := by omega
    have hG63 : G ≤ 9223372036854775807 := by unfold maxLen at hGm; omega
    have HO : Hid ((w.drew.alloc (.cells cs 3)).ownsRow w.heap.size 3 1 (.slice (some ⟨w.heap.size, 0, none⟩) 0 G) 0 (([] : List Int).map (.int .i64))) :=
      ⟨rfl, .inr ⟨w.heap.size, G, cs, rfl, Nat.le_refl _, heap_alloc_new w.drew _, Nat.zero_le _, hGm, HSz.out, rfl⟩⟩
    go_enter Try.func90, Try.ntmps90
    go_wp2_with (at_builtin; refine Lib.wpList_append_run _ rfl _ _ _ _ rfl _ _ rfl rfl _ _ (HR.out _) ?_)
    all_goals
      go_ret
      exact ⟨_, _, rfl, HO.out, (Below.refl _ _).drew.alloc (by simp) _⟩

/-- A copy in a row of the call's own. -/
def CopyRow (zs : List Int) (w : World) (e : Ending) (w' : World) : Prop := ∃ A c, e = .returned (.slice A zs.length c) ∧ w'.ownsRow w.heap.size 3 1 (.slice A zs.length c) zs.length (zs.map (.int .i64)) ∧ Below w.heap.size w w'

set_option maxRecDepth 100000 in
set_option maxHeartbeats 2000000 in
theorem concat_one (g : Nat) (A : Option Addr) (c : Nat) (zs : List Int) (w : World) (hg : w.cell? ⟨g, 0, none⟩ = some (.slice A zs.length c)) (hgl : g < w.heap.size) (hz : IntsAt w w.heap.size A zs.length zs) (hn : zs.length ≤ 100000) :
    Calls Try.prog 80 #[.slice (some ⟨g, 0, none⟩) 1 1] w (CopyRow zs w) := by
  have HZ := Lib.hid hz
  clear hz
  have hnn : ¬ ((zs.length : Int) < 0) := by omega
  go_enter Try.func80, Try.ntmps80
  go_wp2
  go_loop [3, 11] (fun sz i => ∃ k : Nat, k ≤ 1 ∧ i = .int .i64 k ∧ sz = .int .i64 ((k * zs.length : Nat) : Int)) (fun _ i => 1 - (intOf i).toNat)
  case atStart => exact ⟨0, by omega, rfl, by simp⟩
  case round =>
    obtain ⟨k, hk, rfl, rfl⟩ := hrel
    rcases (show k = 0 ∨ k = 1 by omega) with rfl | rfl
    · rw [show ((0 * zs.length : Nat) : Int) = 0 by simp]
      go_wp2
      go_round
      case rel => exact ⟨1, by omega, rfl, by simp⟩
      case measure => simp [intOf]
    · rw [show ((1 * zs.length : Nat) : Int) = zs.length by simp]
      go_wp2_with fail
      refine (grow_nil zs.length _ (by omega)).mono ?_
      rintro e w1 ⟨A1, c1, rfl, hown1, hb1⟩
      have HO1 := Lib.hid hown1
      have HB1 := Lib.hid hb1
      have q0 := (hb1.cell (p := ⟨g, 0, none⟩) hgl).trans hg
      clear hown1 hb1
      go_wp2
      go_loopw [6, 27] (fun ns i wr => ∃ (k : Nat) (A2 : Option Addr) (c2 : Nat), k ≤ 1 ∧ i = .int .i64 k ∧ ns = .slice A2 (k * zs.length) c2 ∧ wr.cell? ⟨g, 0, none⟩ = some (.slice A zs.length c) ∧ Hid (wr.ownsRow w.heap.size 3 1 (.slice A2 (k * zs.length) c2) (k * zs.length) ((if k = 0 then ([] : List Int) else zs).map (.int .i64))) ∧ Hid (Below w.heap.size w wr)) (fun _ i _ => 1 - (intOf i).toNat)
      case atStart => exact ⟨0, A1, c1, by omega, rfl, by simp, q0, by simpa [Hid] using HO1.out, HB1.out⟩
      case round =>
        obtain ⟨k, A2, c2, hk, rfl, rfl, r0, HO2, HB2⟩ := hrel
        rcases (show k = 0 ∨ k = 1 by omega) with rfl | rfl
        · have HO2' : Hid (wr.ownsRow w.heap.size 3 1 (.slice A2 0 c2) 0 (([] : List Int).map (.int .i64))) := by have := HO2.out; simpa [Hid] using this
          rw [show 0 * zs.length = 0 by omega]
          go_wp2_with (at_builtin; refine wpList_append_ints (w := wr) (B := w.heap.size) (B' := w.heap.size) (v := .slice A2 0 c2) (n := 0) (zs := []) (A := A) (m := zs.length) (c := c) (ys := zs) rfl _ _ rfl rfl HO2'.out rfl (HZ.out.keep HB2.out) (by omega) HB2.out.size ?_; intro A3 c3 w3 hown3 hg3 _; have HO3 := Lib.hid hown3; have HB3 : Hid (Below w.heap.size w w3) := HB2.out.grown hg3 HB2.out.size (fun i hi => (HO2'.out.lt i hi).1); have s0 : w3.cell? ⟨g, 0, none⟩ = some (.slice A zs.length c) := (HB3.out.cell (p := ⟨g, 0, none⟩) hgl).trans hg; clear hown3 hg3)
          go_roundw
          case rel => exact ⟨1, A3, c3, by omega, rfl, by simp, s0, by simpa [Hid] using HO3.out, HB3⟩
          case measure => simp [intOf]
        · have HO2' : Hid (wr.ownsRow w.heap.size 3 1 (.slice A2 zs.length c2) zs.length (zs.map (.int .i64))) := by have := HO2.out; simpa [Hid] using this
          rw [show 1 * zs.length = zs.length by omega]
          go_wp2
          go_ret
          exact ⟨A2, c2, rfl, HO2'.out, HB2.out⟩
end Go.Proofs.Ythfdjebeblmmdaa.Sp

/- span.Add of a number that can't be: a copy. -/
namespace Go.Proofs.Ythfdjebeblmmdaa.Sp
open Go.RowKit

set_option maxRecDepth 100000 in
set_option maxHeartbeats 2000000 in
theorem add_no {s : Int × List Int} (A : Option Addr) (c : Nat) (m : Int) (w : World) (h : SpanIn w A c s) (hn : s.2.length ≤ 100000) (hm : m < 1 ∨ 1048576 < m) :
    Calls Try.prog 59 #[.agg #[.int .i64 s.1, .slice A s.2.length c], .int .i64 m] w (RetSpan s w) := by
  have HI := Lib.hid h
  clear h
  have hW : Below w.heap.size w (((w.alloc (Obj.cells #[Value.int IntKind.i64 s.1, Value.slice A s.2.length c] 44)).alloc (Obj.cells #[Value.int IntKind.i64 0, Value.slice none 0 0] 44)).alloc (Obj.cells #[Value.slice A s.2.length c] 23)).drew := ((((Below.refl _ _).alloc (Nat.le_refl _) _).alloc (by simp) _).alloc (by simp; omega) _).drew
  have HW := Lib.hid hW
  have HZ : Hid (IntsAt (((w.alloc (Obj.cells #[Value.int IntKind.i64 s.1, Value.slice A s.2.length c] 44)).alloc (Obj.cells #[Value.int IntKind.i64 0, Value.slice none 0 0] 44)).alloc (Obj.cells #[Value.slice A s.2.length c] 23)).drew w.heap.size A s.2.length s.2) := HI.out.1.keep hW
  clear hW
  have key : ∀ (P : Prop), P → P := fun _ h => h
  clear key
  rcases hm with hm | hm
  all_goals
    go_enter Try.func59, Try.ntmps59
    go_wp2_with fail
    go_region_law
      (first
        | (go_simp
           go_at_call 80
           refine (concat_one (w.heap.size + 2) A c s.2 _ ?_ ?_ ?_ hn).mono ?_
           · simp [go_sem]
           · simp
           · exact HZ.out.more (by simp; omega)
           rintro e w1 ⟨A1, c1, rfl, hown, hb⟩
           have k00 : w1.cell? ⟨w.heap.size, 0, none⟩ = some (.int .i64 s.1) := (hb.cell (by simp; omega)).trans (by simp [go_sem])
           have k10 : w1.cell? ⟨w.heap.size + 1, 0, none⟩ = some (.int .i64 0) := (hb.cell (by simp)).trans (by simp [go_sem])
           have k11 : w1.cell? ⟨w.heap.size + 1, 1, none⟩ = some (.slice none 0 0) := (hb.cell (by simp)).trans (by simp [go_sem])
           have f10 : w1.frozen? ⟨w.heap.size + 1, 0, none⟩ = false := (hb.frozen (by simp)).trans (by simp [go_sem])
           have f11 : w1.frozen? ⟨w.heap.size + 1, 1, none⟩ = false := (hb.frozen (by simp)).trans (by simp [go_sem])
           have HB1 : Hid (Below w.heap.size w w1) := HW.out.trans (hb.mono (by simp; omega))
           have HO1 : Hid (w1.ownsRow (w.heap.size + 3) 3 1 (.slice A1 s.2.length c1) s.2.length (s.2.map (.int .i64))) := own_base hown (by simp)
           clear hown hb))
    all_goals
      go_wp2
      refine bodyPost_ret (v := .agg #[.int .i64 s.1, .slice A1 s.2.length c1]) ?_ rfl ?_
      · simp [results, Try.results59, go_sem, k10, k11]
      · have hn4 : Value.ownBlock (.slice A1 s.2.length c1) ≠ some (w.heap.size + 1) := fun e => by have := (HO1.out.lt _ e).1; omega
        exact ret_of_own (ownSpan_of rfl rfl (own_base (own_setCell (own_setCell HO1.out (p := ⟨w.heap.size + 1, 0, none⟩) hn4 _) (p := ⟨w.heap.size + 1, 1, none⟩) hn4 _) (by omega)) (grown_of_below ((HB1.out.setCell (by simp) _).setCell (by simp) _) _) (lies_own HO1.out (by omega)))

def addF (s : Int × List Int) (m : Int) : Int × List Int := if m < 1 ∨ 1048576 < m then s else unionF s (0, [m])

theorem cAddAny {W : World} {A : Option Addr} {c : Nat} {s : Int × List Int} (h : SpanIn W A c s) (hn : s.2.length ≤ 100000) (m : Int) : Calls Try.prog 59 #[.agg #[.int .i64 s.1, .slice A s.2.length c], .int .i64 m] W (RetSpan (addF s m) W) := by
  unfold addF
  split
  · rename_i hm; exact add_no A c m W h hn hm
  · exact cAdd h hn m (by omega) (by omega)
theorem addF_ref {s : Int × List Int} (h : Ok s) (hb : s.1 ≤ 1048576) (m : Int) : addF s m = refAddF s m := by
  unfold addF
  split
  · rename_i hm
    unfold refAddF
    rw [if_pos (by rcases hm with hm | hm; exact .inl hm; exact .inr (.inl hm))]
  · exact add_eq h hb (by omega) (by omega)
end Go.Proofs.Ythfdjebeblmmdaa.Sp
