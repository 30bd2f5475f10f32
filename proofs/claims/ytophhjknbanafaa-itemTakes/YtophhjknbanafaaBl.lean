/- The document's Reader: Num, Text, End. -/
import Derived.Test.YtophhjknbanafaaBe
import Derived.Deep.CutBlock
import Derived.Deep.DeepCutAuto
namespace Go.Proofs.Ytophhjknbanafaa
open Go.RowKit

/-- The document's Reader: all bytes, how many are taken, what was wrong first. -/
structure Rf where
  B : List UInt8
  at' : Nat
  bad : Nat
def Rf.rd (s : Rf) : Rd := (s.B.drop s.at', s.bad)

/-- In w there is the document's Reader in the block Q, whose bytes lie in the block g. -/
structure RefAt (w : World) (Q g : Nat) (s : Rf) : Prop where
  ne : s.B ≠ [] → g ≠ Q
  lt : Q < w.heap.size
  le : s.at' ≤ s.B.length
  f1 : w.frozen? ⟨Q, 1, none⟩ = false
  f2 : w.frozen? ⟨Q, 2, none⟩ = false
  c1 : w.cell? ⟨Q, 1, none⟩ = some (.int .i64 (s.at' : Int))
  c2 : w.cell? ⟨Q, 2, none⟩ = some (.int .i64 (s.bad : Int))
  c0 : ∃ A c, w.cell? ⟨Q, 0, none⟩ = some (.slice A s.B.length c) ∧ BytesAt w g A s.B.length s.B ∧ s.B.length ≤ c ∧ c ≤ 9223372036854775807 ∧ s.B.length ≤ 1000000

theorem RefAt.keep {w w' : World} {Q g : Nat} {s : Rf} (h : RefAt w Q g s) (hb : Below w.heap.size w w') : RefAt w' Q g s := by
  obtain ⟨A, c, h0, hz, r⟩ := h.c0
  exact ⟨h.ne, Nat.lt_of_lt_of_le h.lt hb.size, h.le, (hb.frozen (p := ⟨Q, 1, none⟩) h.lt).trans h.f1, (hb.frozen (p := ⟨Q, 2, none⟩) h.lt).trans h.f2, (hb.cell (p := ⟨Q, 1, none⟩) h.lt).trans h.c1, (hb.cell (p := ⟨Q, 2, none⟩) h.lt).trans h.c2, A, c, (hb.cell (p := ⟨Q, 0, none⟩) h.lt).trans h0, hz.keep hb, r⟩
theorem RefAt.other {w w' : World} {Q g R' : Nat} {s : Rf} (h : RefAt w Q g s) (hg : w.grownBy w' (some R')) (h1 : Q ≠ R') (h2 : s.B ≠ [] → g ≠ R') : RefAt w' Q g s := by
  obtain ⟨A, c, h0, hz, r⟩ := h.c0
  have hb := hg.block Q h.lt (fun e => by injection e with e; exact h1 e)
  refine ⟨h.ne, Nat.lt_of_lt_of_le h.lt hg.size, h.le, (World.frozen?_of_block (a := ⟨Q, 1, none⟩) hb).trans h.f1, (World.frozen?_of_block (a := ⟨Q, 2, none⟩) hb).trans h.f2, (World.cell?_of_block (a := ⟨Q, 1, none⟩) hb).trans h.c1, (World.cell?_of_block (a := ⟨Q, 2, none⟩) hb).trans h.c2, A, c, (World.cell?_of_block (a := ⟨Q, 0, none⟩) hb).trans h0, hz.grown hg (fun hn e => ?_), r⟩
  injection e with e
  exact h2 (by intro e; rw [e] at hn; simp at hn) e.symm
theorem RefAt.setBad {w : World} {Q g : Nat} {s : Rf} (h : RefAt w Q g s) (e : Nat) : RefAt (w.setCell ⟨Q, 2, none⟩ (.int .i64 (e : Int))) Q g ⟨s.B, s.at', e⟩ := by
  obtain ⟨A, c, h0, hz, r⟩ := h.c0
  have hc1 := h.c1
  have hc2 := h.c2
  have hf1 := h.f1
  have hf2 := h.f2
  refine ⟨h.ne, by simpa [World.setCell] using h.lt, h.le, by simpa [go_sem] using hf1, by simpa [go_sem] using hf2, by simp [go_sem, hc1], by simp [go_sem, hc2], A, c, by simp [go_sem, h0], hz.grown (grown_set _) (fun hn e => ?_), r⟩
  injection e with e
  exact h.ne (by intro e; rw [e] at hn; simp at hn) e.symm
theorem RefAt.setAt {w : World} {Q g : Nat} {s : Rf} (h : RefAt w Q g s) (k : Nat) (hk : k ≤ s.B.length) : RefAt (w.setCell ⟨Q, 1, none⟩ (.int .i64 (k : Int))) Q g ⟨s.B, k, s.bad⟩ := by
  obtain ⟨A, c, h0, hz, r⟩ := h.c0
  have hc1 := h.c1
  have hc2 := h.c2
  have hf1 := h.f1
  have hf2 := h.f2
  refine ⟨h.ne, by simpa [World.setCell] using h.lt, hk, by simpa [go_sem] using hf1, by simpa [go_sem] using hf2, by simp [go_sem, hc1], by simp [go_sem, hc2], A, c, by simp [go_sem, h0], hz.grown (grown_set _) (fun hn e => ?_), r⟩
  injection e with e
  exact h.ne (by intro e; rw [e] at hn; simp at hn) e.symm

/-- The document's Reader has gone on, as the program's does. -/
def RefRet (v : Value) (Q g : Nat) (B : List UInt8) (st : Rd) (w : World) (e : Ending) (w' : World) : Prop := e = .returned v ∧ (∃ s : Rf, s.B = B ∧ s.rd = st ∧ RefAt w' Q g s) ∧ w.grownBy w' (some Q)

theorem RefAt.same {w w' : World} {Q g : Nat} {s : Rf} (h : RefAt w Q g s) (hb : w'.heap = w.heap) : RefAt w' Q g s := by
  have hk : ∀ k : Nat, w'.heap[k]? = w.heap[k]? := fun k => by rw [hb]
  obtain ⟨A, c, h0, hz, r⟩ := h.c0
  exact ⟨h.ne, by rw [hb]; exact h.lt, h.le, (World.frozen?_of_block (a := ⟨Q, 1, none⟩) (hk Q)).trans h.f1, (World.frozen?_of_block (a := ⟨Q, 2, none⟩) (hk Q)).trans h.f2, (World.cell?_of_block (a := ⟨Q, 1, none⟩) (hk Q)).trans h.c1, (World.cell?_of_block (a := ⟨Q, 2, none⟩) (hk Q)).trans h.c2, A, c, (World.cell?_of_block (a := ⟨Q, 0, none⟩) (hk Q)).trans h0, hz.hold (hk g), r⟩
theorem grown_drew {w wr W : World} {row : Option Nat} (h : w.grownBy wr row) (hs : W.os = wr.os ∧ W.tape = wr.tape ∧ W.output = wr.output ∧ W.heap = wr.heap) : w.grownBy W row := by
  obtain ⟨h1, h2, h3, h4⟩ := hs
  exact ⟨h1.trans h.os, h2.trans h.tape, h3.trans h.output, by rw [h4]; exact h.size, fun k hk hne => by rw [h4]; exact h.block k hk hne⟩

theorem RefAt.badAt {wr W : World} {Q g : Nat} {s : Rf} (h : RefAt wr Q g s) {e : Nat} {v : Int} (hv : v = (e : Int)) (hb : W.heap = wr.heap) : RefAt (W.setCell ⟨Q, 2, none⟩ (.int .i64 v)) Q g ⟨s.B, s.at', e⟩ := by subst hv; exact (h.same hb).setBad e
theorem RefAt.goneAt {wr W : World} {Q g : Nat} {s : Rf} (h : RefAt wr Q g s) {k : Nat} {v : Int} (hv : v = (k : Int)) (hk : k ≤ s.B.length) (hb : W.heap = wr.heap) : RefAt (W.setCell ⟨Q, 1, none⟩ (.int .i64 v)) Q g ⟨s.B, k, s.bad⟩ := by subst hv; exact (h.same hb).setAt k hk
theorem grown_cellOf {w wr W : World} {Q i : Nat} (h : w.grownBy wr (some Q)) {v : Value} (hs : W.os = wr.os ∧ W.tape = wr.tape ∧ W.output = wr.output ∧ W.heap = wr.heap) : w.grownBy (W.setCell ⟨Q, i, none⟩ v) (some Q) := (grown_drew h hs).trans (grown_set _)

set_option maxRecDepth 100000 in
set_option maxHeartbeats 4000000 in
theorem refNum_any {Q g : Nat} {s : Rf} (most : Int) (w : World) (h : RefAt w Q g s) :
    Calls Try.prog 48 #[.pointer (some ⟨Q, 0, none⟩), .int .i64 most] w (RefRet (.int .i64 (numF s.rd most).1) Q g s.B (numF s.rd most).2 w) := by
  obtain ⟨A, c, h0, hz, hlc, hc63, hl⟩ := h.c0
  have c1 := h.c1
  have c2 := h.c2
  have f1 := h.f1
  have f2 := h.f2
  have hle := h.le
  have HR := Lib.hid h
  have HZ := Lib.hid hz
  clear h hz
  by_cases hbad : s.bad = 0
  · have HN : Hid (numF s.rd most = if (firstF s.rd.1 0 0).2.2 ≠ 0 then (0, (s.rd.1, (firstF s.rd.1 0 0).2.2)) else
      if most < ((firstF s.rd.1 0 0).1 : Int) then (0, (s.rd.1, 3)) else (((firstF s.rd.1 0 0).1 : Int), (s.rd.1.drop (firstF s.rd.1 0 0).2.1, 0))) := by
      show _ = _
      unfold numF
      rw [if_neg (by show ¬ s.bad ≠ 0; simp [hbad])]
    generalize numF s.rd most = N at HN ⊢
    obtain ⟨T, hT⟩ : ∃ T, T = firstF s.rd.1 0 0 := ⟨_, rfl⟩
    rw [← hT] at HN
    have HT := Lib.hid hT
    clear hT
    rw [hbad] at c2
    go_enter Try.func48, Try.ntmps48
    go_wp2
    go_loopw [5, 6, 7] (fun a p i wr => ∃ (k acc : Nat) (pv : Int), i = .int .i64 k ∧ a = .int .i64 acc ∧ p = .int .i64 pv ∧ k ≤ 9 ∧ Hid (k ≤ 8 → pv = ((128 ^ k : Nat) : Int)) ∧ Hid (k ≤ 8 ∧ acc < 128 ^ k ∧ firstF (s.rd.1.drop k) k acc = T ∨ k = 9 ∧ T = (0, 0, 3)) ∧ acc ≤ 9223372036854775807 ∧ Hid (RefAt wr Q g s) ∧ Hid (w.grownBy wr (some Q))) (fun _ _ i _ => 10 - (intOf i).toNat)
    case atStart => exact ⟨0, 0, 1, rfl, rfl, rfl, by omega, fun _ => rfl, .inl ⟨by omega, by simp, HT.out.symm⟩, by omega, HR, World.grownBy.refl _ _⟩
    case round =>
      clear h0 c1 c2 f1 f2 HR HZ
      obtain ⟨k, acc, pv, rfl, rfl, rfl, hk9, HP, HF, hac, HR, HG⟩ := hrel
      obtain ⟨A, c, h0, hz, hlc, hc63, hl⟩ := HR.out.c0
      have c1 := HR.out.c1
      have c2 := HR.out.c2
      have f1 := HR.out.f1
      have f2 := HR.out.f2
      have HZ := Lib.hid hz
      clear hz
      rcases HF.out with ⟨hk8, ha, hf⟩ | ⟨rfl, rfl⟩
      · have HF2 := Lib.hid hf
        have hp := HP.out hk8
        subst hp
        clear HF HP hf
        have q10 : (k : Int) < 10 := by omega
        have q9 : ((k : Int) == 9) = false := by simp; omega
        by_cases hat : s.B.length ≤ s.at' + k
        · have q1 : (s.B.length : Int) ≤ s.at' + k := by omega
          have hnil : s.rd.1.drop k = [] := by
            show (s.B.drop s.at').drop k = []
            rw [List.drop_drop]
            exact List.drop_eq_nil_of_le (by omega)
          rw [hnil] at HF2
          unfold firstF at HF2
          rw [← HF2.out] at HN
          clear hnil
          generalize ((128 ^ k : Nat) : Int) = pv at *
          go_wp2
          go_quiet (fail)
          go_wp2
          go_ret
          rw [HN.out]
          exact ⟨rfl, ⟨⟨s.B, s.at', 2⟩, rfl, rfl, HR.out.badAt (by rfl) (by rfl)⟩, grown_cellOf HG.out (by exact ⟨rfl, rfl, rfl, rfl⟩)⟩
        · have q1 : ¬ ((s.B.length : Int) ≤ s.at' + k) := by omega
          have q1' : (s.at' : Int) + k < s.B.length := by omega
          obtain ⟨off, rfl, hcc⟩ := HZ.out.2 (by omega)
          have hcb := hcc (s.at' + k) (by omega)
          have hdr : s.rd.1.drop k = s.B.getD (s.at' + k) 0 :: s.rd.1.drop (k + 1) := by
            show (s.B.drop s.at').drop k = _ :: (s.B.drop s.at').drop (k + 1)
            rw [List.drop_drop, List.drop_drop, List.drop_eq_getElem_cons (by omega)]
            simp [List.getD_eq_getElem?_getD, List.getElem?_eq_getElem (show s.at' + k < s.B.length by omega), Nat.add_assoc]
          rw [hdr] at HF2
          unfold firstF at HF2
          have hd : (s.B.getD (s.at' + k) 0).toNat < 256 := (s.B.getD (s.at' + k) 0).toNat_lt
          clear hdr hcc
          generalize (s.B.getD (s.at' + k) 0).toNat = d at *
          obtain ⟨x, hx⟩ : ∃ x, x = d % 128 * 128 ^ k := ⟨_, rfl⟩
          have ha2 : acc + x < 128 ^ (k + 1) := by
            rw [hx, Nat.pow_succ]
            have h2 : d % 128 * 128 ^ k ≤ 127 * 128 ^ k := Nat.mul_le_mul_right _ (by omega)
            omega
          have hb : acc + x ≤ 9223372036854775807 := by
            have h2 : 128 ^ (k + 1) ≤ 128 ^ 9 := Nat.pow_le_pow_right (by omega) (by omega)
            have h3 : (128 : Nat) ^ 9 = 9223372036854775808 := by decide
            omega
          have hP8 : 128 ^ k ≤ 72057594037927936 := by
            have h2 : 128 ^ k ≤ 128 ^ 8 := Nat.pow_le_pow_right (by omega) (by omega)
            have h3 : (128 : Nat) ^ 8 = 72057594037927936 := by decide
            omega
          have hP7 : k < 8 → 128 ^ k * 128 ≤ 72057594037927936 := by
            intro hk7
            have h2 : 128 ^ (k + 1) ≤ 128 ^ 8 := Nat.pow_le_pow_right (by omega) (by omega)
            have h3 : (128 : Nat) ^ 8 = 72057594037927936 := by decide
            rw [Nat.pow_succ] at h2
            omega
          have HPS : Hid (((128 ^ (k + 1) : Nat) : Int) = ((128 ^ k : Nat) : Int) * 128) := by show _ = _; rw [Nat.pow_succ]; omega
          have HA2 := Lib.hid ha2
          rw [← hx] at HF2
          clear ha ha2
          generalize 128 ^ k = P at *
          have hxe : (d : Int) % 128 * (P : Int) = (x : Int) := by rw [hx]; push_cast; rfl
          have HXX := Lib.hid hx
          clear hx
          by_cases h128 : 128 ≤ d
          · rw [if_pos h128] at HF2
            have q2 : (128 : Int) ≤ d := by omega
            by_cases hk7 : k < 8
            · rw [if_neg (by omega)] at HF2
              have hP7' := hP7 hk7
              have hP7'' : (P : Int) * 128 ≤ 72057594037927936 := by omega
              go_wp2
              go_quiet (fail)
              go_wp2
              go_quiet (fail)
              go_wp2
              go_roundw
              case rel => exact ⟨k + 1, acc + x, P * 128, by go_num, by go_num, rfl, by omega, fun _ => HPS.out.symm, .inl ⟨by omega, HA2.out, HF2.out⟩, hb, HR.out.same rfl, grown_drew HG.out ⟨rfl, rfl, rfl, rfl⟩⟩
              case measure => simp [intOf]; omega
            · obtain rfl : k = 8 := by omega
              rw [if_pos rfl] at HF2
              go_wp2
              go_quiet (fail)
              go_wp2
              go_quiet (fail)
              go_wp2
              go_roundw
              case rel => exact ⟨9, acc + x, _, by go_num, by go_num, rfl, by omega, (fun h => absurd h (by omega)), .inr ⟨rfl, HF2.out.symm⟩, hb, HR.out.same rfl, grown_drew HG.out ⟨rfl, rfl, rfl, rfl⟩⟩
              case measure => simp [intOf]
          · rw [if_neg h128] at HF2
            have q2 : ¬ ((128 : Int) ≤ d) := by omega
            by_cases hz0 : d = 0 ∧ 0 < k
            · rw [if_pos hz0] at HF2
              have q3 : ((d : Int) == 0) = true := by simpa using hz0.1
              have q4 : (0 : Int) < k := by omega
              rw [← HF2.out] at HN
              clear hz0
              go_wp2
              go_quiet (fail)
              go_wp2
              go_quiet (fail)
              go_wp2
              go_ret
              rw [HN.out]
              exact ⟨rfl, ⟨⟨s.B, s.at', 3⟩, rfl, rfl, HR.out.badAt (by rfl) (by rfl)⟩, grown_cellOf HG.out (by exact ⟨rfl, rfl, rfl, rfl⟩)⟩
            · rw [if_neg hz0] at HF2
              rw [← HF2.out] at HN
              simp only [ne_eq, not_true_eq_false, if_false] at HN
              have HRD : Hid (Rf.rd ⟨s.B, s.at' + (k + 1), s.bad⟩ = (s.rd.1.drop (k + 1), 0)) := by
                show (s.B.drop (s.at' + (k + 1)), s.bad) = ((s.B.drop s.at').drop (k + 1), 0)
                rw [List.drop_drop, hbad]
              by_cases hd0 : d = 0
              · have q3 : ((d : Int) == 0) = true := by simpa using hd0
                have q4 : ¬ ((0 : Int) < k) := by omega
                clear hd0 hz0
                by_cases hm : most < ((acc + x : Nat) : Int)
                · rw [if_pos hm] at HN
                  have hm' : most < (acc : Int) + x := by omega
                  go_wp2
                  go_quiet (fail)
                  go_wp2
                  go_quiet (fail)
                  go_wp2
                  go_ret
                  rw [HN.out]
                  exact ⟨rfl, ⟨⟨s.B, s.at', 3⟩, rfl, rfl, HR.out.badAt (by rfl) (by rfl)⟩, grown_cellOf HG.out (by exact ⟨rfl, rfl, rfl, rfl⟩)⟩
                · rw [if_neg hm] at HN
                  have hm' : ¬ (most < (acc : Int) + x) := by omega
                  go_wp2
                  go_quiet (fail)
                  go_wp2
                  go_quiet (fail)
                  go_wp2
                  go_ret
                  rw [HN.out]
                  exact ⟨rfl, ⟨⟨s.B, s.at' + (k + 1), s.bad⟩, rfl, HRD.out, HR.out.goneAt (by push_cast; omega) (by omega) (by rfl)⟩, grown_cellOf HG.out (by exact ⟨rfl, rfl, rfl, rfl⟩)⟩
              · have q3 : ((d : Int) == 0) = false := by simpa using hd0
                clear hd0 hz0
                by_cases hm : most < ((acc + x : Nat) : Int)
                · rw [if_pos hm] at HN
                  have hm' : most < (acc : Int) + x := by omega
                  go_wp2
                  go_quiet (fail)
                  go_wp2
                  go_quiet (fail)
                  go_wp2
                  go_ret
                  rw [HN.out]
                  exact ⟨rfl, ⟨⟨s.B, s.at', 3⟩, rfl, rfl, HR.out.badAt (by rfl) (by rfl)⟩, grown_cellOf HG.out (by exact ⟨rfl, rfl, rfl, rfl⟩)⟩
                · rw [if_neg hm] at HN
                  have hm' : ¬ (most < (acc : Int) + x) := by omega
                  go_wp2
                  go_quiet (fail)
                  go_wp2
                  go_quiet (fail)
                  go_wp2
                  go_ret
                  rw [HN.out]
                  exact ⟨rfl, ⟨⟨s.B, s.at' + (k + 1), s.bad⟩, rfl, HRD.out, HR.out.goneAt (by push_cast; omega) (by omega) (by rfl)⟩, grown_cellOf HG.out (by exact ⟨rfl, rfl, rfl, rfl⟩)⟩
      · have q10 : ((9 : Nat) : Int) < 10 := by omega
        clear HF HP
        go_wp2
        go_ret
        rw [HN.out]
        exact ⟨rfl, ⟨⟨s.B, s.at', 3⟩, rfl, rfl, HR.out.setBad 3⟩, HG.out.trans (grown_set _)⟩
  · have HN : Hid (numF s.rd most = (0, s.rd)) := by
      show _ = _
      unfold numF
      rw [if_pos (by exact hbad)]
    generalize numF s.rd most = N at HN ⊢
    have h3 : ((s.bad : Int) != 0) = true := by simpa using hbad
    go_enter Try.func48, Try.ntmps48
    go_wp2
    go_ret
    rw [HN.out]
    exact ⟨rfl, ⟨s, rfl, rfl, HR.out⟩, World.grownBy.refl _ _⟩

end Go.Proofs.Ytophhjknbanafaa
