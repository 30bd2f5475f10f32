/- WireReads, walked. -/
import Derived.Test.YtekoedjadkglcaaBo
import Derived.Test.YtekoedjadkglcaaBh
namespace Go.Proofs.Ytekoedjadkglcaa
open Go.RowKit

theorem below_via {B : Nat} {a w W w1 : World} (h : Below B a w) (hb : Below W.heap.size W w1) (hB : B ≤ w.heap.size) (hs : W.os = w.os ∧ W.tape = w.tape ∧ W.output = w.output ∧ W.heap = w.heap) : Below B a w1 := by
  obtain ⟨h1, h2, h3, h4⟩ := hs
  exact ⟨hb.os.trans (h1.trans h.os), hb.tape.trans (h2.trans h.tape), hb.output.trans (h3.trans h.output), Nat.le_trans h.size (by rw [← h4]; exact hb.size), fun k hk => (hb.block k (by rw [h4]; omega)).trans (by rw [h4]; exact h.block k hk)⟩
theorem new_ref {w : World} {A : Option Addr} {c g : Nat} {zs : List UInt8} {e : TypeId} (hz : BytesAt w g A zs.length zs) (hlc : zs.length ≤ c) (hc : c ≤ 9223372036854775807) (hl : zs.length ≤ 1000000) :
    RefAt (w.alloc (.cells #[.slice A zs.length c, .int .i64 0, .int .i64 0] e)) w.heap.size g ⟨zs, 0, 0⟩ := by
  have hbel : Below w.heap.size w (w.alloc (.cells #[.slice A zs.length c, .int .i64 0, .int .i64 0] e)) := (Below.refl _ _).alloc (Nat.le_refl _) _
  refine ⟨fun h e => ?_, by simp, Nat.zero_le _, by simp [go_sem], by simp [go_sem], by simp [go_sem], by simp [go_sem], A, c, by simp [go_sem], hz.keep hbel, hlc, hc, hl⟩
  have := hz.lt (List.length_pos_iff.mpr h)
  omega
/-- What stays between the two Readers, and the first copy. -/
structure Two (w wr : World) (R rg Q qg g1 : Nat) (A1 : Option Addr) (zs : List UInt8) (st : Rd) : Prop where
  r : ReaderAt wr R rg st
  q : ∃ s : Rf, s.B = zs ∧ s.rd = st ∧ RefAt wr Q qg s
  z : BytesAt wr g1 A1 zs.length zs
  b : Below w.heap.size w wr
  apart : R ≠ Q ∧ (zs ≠ [] → rg ≠ Q ∧ qg ≠ R ∧ g1 ≠ R ∧ g1 ≠ Q) ∧ w.heap.size ≤ R ∧ w.heap.size ≤ Q
theorem Two.same {w wr W : World} {R rg Q qg g1 : Nat} {A1 : Option Addr} {zs : List UInt8} {st : Rd} (h : Two w wr R rg Q qg g1 A1 zs st) (hs : W.os = wr.os ∧ W.tape = wr.tape ∧ W.output = wr.output ∧ W.heap = wr.heap) : Two w W R rg Q qg g1 A1 zs st := by
  obtain ⟨h1, h2, h3, h4⟩ := hs
  have hb : Below wr.heap.size wr W := ⟨h1, h2, h3, by rw [h4]; exact Nat.le_refl _, fun k _ => by rw [h4]⟩
  obtain ⟨s, e1, e2, hq⟩ := h.q
  exact ⟨h.r.keep hb, ⟨s, e1, e2, hq.keep hb⟩, h.z.keep hb, h.b.trans (hb.mono h.b.size), h.apart⟩
theorem Two.nil {w wr : World} {R rg Q qg g1 : Nat} {A1 : Option Addr} {zs : List UInt8} {st : Rd} (h : Two w wr R rg Q qg g1 A1 zs st) : st.1 ≠ [] → zs ≠ [] := by
  obtain ⟨s, e1, e2, _⟩ := h.q
  rintro hn rfl
  apply hn
  rw [← e2]
  show s.B.drop s.at' = []
  rw [e1]; simp
/-- Between the two calls of a round: the program's Reader has gone on, the document's has not yet. -/
structure Mid (w wr : World) (R rg Q qg g1 : Nat) (A1 : Option Addr) (zs : List UInt8) (st st' : Rd) : Prop where
  r : ReaderAt wr R rg st'
  q : ∃ s : Rf, s.B = zs ∧ s.rd = st ∧ RefAt wr Q qg s
  z : BytesAt wr g1 A1 zs.length zs
  b : Below w.heap.size w wr
  apart : R ≠ Q ∧ (zs ≠ [] → rg ≠ Q ∧ qg ≠ R ∧ g1 ≠ R ∧ g1 ≠ Q) ∧ w.heap.size ≤ R ∧ w.heap.size ≤ Q
theorem num_rest {st : Rd} {mo : Int} (h : (numF st mo).2.1 ≠ []) : st.1 ≠ [] := by
  intro e
  apply h
  unfold numF
  split
  · exact e
  · split
    · exact e
    · split
      · exact e
      · show st.1.drop _ = []
        rw [e]; simp
theorem text_rest {st : Rd} {mo : Int} (h : (textF st mo).2.1 ≠ []) : st.1 ≠ [] := by
  apply num_rest (mo := mo)
  intro e
  apply h
  unfold textF
  split
  · exact e
  · split
    · exact e
    · show (numF st mo).2.1.drop _ = []
      rw [e]; simp
theorem pos_ne {zs : List UInt8} (h : 0 < zs.length) : zs ≠ [] := by rintro rfl; simp at h
theorem Two.mid {w wr W w1 : World} {R rg Q qg g1 : Nat} {A1 : Option Addr} {zs : List UInt8} {st st' : Rd} (h : Two w wr R rg Q qg g1 A1 zs st) (hR : ReaderAt w1 R rg st') (hg : W.grownBy w1 (some R)) (hs : W.os = wr.os ∧ W.tape = wr.tape ∧ W.output = wr.output ∧ W.heap = wr.heap) : Mid w w1 R rg Q qg g1 A1 zs st st' := by
  have h' := h.same hs
  obtain ⟨s, e1, e2, hq⟩ := h'.q
  obtain ⟨a1, a2, a3, a4⟩ := h'.apart
  exact ⟨hR, ⟨s, e1, e2, hq.other hg (fun e => a1 e.symm) (fun hn => by rw [e1] at hn; exact (a2 hn).2.1)⟩, h'.z.grown hg (fun hn e => by injection e with e; exact (a2 (pos_ne hn)).2.2.1 e.symm), below_other h'.b hg h'.b.size a3, h'.apart⟩
theorem Mid.same {w wr W : World} {R rg Q qg g1 : Nat} {A1 : Option Addr} {zs : List UInt8} {st st' : Rd} (h : Mid w wr R rg Q qg g1 A1 zs st st') (hs : W.os = wr.os ∧ W.tape = wr.tape ∧ W.output = wr.output ∧ W.heap = wr.heap) : Mid w W R rg Q qg g1 A1 zs st st' := by
  obtain ⟨h1, h2, h3, h4⟩ := hs
  have hb : Below wr.heap.size wr W := ⟨h1, h2, h3, by rw [h4]; exact Nat.le_refl _, fun k _ => by rw [h4]⟩
  obtain ⟨s, e1, e2, hq⟩ := h.q
  exact ⟨h.r.keep hb, ⟨s, e1, e2, hq.keep hb⟩, h.z.keep hb, h.b.trans (hb.mono h.b.size), h.apart⟩
theorem Mid.two {w wr W w1 : World} {R rg Q qg g1 : Nat} {A1 : Option Addr} {zs : List UInt8} {st st' : Rd} (h : Mid w wr R rg Q qg g1 A1 zs st st') (hnil : st'.1 ≠ [] → zs ≠ []) (hq : ∃ s : Rf, s.B = zs ∧ s.rd = st' ∧ RefAt w1 Q qg s) (hg : W.grownBy w1 (some Q)) (hs : W.os = wr.os ∧ W.tape = wr.tape ∧ W.output = wr.output ∧ W.heap = wr.heap) : Two w w1 R rg Q qg g1 A1 zs st' := by
  have h' := h.same hs
  obtain ⟨a1, a2, a3, a4⟩ := h'.apart
  exact ⟨h'.r.other hg a1 (fun hn => (a2 (hnil hn)).1), hq, h'.z.grown hg (fun hn e => by injection e with e; exact (a2 (pos_ne hn)).2.2.2 e.symm), below_other h'.b hg h'.b.size a4, h'.apart⟩

set_option maxRecDepth 100000 in
set_option maxHeartbeats 8000000 in
theorem wireReads_walk (A : Option Addr) (n c g : Nat) (bs : List UInt8) (Al : Option Addr) (m cl gl : Nat) (ts : Nat → Bool × Int) (w : World) (hz : BytesAt w g A n bs) (hc : n ≤ c) (hn : c ≤ 9223372036854775807) (ht : ThingsAt w gl Al m ts) (hmc : m ≤ cl) (hmm : cl ≤ 9223372036854775807) :
    Calls Try.prog 3 #[.slice A n c, .slice Al m cl] w fun e w' => e = .returned (.bool true) ∧ Below w.heap.size w w' := by
  have HT := Lib.hid ht
  have hm : m ≤ 9223372036854775807 := by omega
  clear ht hmc hmm
  go_enter Try.func3, Try.ntmps3
  go_upto_region 1 with fail
  go_cut [0] (fun b wr => ∃ (zs : List UInt8), b = .slice A zs.length c ∧ zs.length ≤ 300 ∧ zs.length ≤ c ∧ w = wr ∧ Hid (BytesAt w g A zs.length zs))
  case first =>
    by_cases h3 : 300 < n
    · have h3' : (300 : Int) < n := by omega
      have HZ : Hid (BytesAt w g A 300 (bs.take 300)) := hz.take 300 (by omega)
      have hl : (bs.take 300).length = 300 := HZ.out.1
      have HL := Lib.hid hl
      clear hz hl
      go_wp2
      go_meet
      case rel => exact ⟨bs.take 300, by rw [HL.out], by rw [HL.out]; omega, by rw [HL.out]; omega, rfl, by rw [HL.out]; exact HZ⟩
    · have h3' : ¬ ((300 : Int) < n) := by omega
      have HZ := Lib.hid hz
      have HL := Lib.hid hz.1
      clear hz
      go_wp2
      go_meet
      case rel => exact ⟨bs, by rw [HL.out], by rw [HL.out]; omega, by rw [HL.out]; omega, rfl, by rw [HL.out]; exact HZ⟩
  case rest =>
    obtain ⟨zs, rfl, hz3, hzc, rfl, HZ⟩ := hcut
    have HB0 : Hid (Below w.heap.size w (w.alloc (.cells #[] 5))) := (Below.refl _ _).alloc (Nat.le_refl _) _
    have HO0 : Hid ((w.alloc (.cells #[] 5)).ownsRow w.heap.size 5 1 (.slice (some ⟨w.heap.size, 0, none⟩) 0 0) 0 (bytesV [])) := own_empty w
    have HZ0 : Hid (BytesAt (w.alloc (.cells #[] 5)) g A zs.length zs) := HZ.out.keep HB0.out
    go_wp2_with (at_builtin; refine wpList_append_bytes (B := w.heap.size) (g := g) (v := .slice (some ⟨w.heap.size, 0, none⟩) 0 0) (n := 0) (zs := []) (A := A) (m := zs.length) (c := c) (ys := zs) rfl _ _ rfl rfl HO0.out rfl HZ0.out (by omega) HB0.out.size ?_; intro A1 c1 w1 hown1 hg1 _; have HO1 := Lib.hid hown1; have HB1 : Hid (Below w.heap.size w w1) := HB0.out.grown hg1 HB0.out.size (fun i hi => (HO0.out.lt i hi).1); clear hown1 hg1)
    have ho1 := HO1.out
    rw [Nat.zero_add, List.nil_append] at ho1
    obtain ⟨g1, hz1, _, hg1, _⟩ := own_bytes ho1
    have HZ1 := Lib.hid hz1
    have HG1 := Lib.hid hg1
    clear ho1 hz1 hg1 HO1 HO0 HB0 HZ0
    refine (read_any A1 c1 g1 zs _ HZ1.out (by omega)).mono ?_
    rintro e w2 ⟨R, rg, rfl, hR, hlR, hlg, hb2⟩
    have HZ2 := Lib.hid (HZ1.out.keep hb2)
    have HB2 : Hid (Below w.heap.size w w2) := HB1.out.trans (hb2.mono HB1.out.size)
    have HR2 := Lib.hid hR
    have hRw : w.heap.size ≤ R := Nat.le_trans HB1.out.size hlR
    have hRl : R < w2.heap.size := hR.lt
    have HRG : Hid (zs ≠ [] → g1 < w1.heap.size ∧ w1.heap.size ≤ rg ∧ rg < w2.heap.size) := fun h => by
      obtain ⟨_, _, _, hzz, _⟩ := hR.c0
      have hp := List.length_pos_iff.mpr h
      exact ⟨(HG1.out hp).2, hlg h, hzz.lt hp⟩
    clear hR hlg hb2
    have HB3 : Hid (Below w.heap.size w (w2.alloc (.cells #[] 5))) := HB2.out.alloc HB2.out.size _
    have HO3 : Hid ((w2.alloc (.cells #[] 5)).ownsRow w2.heap.size 5 1 (.slice (some ⟨w2.heap.size, 0, none⟩) 0 0) 0 (bytesV [])) := own_empty w2
    have HZ3 : Hid (BytesAt (w2.alloc (.cells #[] 5)) g A zs.length zs) := HZ.out.keep HB3.out
    have HBB : Hid (Below w2.heap.size w2 (w2.alloc (.cells #[] 5))) := (Below.refl _ _).alloc (Nat.le_refl _) _
    go_wp2_with (at_builtin; refine wpList_append_bytes (B := w2.heap.size) (g := g) (v := .slice (some ⟨w2.heap.size, 0, none⟩) 0 0) (n := 0) (zs := []) (A := A) (m := zs.length) (c := c) (ys := zs) rfl _ _ rfl rfl HO3.out rfl HZ3.out (by omega) HBB.out.size ?_; intro A4 c4 w4 hown4 hg4 _; have HO4 := Lib.hid hown4; have HB4 : Hid (Below w2.heap.size w2 w4) := HBB.out.grown hg4 HBB.out.size (fun i hi => (HO3.out.lt i hi).1); clear hown4 hg4)
    have ho4 := HO4.out
    rw [Nat.zero_add, List.nil_append] at ho4
    obtain ⟨qg, hz4, _, hg4, hc4⟩ := own_bytes ho4
    have hcap : c4 ≤ 9223372036854775807 := by
      rcases ho4.2 with ⟨e, _⟩ | ⟨g', cap, cur, e, _, _, _, hm, _⟩
      · injection e with _ _ e; omega
      · injection e with _ _ e; unfold maxLen at hm; omega
    have HTW : Hid (Two w (w4.alloc (.cells #[.slice A4 zs.length c4, .int .i64 0, .int .i64 0] 28)) R rg w4.heap.size qg g1 A1 zs (zs, 0)) := by
      have hs4 := HB4.out.size
      have hbel : Below w4.heap.size w4 (w4.alloc (.cells #[.slice A4 zs.length c4, .int .i64 0, .int .i64 0] 28)) := (Below.refl _ _).alloc (Nat.le_refl _) _
      refine ⟨(HR2.out.keep HB4.out).keep hbel, ⟨⟨zs, 0, 0⟩, rfl, by simp [Rf.rd], new_ref hz4 hc4 hcap (by omega)⟩, (HZ2.out.keep HB4.out).keep hbel, (HB2.out.trans (HB4.out.mono HB2.out.size)).alloc (Nat.le_trans HB2.out.size hs4) _, by omega, fun h => ?_, hRw, Nat.le_trans HB2.out.size hs4⟩
      have h1 := HRG.out h
      have h2 := hg4 (List.length_pos_iff.mpr h)
      omega
    clear ho4 hz4 hg4 hc4 hcap HO4 HO3 HB3 HZ3 HBB HRG HB4 HZ2 HB2 HZ1 HB1 HG1
    refine (told_any _).mono ?_
    rintro e w5 ⟨rfl, hb5⟩
    have HW : Hid (Two w w5 R rg w4.heap.size qg g1 A1 zs (zs, 0)) := by
      have h := HTW.out
      obtain ⟨s, e1, e2, hq⟩ := h.q
      exact ⟨h.r.keep hb5, ⟨s, e1, e2, hq.keep hb5⟩, h.z.keep hb5, h.b.trans (hb5.mono h.b.size), h.apart⟩
    generalize w4.heap.size = Q at *
    clear HTW hb5
    go_upto_block 0 with fail
    go_cut [8] (fun i wr => ∃ (k : Nat) (st : Rd), i = .int .i64 k ∧ Hid (Two w wr R rg Q qg g1 A1 zs st))
    case first =>
      go_wp2_with fail
      go_loopw [8] (fun i wr => ∃ (k : Nat) (st : Rd), i = .int .i64 k ∧ k ≤ 60 ∧ Hid (Two w wr R rg Q qg g1 A1 zs st)) (fun i _ => 60 - (intOf i).toNat)
      case atStart => exact ⟨0, _, rfl, by omega, HW⟩
      case round =>
        clear HW
        obtain ⟨k, st, rfl, hk, HW⟩ := hrel
        by_cases hlt : k < m ∧ k < 60
        · obtain ⟨off, rfl, hgw, hc0, hc1⟩ := HT.out.cell HW.out.b hlt.1
          have q1 : (k : Int) < m := by omega
          have q2 : (k : Int) < 60 := by omega
          have hap := HW.out.apart
          have hgR : gl < R := by omega
          have hgQ : gl < Q := by omega
          have hneR : some gl ≠ some R := fun e => by injection e with e; omega
          have hneQ : some gl ≠ some Q := fun e => by injection e with e; omega
          clear hap
          have hgr : gl < wr.heap.size := Nat.lt_of_lt_of_le hgw HW.out.b.size
          have HR0 := Lib.hid HW.out.r
          generalize ts k = tk at *
          obtain ⟨tx, mo⟩ := tk
          simp only at hc0 hc1
          have Hnt : Hid ((textF st mo).2.1 ≠ [] → zs ≠ []) := fun h => HW.out.nil (text_rest h)
          have Hnn : Hid ((numF st mo).2.1 ≠ [] → zs ≠ []) := fun h => HW.out.nil (num_rest h)
          cases tx with
          | true =>
            have Hnil := Hnt
            go_wp2
            go_region_held3 (fun w' => w'.cell? ⟨gl, off + k * 2 + 1, none⟩ = some (.int .i64 mo)) (exact hc1)
              (first
                | (go_at_call 11
                   refine (text_any mo _ (by exact HR0.out.keep ⟨rfl, rfl, rfl, Nat.le_refl _, fun _ _ => rfl⟩)).mono ?_
                   rintro e w6 ⟨rfl, hR, hg, _⟩
                   have HM : Hid (Mid w w6 R rg Q qg g1 A1 zs st (textF st mo).2) := HW.out.mid hR hg ⟨rfl, rfl, rfl, rfl⟩
                   replace hc1 := (World.cell?_of_block (a := ⟨gl, off + k * 2 + 1, none⟩) (hg.block gl hgr hneR)).trans hc1
                   replace hgr := Nat.lt_of_lt_of_le hgr hg.size
                   obtain ⟨s, hsB, hsr, hq⟩ := HM.out.q
                   have HQ := Lib.hid hq
                   have HSS := Lib.hid (And.intro hsB hsr)
                   clear hR hg hq hsB hsr)
                | (go_at_call 12
                   refine (refText_any (s := s) mo _ (by exact HQ.out.same rfl)).mono ?_
                   rw [HSS.out.2, HSS.out.1]
                   rintro e w7 ⟨rfl, hq7, hg⟩
                   have HW7 : Hid (Two w w7 R rg Q qg g1 A1 zs (textF st mo).2) := HM.out.two Hnil.out hq7 hg ⟨rfl, rfl, rfl, rfl⟩
                   replace hc1 := (World.cell?_of_block (a := ⟨gl, off + k * 2 + 1, none⟩) (hg.block gl hgr hneQ)).trans hc1
                   clear hq7 hg))
            clear HM HQ HSS
            generalize (textF st mo).1 = v at *
            generalize (textF st mo).2 = st2 at *
            obtain ⟨s2, hsB, hsr, hq⟩ := HW7.out.q
            subst hsr
            have hc2 := hq.c2
            have HQ2 := Lib.hid hq
            have HR2 := Lib.hid HW7.out.r
            clear hq
            go_wp2
            go_region_held3 (fun w' => w'.cell? ⟨Q, 2, none⟩ = some (.int .i64 (s2.bad : Int))) (exact hc2)
              (first
                | (go_at_call 15
                   refine (err_any _ (by exact HR2.out.keep ⟨rfl, rfl, rfl, Nat.le_refl _, fun _ _ => rfl⟩)).mono ?_
                   rw [show s2.rd.2 = s2.bad from rfl]
                   rintro e w8 ⟨rfl, rfl⟩)
                | (go_at_call 16
                   refine (end_any _ (by exact HR2.out.keep ⟨rfl, rfl, rfl, Nat.le_refl _, fun _ _ => rfl⟩)).mono ?_
                   rintro e w8 ⟨rfl, rfl⟩)
                | (go_at_call 17
                   refine (refEnd_any (s := s2) _ (by exact HQ2.out.same rfl)).mono ?_
                   rintro e w8 ⟨rfl, kk, rfl⟩))
            all_goals
              go_wp2
              go_roundw
              case rel => exact ⟨k + 1, s2.rd, by go_num, by omega, HW7.out.same ⟨rfl, rfl, rfl, rfl⟩⟩
              case measure => simp [intOf]; omega
          | false =>
            have Hnil := Hnn
            go_wp2
            go_region_held3 (fun w' => w'.cell? ⟨gl, off + k * 2 + 1, none⟩ = some (.int .i64 mo)) (exact hc1)
              (first
                | (go_at_call 13
                   refine (num_any mo _ (by exact HR0.out.keep ⟨rfl, rfl, rfl, Nat.le_refl _, fun _ _ => rfl⟩)).mono ?_
                   rintro e w6 ⟨rfl, hR, hg, _⟩
                   have HM : Hid (Mid w w6 R rg Q qg g1 A1 zs st (numF st mo).2) := HW.out.mid hR hg ⟨rfl, rfl, rfl, rfl⟩
                   replace hc1 := (World.cell?_of_block (a := ⟨gl, off + k * 2 + 1, none⟩) (hg.block gl hgr hneR)).trans hc1
                   replace hgr := Nat.lt_of_lt_of_le hgr hg.size
                   obtain ⟨s, hsB, hsr, hq⟩ := HM.out.q
                   have HQ := Lib.hid hq
                   have HSS := Lib.hid (And.intro hsB hsr)
                   clear hR hg hq hsB hsr)
                | (go_at_call 14
                   refine (refNum_any (s := s) mo _ (by exact HQ.out.same rfl)).mono ?_
                   rw [HSS.out.2, HSS.out.1]
                   rintro e w7 ⟨rfl, hq7, hg⟩
                   have HW7 : Hid (Two w w7 R rg Q qg g1 A1 zs (numF st mo).2) := HM.out.two Hnil.out hq7 hg ⟨rfl, rfl, rfl, rfl⟩
                   replace hc1 := (World.cell?_of_block (a := ⟨gl, off + k * 2 + 1, none⟩) (hg.block gl hgr hneQ)).trans hc1
                   clear hq7 hg))
            clear HM HQ HSS
            generalize (numF st mo).1 = v at *
            generalize (numF st mo).2 = st2 at *
            obtain ⟨s2, hsB, hsr, hq⟩ := HW7.out.q
            subst hsr
            have hc2 := hq.c2
            have HQ2 := Lib.hid hq
            have HR2 := Lib.hid HW7.out.r
            clear hq
            go_wp2
            go_region_held3 (fun w' => w'.cell? ⟨Q, 2, none⟩ = some (.int .i64 (s2.bad : Int))) (exact hc2)
              (first
                | (go_at_call 15
                   refine (err_any _ (by exact HR2.out.keep ⟨rfl, rfl, rfl, Nat.le_refl _, fun _ _ => rfl⟩)).mono ?_
                   rw [show s2.rd.2 = s2.bad from rfl]
                   rintro e w8 ⟨rfl, rfl⟩)
                | (go_at_call 16
                   refine (end_any _ (by exact HR2.out.keep ⟨rfl, rfl, rfl, Nat.le_refl _, fun _ _ => rfl⟩)).mono ?_
                   rintro e w8 ⟨rfl, rfl⟩)
                | (go_at_call 17
                   refine (refEnd_any (s := s2) _ (by exact HQ2.out.same rfl)).mono ?_
                   rintro e w8 ⟨rfl, kk, rfl⟩))
            all_goals
              go_wp2
              go_roundw
              case rel => exact ⟨k + 1, s2.rd, by go_num, by omega, HW7.out.same ⟨rfl, rfl, rfl, rfl⟩⟩
              case measure => simp [intOf]; omega
        · by_cases hkk : k < m
          · have q1 : (k : Int) < m := by omega
            have q2 : ¬ ((k : Int) < 60) := by omega
            go_wp2
            go_meet
            case rel => exact ⟨k, st, rfl, HW⟩
          · have q1 : ¬ ((k : Int) < m) := by omega
            go_wp2
            go_meet
            case rel => exact ⟨k, st, rfl, HW⟩
    case rest =>
      clear HW
      obtain ⟨k, st, rfl, HW⟩ := hcut
      go_wp2_with fail
      refine (same_any A1 A zs.length zs.length c1 c g1 g zs zs _ HW.out.z (HZ.out.keep HW.out.b)).mono ?_
      rintro e w8 ⟨rfl, rfl⟩
      rw [show decide (zs = zs) = true by simp]
      go_wp2
      go_ret
      exact ⟨rfl, HW.out.b⟩
end Go.Proofs.Ytekoedjadkglcaa
