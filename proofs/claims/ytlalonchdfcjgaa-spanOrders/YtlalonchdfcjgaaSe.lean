/- span.Union: the merge of two, pushed. -/
import Derived.Test.YtlalonchdfcjgaaSd
import Derived.Deep.DeepCutAuto
import Derived.Deep.RegionWith
namespace Go.Proofs.Ytlalonchdfcjgaa
open Go.RowKit

def mergeF (xs ys : List Int) : List Int := List.merge xs ys (fun x y => decide (x ≤ y))
def unionF (a b : Int × List Int) : Int × List Int := (mergeF a.2 b.2).foldl pushF (firstU (max a.1 b.1), [])

theorem cell_new {w : World} (o : Obj) {b k : Nat} {v : Value} (h : b < w.heap.size) (e : w.cell? ⟨b, k, none⟩ = some v) : (w.alloc o).cell? ⟨b, k, none⟩ = some v := (World.cell?_alloc_lt w o ⟨b, k, none⟩ h).trans e
theorem frozen_new {w : World} (o : Obj) {b k : Nat} (h : b < w.heap.size) (e : w.frozen? ⟨b, k, none⟩ = false) : (w.alloc o).frozen? ⟨b, k, none⟩ = false := (World.frozen?_alloc_old w o ⟨b, k, none⟩ (Nat.ne_of_lt h)).trans e

def lenOf : Value → Nat | .slice _ n _ => n | _ => 0

def UniRel (w : World) (G : Nat) (t : Int × List Int) (xs ys : List Int) (wr : World) : Prop :=
  ∃ (u : Int) (z : List Int) (A : Option Addr) (c : Nat), (mergeF xs ys).foldl pushF (u, z) = t ∧ 0 ≤ u ∧ u + xs.length + ys.length ≤ 4294967296 ∧ z.length + xs.length + ys.length ≤ 4294967296 ∧
    wr.cell? ⟨G, 0, none⟩ = some (.int .i64 u) ∧ wr.cell? ⟨G, 1, none⟩ = some (.slice A z.length c) ∧ wr.frozen? ⟨G, 0, none⟩ = false ∧ wr.frozen? ⟨G, 1, none⟩ = false ∧
    wr.cell? ⟨w.heap.size + 2, 0, none⟩ = some (.int .i64 0) ∧ wr.cell? ⟨w.heap.size + 2, 1, none⟩ = some (.slice none 0 0) ∧ wr.frozen? ⟨w.heap.size + 2, 0, none⟩ = false ∧ wr.frozen? ⟨w.heap.size + 2, 1, none⟩ = false ∧
    wr.ownsRow (G + 1) 3 1 (.slice A z.length c) z.length (z.map (.int .i64)) ∧ Below w.heap.size w wr ∧ G + 1 ≤ wr.heap.size

theorem UniRel.drewN {w : World} {G : Nat} {t : Int × List Int} {xs ys : List Int} {wr : World} (h : UniRel w G t xs ys wr) (k : Nat) : UniRel w G t xs ys (wr.drewN k) := by
  obtain ⟨u, z, A, c, h1, h2, h3, h4, c0, c1, f0, f1, d0, d1, e0, e1, ho, hb, hs⟩ := h
  exact ⟨u, z, A, c, h1, h2, h3, h4, c0, c1, f0, f1, d0, d1, e0, e1, ho, ⟨hb.os, hb.tape, hb.output, hb.size, hb.block⟩, hs⟩

theorem IntsAt.head {w : World} {B : Nat} {A : Option Addr} {n : Nat} {zs : List Int} (h : IntsAt w B A n zs) (hn : 0 < n) :
    ∃ b off x xt, A = some ⟨b, off, none⟩ ∧ b < B ∧ zs = x :: xt ∧ xt.length = n - 1 ∧ w.cell? ⟨b, off, none⟩ = some (.int .i64 x) := by
  obtain ⟨b, off, e, hb, hc⟩ := h.2 hn
  match zs, h.1 with
  | [], h1 => simp at h1; omega
  | x :: xt, h1 => exact ⟨b, off, x, xt, e, hb, rfl, by simp at h1; omega, by simpa using hc 0 hn⟩

theorem cut_one (ad : Addr) (n c : Nat) (hn : 0 < n) (hnc : n ≤ c) : ∃ A', (∀ W, (Instr.slice 22 (.slice (some ad) n c) (some (.int .i64 1)) none none).run Try.prog W = .ok (.slice A' (n - 1) (c - 1)) W) ∧
    ∀ (w : World) (B : Nat) (z : Int) (zs : List Int), IntsAt w B (some ad) n (z :: zs) → IntsAt w B A' (n - 1) zs := by
  have hel : Try.prog.elem 22 = 3 := by kernel_rfl
  have hsz : ∀ W, (sizeOf 3).run Try.prog W = .ok 1 W := fun W => by
    obtain ⟨i, hi, _, hz1, _⟩ := info_parts Try.info3
    simp [sizeOf, typeInfo, hi, hz1]
  refine ⟨if c = 1 then some ad else some (ad.add 1), fun W => ?_, fun w B z zs h => ?_⟩
  · rw [run_slice_l (P := Try.prog) W 22 (some ad) n c (by rw [hel]; exact Try.underlying22) .i64 1 (by omega) (by omega), hel, hsz]
    simp [sliced]
  · refine ⟨by have := h.1; simp at this; omega, fun hp => ?_⟩
    obtain ⟨b, off, e, hb, hc⟩ := h.2 hn
    injection e with e
    subst e
    rw [if_neg (by omega)]
    refine ⟨b, off + 1, by rw [addr_add], hb, fun k hk => ?_⟩
    have := hc (k + 1) (by omega)
    rw [show off + 1 + k = off + (k + 1) by omega, this]
    simp

theorem grown_drewN {w w' : World} {row : Option Nat} {k : Nat} (h : (w.drewN k).grownBy w' row) : w.grownBy w' row := ⟨h.os, h.tape, h.output, h.size, h.block⟩

theorem UniRel.push {w wr w1 : World} {G : Nat} {t : Int × List Int} {xs ys : List Int} {u : Int} {z : List Int} {Az : Option Addr} {cz : Nat} {s : Int × List Int} {A1 : Option Addr} {c1 : Nat}
    (hm : (mergeF xs ys).foldl pushF s = t) (hs : u ≤ s.1 ∧ s.1 ≤ u + 1 ∧ s.2.length ≤ z.length + 1) (hu0 : 0 ≤ u) (hu1 : u + (xs.length + ys.length + 1) ≤ 4294967296) (hz1 : z.length + (xs.length + ys.length + 1) ≤ 4294967296)
    (p0 : wr.cell? ⟨G, 0, none⟩ = some (.int .i64 u)) (p1 : wr.cell? ⟨G, 1, none⟩ = some (.slice Az z.length cz)) (f0 : wr.frozen? ⟨G, 0, none⟩ = false) (f1 : wr.frozen? ⟨G, 1, none⟩ = false)
    (d0 : wr.cell? ⟨w.heap.size + 2, 0, none⟩ = some (.int .i64 0)) (d1 : wr.cell? ⟨w.heap.size + 2, 1, none⟩ = some (.slice none 0 0)) (e0 : wr.frozen? ⟨w.heap.size + 2, 0, none⟩ = false) (e1 : wr.frozen? ⟨w.heap.size + 2, 1, none⟩ = false)
    (hown : wr.ownsRow (G + 1) 3 1 (.slice Az z.length cz) z.length (z.map (.int .i64))) (hbel : Below w.heap.size w wr) (hsz : G + 1 ≤ wr.heap.size) (hG : w.heap.size + 2 < G)
    (hown1 : w1.ownsRow (G + 1) 3 1 (.slice A1 s.2.length c1) s.2.length (s.2.map (.int .i64))) (hg1 : wr.grownBy w1 (Value.ownBlock (.slice Az z.length cz))) :
    UniRel w G t xs ys ((w1.setCell ⟨G, 0, none⟩ (.int .i64 s.1)).setCell ⟨G, 1, none⟩ (.slice A1 s.2.length c1)) := by
  have hnr : ∀ j, j ≤ G → some j ≠ Value.ownBlock (.slice Az z.length cz) := fun j hj e => by have := (hown.lt j e.symm).1; omega
  have hn1 : Value.ownBlock (.slice A1 s.2.length c1) ≠ some G := fun e => by have := (hown1.lt G e).1; omega
  have hgc := fun b o (hb : b ≤ G) => grown_cell hg1 o (b := b) (by omega) (hnr b hb)
  have q0 := (hgc G 0 (Nat.le_refl _)).1.trans p0
  have q1 := (hgc G 1 (Nat.le_refl _)).1.trans p1
  have hne : ∀ i j k, (⟨G, i, none⟩ : Addr) ≠ ⟨w.heap.size + 2, j, k⟩ := fun i j k e => by injection e with e; omega
  refine ⟨s.1, s.2, A1, c1, hm, by omega, by omega, by omega, ?_, ?_, ?_, ?_, ?_, ?_, ?_, ?_, own_setCell (own_setCell hown1 hn1 _) hn1 _, ?_, ?_⟩
  · rw [World.cell?_setCell_other _ _ _ _ (by simp), World.cell?_setCell_same _ _ _ q0]
  · rw [World.cell?_setCell_same _ _ _ ((World.cell?_setCell_other _ _ _ _ (by simp)).trans q1)]
  · simpa [go_sem] using (hgc G 0 (Nat.le_refl _)).2.trans f0
  · simpa [go_sem] using (hgc G 1 (Nat.le_refl _)).2.trans f1
  · rw [World.cell?_setCell_other _ _ _ _ (hne _ _ _), World.cell?_setCell_other _ _ _ _ (hne _ _ _)]; exact (hgc _ 0 (by omega)).1.trans d0
  · rw [World.cell?_setCell_other _ _ _ _ (hne _ _ _), World.cell?_setCell_other _ _ _ _ (hne _ _ _)]; exact (hgc _ 1 (by omega)).1.trans d1
  · simpa [go_sem] using (hgc _ 0 (by omega)).2.trans e0
  · simpa [go_sem] using (hgc _ 1 (by omega)).2.trans e1
  · exact ((hbel.grown hg1 hbel.size (fun k hk => by have := (hown.lt k hk).1; omega)).setCell (by simp; omega) _).setCell (by simp; omega) _
  · have := hg1.size
    simp [World.setCell]
    omega

theorem merge_le {x y : Int} {xs ys : List Int} (h : x ≤ y) : mergeF (x :: xs) (y :: ys) = x :: mergeF xs (y :: ys) := by unfold mergeF; rw [List.cons_merge_cons]; simp [h]
theorem merge_gt {x y : Int} {xs ys : List Int} (h : ¬ x ≤ y) : mergeF (x :: xs) (y :: ys) = y :: mergeF (x :: xs) ys := by unfold mergeF; rw [List.cons_merge_cons]; simp [h]

theorem fold_lo (l : List Int) : ∀ s : Int × List Int, s.1 ≤ (l.foldl pushF s).1 ∧ (l.foldl pushF s).1 ≤ s.1 + l.length ∧ (l.foldl pushF s).2.length ≤ s.2.length + l.length := by
  induction l with
  | nil => intro s; simp
  | cons x l ih =>
    intro s
    have h1 := push_lo s x
    have h2 := ih (pushF s x)
    simp only [List.foldl_cons, List.length_cons]
    omega

theorem own_base {w : World} {B B' : Nat} {v : Value} {n : Nat} {xs : List Value} (h : w.ownsRow B 3 1 v n xs) (hB : B' ≤ B) : w.ownsRow B' 3 1 v n xs := by
  obtain ⟨h1, h2⟩ := h
  refine ⟨h1, ?_⟩
  rcases h2 with h2 | ⟨g, cap, cur, hv, hg, r⟩
  · exact .inl h2
  · exact .inr ⟨g, cap, cur, hv, by omega, r⟩

theorem lies_own {w : World} {B : Nat} {v : Value} {n : Nat} {xs : List Value} (h : w.ownsRow B 3 1 v n xs) {H : Nat} (hH : H ≤ B) : Lies v none H := by
  rcases e : v.ownBlock with _ | k
  · exact .inl e
  · exact .inr ⟨k, e, Nat.le_trans hH (h.lt k e).1⟩

set_option maxHeartbeats 1000000 in
theorem union_any (a b : Int) (A : Option Addr) (n c : Nat) (xs : List Int) (A' : Option Addr) (m c' : Nat) (ys : List Int) (B : Nat) (w : World) (hB : B ≤ w.heap.size)
    (hxs : IntsAt w B A n xs) (hys : IntsAt w B A' m ys) (hnc : n ≤ c) (hmc : m ≤ c') (hn : n ≤ 1073741824) (hm : m ≤ 1073741824) :
    Calls Try.prog 25 #[.agg #[.int .i64 a, .slice A n c], .agg #[.int .i64 b, .slice A' m c']] w (OwnSpan w.heap.size none (unionF (a, xs) (b, ys)) w) := by
  have HX := Lib.hid hxs
  have HY := Lib.hid hys
  clear hxs hys
  go_enter Try.func25, Try.ntmps25
  go_upto_region 1 with fail
  go_cut [5] (fun s5 wx => ∃ G : Nat, s5 = .pointer (some ⟨G, 0, none⟩) ∧ w.heap.size + 2 < G ∧ wx.cell? ⟨w.heap.size, 1, none⟩ = some (.slice A n c) ∧ wx.cell? ⟨w.heap.size + 1, 1, none⟩ = some (.slice A' m c') ∧ UniRel w G (unionF (a, xs) (b, ys)) xs ys wx)
  case first =>
    go_wp2_with fail
    all_goals
      refine (first_any _ _).mono ?_
      rintro e w1 ⟨rfl, hb⟩
      have k20 : w1.cell? ⟨w.heap.size + 2, 0, none⟩ = some (.int .i64 0) := (hb.cell (by simp)).trans (by simp [go_sem])
      have k21 : w1.cell? ⟨w.heap.size + 2, 1, none⟩ = some (.slice none 0 0) := (hb.cell (by simp)).trans (by simp [go_sem])
      have f20 : w1.frozen? ⟨w.heap.size + 2, 0, none⟩ = false := (hb.frozen (by simp)).trans (by simp [go_sem])
      have f21 : w1.frozen? ⟨w.heap.size + 2, 1, none⟩ = false := (hb.frozen (by simp)).trans (by simp [go_sem])
      have k01 : w1.cell? ⟨w.heap.size, 1, none⟩ = some (.slice A n c) := (hb.cell (by simp; omega)).trans (by simp [go_sem])
      have k11 : w1.cell? ⟨w.heap.size + 1, 1, none⟩ = some (.slice A' m c') := (hb.cell (by simp)).trans (by simp [go_sem])
      have hz : w.heap.size + 2 < w1.heap.size := by have := hb.size; simp at this; omega
      have HB : Hid (Below w.heap.size w w1) := ((((Below.refl _ _).alloc (Nat.le_refl _) _).alloc (by simp) _).alloc (by simp; omega) _).trans (hb.mono (by simp; omega))
      clear hb
      go_wp2_with fail
      go_meet
      case rel =>
        have hl1 : xs.length = n := HX.out.1
        have hl2 : ys.length = m := HY.out.1
        refine ⟨w1.heap.size, rfl, hz, cell_new _ (by omega) k01, cell_new _ (by omega) k11, _, [], none, 0, ?_, ?_, ?_, ?_, by simp [go_sem]; rfl, by simp [go_sem], by simp [go_sem], by simp [go_sem], ?_, ?_, ?_, ?_, World.ownsRow_nil _ _ _ _, HB.out.alloc (by omega) _, by simp⟩
        · show List.foldl pushF _ _ = List.foldl pushF (firstU (max a b), []) (mergeF xs ys)
          first | rw [Int.max_eq_left (by omega)] | rw [Int.max_eq_right (by omega)]
        · unfold firstU; omega
        · unfold firstU; omega
        · simp; omega
        · exact cell_new _ (by omega) k20
        · exact cell_new _ (by omega) k21
        · exact frozen_new _ (by omega) f20
        · exact frozen_new _ (by omega) f21
  case rest =>
    obtain ⟨G, rfl, hG, k01, k11, HU⟩ := hcut
    have HU := Lib.hid HU
    go_wp2_with fail
    go_quiet (fail)
    go_wp2
    go_loopw [6, 7] (fun x y wr => ∃ A1 n1 c1 A2 n2 c2, ∃ xs' ys' : List Int, x = .slice A1 n1 c1 ∧ y = .slice A2 n2 c2 ∧ n1 ≤ c1 ∧ n2 ≤ c2 ∧ n1 ≤ 1073741824 ∧ n2 ≤ 1073741824 ∧ Hid (IntsAt w B A1 n1 xs') ∧ Hid (IntsAt w B A2 n2 ys') ∧ Hid (UniRel w G (unionF (a, xs) (b, ys)) xs' ys' wr)) (fun x y _ => lenOf x + lenOf y)
    case atStart => exact ⟨A, n, c, A', m, c', xs, ys, rfl, rfl, hnc, hmc, hn, hm, HX, HY, HU.out.drewN _⟩
    case round =>
      obtain ⟨A1, n1, c1, A2, n2, c2, xs', ys', rfl, rfl, h1c, h2c, h1n, h2n, HX1, HY1, HU1⟩ := hrel
      by_cases hc : 0 < n1 ∧ 0 < n2
      · obtain ⟨b1, o1, x0, xt, rfl, hb1, rfl, hxl, hx0⟩ := HX1.out.head hc.1
        obtain ⟨b2, o2, y0, yt, rfl, hb2, rfl, hyl, hy0⟩ := HY1.out.head hc.2
        obtain ⟨u, z, Az, cz, hfold, hu0, hu1, hz1, p0, p1, f0, f1, d0, d1, e0, e1, hown, hbel, hsz⟩ := HU1.out
        have kx : wr.cell? ⟨b1, o1, none⟩ = some (.int .i64 x0) := (hbel.cell (p := ⟨b1, o1, none⟩) (by simp; omega)).trans hx0
        have ky : wr.cell? ⟨b2, o2, none⟩ = some (.int .i64 y0) := (hbel.cell (p := ⟨b2, o2, none⟩) (by simp; omega)).trans hy0
        have HFo := Lib.hid hfold
        have HOw := Lib.hid hown
        have HBe := Lib.hid hbel
        obtain ⟨hc1, hc2⟩ := hc
        have q1 : (0 : Int) < n1 := by omega
        have q2 : (0 : Int) < n2 := by omega
        clear hfold hown hbel hx0 hy0 HU1 k01 k11
        have hnr : ∀ j, j ≤ G → some j ≠ Value.ownBlock (.slice Az z.length cz) := fun j hj e => by have := (HOw.out.lt j e.symm).1; omega
        have hb1G : ∀ i j, (⟨G, i, none⟩ : Addr) ≠ ⟨b1, j, none⟩ := fun i j e => by injection e with e; omega
        have hb2G : ∀ i j, (⟨G, i, none⟩ : Addr) ≠ ⟨b2, j, none⟩ := fun i j e => by injection e with e; omega
        obtain ⟨Ax, hsx, hax⟩ := cut_one ⟨b1, o1, none⟩ n1 c1 hc1 h1c
        obtain ⟨Ay, hsy, hay⟩ := cut_one ⟨b2, o2, none⟩ n2 c2 hc2 h2c
        have HAx := Lib.hid hax
        have HAy := Lib.hid hay
        clear hax hay
        by_cases hle : x0 ≤ y0
        · go_wp2_with fail
          go_quiet (fail)
          go_wp2_with fail
          go_region_law
            (first
              | (go_simp
                 go_at_call 33
                 refine (push_any u Az z.length cz z x0 (G + 1) _ ?_ ?_ ?_ ?_ ?_).mono ?_
                 · exact hsz
                 · exact HOw.out
                 · exact hu0
                 · simp at hu1; omega
                 · omega
                 rintro e w1 ⟨A1, c3, rfl, hown1, hg1, hl1⟩
                 have t0 : w1.cell? ⟨G, 0, none⟩ = some (.int .i64 u) := (grown_cell hg1 0 (by exact hsz) (hnr G (Nat.le_refl _))).1.trans p0
                 have t1 : w1.cell? ⟨G, 1, none⟩ = some (.slice Az z.length cz) := (grown_cell hg1 1 (by exact hsz) (hnr G (Nat.le_refl _))).1.trans p1
                 have g0 : w1.frozen? ⟨G, 0, none⟩ = false := (grown_cell hg1 0 (by exact hsz) (hnr G (Nat.le_refl _))).2.trans f0
                 have g1 : w1.frozen? ⟨G, 1, none⟩ = false := (grown_cell hg1 1 (by exact hsz) (hnr G (Nat.le_refl _))).2.trans f1
                 have HO1 := Lib.hid hown1
                 have HG1 := Lib.hid hg1
                 clear hown1 hg1 hl1))
          all_goals
            go_wp2_with fail
            go_roundw
            case rel =>
              (repeat apply Exists.intro)
              exact ⟨⟨Ax, n1 - 1, c1 - 1, _, n2, c2, xt, y0 :: yt, rfl, rfl, by omega, by omega, by omega, by omega, HAx.out _ _ _ _ HX1.out, HY1, UniRel.push (by rw [← HFo.out, merge_le hle]; rfl) (push_lo (u, z) x0) hu0 (by simp at hu1 ⊢; omega) (by simp at hz1 ⊢; omega) p0 p1 f0 f1 d0 d1 e0 e1 HOw.out HBe.out hsz hG HO1.out (grown_drewN HG1.out)⟩, rfl⟩
            case measure => exact show (n1 - 1) + n2 < n1 + n2 by omega
        · go_wp2_with fail
          go_quiet (fail)
          go_wp2_with fail
          go_region_law
            (first
              | (go_simp
                 go_at_call 33
                 refine (push_any u Az z.length cz z y0 (G + 1) _ ?_ ?_ ?_ ?_ ?_).mono ?_
                 · exact hsz
                 · exact HOw.out
                 · exact hu0
                 · simp at hu1; omega
                 · omega
                 rintro e w1 ⟨A1, c3, rfl, hown1, hg1, hl1⟩
                 have t0 : w1.cell? ⟨G, 0, none⟩ = some (.int .i64 u) := (grown_cell hg1 0 (by exact hsz) (hnr G (Nat.le_refl _))).1.trans p0
                 have t1 : w1.cell? ⟨G, 1, none⟩ = some (.slice Az z.length cz) := (grown_cell hg1 1 (by exact hsz) (hnr G (Nat.le_refl _))).1.trans p1
                 have g0 : w1.frozen? ⟨G, 0, none⟩ = false := (grown_cell hg1 0 (by exact hsz) (hnr G (Nat.le_refl _))).2.trans f0
                 have g1 : w1.frozen? ⟨G, 1, none⟩ = false := (grown_cell hg1 1 (by exact hsz) (hnr G (Nat.le_refl _))).2.trans f1
                 have HO1 := Lib.hid hown1
                 have HG1 := Lib.hid hg1
                 clear hown1 hg1 hl1))
          all_goals
            go_wp2_with fail
            go_roundw
            case rel =>
              (repeat apply Exists.intro)
              exact ⟨⟨_, n1, c1, Ay, n2 - 1, c2 - 1, x0 :: xt, yt, rfl, rfl, by omega, by omega, by omega, by omega, HX1, HAy.out _ _ _ _ HY1.out, UniRel.push (by rw [← HFo.out, merge_gt (by omega)]; rfl) (push_lo (u, z) y0) hu0 (by simp at hu1 ⊢; omega) (by simp at hz1 ⊢; omega) p0 p1 f0 f1 d0 d1 e0 e1 HOw.out HBe.out hsz hG HO1.out (grown_drewN HG1.out)⟩, rfl⟩
            case measure => exact show n1 + (n2 - 1) < n1 + n2 by omega
      · obtain ⟨u, z, Az, cz, hfold, hu0, hu1, hz1, p0, p1, f0, f1, d0, d1, e0, e1, hown, hbel, hsz⟩ := HU1.out
        have hcat : (xs' ++ ys').foldl pushF (u, z) = unionF (a, xs) (b, ys) := by
          rw [← hfold]
          rcases Nat.eq_zero_or_pos n1 with h | h
          · rw [List.eq_nil_of_length_eq_zero (HX1.out.1.trans h)]; unfold mergeF; rw [List.nil_merge]; rfl
          · have h2 : n2 = 0 := by omega
            rw [List.eq_nil_of_length_eq_zero (HY1.out.1.trans h2)]; unfold mergeF; rw [List.merge_right]; simp
        have HCat := Lib.hid hcat
        have HOw := Lib.hid hown
        have HBe := Lib.hid hbel
        clear hcat hown hbel hfold HU1 k01 k11
        have hxl0 : xs'.length = n1 := HX1.out.1
        have hyl0 : ys'.length = n2 := HY1.out.1
        have hbu : u ≤ 4294967296 ∧ z.length ≤ 4294967296 ∧ u + n1 ≤ 4294967296 ∧ z.length + n1 ≤ 4294967296 := by omega
        clear hxl0 hyl0 hu1 hz1
        rcases Nat.eq_zero_or_pos n1 with h | h
        · subst h
          go_wp2_with fail
          refine (pushAll_any u Az z.length cz z A1 0 c1 xs' (G + 1) _ hsz HOw.out ((HX1.out.keep (HBe.out.mono hB)).more (by omega)) hu0 (by omega) (by omega) (by omega)).mono ?_
          have hfl := fold_lo xs' (u, z)
          rw [List.foldl_append] at HCat
          generalize xs'.foldl pushF (u, z) = s1 at HCat hfl ⊢
          obtain ⟨u1, z1⟩ := s1
          rintro e w1 ⟨A3, c3, rfl, hown1, hg1, hl1⟩
          have hxl : xs'.length = 0 := HX1.out.1
          have hyl : ys'.length = n2 := HY1.out.1
          have hbd : 0 ≤ u1 ∧ u1 ≤ 4294967296 ∧ z1.length ≤ 4294967296 := by simp only at hfl; omega
          have hnr : ∀ j, j ≤ G → some j ≠ Value.ownBlock (.slice Az z.length cz) := fun j hj e => by have := (HOw.out.lt j e.symm).1; omega
          have b0 := (grown_cell hg1 0 (b := w.heap.size + 2) (by omega) (hnr _ (by omega))).1.trans d0
          have b1 := (grown_cell hg1 1 (b := w.heap.size + 2) (by omega) (hnr _ (by omega))).1.trans d1
          have b2 := (grown_cell hg1 0 (b := w.heap.size + 2) (by omega) (hnr _ (by omega))).2.trans e0
          have b3 := (grown_cell hg1 1 (b := w.heap.size + 2) (by omega) (hnr _ (by omega))).2.trans e1
          have HB1 : Hid (Below w.heap.size w w1) := HBe.out.grown hg1 HBe.out.size (fun k hk => by have := (HOw.out.lt k hk).1; omega)
          have hs1 : G + 1 ≤ w1.heap.size := Nat.le_trans hsz hg1.size
          have HO1 := Lib.hid hown1
          clear hown1 hg1 hl1 hfl hxl hyl d0 d1 e0 e1 p0 p1 f0 f1 hnr
          obtain ⟨hbd1, hbd2, hbd3⟩ := hbd
          go_wp2_with fail
          refine (pushAll_any u1 A3 z1.length c3 z1 A2 n2 c2 ys' (G + 1) _ hs1 HO1.out ((HY1.out.keep (HB1.out.mono hB)).more (by omega)) hbd1 (by omega) (by omega) (by omega)).mono ?_
          have HC2 := Lib.hid HCat.out
          clear HCat
          generalize ys'.foldl pushF (u1, z1) = s2 at HC2 ⊢
          obtain ⟨u2, z2⟩ := s2
          rintro e w2 ⟨A4, c4, rfl, hown2, hg2, hl2⟩
          have hnr : ∀ j, j ≤ G → some j ≠ Value.ownBlock (.slice A3 z1.length c3) := fun j hj e => by have := (HO1.out.lt j e.symm).1; omega
          have a0 := (grown_cell hg2 0 (b := w.heap.size + 2) (by omega) (hnr _ (by omega))).1.trans b0
          have a1 := (grown_cell hg2 1 (b := w.heap.size + 2) (by omega) (hnr _ (by omega))).1.trans b1
          have a2 := (grown_cell hg2 0 (b := w.heap.size + 2) (by omega) (hnr _ (by omega))).2.trans b2
          have a3 := (grown_cell hg2 1 (b := w.heap.size + 2) (by omega) (hnr _ (by omega))).2.trans b3
          have HB2 : Hid (Below w.heap.size w w2) := HB1.out.grown hg2 HB1.out.size (fun k hk => by have := (HO1.out.lt k hk).1; omega)
          have HO2 := Lib.hid hown2
          clear hown2 hg2 hl2 hnr b0 b1 b2 b3
          go_wp2
          refine bodyPost_ret (v := .agg #[.int .i64 u2, .slice A4 z2.length c4]) ?_ rfl ?_
          · simp [results, Try.results25, go_sem, a0, a1]
          · have hn4 : Value.ownBlock (.slice A4 z2.length c4) ≠ some (w.heap.size + 2) := fun e => by have := (HO2.out.lt _ e).1; omega
            exact ownSpan_of HC2.out.symm rfl (own_base (own_setCell (own_setCell HO2.out (p := ⟨w.heap.size + 2, 0, none⟩) hn4 _) (p := ⟨w.heap.size + 2, 1, none⟩) hn4 _) (by omega)) (grown_of_below ((HB2.out.setCell (by simp; omega) _).setCell (by simp; omega) _) _) (lies_own HO2.out (by omega))
        · have hd : (0 : Int) < (n1 : Int) := by omega
          have hd2 : decide ((0 : Int) < (n2 : Int)) = false := by simp; omega
          go_wp2_with fail
          refine (pushAll_any u Az z.length cz z A1 n1 c1 xs' (G + 1) _ hsz HOw.out ((HX1.out.keep (HBe.out.mono hB)).more (by omega)) hu0 (by omega) (by omega) (by omega)).mono ?_
          have hfl := fold_lo xs' (u, z)
          rw [List.foldl_append] at HCat
          generalize xs'.foldl pushF (u, z) = s1 at HCat hfl ⊢
          obtain ⟨u1, z1⟩ := s1
          rintro e w1 ⟨A3, c3, rfl, hown1, hg1, hl1⟩
          have hxl : xs'.length = n1 := HX1.out.1
          have hyl : ys'.length = n2 := HY1.out.1
          have hbd : 0 ≤ u1 ∧ u1 ≤ 4294967296 ∧ z1.length ≤ 4294967296 := by simp only at hfl; omega
          have hnr : ∀ j, j ≤ G → some j ≠ Value.ownBlock (.slice Az z.length cz) := fun j hj e => by have := (HOw.out.lt j e.symm).1; omega
          have b0 := (grown_cell hg1 0 (b := w.heap.size + 2) (by omega) (hnr _ (by omega))).1.trans d0
          have b1 := (grown_cell hg1 1 (b := w.heap.size + 2) (by omega) (hnr _ (by omega))).1.trans d1
          have b2 := (grown_cell hg1 0 (b := w.heap.size + 2) (by omega) (hnr _ (by omega))).2.trans e0
          have b3 := (grown_cell hg1 1 (b := w.heap.size + 2) (by omega) (hnr _ (by omega))).2.trans e1
          have HB1 : Hid (Below w.heap.size w w1) := HBe.out.grown hg1 HBe.out.size (fun k hk => by have := (HOw.out.lt k hk).1; omega)
          have hs1 : G + 1 ≤ w1.heap.size := Nat.le_trans hsz hg1.size
          have HO1 := Lib.hid hown1
          clear hown1 hg1 hl1 hfl hxl hyl d0 d1 e0 e1 p0 p1 f0 f1 hnr
          obtain ⟨hbd1, hbd2, hbd3⟩ := hbd
          go_wp2_with fail
          refine (pushAll_any u1 A3 z1.length c3 z1 A2 n2 c2 ys' (G + 1) _ hs1 HO1.out ((HY1.out.keep (HB1.out.mono hB)).more (by omega)) hbd1 (by omega) (by omega) (by omega)).mono ?_
          have HC2 := Lib.hid HCat.out
          clear HCat
          generalize ys'.foldl pushF (u1, z1) = s2 at HC2 ⊢
          obtain ⟨u2, z2⟩ := s2
          rintro e w2 ⟨A4, c4, rfl, hown2, hg2, hl2⟩
          have hnr : ∀ j, j ≤ G → some j ≠ Value.ownBlock (.slice A3 z1.length c3) := fun j hj e => by have := (HO1.out.lt j e.symm).1; omega
          have a0 := (grown_cell hg2 0 (b := w.heap.size + 2) (by omega) (hnr _ (by omega))).1.trans b0
          have a1 := (grown_cell hg2 1 (b := w.heap.size + 2) (by omega) (hnr _ (by omega))).1.trans b1
          have a2 := (grown_cell hg2 0 (b := w.heap.size + 2) (by omega) (hnr _ (by omega))).2.trans b2
          have a3 := (grown_cell hg2 1 (b := w.heap.size + 2) (by omega) (hnr _ (by omega))).2.trans b3
          have HB2 : Hid (Below w.heap.size w w2) := HB1.out.grown hg2 HB1.out.size (fun k hk => by have := (HO1.out.lt k hk).1; omega)
          have HO2 := Lib.hid hown2
          clear hown2 hg2 hl2 hnr b0 b1 b2 b3
          go_wp2
          refine bodyPost_ret (v := .agg #[.int .i64 u2, .slice A4 z2.length c4]) ?_ rfl ?_
          · simp [results, Try.results25, go_sem, a0, a1]
          · have hn4 : Value.ownBlock (.slice A4 z2.length c4) ≠ some (w.heap.size + 2) := fun e => by have := (HO2.out.lt _ e).1; omega
            exact ownSpan_of HC2.out.symm rfl (own_base (own_setCell (own_setCell HO2.out (p := ⟨w.heap.size + 2, 0, none⟩) hn4 _) (p := ⟨w.heap.size + 2, 1, none⟩) hn4 _) (by omega)) (grown_of_below ((HB2.out.setCell (by simp; omega) _).setCell (by simp; omega) _) _) (lies_own HO2.out (by omega))
end Go.Proofs.Ytlalonchdfcjgaa
