/- The document's Fix: a Span that may be, out of any numbers. -/
import Derived.Test.YtlalonchdfcjgaaSl
namespace Go.Proofs.Ytlalonchdfcjgaa
open Go.RowKit

def modF (x : Int) (k : Int) : Int := wrap64 ((IntKind.u64.wrap x).tmod k)
def elF (x : Int) : Int := 1 + modF x 60
def fixF (u : Int) (zs : List Int) : Int × List Int := (zs.take 30).foldl (fun s x => refAddF s (elF x)) (modF u 40, [])

theorem mod_bd (x k : Int) (h0 : 0 < k) (h1 : k ≤ 1000) : 0 ≤ modF x k ∧ modF x k < k := by
  unfold modF
  have hw : 0 ≤ IntKind.u64.wrap x := by
    have := IntKind.wrap_u64 x
    rw [this]
    exact Int.emod_nonneg _ (by decide)
  have h2 := Int.tmod_nonneg k hw
  have h3 := Int.tmod_lt_of_pos (IntKind.u64.wrap x) h0
  rw [show wrap64 ((IntKind.u64.wrap x).tmod k) = (IntKind.u64.wrap x).tmod k from IntWalk.wrap64_in _ (by omega)]
  exact ⟨h2, h3⟩

theorem el_eq (y : Int) : IntKind.i64.wrap (1 + IntKind.i64.wrap ((IntKind.u64.wrap y).tmod 60)) = elF y := by
  have h := mod_bd y 60 (by omega) (by omega)
  unfold elF
  have e : IntKind.i64.wrap ((IntKind.u64.wrap y).tmod 60) = modF y 60 := IntWalk.i64_left _
  rw [e]
  exact IntWalk.i64_in _ (by omega)

theorem abs_bd : ∀ (l : List Int) (u : Int), u ≤ (absF u l).1 ∧ (absF u l).1 ≤ u + l.length ∧ (absF u l).2.length ≤ l.length
  | [], u => by simp [absF]
  | z :: t, u => by
    unfold absF
    split
    · have := abs_bd t (u + 1)
      simp only [List.length_cons]
      omega
    · simp; omega
theorem ins_len (m : Int) : ∀ l : List Int, (insF m l).length = l.length + 1
  | [] => rfl
  | z :: t => by
    unfold insF
    split
    · simp
    · simp [ins_len m t]
theorem refAdd_bd (s : Int × List Int) (m : Int) : s.1 ≤ (refAddF s m).1 ∧ (refAddF s m).1 ≤ s.1 + s.2.length + 1 ∧ (refAddF s m).2.length ≤ s.2.length + 1 := by
  unfold refAddF
  split
  · omega
  · have h1 := abs_bd (insF m s.2) s.1
    rw [ins_len] at h1
    omega

theorem Locals.on {w : World} {G : Nat} {u : Int} {A : Option Addr} {n c : Nat} {wr W w1 : World} (h : Locals w G u A n c wr) (hb : Below W.heap.size W w1) (e : SameW wr W) (hG : w.heap.size + 2 ≤ G) : Locals w G u A n c w1 := by
  obtain ⟨j0, j1, j2, j3, j4, j5, hbel, hs⟩ := h
  have hb' := below_via (Below.refl wr.heap.size wr) hb (Nat.le_refl _) e
  exact ⟨(hb'.cell (by simp; omega)).trans j0, (hb'.cell (by simp; omega)).trans j1, (hb'.cell (by simp; omega)).trans j2, (hb'.cell (by simp; omega)).trans j3, (hb'.frozen (by simp; omega)).trans j4, (hb'.frozen (by simp; omega)).trans j5, hbel.trans (hb'.mono hbel.size), Nat.le_trans hs hb'.size⟩

theorem Locals.set {w : World} {G : Nat} {u : Int} {A : Option Addr} {n c : Nat} {wr : World} (h : Locals w G u A n c wr) {p : Addr} (hp : w.heap.size + 2 ≤ p.block) (v : Value) : Locals w G u A n c (wr.setCell p v) := by
  obtain ⟨j0, j1, j2, j3, j4, j5, hbel, hs⟩ := h
  have hb' : Below (w.heap.size + 2) wr (wr.setCell p v) := (Below.refl _ _).setCell hp v
  exact ⟨(hb'.cell (by simp)).trans j0, (hb'.cell (by simp)).trans j1, (hb'.cell (by simp)).trans j2, (hb'.cell (by simp)).trans j3, (hb'.frozen (by simp)).trans j4, (hb'.frozen (by simp)).trans j5, hbel.setCell (by omega) v, by simpa [World.setCell] using hs⟩

def FixRel (w : World) (u : Int) (A : Option Addr) (n c : Nat) (zs : List Int) (k : Nat) (wr : World) : Prop :=
  ∃ (uk : Int) (zk : List Int) (Ak : Option Addr) (ck : Nat), (zs.take k).foldl (fun s x => refAddF s (elF x)) (modF u 40, []) = (uk, zk) ∧ 0 ≤ uk ∧ uk ≤ 40 + 31 * k ∧ zk.length ≤ k ∧
    wr.cell? ⟨w.heap.size + 2, 0, none⟩ = some (.int .i64 uk) ∧ wr.cell? ⟨w.heap.size + 2, 1, none⟩ = some (.slice Ak zk.length ck) ∧ wr.frozen? ⟨w.heap.size + 2, 0, none⟩ = false ∧ wr.frozen? ⟨w.heap.size + 2, 1, none⟩ = false ∧
    wr.ownsRow (w.heap.size + 3) 3 1 (.slice Ak zk.length ck) zk.length (zk.map (.int .i64)) ∧ Locals w (w.heap.size + 3) u A n c wr

set_option maxRecDepth 100000 in
set_option maxHeartbeats 2000000 in
theorem fix_any (u : Int) (A : Option Addr) (n c : Nat) (zs : List Int) (B : Nat) (w : World) (hB : B ≤ w.heap.size) (hz : IntsAt w B A n zs) (hn : n ≤ 9223372036854775807) :
    Calls Try.prog 14 #[.agg #[.int .i64 u, .slice A n c]] w (OwnSpan w.heap.size none (fixF u zs) w) := by
  have HZ := Lib.hid hz
  have HL : Hid (zs.length = n) := hz.1
  have hmb := mod_bd u 40 (by omega) (by omega)
  clear hz
  go_enter Try.func14, Try.ntmps14
  go_wp2
  go_loopw [4] (fun i wr => ∃ k : Nat, k ≤ n ∧ k ≤ 30 ∧ i = .int .i64 k ∧ Hid (FixRel w u A n c zs k wr)) (fun i _ => 30 - (intOf i).toNat)
  case atStart =>
    refine ⟨0, by omega, by omega, rfl, modF u 40, [], none, 0, rfl, by omega, by omega, by simp, by simp [go_sem, modF], by simp [go_sem], by simp [go_sem], by simp [go_sem], World.ownsRow_nil _ _ _ _, by simp [go_sem], by simp [go_sem], by simp [go_sem], by simp [go_sem], by simp [go_sem], by simp [go_sem], ?_, by simp⟩
    exact (((Below.refl _ _).alloc (Nat.le_refl _) _).alloc (by simp) _).alloc (by simp; omega) _
  case round =>
    obtain ⟨k, hk, hk30, rfl, HR⟩ := hrel
    obtain ⟨uk, zk, Ak, ck, hfold, hu0, hu1, hzl, p0, p1, f0, f1, hown, hloc⟩ := HR.out
    have HFo := Lib.hid hfold
    have HOw := Lib.hid hown
    have HLo := Lib.hid hloc
    obtain ⟨j0, j1, j2, j3, j4, j5, hbel, hsz⟩ := hloc
    have HBe := Lib.hid hbel
    clear hfold hown hbel hmb
    by_cases hlt : k < n ∧ k < 30
    · obtain ⟨hl1, hl2⟩ := hlt
      obtain ⟨b, off, rfl, hbB, hc⟩ := HZ.out.2 (by omega)
      have hck := (HBe.out.cell (p := ⟨b, off + k, none⟩) (by simp; omega)).trans (hc k hl1)
      have hkI : (k : Int) < n := by omega
      have hkJ : (k : Int) < 30 := by omega
      clear hc
      generalize hy : zs.getD k 0 = y at hck
      have HY := Lib.hid hy
      clear hy
      have HE := Lib.hid (el_eq y)
      have hpl := refAdd_bd (uk, zk) (elF y)
      have hfo : (zs.take (k + 1)).foldl (fun s x => refAddF s (elF x)) (modF u 40, []) = refAddF (uk, zk) (elF y) := by
        rw [take_next zs k (by rw [HL.out]; exact hl1), List.foldl_append, HFo.out, HY.out]; rfl
      obtain ⟨s1, HS1⟩ : ∃ s1, Hid (refAddF (uk, zk) (elF y) = s1) := ⟨_, rfl⟩
      rw [HS1.out] at hpl hfo
      obtain ⟨u1, z1⟩ := s1
      have HF1 := Lib.hid hfo
      clear hfo
      simp only at hpl
      go_wp2_with fail
      go_region_law
        (first
          | (go_simp
             go_at_call 16
             rw [HE.out]
             refine (refAdd_any uk Ak zk.length ck zk (elF y) wr.heap.size _ ?_ ?_ ?_ ?_ ?_).mono ?_
             · exact Nat.le_refl _
             · exact ints_same (own_ints HOw.out) rfl
             · omega
             · exact hu0
             · omega
             rw [HS1.out]
             rintro e w1 ⟨A1, c1, rfl, hown1, hg1, _⟩
             have hb1 := grown_none hg1
             have q0 := (hb1.cell (p := ⟨w.heap.size + 2, 0, none⟩) hsz).trans p0
             have q1 := (hb1.cell (p := ⟨w.heap.size + 2, 1, none⟩) hsz).trans p1
             have q2 := (hb1.frozen (p := ⟨w.heap.size + 2, 0, none⟩) hsz).trans f0
             have q3 := (hb1.frozen (p := ⟨w.heap.size + 2, 1, none⟩) hsz).trans f1
             have HL1 : Hid (Locals w (w.heap.size + 3) u (some ⟨b, off, none⟩) n c w1) := Locals.on HLo.out hb1 ⟨rfl, rfl, rfl, rfl⟩ (by omega)
             have HO1 : Hid (w1.ownsRow (w.heap.size + 3) 3 1 (.slice A1 z1.length c1) z1.length (z1.map (.int .i64))) := own_base hown1 hsz
             clear hown1 hg1 hb1))
      all_goals
        go_wp2_with fail
        go_roundw
        case rel =>
          have hn1 : Value.ownBlock (.slice A1 z1.length c1) ≠ some (w.heap.size + 2) := fun e => by have := (HO1.out.lt _ e).1; omega
          refine ⟨k + 1, by omega, by omega, by go_num, u1, z1, A1, c1, HF1.out, by omega, by omega, by omega, by simp [go_sem, q0], by simp [go_sem, q1], by simp [go_sem, q2], by simp [go_sem, q3], ?_, ?_⟩
          · exact own_setCell (own_setCell HO1.out (p := ⟨w.heap.size + 2, 0, none⟩) hn1 _) (p := ⟨w.heap.size + 2, 1, none⟩) hn1 _
          · exact Locals.set (Locals.set HL1.out (by simp) _) (by simp) _
        case measure => simp [intOf]; omega
    · have HE : Hid (fixF u zs = (uk, zk)) := by
        show fixF u zs = (uk, zk)
        unfold fixF
        rw [← HFo.out]
        congr 1
        rcases Nat.lt_or_ge k 30 with h | h
        · have hkn : k = n := by omega
          rw [List.take_of_length_le (by rw [HL.out]; omega), List.take_of_length_le (by rw [HL.out]; omega)]
        · rw [show k = 30 by omega]
      have hf1 : w.heap.size + 1 < wr.heap.size := by omega
      by_cases hkn : k < n
      · have hkI : (k : Int) < n := by omega
        have hkJ : decide ((k : Int) < 30) = false := by simp; omega
        go_wp2
        refine bodyPost_ret (v := .agg #[.int .i64 uk, .slice Ak zk.length ck]) ?_ rfl ?_
        · simp [results, Try.results14, go_sem, j2, j3]
        · exact copy_end (HOw.out) (by omega) HBe.out HE.out rfl
      · have hkI : decide ((k : Int) < n) = false := by simp; omega
        go_wp2
        refine bodyPost_ret (v := .agg #[.int .i64 uk, .slice Ak zk.length ck]) ?_ rfl ?_
        · simp [results, Try.results14, go_sem, j2, j3]
        · exact copy_end (HOw.out) (by omega) HBe.out HE.out rfl
end Go.Proofs.Ytlalonchdfcjgaa
