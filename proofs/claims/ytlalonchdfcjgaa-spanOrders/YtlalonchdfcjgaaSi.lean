/- The document's own Right. -/
import Derived.Test.YtlalonchdfcjgaaSh
namespace Go.Proofs.Ytlalonchdfcjgaa
open Go.RowKit

/-- A world that differs from W by draws alone. -/
def Drawn (W wr : World) : Prop := ∃ q, wr = W.drewN q
theorem Drawn.refl (W : World) : Drawn W W := ⟨0, rfl⟩
theorem below_d {B : Nat} {a w : World} (h : Below B a w) (n : Nat) : Below B a (w.drewN n) := ⟨h.os, h.tape, h.output, h.size, h.block⟩

/-- The same memory and streams: draws apart. -/
def SameW (W W' : World) : Prop := W'.heap = W.heap ∧ W'.os = W.os ∧ W'.tape = W.tape ∧ W'.output = W.output
theorem below_via {B : Nat} {w W W' w1 : World} (h : Below B w W) (h1 : Below W'.heap.size W' w1) (hB : B ≤ W.heap.size) (e : SameW W W') : Below B w w1 := by
  obtain ⟨e1, e2, e3, e4⟩ := e
  exact ⟨h1.os.trans (e2.trans h.os), h1.tape.trans (e3.trans h.tape), h1.output.trans (e4.trans h.output), Nat.le_trans h.size (by have := h1.size; rw [e1] at this; exact this), fun k hk => (h1.block k (by rw [e1]; omega)).trans (by rw [e1]; exact h.block k hk)⟩
theorem ints_via {B : Nat} {W W' w1 : World} {A : Option Addr} {n : Nat} {zs : List Int} (h : IntsAt W B A n zs) (h1 : Below W'.heap.size W' w1) (hB : B ≤ W.heap.size) (e : SameW W W') : IntsAt w1 B A n zs :=
  h.keep (below_via (Below.refl _ _) h1 hB e)
theorem ints_same {B : Nat} {W W' : World} {A : Option Addr} {n : Nat} {zs : List Int} (h : IntsAt W B A n zs) (e : W'.heap = W.heap) : IntsAt W' B A n zs :=
  ⟨h.1, fun hn => by
    obtain ⟨b, off, e1, hlt, hc⟩ := h.2 hn
    exact ⟨b, off, e1, hlt, fun k hk => (World.cell?_of_block (a := ⟨b, off + k, none⟩) (by rw [e])).trans (hc k hk)⟩⟩

set_option maxHeartbeats 1000000 in
theorem refRight_any (u : Int) (A : Option Addr) (n c : Nat) (zs : List Int) (B : Nat) (w : World) (hB : B ≤ w.heap.size) (hz : IntsAt w B A n zs) (hn : n ≤ 1073741824) :
    Calls Try.prog 13 #[.agg #[.int .i64 u, .slice A n c]] w fun e w' => e = .returned (.bool (rightF u zs)) ∧ Below w.heap.size w w' := by
  have hl : zs.length = n := hz.1
  have HL := Lib.hid hl
  have HZ := Lib.hid hz
  clear hl hz
  by_cases h1 : u < 0
  · have HF : Hid (rightF u zs = false) := by show rightF u zs = false; unfold rightF; rw [decide_eq_false (by omega)]; rfl
    go_enter Try.func13, Try.ntmps13
    go_wp2
    go_ret
    exact ⟨ret_bool HF.out.symm, (Below.refl _ _).alloc (Nat.le_refl _) _⟩
  by_cases h2 : 1048576 < u
  · have HF : Hid (rightF u zs = false) := by show rightF u zs = false; unfold rightF; rw [decide_eq_false (by omega)]; rfl
    go_enter Try.func13, Try.ntmps13
    go_wp2
    go_ret
    exact ⟨ret_bool HF.out.symm, (Below.refl _ _).alloc (Nat.le_refl _) _⟩
  by_cases h3 : 4096 < n
  · have HF : Hid (rightF u zs = false) := by show rightF u zs = false; unfold rightF; rw [decide_eq_false (by rw [HL.out]; omega)]; rfl
    have h3' : (4096 : Int) < n := by omega
    go_enter Try.func13, Try.ntmps13
    go_wp2
    go_ret
    exact ⟨ret_bool HF.out.symm, (Below.refl _ _).alloc (Nat.le_refl _) _⟩
  have HF : Hid (rightF u zs = chainB (u + 1) zs) := by show rightF u zs = _; unfold rightF; rw [decide_eq_true (by rw [HL.out]; omega)]; rfl
  have h3' : ¬ (4096 : Int) < n := by omega
  go_enter Try.func13, Try.ntmps13
  go_wp2
  go_loopw [3, 4] (fun l i wr => ∃ (k : Nat) (last : Int), k ≤ n ∧ i = .int .i64 k ∧ l = .int .i64 last ∧ Hid (chainB (u + 1) zs = chainB last (zs.drop k)) ∧ Hid (k = 0 → last = u + 1) ∧ Drawn (w.alloc (Obj.cells #[Value.int IntKind.i64 u, Value.slice A n c] 24)) wr) (fun _ i _ => n - (intOf i).toNat)
  case atStart => exact ⟨0, u + 1, by omega, rfl, rfl, rfl, fun _ => rfl, Drawn.refl _⟩
  case round =>
    obtain ⟨k, last, hk, rfl, rfl, HC, HK, q, rfl⟩ := hrel
    by_cases hlt : k < n
    · obtain ⟨b, off, rfl, hbB, hc⟩ := HZ.out.2 (by omega)
      have hc1 := hc k hlt
      have hb' : b < w.heap.size := by omega
      have hkI : (k : Int) < n := by omega
      have hst := chain_step (b := last) (zs := zs) (k := k) (by rw [HL.out]; exact hlt)
      have HS := Lib.hid hst
      clear hc hst
      generalize hy : zs.getD k 0 = y at hc1 HS
      clear hy
      by_cases t1 : y ≤ last
      · have HE : Hid (rightF u zs = false) := by show rightF u zs = _; rw [HF.out, HC.out, HS.out, decide_eq_false (by omega)]; rfl
        by_cases hk0 : 0 < k
        · have hk1 : (0 : Int) < k := by omega
          go_wp2_with fail
          go_quiet (fail)
          go_wp2
          go_ret
          exact ⟨ret_bool HE.out.symm, by repeat (first | exact (Below.refl _ _).alloc (Nat.le_refl _) _ | refine below_d ?_ _)⟩
        · have hk1 : decide ((0 : Int) < k) = false := by simp; omega
          have hlast := HK.out (by omega)
          have t3 : y ≤ u + 1 := by omega
          clear hlast
          go_wp2_with fail
          go_quiet (fail)
          go_wp2
          go_ret
          exact ⟨ret_bool HE.out.symm, by repeat (first | exact (Below.refl _ _).alloc (Nat.le_refl _) _ | refine below_d ?_ _)⟩
      · have t1' : decide (y ≤ last) = false := by simpa using t1
        by_cases t2 : 1048576 < y
        · have HE : Hid (rightF u zs = false) := by show rightF u zs = _; rw [HF.out, HC.out, HS.out, decide_eq_false (by omega)]; rfl
          go_wp2_with fail
          go_quiet (fail)
          go_wp2
          go_ret
          exact ⟨ret_bool HE.out.symm, by repeat (first | exact (Below.refl _ _).alloc (Nat.le_refl _) _ | refine below_d ?_ _)⟩
        · have HE : Hid (chainB (u + 1) zs = chainB y (zs.drop (k + 1))) := by show _ = _; rw [HC.out, HS.out, decide_eq_true (by omega)]; rfl
          have t2' : decide (1048576 < y) = false := by simpa using t2
          go_wp2_with fail
          go_quiet (fail)
          go_wp2
          go_roundw
          case rel => exact ⟨k + 1, y, by omega, by go_num, rfl, HE, fun h => by omega, _, rfl⟩
          case measure => simp [intOf]; omega
    · have HE : Hid (rightF u zs = true) := by
        show rightF u zs = _
        rw [HF.out, HC.out, List.drop_of_length_le (by rw [HL.out]; omega)]; rfl
      go_wp2
      go_ret
      exact ⟨ret_bool HE.out.symm, by repeat (first | exact (Below.refl _ _).alloc (Nat.le_refl _) _ | refine below_d ?_ _)⟩

theorem ints_take {w : World} {B : Nat} {A : Option Addr} {n m : Nat} {zs : List Int} (h : IntsAt w B A n zs) (hm : m ≤ n) : IntsAt w B A m (zs.take m) :=
  ⟨by rw [List.length_take, h.1]; omega, fun hp => by
    obtain ⟨b, off, e, hlt, hc⟩ := h.2 (by omega)
    refine ⟨b, off, e, hlt, fun k hk => (hc k (by omega)).trans ?_⟩
    simp [List.getD_eq_getElem?_getD, hk]⟩

set_option maxHeartbeats 1000000 in
theorem spanRights_walk (u : Int) (A : Option Addr) (n c : Nat) (zs : List Int) (w : World) (hz : IntsAt w w.heap.size A n zs) (hnc : n ≤ c) (hn : n ≤ 9223372036854775807) :
    Calls Try.prog 3 #[.agg #[.int .i64 u, .slice A n c]] w fun e w' => e = .returned (.bool true) ∧ Below w.heap.size w w' := by
  have HZ := Lib.hid hz
  clear hz
  go_enter Try.func3, Try.ntmps3
  go_upto_region 1 with fail
  go_cut [] (fun wx => ∃ (A' : Option Addr) (m : Nat) (ys : List Int), m ≤ 5000 ∧ wx.cell? ⟨w.heap.size, 0, none⟩ = some (.int .i64 u) ∧ wx.cell? ⟨w.heap.size, 1, none⟩ = some (.slice A' m c) ∧ w.heap.size + 1 ≤ wx.heap.size ∧ Hid (IntsAt wx w.heap.size A' m ys) ∧ Hid (Below w.heap.size w wx))
  case first =>
    go_wp2
    all_goals
      go_meet
      case rel =>
        first
          | exact ⟨A, 5000, zs.take 5000, by omega, by simp [go_sem], by simp [go_sem], by simp, ints_take (HZ.out.keep ((Below.refl _ _).alloc (Nat.le_refl _) _)) (by omega), (Below.refl _ _).alloc (Nat.le_refl _) _⟩
          | exact ⟨A, n, zs, by omega, by simp [go_sem], by simp [go_sem], by simp, HZ.out.keep ((Below.refl _ _).alloc (Nat.le_refl _) _), (Below.refl _ _).alloc (Nat.le_refl _) _⟩
  case rest =>
    obtain ⟨A', m, ys, hm, k0, k1, hsz, HI, HB⟩ := hcut
    go_wp2_with fail
    go_region_held3 (fun w' => w'.cell? ⟨w.heap.size, 0, none⟩ = some (.int .i64 u) ∧ w'.cell? ⟨w.heap.size, 1, none⟩ = some (.slice A' m c)) (first | exact ⟨k0, k1⟩ | exact ⟨p0, p1⟩ | exact ⟨q0, q1⟩ | exact ⟨r0, r1⟩ | exact ⟨s0, s1⟩)
      (first
        | (go_at_call 10
           refine (told_any _).mono ?_
           rintro e w1 ⟨rfl, hb1⟩
           have p0 := (hb1.cell (p := ⟨w.heap.size, 0, none⟩) hsz).trans k0
           have p1 := (hb1.cell (p := ⟨w.heap.size, 1, none⟩) hsz).trans k1
           have HB1 : Hid (Below w.heap.size w w1) := below_via HB.out hb1 HB.out.size ⟨rfl, rfl, rfl, rfl⟩
           have HI1 : Hid (IntsAt w1 w.heap.size A' m ys) := ints_via HI.out hb1 HB.out.size ⟨rfl, rfl, rfl, rfl⟩
           have hsz1 : w.heap.size + 1 ≤ w1.heap.size := Nat.le_trans hsz hb1.size
           clear hb1)
        | (go_at_call 12
           refine (to_any u A' m c ys w.heap.size _ HB1.out.size (ints_same HI1.out rfl) (by omega)).mono ?_
           rintro e w2 ⟨A2, c2, rfl, hown2, hg2, hl2⟩
           have hb2 := grown_none hg2
           have q0 := (hb2.cell (p := ⟨w.heap.size, 0, none⟩) hsz1).trans p0
           have q1 := (hb2.cell (p := ⟨w.heap.size, 1, none⟩) hsz1).trans p1
           have HB2 : Hid (Below w.heap.size w w2) := below_via HB1.out hb2 HB1.out.size ⟨rfl, rfl, rfl, rfl⟩
           have HI2 : Hid (IntsAt w2 w.heap.size A' m ys) := ints_via HI1.out hb2 HB1.out.size ⟨rfl, rfl, rfl, rfl⟩
           have HO2 : Hid (IntsAt w2 w2.heap.size A2 ys.length ys) := own_ints hown2
           have hsz2 : w.heap.size + 1 ≤ w2.heap.size := Nat.le_trans hsz1 hb2.size
           clear hown2 hg2 hl2 hb2)
        | (go_at_call 11
           refine (right_any u A2 ys.length c2 ys w2.heap.size _ (Nat.le_refl _) (ints_same HO2.out rfl) (by have := HI2.out.1; omega)).mono ?_
           rintro e w3 ⟨rfl, hb3⟩
           have r0 := (hb3.cell (p := ⟨w.heap.size, 0, none⟩) hsz2).trans q0
           have r1 := (hb3.cell (p := ⟨w.heap.size, 1, none⟩) hsz2).trans q1
           have HB3 : Hid (Below w.heap.size w w3) := below_via HB2.out hb3 HB2.out.size ⟨rfl, rfl, rfl, rfl⟩
           have HI3 : Hid (IntsAt w3 w.heap.size A' m ys) := ints_via HI2.out hb3 HB2.out.size ⟨rfl, rfl, rfl, rfl⟩
           have hsz3 : w.heap.size + 1 ≤ w3.heap.size := Nat.le_trans hsz2 hb3.size
           clear hb3)
        | (go_at_call 13
           refine (refRight_any u A' m c ys w.heap.size _ HB3.out.size (ints_same HI3.out rfl) (by omega)).mono ?_
           rintro e w4 ⟨rfl, hb4⟩
           have s0 := (hb4.cell (p := ⟨w.heap.size, 0, none⟩) hsz3).trans r0
           have s1 := (hb4.cell (p := ⟨w.heap.size, 1, none⟩) hsz3).trans r1
           have HB4 : Hid (Below w.heap.size w w4) := below_via HB3.out hb4 HB3.out.size ⟨rfl, rfl, rfl, rfl⟩
           clear hb4))
    go_wp2
    go_ret
    exact ⟨rfl, HB4.out⟩
end Go.Proofs.Ytlalonchdfcjgaa
