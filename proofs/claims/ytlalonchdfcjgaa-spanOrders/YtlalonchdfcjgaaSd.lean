/- span.pushAll: push, number by number. -/
import Derived.Test.YtlalonchdfcjgaaSc
namespace Go.Proofs.Ytlalonchdfcjgaa
open Go.RowKit

theorem push_lo (s : Int × List Int) (m : Int) : s.1 ≤ (pushF s m).1 ∧ (pushF s m).1 ≤ s.1 + 1 ∧ (pushF s m).2.length ≤ s.2.length + 1 := by
  unfold pushF
  split
  · simp; omega
  · split
    · simp; omega
    · simp; omega

/-- What holds behind k pushes, in the world wr: the Span that is being made lies in block H; its Extra is a row of the call's own. -/
def PushRel (w : World) (B H : Nat) (row : Option Nat) (u : Int) (zs ys : List Int) (k : Nat) (wr : World) : Prop :=
  ∃ (uk : Int) (zk : List Int) (A : Option Addr) (c : Nat), (ys.take k).foldl pushF (u, zs) = (uk, zk) ∧ u ≤ uk ∧ uk ≤ u + k ∧ zk.length ≤ zs.length + k ∧
    wr.cell? ⟨H, 0, none⟩ = some (.int .i64 uk) ∧ wr.cell? ⟨H, 1, none⟩ = some (.slice A zk.length c) ∧ wr.frozen? ⟨H, 0, none⟩ = false ∧ wr.frozen? ⟨H, 1, none⟩ = false ∧
    wr.cell? ⟨H + 1, 0, none⟩ = some (.int .i64 0) ∧ wr.cell? ⟨H + 1, 1, none⟩ = some (.slice none 0 0) ∧ wr.frozen? ⟨H + 1, 0, none⟩ = false ∧ wr.frozen? ⟨H + 1, 1, none⟩ = false ∧
    wr.ownsRow B 3 1 (.slice A zk.length c) zk.length (zk.map (.int .i64)) ∧ w.grownBy wr row ∧ Lies (.slice A zk.length c) row (H + 2) ∧ H + 2 ≤ wr.heap.size

theorem take_next (ys : List Int) (k : Nat) (h : k < ys.length) : ys.take (k + 1) = ys.take k ++ [ys.getD k 0] := by
  rw [List.take_succ_eq_append_getElem h]
  simp [List.getD_eq_getElem?_getD, List.getElem?_eq_getElem h]

set_option maxHeartbeats 1000000 in
theorem pushAll_any (u : Int) (A : Option Addr) (n c : Nat) (zs : List Int) (A' : Option Addr) (m c' : Nat) (ys : List Int) (B : Nat) (w : World) (hB : B ≤ w.heap.size) (hown : w.ownsRow B 3 1 (.slice A n c) n (zs.map (.int .i64)))
    (hys : IntsAt w B A' m ys) (h0 : 0 ≤ u) (h1 : u ≤ 4294967296) (hn : n ≤ 4294967296) (hm : m ≤ 4294967296) :
    Calls Try.prog 34 #[.agg #[.int .i64 u, .slice A n c], .slice A' m c'] w (OwnSpan B (Value.ownBlock (.slice A n c)) (ys.foldl pushF (u, zs)) w) := by
  have hl : zs.length = n := by have := hown.1; simpa using this
  have hrow : ∀ k, Value.ownBlock (.slice A n c) = some k → B ≤ k ∧ k < w.heap.size := hown.lt
  have HR := Lib.hid hrow
  have HO := Lib.hid hown
  have HL := Lib.hid hl
  have HY := Lib.hid hys
  clear hown hl hys hrow
  go_enter Try.func34, Try.ntmps34
  go_wp2
  go_loopw [9] (fun i wr => ∃ k : Nat, k ≤ m ∧ i = .int .i64 k ∧ PushRel w B w.heap.size (Value.ownBlock (.slice A n c)) u zs ys k wr) (fun i _ => m - (intOf i).toNat)
  case atStart =>
    refine ⟨0, Nat.zero_le _, rfl, u, zs, A, c, rfl, by omega, by omega, by omega, ?_⟩
    rw [HL.out]
    refine ⟨by simp [go_sem], by simp [go_sem], by simp [go_sem], by simp [go_sem], by simp [go_sem], by simp [go_sem], by simp [go_sem], by simp [go_sem], (HO.out.alloc _).alloc _, ?_, .inl rfl, by simp⟩
    exact grown_of_below (((Below.refl _ _).alloc (Nat.le_refl _) _).alloc (by simp) _) _
  case round =>
    obtain ⟨k, hk, rfl, HP⟩ := hrel
    obtain ⟨uk, zk, Ak, ck, hfold, hu1, hu2, hzl, c00, c01, f00, f01, c10, c11, f10, f11, hown, hg, hlie, hsz⟩ := HP
    have HFo := Lib.hid hfold
    have HG := Lib.hid hg
    have HLi := Lib.hid hlie
    have HOk := Lib.hid hown
    have hzl' : zk.length ≤ 8589934592 := by rw [HL.out] at hzl; omega
    clear hfold hg hlie hown
    by_cases hlt : k < m
    · obtain ⟨b, off, rfl, hbB, hc⟩ := HY.out.2 (by omega)
      have hck := hc k hlt
      have hkc := (grown_cell HG.out (off + k) (b := b) (by omega) (fun e => by have := (HR.out b e.symm).1; omega)).1.trans hck
      clear hc hck
      go_wp2_with fail
      refine (push_any uk Ak zk.length ck zk (ys.getD k 0) B _ (by omega) HOk.out (by omega) (by omega) (by omega)).mono ?_
      have hpl := push_lo (uk, zk) (ys.getD k 0)
      have hfo : (ys.take (k + 1)).foldl pushF (u, zs) = pushF (uk, zk) (ys.getD k 0) := by
        rw [take_next ys k (by rw [HY.out.1]; omega), List.foldl_append, HFo.out]; rfl
      generalize pushF (uk, zk) (ys.getD k 0) = s1 at hpl hfo ⊢
      obtain ⟨u1, z1⟩ := s1
      have HF1 := Lib.hid hfo
      clear hfo
      rintro e w1 ⟨A1, c1, rfl, hown1, hg1, hl1⟩
      have hneH : ∀ j, w.heap.size ≤ j → j < w.heap.size + 2 → some j ≠ Value.ownBlock (.slice Ak zk.length ck) := by
        intro j hj hj2 e
        rcases HLi.out with h | ⟨q, h, hq⟩
        · have := (HR.out j (by rw [← h, e])).2; omega
        · rw [h] at e; injection e with e; omega
      have g0 := fun o => grown_cell hg1 o (b := w.heap.size) (by omega) (hneH _ (by omega) (by omega))
      have g1 := fun o => grown_cell hg1 o (b := w.heap.size + 1) (by omega) (hneH _ (by omega) (by omega))
      have d00 := (g0 0).1.trans c00
      have d01 := (g0 1).1.trans c01
      have d10 := (g1 0).1.trans c10
      have d11 := (g1 1).1.trans c11
      have e00 := (g0 0).2.trans f00
      have e01 := (g0 1).2.trans f01
      have e10 := (g1 0).2.trans f10
      have e11 := (g1 1).2.trans f11
      have hsz1 : w.heap.size + 2 ≤ w1.heap.size := Nat.le_trans hsz hg1.size
      have hne1 : ∀ j, w.heap.size ≤ j → j < w.heap.size + 2 → Value.ownBlock (.slice A1 z1.length c1) ≠ some j := by
        intro j hj hj2 e
        rcases hl1 with h | ⟨q, h, hq⟩
        · exact hneH j hj hj2 (by rw [← e, ← h])
        · rw [h] at e; injection e with e; omega
      have HN1 := Lib.hid hne1
      have HG1 : Hid (w.grownBy w1 (Value.ownBlock (.slice A n c))) := grown_step HG.out hg1 (by
        rcases HLi.out with h | ⟨q, h, hq⟩
        · exact .inl h
        · exact .inr ⟨q, h, by omega⟩)
      have HL1 : Hid (Lies (.slice A1 z1.length c1) (Value.ownBlock (.slice A n c)) (w.heap.size + 2)) := by
        rcases hl1 with h | ⟨q, h, hq⟩
        · rcases HLi.out with h' | ⟨q', h', hq'⟩
          · exact .inl (h.trans h')
          · exact .inr ⟨q', h.trans h', hq'⟩
        · exact .inr ⟨q, h, by omega⟩
      have HO1 := Lib.hid hown1
      clear hown1 hg1 hl1 hneH g0 g1 hne1 c00 c01 c10 c11 f00 f01 f10 f11
      simp only at hpl
      go_wp2
      go_roundw
      case rel =>
        refine ⟨k + 1, by omega, by go_num, u1, z1, A1, c1, HF1.out, by omega, by omega, by omega, ?_⟩
        refine ⟨by simp [go_sem, d00], by simp [go_sem, d01], by simp [go_sem, e00], by simp [go_sem, e01], by simp [go_sem, d10], by simp [go_sem, d11], by simp [go_sem, e10], by simp [go_sem, e11], ?_, ?_, HL1.out, by simp [World.setCell]; omega⟩
        · exact own_setCell (own_setCell HO1.out (p := ⟨w.heap.size, 0, none⟩) (HN1.out w.heap.size (by omega) (by omega)) _) (p := ⟨w.heap.size, 1, none⟩) (HN1.out w.heap.size (by omega) (by omega)) _
        · exact grown_new_set (grown_new_set HG1.out (by simp) _) (by simp) _
      case measure => simp [intOf]; omega
    · have hkm : k = m := by omega
      go_wp2
      refine bodyPost_ret (v := .agg #[.int .i64 uk, .slice Ak zk.length ck]) ?_ rfl ?_
      · simp [results, Try.results34, go_sem, c10, c11]
      · have hs : ys.foldl pushF (u, zs) = (uk, zk) := by
          rw [← HFo.out, List.take_of_length_le (by rw [HY.out.1]; omega)]
        have hne1 : ∀ j, w.heap.size ≤ j → j < w.heap.size + 2 → Value.ownBlock (.slice Ak zk.length ck) ≠ some j := by
          intro j hj hj2 e
          rcases HLi.out with h | ⟨q, h, hq⟩
          · have := (HR.out j (by rw [← h, e])).2; omega
          · rw [h] at e; injection e with e; omega
        refine ownSpan_of hs rfl (own_setCell (own_setCell HOk.out (p := ⟨w.heap.size + 1, 0, none⟩) (hne1 (w.heap.size + 1) (by omega) (by omega)) _) (p := ⟨w.heap.size + 1, 1, none⟩) (hne1 (w.heap.size + 1) (by omega) (by omega)) _) (grown_new_set (grown_new_set HG.out (by simp) _) (by simp) _) ?_
        rcases HLi.out with h | ⟨q, h, hq⟩
        · exact .inl h
        · exact .inr ⟨q, h, by omega⟩
end Go.Proofs.Ytlalonchdfcjgaa
