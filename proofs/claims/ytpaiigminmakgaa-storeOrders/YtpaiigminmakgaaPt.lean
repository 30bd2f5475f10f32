/- StoreOrders, walked. -/
import Derived.Test.YtpaiigminmakgaaPs
import Derived.Test.YtpaiigminmakgaaPj
import Derived.Test.YtpaiigminmakgaaLe
import Derived.Deep.CutBlock
import Derived.BigRegion
import Derived.Deep.DeepCutAuto
namespace Go.Proofs.Ytpaiigminmakgaa
open Go.RowKit

/-- The items that are made, in a row of the call's own. -/
structure OwnG (w wr : World) (A : Option Addr) (c : Nat) (own : List Itm) : Prop where
  row : wr.ownsRow w.heap.size 28 9 (.slice A own.length c) own.length (rowCells cellsI own)
  one : One own
  right : ∀ z ∈ own, rightI z = true
  below : Below w.heap.size w wr
theorem OwnG.move {w wr w1 : World} {A : Option Addr} {c : Nat} {own : List Itm} (h : OwnG w wr A c own) (hb : Below wr.heap.size wr w1) : OwnG w w1 A c own := ⟨rown_below h.row hb, h.one, h.right, h.below.trans (hb.mono h.below.size)⟩
/-- A block that holds an item. -/
def BlkI (wr : World) (X : Nat) (x : Itm) : Prop := X < wr.heap.size ∧ ∀ j u, (cellsI x)[j]? = some u → wr.cell? ⟨X, j, none⟩ = some u ∧ wr.frozen? ⟨X, j, none⟩ = false
theorem BlkI.keep {wr w1 : World} {X : Nat} {x : Itm} (h : BlkI wr X x) (hb : Below wr.heap.size wr w1) : BlkI w1 X x := ⟨Nat.lt_of_lt_of_le h.1 hb.size, fun j u hu => ⟨(hb.cell (p := ⟨X, j, none⟩) h.1).trans (h.2 j u hu).1, (hb.frozen (p := ⟨X, j, none⟩) h.1).trans (h.2 j u hu).2⟩⟩
theorem nine {x : Itm} {j : Nat} {u : Value} (h : (cellsI x)[j]? = some u) : j = 0 ∨ j = 1 ∨ j = 2 ∨ j = 3 ∨ j = 4 ∨ j = 5 ∨ j = 6 ∨ j = 7 ∨ j = 8 := by
  have h1 := (List.getElem?_eq_some_iff.mp h).1
  have h2 : (cellsI x).length = 9 := rfl
  omega
theorem blkI_new (w : World) (x : Itm) : BlkI (w.alloc (.cells #[.int .i64 x.key, .string x.ver.id, .int .i64 x.ver.seq, .int .i64 x.ver.stamp, .bool x.dead, .int .i64 x.x, .int .i64 x.y, .string x.text, .bool x.held] 28)) w.heap.size x := ⟨by simp, fun j u hu => by
  rcases nine hu with rfl | rfl | rfl | rfl | rfl | rfl | rfl | rfl | rfl <;> (simp [cellsI] at hu; subst hu; simp [go_sem])⟩
theorem BlkI.store {w : World} {X : Nat} {x : Itm} (h : BlkI w X x) (y : Itm) : BlkI (((((((((w.setCell ⟨X, 0, none⟩ (.int .i64 y.key)).setCell ⟨X, 1, none⟩ (.string y.ver.id)).setCell ⟨X, 2, none⟩ (.int .i64 y.ver.seq)).setCell ⟨X, 3, none⟩ (.int .i64 y.ver.stamp)).setCell ⟨X, 4, none⟩ (.bool y.dead)).setCell ⟨X, 5, none⟩ (.int .i64 y.x)).setCell ⟨X, 6, none⟩ (.int .i64 y.y)).setCell ⟨X, 7, none⟩ (.string y.text)).setCell ⟨X, 8, none⟩ (.bool y.held)) X y := by
  obtain ⟨c0, f0⟩ := h.2 0 _ rfl
  obtain ⟨c1, f1⟩ := h.2 1 _ rfl
  obtain ⟨c2, f2⟩ := h.2 2 _ rfl
  obtain ⟨c3, f3⟩ := h.2 3 _ rfl
  obtain ⟨c4, f4⟩ := h.2 4 _ rfl
  obtain ⟨c5, f5⟩ := h.2 5 _ rfl
  obtain ⟨c6, f6⟩ := h.2 6 _ rfl
  obtain ⟨c7, f7⟩ := h.2 7 _ rfl
  obtain ⟨c8, f8⟩ := h.2 8 _ rfl
  refine ⟨by simpa using h.1, fun j u hu => ?_⟩
  rcases nine hu with rfl | rfl | rfl | rfl | rfl | rfl | rfl | rfl | rfl <;> (simp [cellsI] at hu; subst hu; simp [go_sem, c0, c1, c2, c3, c4, c5, c6, c7, c8, f0, f1, f2, f3, f4, f5, f6, f7, f8])
theorem below_store {B X : Nat} {w0 w : World} (h : Below B w0 w) (hX : B ≤ X) (y : Itm) : Below B w0 (((((((((w.setCell ⟨X, 0, none⟩ (.int .i64 y.key)).setCell ⟨X, 1, none⟩ (.string y.ver.id)).setCell ⟨X, 2, none⟩ (.int .i64 y.ver.seq)).setCell ⟨X, 3, none⟩ (.int .i64 y.ver.stamp)).setCell ⟨X, 4, none⟩ (.bool y.dead)).setCell ⟨X, 5, none⟩ (.int .i64 y.x)).setCell ⟨X, 6, none⟩ (.int .i64 y.y)).setCell ⟨X, 7, none⟩ (.string y.text)).setCell ⟨X, 8, none⟩ (.bool y.held)) := by
  have hs : ∀ (W : World) (o : Nat) (v : Value), Below B w0 W → Below B w0 (W.setCell ⟨X, o, none⟩ v) := fun W o v h => h.setCell (p := ⟨X, o, none⟩) hX v
  exact hs _ _ _ (hs _ _ _ (hs _ _ _ (hs _ _ _ (hs _ _ _ (hs _ _ _ (hs _ _ _ (hs _ _ _ (hs _ _ _ (h)))))))))
/-- What x has become when it was held against the first of own. -/
structure Held (own : List Itm) (x0 x : Itm) (q : Nat) : Prop where
  right : rightI x = true
  st : x.ver.stamp = x0.ver.stamp
  id : x.ver.id = x0.ver.id
  like : ∀ z ∈ own.take q, z.ver.stamp = x0.ver.stamp → z.ver.id = x0.ver.id → x.key = z.key ∧ x.ver = z.ver ∧ x.dead = z.dead
theorem Held.start (own : List Itm) {x0 : Itm} (h : rightI x0 = true) : Held own x0 x0 0 := ⟨h, rfl, rfl, by simp⟩
theorem Held.skip {own : List Itm} {x0 x z : Itm} {q : Nat} (h : Held own x0 x q) (hz : own[q]? = some z) (hn : ¬ (z.ver.stamp = x.ver.stamp ∧ z.ver.id = x.ver.id)) : Held own x0 x (q + 1) := ⟨h.right, h.st, h.id, fun y hy h1 h2 => by
  rw [snoc_of hz] at hy
  rcases List.mem_append.mp hy with hy | hy
  · exact h.like y hy h1 h2
  · simp at hy; subst hy; exact absurd ⟨h1.trans h.st.symm, h2.trans h.id.symm⟩ hn⟩
theorem Held.take {own : List Itm} {x0 x z y : Itm} {q : Nat} (ho : One own) (hr : ∀ z ∈ own, rightI z = true) (h : Held own x0 x q) (hz : own[q]? = some z) (h1 : z.ver.stamp = x.ver.stamp) (h2 : z.ver.id = x.ver.id) (hy : y = z ∨ y = stubI z) : Held own x0 y (q + 1) := by
  have hzm := List.mem_of_getElem? hz
  have hc : y.key = z.key ∧ y.ver = z.ver ∧ y.dead = z.dead := by rcases hy with rfl | rfl <;> exact ⟨rfl, rfl, rfl⟩
  refine ⟨?_, ?_, ?_, fun t ht e1 e2 => ?_⟩
  · rcases hy with rfl | rfl
    · exact hr _ hzm
    · exact stub_right (hr _ hzm)
  · rw [hc.2.1, h1, h.st]
  · rw [hc.2.1, h2, h.id]
  · have htm : t ∈ own := List.mem_of_mem_take ht
    have := ho z hzm t htm (by rw [e1, h1, h.st]) (by rw [e2, h2, h.id])
    exact ⟨hc.1.trans this.1, hc.2.1.trans this.2.1, hc.2.2.trans this.2.2⟩
theorem Held.add {own : List Itm} {x0 x : Itm} (ho : One own) (h : Held own x0 x own.length) : One (own ++ [x]) := by
  have hl : ∀ z ∈ own, z.ver.stamp = x.ver.stamp → z.ver.id = x.ver.id → x.key = z.key ∧ x.ver = z.ver ∧ x.dead = z.dead := fun z hz e1 e2 => h.like z (by rw [List.take_length]; exact hz) (e1.trans h.st) (e2.trans h.id)
  intro a ha b hb e1 e2
  rcases List.mem_append.mp ha with p | p <;> rcases List.mem_append.mp hb with r | r
  · exact ho a p b r e1 e2
  · have e : b = x := by simpa using r
    rw [e] at e1 e2 ⊢
    have := hl a p e1 e2
    exact ⟨this.1.symm, this.2.1.symm, this.2.2.symm⟩
  · have e : a = x := by simpa using p
    rw [e] at e1 e2 ⊢
    exact hl b r e1.symm e2.symm
  · have e : a = x := by simpa using p
    have e' : b = x := by simpa using r
    rw [e, e']; exact ⟨rfl, rfl, rfl⟩
theorem id_eq {a b : ByteArray} (h : (a.toList == b.toList) = true) : a = b := toList_inj (by simpa using h)
theorem id_ne {a b : ByteArray} (h : (a.toList == b.toList) = false) : a ≠ b := fun e => by subst e; simp at h
theorem put_len (s : List Itm) (x : Itm) : (putF s x).1.length ≤ s.length + 1 := by
  have h : (insF s x).length ≤ s.length + 1 := by
    unfold insF lowF highF
    rw [List.length_append, List.length_cons]
    induction s with
    | nil => simp
    | cons y l ih =>
      simp only [List.filter_cons, List.length_cons]
      by_cases h1 : y.key < x.key
      · rw [if_pos (by simpa using h1), if_neg (by simp; omega)]; simp only [List.length_cons]; omega
      · rw [if_neg (by simpa using h1)]
        split
        · simp only [List.length_cons]; omega
        · omega
  unfold putF
  split
  · exact h
  · split
    · exact h
    · simp
theorem uint_mod (z : Int) (n : Nat) (h : 0 < n) (h' : n ≤ 14) : ∃ j : Nat, wrap64 ((IntKind.u64.wrap z).tmod (n : Int)) = (j : Int) ∧ j < n := by
  have h0 : IntKind.u64.wrap z = z % 18446744073709551616 := rfl
  rw [h0, Int.tmod_eq_emod_of_nonneg (Int.emod_nonneg _ (by decide))]
  have h1 := Int.emod_nonneg (z % 18446744073709551616) (show (n : Int) ≠ 0 by omega)
  have h2 := Int.emod_lt_of_pos (z % 18446744073709551616) (show (0 : Int) < n by omega)
  refine ⟨(z % 18446744073709551616 % (n : Int)).toNat, ?_, by omega⟩
  generalize z % 18446744073709551616 % (n : Int) = m at *
  rw [IntWalk.wrap64_in _ (by omega)]
  omega
theorem id_small {z : Itm} (h : rightI z = true) : z.ver.id.size ≤ 9223372036854775807 := by
  have := (rightV_bounds (right_bounds h).2.2.1).2.1
  omega
/-- A row of ints. -/
def IntRow (w : World) (B : Nat) (A : Option Addr) (n : Nat) : Prop := 0 < n → ∃ b off, A = some ⟨b, off, none⟩ ∧ b < B ∧ ∀ k, k < n → ∃ z : Int, w.cell? ⟨b, off + k, none⟩ = some (.int .i64 z)
set_option maxRecDepth 100000 in
set_option maxHeartbeats 16000000 in
theorem storeOrders_walk (A0 : Option Addr) (n0 c0 : Nat) (z0 : List Itm) (A1 : Option Addr) (n1 c1 : Nat) (w : World) (hz0 : RowAt cellsI 9 w w.heap.size A0 n0 z0) (hz1 : IntRow w w.heap.size A1 n1) (hn1 : n1 ≤ 9223372036854775807) :
    Calls Try.prog 6 #[.slice A0 n0 c0, .slice A1 n1 c1] w fun e w' => e = .returned (.bool true) ∧ Below w.heap.size w w' := by
  have HZ0 := Lib.hid hz0
  have HZ1 := Lib.hid hz1
  clear hz0 hz1
  go_enter Try.func6, Try.ntmps6
  go_upto_block 0 with fail
  go_cut [5, 6] (fun v i wr => ∃ (k : Nat) (Av : Option Addr) (cv : Nat) (own : List Itm), i = .int .i64 k ∧ own.length ≤ 14 ∧ v = .slice Av own.length cv ∧ Hid (OwnG w wr Av cv own))
  case first =>
    go_wp2_with fail
    go_loopw [5, 6] (fun v i wr => ∃ (k : Nat) (Av : Option Addr) (cv : Nat) (own : List Itm), i = .int .i64 k ∧ k ≤ n0 ∧ k ≤ 14 ∧ own.length = k ∧ v = .slice Av own.length cv ∧ Hid (OwnG w wr Av cv own)) (fun _ i _ => 14 - (intOf i).toNat)
    case atStart => exact ⟨0, none, 0, [], rfl, by omega, by omega, rfl, rfl, rown_nil _ _, One.nil, by simp, Below.refl _ _⟩
    case round =>
      obtain ⟨k, Av, cv, own, rfl, hkn, hk14, hol, rfl, HO⟩ := hrel
      have hol14 : own.length ≤ 14 := by omega
      have HOL := Lib.hid hol
      clear hol
      by_cases hlt : k < n0
      · by_cases hl14 : k < 14
        · obtain ⟨blk, off, rfl, hbB, l0, hlj, hcell⟩ := HZ0.out.get hlt
          obtain ⟨e0, e1, e2, e3, e4, e5, e6, e7, e8⟩ := cellsI_at hcell
          replace e0 := (HO.out.below.cell (p := ⟨blk, off + k * 9, none⟩) hbB).trans e0
          replace e1 := (HO.out.below.cell (p := ⟨blk, off + k * 9 + 1, none⟩) hbB).trans e1
          replace e2 := (HO.out.below.cell (p := ⟨blk, off + k * 9 + 2, none⟩) hbB).trans e2
          replace e3 := (HO.out.below.cell (p := ⟨blk, off + k * 9 + 3, none⟩) hbB).trans e3
          replace e4 := (HO.out.below.cell (p := ⟨blk, off + k * 9 + 4, none⟩) hbB).trans e4
          replace e5 := (HO.out.below.cell (p := ⟨blk, off + k * 9 + 5, none⟩) hbB).trans e5
          replace e6 := (HO.out.below.cell (p := ⟨blk, off + k * 9 + 6, none⟩) hbB).trans e6
          replace e7 := (HO.out.below.cell (p := ⟨blk, off + k * 9 + 7, none⟩) hbB).trans e7
          replace e8 := (HO.out.below.cell (p := ⟨blk, off + k * 9 + 8, none⟩) hbB).trans e8
          have h1' : (k : Int) < n0 := by omega
          have h2' : (k : Int) < 14 := by omega
          have h0' : (0 : Int) ≤ (k : Int) := by omega
          have HX := Lib.hid (fixRef_any l0)
          have HXR := Lib.hid (fix_right l0)
          generalize fixI l0 = x0 at *
          unfold refV at HX
          clear hcell hlj
          go_wp2_with fail
          refine (HX.out _).mono ?_
          rintro e w1 ⟨rfl, hb⟩
          replace HO := Lib.hid (HO.out.move hb)
          clear hb e0 e1 e2 e3 e4 e5 e6 e7 e8 HX
          go_upto_region 6 with fail
          have HBK := Lib.hid (blkI_new w1 x0)
          have HB1 : Hid (Below w1.heap.size w1 (w1.alloc (.cells #[.int .i64 x0.key, .string x0.ver.id, .int .i64 x0.ver.seq, .int .i64 x0.ver.stamp, .bool x0.dead, .int .i64 x0.x, .int .i64 x0.y, .string x0.text, .bool x0.held] 28))) := (Below.refl _ _).alloc (Nat.le_refl _) _
          have HRW := Lib.hid (own_row rowI HO.out.row)
          have HH0 := Lib.hid (Held.start own HXR.out)
          generalize (w1.alloc (.cells #[.int .i64 x0.key, .string x0.ver.id, .int .i64 x0.ver.seq, .int .i64 x0.ver.stamp, .bool x0.dead, .int .i64 x0.x, .int .i64 x0.y, .string x0.text, .bool x0.held] 28)) = W1 at *
          generalize hXe : w1.heap.size = X at *
          have HXE := Lib.hid hXe
          clear hXe
          go_wp2_with fail
          go_loopw [8, 9] (fun i _ wr => ∃ (q : Nat) (x : Itm), i = .int .i64 q ∧ q ≤ own.length ∧ Hid (Held own x0 x q) ∧ Hid (BlkI wr X x) ∧ Hid (Below X w1 wr)) (fun i _ _ => own.length - (intOf i).toNat)
          case atStart => exact ⟨0, x0, rfl, by omega, HH0, HBK, HB1⟩
          case round =>
            clear HH0 HBK HB1
            obtain ⟨q, x, rfl, hq, HH, HBK, HB1⟩ := hrel
            by_cases hql : q < own.length
            · obtain ⟨b2, o2, rfl, hb2, zq, hzq, hc2⟩ := HRW.out.get hql
              obtain ⟨g0, g1, g2, g3, g4, g5, g6, g7, g8⟩ := cellsI_at hc2
              replace g0 := (HB1.out.cell (p := ⟨b2, o2 + q * 9, none⟩) hb2).trans g0
              replace g1 := (HB1.out.cell (p := ⟨b2, o2 + q * 9 + 1, none⟩) hb2).trans g1
              replace g2 := (HB1.out.cell (p := ⟨b2, o2 + q * 9 + 2, none⟩) hb2).trans g2
              replace g3 := (HB1.out.cell (p := ⟨b2, o2 + q * 9 + 3, none⟩) hb2).trans g3
              replace g4 := (HB1.out.cell (p := ⟨b2, o2 + q * 9 + 4, none⟩) hb2).trans g4
              replace g5 := (HB1.out.cell (p := ⟨b2, o2 + q * 9 + 5, none⟩) hb2).trans g5
              replace g6 := (HB1.out.cell (p := ⟨b2, o2 + q * 9 + 6, none⟩) hb2).trans g6
              replace g7 := (HB1.out.cell (p := ⟨b2, o2 + q * 9 + 7, none⟩) hb2).trans g7
              replace g8 := (HB1.out.cell (p := ⟨b2, o2 + q * 9 + 8, none⟩) hb2).trans g8
              obtain ⟨k0, kf0⟩ := HBK.out.2 0 _ rfl
              obtain ⟨k1, kf1⟩ := HBK.out.2 1 _ rfl
              obtain ⟨k2, kf2⟩ := HBK.out.2 2 _ rfl
              obtain ⟨k3, kf3⟩ := HBK.out.2 3 _ rfl
              obtain ⟨k4, kf4⟩ := HBK.out.2 4 _ rfl
              obtain ⟨k5, kf5⟩ := HBK.out.2 5 _ rfl
              obtain ⟨k6, kf6⟩ := HBK.out.2 6 _ rfl
              obtain ⟨k7, kf7⟩ := HBK.out.2 7 _ rfl
              obtain ⟨k8, kf8⟩ := HBK.out.2 8 _ rfl
              have hqi : (q : Int) < own.length := by omega
              have hq0 : (0 : Int) ≤ (q : Int) := by omega
              have hX : X < wr.heap.size := HBK.out.1
              have hb2w : b2 < wr.heap.size := by omega
              clear hc2
              by_cases hs : zq.ver.stamp = x.ver.stamp
              · have hs' : (zq.ver.stamp == x.ver.stamp) = true := by simpa using hs
                cases hi : (zq.ver.id.toList == x.ver.id.toList) with
                | false =>
                  have HN := Lib.hid (HH.out.skip hzq (fun h => id_ne hi h.2))
                  clear hzq hs
                  go_wp2
                  go_quiet (fail)
                  go_wp2
                  go_roundw
                  case rel => exact ⟨q + 1, x, by go_num, by omega, HN, HBK.out.keep (below_drewN (Below.refl _ _) _), below_drewN HB1.out _⟩
                  case measure => simp [intOf]; omega
                | true =>
                  have hid := id_eq hi
                  have HN1 := Lib.hid (Held.take HO.out.one HO.out.right HH.out hzq hs hid (.inl rfl))
                  have HN2 := Lib.hid (Held.take HO.out.one HO.out.right HH.out hzq hs hid (.inr rfl))
                  have HST := Lib.hid (refStub_any zq)
                  unfold refV at HST
                  clear hzq hs hid
                  go_wp2_with fail
                  go_quiet (fail)
                  generalize hwq : wr.drewN _ = wq
                  replace g0 : wq.cell? ⟨b2, o2 + q * 9, none⟩ = some (.int .i64 zq.key) := by rw [← hwq]; exact g0
                  replace k0 : wq.cell? ⟨X, 0, none⟩ = some (.int .i64 x.key) := by rw [← hwq]; exact k0
                  replace kf0 : wq.frozen? ⟨X, 0, none⟩ = false := by rw [← hwq]; exact kf0
                  replace g1 : wq.cell? ⟨b2, o2 + q * 9 + 1, none⟩ = some (.string zq.ver.id) := by rw [← hwq]; exact g1
                  replace k1 : wq.cell? ⟨X, 1, none⟩ = some (.string x.ver.id) := by rw [← hwq]; exact k1
                  replace kf1 : wq.frozen? ⟨X, 1, none⟩ = false := by rw [← hwq]; exact kf1
                  replace g2 : wq.cell? ⟨b2, o2 + q * 9 + 2, none⟩ = some (.int .i64 zq.ver.seq) := by rw [← hwq]; exact g2
                  replace k2 : wq.cell? ⟨X, 2, none⟩ = some (.int .i64 x.ver.seq) := by rw [← hwq]; exact k2
                  replace kf2 : wq.frozen? ⟨X, 2, none⟩ = false := by rw [← hwq]; exact kf2
                  replace g3 : wq.cell? ⟨b2, o2 + q * 9 + 3, none⟩ = some (.int .i64 zq.ver.stamp) := by rw [← hwq]; exact g3
                  replace k3 : wq.cell? ⟨X, 3, none⟩ = some (.int .i64 x.ver.stamp) := by rw [← hwq]; exact k3
                  replace kf3 : wq.frozen? ⟨X, 3, none⟩ = false := by rw [← hwq]; exact kf3
                  replace g4 : wq.cell? ⟨b2, o2 + q * 9 + 4, none⟩ = some (.bool zq.dead) := by rw [← hwq]; exact g4
                  replace k4 : wq.cell? ⟨X, 4, none⟩ = some (.bool x.dead) := by rw [← hwq]; exact k4
                  replace kf4 : wq.frozen? ⟨X, 4, none⟩ = false := by rw [← hwq]; exact kf4
                  replace g5 : wq.cell? ⟨b2, o2 + q * 9 + 5, none⟩ = some (.int .i64 zq.x) := by rw [← hwq]; exact g5
                  replace k5 : wq.cell? ⟨X, 5, none⟩ = some (.int .i64 x.x) := by rw [← hwq]; exact k5
                  replace kf5 : wq.frozen? ⟨X, 5, none⟩ = false := by rw [← hwq]; exact kf5
                  replace g6 : wq.cell? ⟨b2, o2 + q * 9 + 6, none⟩ = some (.int .i64 zq.y) := by rw [← hwq]; exact g6
                  replace k6 : wq.cell? ⟨X, 6, none⟩ = some (.int .i64 x.y) := by rw [← hwq]; exact k6
                  replace kf6 : wq.frozen? ⟨X, 6, none⟩ = false := by rw [← hwq]; exact kf6
                  replace g7 : wq.cell? ⟨b2, o2 + q * 9 + 7, none⟩ = some (.string zq.text) := by rw [← hwq]; exact g7
                  replace k7 : wq.cell? ⟨X, 7, none⟩ = some (.string x.text) := by rw [← hwq]; exact k7
                  replace kf7 : wq.frozen? ⟨X, 7, none⟩ = false := by rw [← hwq]; exact kf7
                  replace g8 : wq.cell? ⟨b2, o2 + q * 9 + 8, none⟩ = some (.bool zq.held) := by rw [← hwq]; exact g8
                  replace k8 : wq.cell? ⟨X, 8, none⟩ = some (.bool x.held) := by rw [← hwq]; exact k8
                  replace kf8 : wq.frozen? ⟨X, 8, none⟩ = false := by rw [← hwq]; exact kf8
                  replace HBK : Hid (BlkI wq X x) := by rw [← hwq]; exact HBK.out.keep (below_drewN (Below.refl _ _) _)
                  replace HB1 : Hid (Below X w1 wq) := by rw [← hwq]; exact below_drewN HB1.out _
                  replace hX : X < wq.heap.size := HBK.out.1
                  replace hb2w : b2 < wq.heap.size := by omega
                  have hne : (b2 = X) = False := eq_false (by omega)
                  have hne' : (X = b2) = False := eq_false (by omega)
                  clear hwq
                  go_upto_region 12 with fail
                  have HS1 := Lib.hid (HBK.out.store zq)
                  have HBs := Lib.hid (below_store HB1.out (Nat.le_refl _) zq)
                  clear g0 g1 g2 g3 g4 g5 g6 g7 g8 k0 k1 k2 k3 k4 k5 k6 k7 k8 kf0 kf1 kf2 kf3 kf4 kf5 kf6 kf7 kf8 HBK HB1 hX hb2w
                  generalize (((((((((wq.setCell ⟨X, 0, none⟩ (.int .i64 zq.key)).setCell ⟨X, 1, none⟩ (.string zq.ver.id)).setCell ⟨X, 2, none⟩ (.int .i64 zq.ver.seq)).setCell ⟨X, 3, none⟩ (.int .i64 zq.ver.stamp)).setCell ⟨X, 4, none⟩ (.bool zq.dead)).setCell ⟨X, 5, none⟩ (.int .i64 zq.x)).setCell ⟨X, 6, none⟩ (.int .i64 zq.y)).setCell ⟨X, 7, none⟩ (.string zq.text)).setCell ⟨X, 8, none⟩ (.bool zq.held)) = W2 at *
                  generalize x.held = hd
                  cases hd with
                  | true =>
                    go_wp2
                    go_roundw
                    case rel => exact ⟨q + 1, zq, by go_num, by omega, HN1, HS1, HBs⟩
                    case measure => simp [intOf]; omega
                  | false =>
                    obtain ⟨k0, kf0⟩ := HS1.out.2 0 _ rfl
                    obtain ⟨k1, kf1⟩ := HS1.out.2 1 _ rfl
                    obtain ⟨k2, kf2⟩ := HS1.out.2 2 _ rfl
                    obtain ⟨k3, kf3⟩ := HS1.out.2 3 _ rfl
                    obtain ⟨k4, kf4⟩ := HS1.out.2 4 _ rfl
                    obtain ⟨k5, kf5⟩ := HS1.out.2 5 _ rfl
                    obtain ⟨k6, kf6⟩ := HS1.out.2 6 _ rfl
                    obtain ⟨k7, kf7⟩ := HS1.out.2 7 _ rfl
                    obtain ⟨k8, kf8⟩ := HS1.out.2 8 _ rfl
                    go_wp2_with fail
                    refine (HST.out _).mono ?_
                    rintro e w3 ⟨rfl, hb⟩
                    replace HS1 := Lib.hid (HS1.out.keep hb)
                    have HBt := Lib.hid (HBs.out.trans (hb.mono (by have := HBs.out.size; have := HXE.out; omega)))
                    clear hb k0 k1 k2 k3 k4 k5 k6 k7 k8 kf0 kf1 kf2 kf3 kf4 kf5 kf6 kf7 kf8
                    obtain ⟨k0, kf0⟩ := HS1.out.2 0 _ rfl
                    obtain ⟨k1, kf1⟩ := HS1.out.2 1 _ rfl
                    obtain ⟨k2, kf2⟩ := HS1.out.2 2 _ rfl
                    obtain ⟨k3, kf3⟩ := HS1.out.2 3 _ rfl
                    obtain ⟨k4, kf4⟩ := HS1.out.2 4 _ rfl
                    obtain ⟨k5, kf5⟩ := HS1.out.2 5 _ rfl
                    obtain ⟨k6, kf6⟩ := HS1.out.2 6 _ rfl
                    obtain ⟨k7, kf7⟩ := HS1.out.2 7 _ rfl
                    obtain ⟨k8, kf8⟩ := HS1.out.2 8 _ rfl
                    have HS2 := Lib.hid (HS1.out.store (stubI zq))
                    have HBu := Lib.hid (below_store HBt.out (Nat.le_refl _) (stubI zq))
                    go_upto_region 8 with fail
                    generalize (((((((((w3.setCell ⟨X, 0, none⟩ (.int .i64 (stubI zq).key)).setCell ⟨X, 1, none⟩ (.string (stubI zq).ver.id)).setCell ⟨X, 2, none⟩ (.int .i64 (stubI zq).ver.seq)).setCell ⟨X, 3, none⟩ (.int .i64 (stubI zq).ver.stamp)).setCell ⟨X, 4, none⟩ (.bool (stubI zq).dead)).setCell ⟨X, 5, none⟩ (.int .i64 (stubI zq).x)).setCell ⟨X, 6, none⟩ (.int .i64 (stubI zq).y)).setCell ⟨X, 7, none⟩ (.string (stubI zq).text)).setCell ⟨X, 8, none⟩ (.bool (stubI zq).held)) = W3 at *
                    go_wp2
                    go_roundw
                    case rel => exact ⟨q + 1, stubI zq, by go_num, by omega, HN2, HS2, HBu⟩
                    case measure => simp [intOf]; omega
              · have hs' : (zq.ver.stamp == x.ver.stamp) = false := by simpa using hs
                have HN := Lib.hid (HH.out.skip hzq (fun h => hs h.1))
                clear hzq hs
                go_wp2
                go_quiet (fail)
                go_wp2
                go_roundw
                case rel => exact ⟨q + 1, x, by go_num, by omega, HN, HBK.out.keep (below_drewN (Below.refl _ _) _), below_drewN HB1.out _⟩
                case measure => simp [intOf]; omega
            · obtain rfl : q = own.length := by omega
              have HON : Hid (One (own ++ [x])) := HH.out.add HO.out.one
              have HRN : Hid (∀ z ∈ own ++ [x], rightI z = true) := fun z hz => by
                rcases List.mem_append.mp hz with hz | hz
                · exact HO.out.right z hz
                · simp at hz; subst hz; exact HH.out.right
              have HOW : Hid (OwnG w wr Av cv own) := HO.out.move (by rw [HXE.out]; exact HB1.out)
              obtain ⟨k0, _⟩ := HBK.out.2 0 _ rfl
              obtain ⟨k1, _⟩ := HBK.out.2 1 _ rfl
              obtain ⟨k2, _⟩ := HBK.out.2 2 _ rfl
              obtain ⟨k3, _⟩ := HBK.out.2 3 _ rfl
              obtain ⟨k4, _⟩ := HBK.out.2 4 _ rfl
              obtain ⟨k5, _⟩ := HBK.out.2 5 _ rfl
              obtain ⟨k6, _⟩ := HBK.out.2 6 _ rfl
              obtain ⟨k7, _⟩ := HBK.out.2 7 _ rfl
              obtain ⟨k8, _⟩ := HBK.out.2 8 _ rfl
              have hba : Below wr.heap.size wr (wr.alloc (.cells #[.int .i64 x.key, .string x.ver.id, .int .i64 x.ver.seq, .int .i64 x.ver.stamp, .bool x.dead, .int .i64 x.x, .int .i64 x.y, .string x.text, .bool x.held] 28)) := (Below.refl _ _).alloc (Nat.le_refl _) _
              have HOA := Lib.hid (HOW.out.move hba)
              have HX1 : Hid (RowAt cellsI 9 (wr.alloc (.cells #[.int .i64 x.key, .string x.ver.id, .int .i64 x.ver.seq, .int .i64 x.ver.stamp, .bool x.dead, .int .i64 x.x, .int .i64 x.y, .string x.text, .bool x.held] 28)) (wr.heap.size + 1) (some ⟨wr.heap.size, 0, none⟩) 1 [x]) := one_row rowI (heap_alloc_new wr _)
              clear hba
              go_wp2_with (at_builtin; refine wpList_append_row rowI (B := w.heap.size) (v := .slice Av own.length cv) (n := own.length) (zs := own) (m := 1) (ys := [x]) rfl _ _ rfl rfl HOA.out.row rfl HX1.out (by omega) HOA.out.below.size ?_; intro A3 c3 w3 hown3 hg3 _; have HO3 : Hid (w3.ownsRow w.heap.size 28 9 (.slice A3 (own ++ [x]).length c3) (own ++ [x]).length (rowCells cellsI (own ++ [x])) ∧ Below w.heap.size w w3) := ⟨by rw [List.length_append]; exact hown3, HOA.out.below.grown hg3 HOA.out.below.size (fun g e => (HOA.out.row.lt g e).1)⟩; clear hown3 hg3)
              have HLn : Hid ((own ++ [x]).length = own.length + 1) := by show _ = _; simp
              go_roundw
              case rel => exact ⟨k + 1, A3, c3, own ++ [x], by go_num, by omega, by omega, by rw [HLn.out, HOL.out], by rw [HLn.out], HO3.out.1, HON.out, HRN.out, HO3.out.2⟩
              case measure => simp [intOf]; omega
        · have h1' : (k : Int) < n0 := by omega
          have h2' : ¬ ((k : Int) < 14) := by omega
          go_wp2
          go_meet
          case rel => exact ⟨k, Av, cv, own, rfl, by omega, rfl, HO⟩
      · have h1' : ¬ ((k : Int) < n0) := by omega
        go_wp2
        go_meet
        case rel => exact ⟨k, Av, cv, own, rfl, by omega, rfl, HO⟩
  case rest =>
    obtain ⟨k0, Av, cv, own, rfl, hol, rfl, HO⟩ := hcut
    rename World => wa
    have hb0 : Below wa.heap.size wa (wa.alloc (.cells #[] 28)) := (Below.refl _ _).alloc (Nat.le_refl _) _
    have HE : Hid ((wa.alloc (.cells #[] 28)).ownsRow wa.heap.size 28 9 (.slice (some ⟨wa.heap.size, 0, none⟩) 0 0) 0 (rowCells cellsI [])) := ⟨by simp [rowCells], .inr ⟨wa.heap.size, 0, #[], rfl, Nat.le_refl _, heap_alloc_new wa _, Nat.le_refl _, Nat.zero_le _, by simp, by simp [rowCells]⟩⟩
    have HRW := Lib.hid ((own_row rowI HO.out.row).keep hb0)
    have HSZ : Hid (wa.heap.size ≤ (wa.alloc (.cells #[] 28)).heap.size) := hb0.size
    have HB0 := Lib.hid hb0
    clear hb0
    go_upto_region 16 with (at_builtin; refine wpList_append_row rowI (B := wa.heap.size) (v := .slice (some ⟨wa.heap.size, 0, none⟩) 0 0) (n := 0) (zs := []) (m := own.length) (ys := own) rfl _ _ rfl rfl HE.out rfl HRW.out (by omega) HSZ.out ?_; intro A3 c3 w3 hown3 hg3 _; have HOR : Hid (w3.ownsRow wa.heap.size 28 9 (.slice A3 own.length c3) own.length (rowCells cellsI own)) := (by rw [Nat.zero_add, List.nil_append] at hown3; exact hown3); have HB3 : Hid (Below wa.heap.size wa w3) := HB0.out.grown hg3 HSZ.out (fun g e => by injection e with e; simp only at e; omega); clear hown3 hg3)
    go_upto_block 4 with fail
    go_cut [11] (fun i wr => ∃ (k : Nat) (o : List Itm), i = .int .i64 k ∧ o.length = own.length ∧ Hid (∀ z, z ∈ o ↔ z ∈ own) ∧ Hid (wr.ownsRow wa.heap.size 28 9 (.slice A3 own.length c3) own.length (rowCells cellsI o)) ∧ Hid (Below wa.heap.size wa wr))
    case first =>
      go_wp2_with fail
      go_loopw [11, 12, 13] (fun i _ _ wr => ∃ (k : Nat) (o : List Itm), i = .int .i64 k ∧ k ≤ n1 ∧ k ≤ 40 ∧ o.length = own.length ∧ Hid (∀ z, z ∈ o ↔ z ∈ own) ∧ Hid (wr.ownsRow wa.heap.size 28 9 (.slice A3 own.length c3) own.length (rowCells cellsI o)) ∧ Hid (Below wa.heap.size wa wr)) (fun i _ _ _ => 40 - (intOf i).toNat)
      case atStart => exact ⟨0, own, rfl, by omega, by omega, rfl, fun _ => Iff.rfl, HOR, HB3⟩
      case round =>
        clear HOR HB3
        obtain ⟨k, o, rfl, hkn, hk40, hlo, HMM, HOR, HB⟩ := hrel
        by_cases hlt : k < n1
        · by_cases h1 : 1 < own.length
          · by_cases hl40 : k < 40
            · obtain ⟨bm, om, rfl, hbm, hcm⟩ := HZ1.out (by omega)
              obtain ⟨z, hz⟩ := hcm k hlt
              replace hz := ((HO.out.below.trans (HB.out.mono HO.out.below.size)).cell (p := ⟨bm, om + k, none⟩) hbm).trans hz
              have q1 : (k : Int) < n1 := by omega
              have q2 : (1 : Int) < own.length := by omega
              have q3 : (k : Int) < 40 := by omega
              have q0 : (0 : Int) ≤ k := by omega
              clear hcm
              have hL0 : (own.length : Int) ≠ 0 := by omega
              obtain ⟨p, hp, hpl⟩ : ∃ p : Nat, (k : Int) % (own.length : Int) = (p : Int) ∧ p < own.length := ⟨k % own.length, by omega, Nat.mod_lt _ (by omega)⟩
              obtain ⟨j, hj, hjl⟩ : ∃ j : Nat, wrap64 ((IntKind.u64.wrap z).tmod (own.length : Int)) = (j : Int) ∧ j < own.length := uint_mod z own.length (by omega) (by omega)
              obtain ⟨g, hgA, hgB⟩ : ∃ g, A3 = some ⟨g, 0, none⟩ ∧ wa.heap.size ≤ g := by
                obtain ⟨g, cap, hv, h1, h2⟩ := HOR.out.form (by omega)
                injection hv with hA
                exact ⟨g, hA, h1⟩
              subst hgA
              have HRW3 := own_row rowI HOR.out
              obtain ⟨b1, o1, hA1, hb1, za, hza, hc1⟩ := HRW3.get (k := p) hpl
              obtain ⟨b2, o2, hA2, hb2, zb, hzb, hc2⟩ := HRW3.get (k := j) hjl
              injection hA1 with hA1
              injection hA1 with r1 r2
              injection hA2 with hA2
              injection hA2 with r3 r4
              subst r1 r2 r3 r4
              have HZS : Hid (p = j → za = zb) := fun h => by
                subst h
                rw [hza] at hzb
                injection hzb
              have HNM : Hid (∀ z, z ∈ swapL o p j za zb ↔ z ∈ own) := fun z => (swapL_mem hza hzb z).trans (HMM.out z)
              have HNL : Hid ((swapL o p j za zb).length = own.length) := (swapL_len o p j za zb).trans hlo
              clear HRW3 hza hzb
              obtain ⟨e0, e1, e2, e3, e4, e5, e6, e7, e8⟩ := cellsI_at hc1
              obtain ⟨f0, f1, f2, f3, f4, f5, f6, f7, f8⟩ := cellsI_at hc2
              replace e0 : wr.cell? ⟨g, p * 9, none⟩ = some (.int .i64 za.key) := (by have h := e0; simpa using h)
              replace f0 : wr.cell? ⟨g, j * 9, none⟩ = some (.int .i64 zb.key) := (by have h := f0; simpa using h)
              replace e1 : wr.cell? ⟨g, p * 9 + 1, none⟩ = some (.string za.ver.id) := (by have h := e1; simpa using h)
              replace f1 : wr.cell? ⟨g, j * 9 + 1, none⟩ = some (.string zb.ver.id) := (by have h := f1; simpa using h)
              replace e2 : wr.cell? ⟨g, p * 9 + 2, none⟩ = some (.int .i64 za.ver.seq) := (by have h := e2; simpa using h)
              replace f2 : wr.cell? ⟨g, j * 9 + 2, none⟩ = some (.int .i64 zb.ver.seq) := (by have h := f2; simpa using h)
              replace e3 : wr.cell? ⟨g, p * 9 + 3, none⟩ = some (.int .i64 za.ver.stamp) := (by have h := e3; simpa using h)
              replace f3 : wr.cell? ⟨g, j * 9 + 3, none⟩ = some (.int .i64 zb.ver.stamp) := (by have h := f3; simpa using h)
              replace e4 : wr.cell? ⟨g, p * 9 + 4, none⟩ = some (.bool za.dead) := (by have h := e4; simpa using h)
              replace f4 : wr.cell? ⟨g, j * 9 + 4, none⟩ = some (.bool zb.dead) := (by have h := f4; simpa using h)
              replace e5 : wr.cell? ⟨g, p * 9 + 5, none⟩ = some (.int .i64 za.x) := (by have h := e5; simpa using h)
              replace f5 : wr.cell? ⟨g, j * 9 + 5, none⟩ = some (.int .i64 zb.x) := (by have h := f5; simpa using h)
              replace e6 : wr.cell? ⟨g, p * 9 + 6, none⟩ = some (.int .i64 za.y) := (by have h := e6; simpa using h)
              replace f6 : wr.cell? ⟨g, j * 9 + 6, none⟩ = some (.int .i64 zb.y) := (by have h := f6; simpa using h)
              replace e7 : wr.cell? ⟨g, p * 9 + 7, none⟩ = some (.string za.text) := (by have h := e7; simpa using h)
              replace f7 : wr.cell? ⟨g, j * 9 + 7, none⟩ = some (.string zb.text) := (by have h := f7; simpa using h)
              replace e8 : wr.cell? ⟨g, p * 9 + 8, none⟩ = some (.bool za.held) := (by have h := e8; simpa using h)
              replace f8 : wr.cell? ⟨g, j * 9 + 8, none⟩ = some (.bool zb.held) := (by have h := f8; simpa using h)
              have HZA := Lib.hid (show cellsI za = [.int .i64 za.key, .string za.ver.id, .int .i64 za.ver.seq, .int .i64 za.ver.stamp, .bool za.dead, .int .i64 za.x, .int .i64 za.y, .string za.text, .bool za.held] from rfl)
              have HZB := Lib.hid (show cellsI zb = [.int .i64 zb.key, .string zb.ver.id, .int .i64 zb.ver.seq, .int .i64 zb.ver.stamp, .bool zb.dead, .int .i64 zb.x, .int .i64 zb.y, .string zb.text, .bool zb.held] from rfl)
              have hpi : (p : Int) < own.length := by omega
              have hp0 : (0 : Int) ≤ (p : Int) := by omega
              have hji : (j : Int) < own.length := by omega
              have hj0 : (0 : Int) ≤ (j : Int) := by omega
              have hplo : p < o.length := by omega
              have hjlo : j < o.length := by omega
              clear hc1 hc2 hb1 hb2
              go_wp2_with fail
              go_quiet (fail)
              go_upto_region 20 with fail
              replace e0 : (wr.drewN nq).cell? ⟨g, p * 9, none⟩ = some (.int .i64 za.key) := e0
              replace f0 : (wr.drewN nq).cell? ⟨g, j * 9, none⟩ = some (.int .i64 zb.key) := f0
              replace e1 : (wr.drewN nq).cell? ⟨g, p * 9 + 1, none⟩ = some (.string za.ver.id) := e1
              replace f1 : (wr.drewN nq).cell? ⟨g, j * 9 + 1, none⟩ = some (.string zb.ver.id) := f1
              replace e2 : (wr.drewN nq).cell? ⟨g, p * 9 + 2, none⟩ = some (.int .i64 za.ver.seq) := e2
              replace f2 : (wr.drewN nq).cell? ⟨g, j * 9 + 2, none⟩ = some (.int .i64 zb.ver.seq) := f2
              replace e3 : (wr.drewN nq).cell? ⟨g, p * 9 + 3, none⟩ = some (.int .i64 za.ver.stamp) := e3
              replace f3 : (wr.drewN nq).cell? ⟨g, j * 9 + 3, none⟩ = some (.int .i64 zb.ver.stamp) := f3
              replace e4 : (wr.drewN nq).cell? ⟨g, p * 9 + 4, none⟩ = some (.bool za.dead) := e4
              replace f4 : (wr.drewN nq).cell? ⟨g, j * 9 + 4, none⟩ = some (.bool zb.dead) := f4
              replace e5 : (wr.drewN nq).cell? ⟨g, p * 9 + 5, none⟩ = some (.int .i64 za.x) := e5
              replace f5 : (wr.drewN nq).cell? ⟨g, j * 9 + 5, none⟩ = some (.int .i64 zb.x) := f5
              replace e6 : (wr.drewN nq).cell? ⟨g, p * 9 + 6, none⟩ = some (.int .i64 za.y) := e6
              replace f6 : (wr.drewN nq).cell? ⟨g, j * 9 + 6, none⟩ = some (.int .i64 zb.y) := f6
              replace e7 : (wr.drewN nq).cell? ⟨g, p * 9 + 7, none⟩ = some (.string za.text) := e7
              replace f7 : (wr.drewN nq).cell? ⟨g, j * 9 + 7, none⟩ = some (.string zb.text) := f7
              replace e8 : (wr.drewN nq).cell? ⟨g, p * 9 + 8, none⟩ = some (.bool za.held) := e8
              replace f8 : (wr.drewN nq).cell? ⟨g, j * 9 + 8, none⟩ = some (.bool zb.held) := f8
              replace HOR : Hid ((wr.drewN nq).ownsRow wa.heap.size 28 9 (.slice (some ⟨g, 0, none⟩) own.length c3) own.length (rowCells cellsI o)) := HOR
              replace HB : Hid (Below wa.heap.size wa (wr.drewN nq)) := HB.out.trans ⟨rfl, rfl, rfl, Nat.le_refl _, fun _ _ => rfl⟩
              generalize wr.drewN nq = wq at *
              clear hz
              have ef0 : wq.frozen? ⟨g, p * 9, none⟩ = false := HOR.out.frozenAt _
              have ff0 : wq.frozen? ⟨g, j * 9, none⟩ = false := HOR.out.frozenAt _
              have ef1 : wq.frozen? ⟨g, p * 9 + 1, none⟩ = false := HOR.out.frozenAt _
              have ff1 : wq.frozen? ⟨g, j * 9 + 1, none⟩ = false := HOR.out.frozenAt _
              have ef2 : wq.frozen? ⟨g, p * 9 + 2, none⟩ = false := HOR.out.frozenAt _
              have ff2 : wq.frozen? ⟨g, j * 9 + 2, none⟩ = false := HOR.out.frozenAt _
              have ef3 : wq.frozen? ⟨g, p * 9 + 3, none⟩ = false := HOR.out.frozenAt _
              have ff3 : wq.frozen? ⟨g, j * 9 + 3, none⟩ = false := HOR.out.frozenAt _
              have ef4 : wq.frozen? ⟨g, p * 9 + 4, none⟩ = false := HOR.out.frozenAt _
              have ff4 : wq.frozen? ⟨g, j * 9 + 4, none⟩ = false := HOR.out.frozenAt _
              have ef5 : wq.frozen? ⟨g, p * 9 + 5, none⟩ = false := HOR.out.frozenAt _
              have ff5 : wq.frozen? ⟨g, j * 9 + 5, none⟩ = false := HOR.out.frozenAt _
              have ef6 : wq.frozen? ⟨g, p * 9 + 6, none⟩ = false := HOR.out.frozenAt _
              have ff6 : wq.frozen? ⟨g, j * 9 + 6, none⟩ = false := HOR.out.frozenAt _
              have ef7 : wq.frozen? ⟨g, p * 9 + 7, none⟩ = false := HOR.out.frozenAt _
              have ff7 : wq.frozen? ⟨g, j * 9 + 7, none⟩ = false := HOR.out.frozenAt _
              have ef8 : wq.frozen? ⟨g, p * 9 + 8, none⟩ = false := HOR.out.frozenAt _
              have ff8 : wq.frozen? ⟨g, j * 9 + 8, none⟩ = false := HOR.out.frozenAt _
              by_cases hpj : p = j
              · obtain rfl : za = zb := HZS.out hpj
                subst hpj
                go_region
                clear e0 f0 ef0 ff0 e1 f1 ef1 ff1 e2 f2 ef2 ff2 e3 f3 ef3 ff3 e4 f4 ef4 ff4 e5 f5 ef5 ff5 e6 f6 ef6 ff6 e7 f7 ef7 ff7 e8 f8 ef8 ff8
                have HO2 : Hid (((((((((((((((((((wq.setCell ⟨g, p * 9, none⟩ (.int .i64 za.key)).setCell ⟨g, p * 9 + 1, none⟩ (.string za.ver.id)).setCell ⟨g, p * 9 + 2, none⟩ (.int .i64 za.ver.seq)).setCell ⟨g, p * 9 + 3, none⟩ (.int .i64 za.ver.stamp)).setCell ⟨g, p * 9 + 4, none⟩ (.bool za.dead)).setCell ⟨g, p * 9 + 5, none⟩ (.int .i64 za.x)).setCell ⟨g, p * 9 + 6, none⟩ (.int .i64 za.y)).setCell ⟨g, p * 9 + 7, none⟩ (.string za.text)).setCell ⟨g, p * 9 + 8, none⟩ (.bool za.held)).setCell ⟨g, p * 9, none⟩ (.int .i64 za.key)).setCell ⟨g, p * 9 + 1, none⟩ (.string za.ver.id)).setCell ⟨g, p * 9 + 2, none⟩ (.int .i64 za.ver.seq)).setCell ⟨g, p * 9 + 3, none⟩ (.int .i64 za.ver.stamp)).setCell ⟨g, p * 9 + 4, none⟩ (.bool za.dead)).setCell ⟨g, p * 9 + 5, none⟩ (.int .i64 za.x)).setCell ⟨g, p * 9 + 6, none⟩ (.int .i64 za.y)).setCell ⟨g, p * 9 + 7, none⟩ (.string za.text)).setCell ⟨g, p * 9 + 8, none⟩ (.bool za.held)).drew.ownsRow wa.heap.size 28 9 (.slice (some ⟨g, 0, none⟩) own.length c3) own.length (rowCells cellsI (swapL o p p za za))) := by
                  have h := own_put rowI HOR.out (k := p) hplo za
                  rw [HZB.out, wsets9] at h
                  have h' := own_put rowI h (k := p) (by rw [List.length_set]; exact hjlo) za
                  rw [HZA.out, wsets9] at h'
                  exact h'.drew
                replace HB : Hid (Below wa.heap.size wa ((((((((((((((((((wq.setCell ⟨g, p * 9, none⟩ (.int .i64 za.key)).setCell ⟨g, p * 9 + 1, none⟩ (.string za.ver.id)).setCell ⟨g, p * 9 + 2, none⟩ (.int .i64 za.ver.seq)).setCell ⟨g, p * 9 + 3, none⟩ (.int .i64 za.ver.stamp)).setCell ⟨g, p * 9 + 4, none⟩ (.bool za.dead)).setCell ⟨g, p * 9 + 5, none⟩ (.int .i64 za.x)).setCell ⟨g, p * 9 + 6, none⟩ (.int .i64 za.y)).setCell ⟨g, p * 9 + 7, none⟩ (.string za.text)).setCell ⟨g, p * 9 + 8, none⟩ (.bool za.held)).setCell ⟨g, p * 9, none⟩ (.int .i64 za.key)).setCell ⟨g, p * 9 + 1, none⟩ (.string za.ver.id)).setCell ⟨g, p * 9 + 2, none⟩ (.int .i64 za.ver.seq)).setCell ⟨g, p * 9 + 3, none⟩ (.int .i64 za.ver.stamp)).setCell ⟨g, p * 9 + 4, none⟩ (.bool za.dead)).setCell ⟨g, p * 9 + 5, none⟩ (.int .i64 za.x)).setCell ⟨g, p * 9 + 6, none⟩ (.int .i64 za.y)).setCell ⟨g, p * 9 + 7, none⟩ (.string za.text)).setCell ⟨g, p * 9 + 8, none⟩ (.bool za.held)).drew) := by
                  have h := below_wsets hgB [.int .i64 za.key, .string za.ver.id, .int .i64 za.ver.seq, .int .i64 za.ver.stamp, .bool za.dead, .int .i64 za.x, .int .i64 za.y, .string za.text, .bool za.held] (p * 9) wq HB.out
                  rw [wsets9] at h
                  have h' := below_wsets hgB [.int .i64 za.key, .string za.ver.id, .int .i64 za.ver.seq, .int .i64 za.ver.stamp, .bool za.dead, .int .i64 za.x, .int .i64 za.y, .string za.text, .bool za.held] (p * 9) _ h
                  rw [wsets9] at h'
                  exact h'.drew
                clear HOR
                generalize ((((((((((((((((((wq.setCell ⟨g, p * 9, none⟩ (.int .i64 za.key)).setCell ⟨g, p * 9 + 1, none⟩ (.string za.ver.id)).setCell ⟨g, p * 9 + 2, none⟩ (.int .i64 za.ver.seq)).setCell ⟨g, p * 9 + 3, none⟩ (.int .i64 za.ver.stamp)).setCell ⟨g, p * 9 + 4, none⟩ (.bool za.dead)).setCell ⟨g, p * 9 + 5, none⟩ (.int .i64 za.x)).setCell ⟨g, p * 9 + 6, none⟩ (.int .i64 za.y)).setCell ⟨g, p * 9 + 7, none⟩ (.string za.text)).setCell ⟨g, p * 9 + 8, none⟩ (.bool za.held)).setCell ⟨g, p * 9, none⟩ (.int .i64 za.key)).setCell ⟨g, p * 9 + 1, none⟩ (.string za.ver.id)).setCell ⟨g, p * 9 + 2, none⟩ (.int .i64 za.ver.seq)).setCell ⟨g, p * 9 + 3, none⟩ (.int .i64 za.ver.stamp)).setCell ⟨g, p * 9 + 4, none⟩ (.bool za.dead)).setCell ⟨g, p * 9 + 5, none⟩ (.int .i64 za.x)).setCell ⟨g, p * 9 + 6, none⟩ (.int .i64 za.y)).setCell ⟨g, p * 9 + 7, none⟩ (.string za.text)).setCell ⟨g, p * 9 + 8, none⟩ (.bool za.held)).drew = ws at *
                go_wp2
                go_roundw
                case rel => exact ⟨k + 1, swapL o p p za za, by go_num, by omega, by omega, HNL.out, HNM, HO2, HB⟩
                case measure => simp [intOf]; omega
              · have hpj2 : ¬ j = p := fun h => hpj h.symm
                go_region
                clear e0 f0 ef0 ff0 e1 f1 ef1 ff1 e2 f2 ef2 ff2 e3 f3 ef3 ff3 e4 f4 ef4 ff4 e5 f5 ef5 ff5 e6 f6 ef6 ff6 e7 f7 ef7 ff7 e8 f8 ef8 ff8
                have HO2 : Hid (((((((((((((((((((wq.setCell ⟨g, p * 9, none⟩ (.int .i64 zb.key)).setCell ⟨g, p * 9 + 1, none⟩ (.string zb.ver.id)).setCell ⟨g, p * 9 + 2, none⟩ (.int .i64 zb.ver.seq)).setCell ⟨g, p * 9 + 3, none⟩ (.int .i64 zb.ver.stamp)).setCell ⟨g, p * 9 + 4, none⟩ (.bool zb.dead)).setCell ⟨g, p * 9 + 5, none⟩ (.int .i64 zb.x)).setCell ⟨g, p * 9 + 6, none⟩ (.int .i64 zb.y)).setCell ⟨g, p * 9 + 7, none⟩ (.string zb.text)).setCell ⟨g, p * 9 + 8, none⟩ (.bool zb.held)).setCell ⟨g, j * 9, none⟩ (.int .i64 za.key)).setCell ⟨g, j * 9 + 1, none⟩ (.string za.ver.id)).setCell ⟨g, j * 9 + 2, none⟩ (.int .i64 za.ver.seq)).setCell ⟨g, j * 9 + 3, none⟩ (.int .i64 za.ver.stamp)).setCell ⟨g, j * 9 + 4, none⟩ (.bool za.dead)).setCell ⟨g, j * 9 + 5, none⟩ (.int .i64 za.x)).setCell ⟨g, j * 9 + 6, none⟩ (.int .i64 za.y)).setCell ⟨g, j * 9 + 7, none⟩ (.string za.text)).setCell ⟨g, j * 9 + 8, none⟩ (.bool za.held)).drew.ownsRow wa.heap.size 28 9 (.slice (some ⟨g, 0, none⟩) own.length c3) own.length (rowCells cellsI (swapL o p j za zb))) := by
                  have h := own_put rowI HOR.out (k := p) hplo zb
                  rw [HZB.out, wsets9] at h
                  have h' := own_put rowI h (k := j) (by rw [List.length_set]; exact hjlo) za
                  rw [HZA.out, wsets9] at h'
                  exact h'.drew
                replace HB : Hid (Below wa.heap.size wa ((((((((((((((((((wq.setCell ⟨g, p * 9, none⟩ (.int .i64 zb.key)).setCell ⟨g, p * 9 + 1, none⟩ (.string zb.ver.id)).setCell ⟨g, p * 9 + 2, none⟩ (.int .i64 zb.ver.seq)).setCell ⟨g, p * 9 + 3, none⟩ (.int .i64 zb.ver.stamp)).setCell ⟨g, p * 9 + 4, none⟩ (.bool zb.dead)).setCell ⟨g, p * 9 + 5, none⟩ (.int .i64 zb.x)).setCell ⟨g, p * 9 + 6, none⟩ (.int .i64 zb.y)).setCell ⟨g, p * 9 + 7, none⟩ (.string zb.text)).setCell ⟨g, p * 9 + 8, none⟩ (.bool zb.held)).setCell ⟨g, j * 9, none⟩ (.int .i64 za.key)).setCell ⟨g, j * 9 + 1, none⟩ (.string za.ver.id)).setCell ⟨g, j * 9 + 2, none⟩ (.int .i64 za.ver.seq)).setCell ⟨g, j * 9 + 3, none⟩ (.int .i64 za.ver.stamp)).setCell ⟨g, j * 9 + 4, none⟩ (.bool za.dead)).setCell ⟨g, j * 9 + 5, none⟩ (.int .i64 za.x)).setCell ⟨g, j * 9 + 6, none⟩ (.int .i64 za.y)).setCell ⟨g, j * 9 + 7, none⟩ (.string za.text)).setCell ⟨g, j * 9 + 8, none⟩ (.bool za.held)).drew) := by
                  have h := below_wsets hgB [.int .i64 zb.key, .string zb.ver.id, .int .i64 zb.ver.seq, .int .i64 zb.ver.stamp, .bool zb.dead, .int .i64 zb.x, .int .i64 zb.y, .string zb.text, .bool zb.held] (p * 9) wq HB.out
                  rw [wsets9] at h
                  have h' := below_wsets hgB [.int .i64 za.key, .string za.ver.id, .int .i64 za.ver.seq, .int .i64 za.ver.stamp, .bool za.dead, .int .i64 za.x, .int .i64 za.y, .string za.text, .bool za.held] (j * 9) _ h
                  rw [wsets9] at h'
                  exact h'.drew
                clear HOR
                generalize ((((((((((((((((((wq.setCell ⟨g, p * 9, none⟩ (.int .i64 zb.key)).setCell ⟨g, p * 9 + 1, none⟩ (.string zb.ver.id)).setCell ⟨g, p * 9 + 2, none⟩ (.int .i64 zb.ver.seq)).setCell ⟨g, p * 9 + 3, none⟩ (.int .i64 zb.ver.stamp)).setCell ⟨g, p * 9 + 4, none⟩ (.bool zb.dead)).setCell ⟨g, p * 9 + 5, none⟩ (.int .i64 zb.x)).setCell ⟨g, p * 9 + 6, none⟩ (.int .i64 zb.y)).setCell ⟨g, p * 9 + 7, none⟩ (.string zb.text)).setCell ⟨g, p * 9 + 8, none⟩ (.bool zb.held)).setCell ⟨g, j * 9, none⟩ (.int .i64 za.key)).setCell ⟨g, j * 9 + 1, none⟩ (.string za.ver.id)).setCell ⟨g, j * 9 + 2, none⟩ (.int .i64 za.ver.seq)).setCell ⟨g, j * 9 + 3, none⟩ (.int .i64 za.ver.stamp)).setCell ⟨g, j * 9 + 4, none⟩ (.bool za.dead)).setCell ⟨g, j * 9 + 5, none⟩ (.int .i64 za.x)).setCell ⟨g, j * 9 + 6, none⟩ (.int .i64 za.y)).setCell ⟨g, j * 9 + 7, none⟩ (.string za.text)).setCell ⟨g, j * 9 + 8, none⟩ (.bool za.held)).drew = ws at *
                go_wp2
                go_roundw
                case rel => exact ⟨k + 1, swapL o p j za zb, by go_num, by omega, by omega, HNL.out, HNM, HO2, HB⟩
                case measure => simp [intOf]; omega
            · have q1 : (k : Int) < n1 := by omega
              have q2 : (1 : Int) < own.length := by omega
              have q3 : ¬ ((k : Int) < 40) := by omega
              go_wp2
              go_meet
              case rel => exact ⟨k, o, rfl, hlo, HMM, HOR, HB⟩
          · have q1 : (k : Int) < n1 := by omega
            have q2 : ¬ ((1 : Int) < own.length) := by omega
            go_wp2
            go_meet
            case rel => exact ⟨k, o, rfl, hlo, HMM, HOR, HB⟩
        · have q1 : ¬ ((k : Int) < n1) := by omega
          go_wp2
          go_meet
          case rel => exact ⟨k, o, rfl, hlo, HMM, HOR, HB⟩
    case rest =>
      obtain ⟨k1, o, rfl, hlo, HMM, HORn, HBn⟩ := hcut
      rename World => wb
      have HOB := Lib.hid (HO.out.move HBn.out)
      have HRW1 := Lib.hid (own_row rowI HOB.out.row)
      have HRW2 := Lib.hid (own_row rowI HORn.out)
      have HBW := Lib.hid HOB.out.below
      have HON := Lib.hid HO.out.one
      have HOO : Hid (One o) := HO.out.one.sub fun z hz => (HMM.out z).mp hz
      have HRI := Lib.hid HO.out.right
      clear HOB HO HORn HBn HE HRW HSZ HB0 HOR HB3 HZ0 HZ1
      go_upto_block 6 with fail
      go_cut [14, 15] (fun a b wr => ∃ (Aa : Option Addr) (ca : Nat) (Ab : Option Addr) (cb : Nat) (sa sb : List Itm), a = .slice Aa sa.length ca ∧ b = .slice Ab sb.length cb ∧ sa.length ≤ 14 ∧ sb.length ≤ 14 ∧ Hid (Newest own sa) ∧ Hid (Newest o sb) ∧ Hid (wr.ownsRow wb.heap.size 46 8 (.slice Aa sa.length ca) sa.length (rowCells cellsP sa)) ∧ Hid (wr.ownsRow wb.heap.size 46 8 (.slice Ab sb.length cb) sb.length (rowCells cellsP sb)) ∧ Hid (Below wb.heap.size wb wr))
      case first =>
        go_wp2_with fail
        go_loopw [14, 15, 16] (fun a b i wr => ∃ (k : Nat) (Aa : Option Addr) (ca : Nat) (Ab : Option Addr) (cb : Nat) (sa sb : List Itm), i = .int .i64 k ∧ k ≤ own.length ∧ a = .slice Aa sa.length ca ∧ b = .slice Ab sb.length cb ∧ sa.length ≤ k ∧ sb.length ≤ k ∧ Hid (Newest (own.take k) sa) ∧ Hid (Newest (o.take k) sb) ∧ Hid (wr.ownsRow wb.heap.size 46 8 (.slice Aa sa.length ca) sa.length (rowCells cellsP sa)) ∧ Hid (wr.ownsRow wb.heap.size 46 8 (.slice Ab sb.length cb) sb.length (rowCells cellsP sb)) ∧ Hid (Below wb.heap.size wb wr)) (fun _ _ i _ => own.length - (intOf i).toNat)
        case atStart => exact ⟨0, none, 0, none, 0, [], [], rfl, by omega, rfl, rfl, Nat.le_refl _, Nat.le_refl _, Newest.nil, Newest.nil, rown_nil _ _, rown_nil _ _, Below.refl _ _⟩
        case round =>
          obtain ⟨k, Aa, ca, Ab, cb, sa, sb, rfl, hk, rfl, rfl, hka, hkb, HNa, HNb, HA, HBr, HB⟩ := hrel
          by_cases hlt : k < own.length
          · obtain ⟨b1, o1, rfl, hb1, x, hx, hc1⟩ := HRW1.out.get hlt
            obtain ⟨b2, o2, rfl, hb2, y, hy, hc2⟩ := HRW2.out.get hlt
            obtain ⟨e0, e1, e2, e3, e4, e5, e6, e7, e8⟩ := cellsI_at hc1
            obtain ⟨f0, f1, f2, f3, f4, f5, f6, f7, f8⟩ := cellsI_at hc2
            replace e0 := (HB.out.cell (p := ⟨b1, o1 + k * 9, none⟩) hb1).trans e0
            replace e1 := (HB.out.cell (p := ⟨b1, o1 + k * 9 + 1, none⟩) hb1).trans e1
            replace e2 := (HB.out.cell (p := ⟨b1, o1 + k * 9 + 2, none⟩) hb1).trans e2
            replace e3 := (HB.out.cell (p := ⟨b1, o1 + k * 9 + 3, none⟩) hb1).trans e3
            replace e4 := (HB.out.cell (p := ⟨b1, o1 + k * 9 + 4, none⟩) hb1).trans e4
            replace e5 := (HB.out.cell (p := ⟨b1, o1 + k * 9 + 5, none⟩) hb1).trans e5
            replace e6 := (HB.out.cell (p := ⟨b1, o1 + k * 9 + 6, none⟩) hb1).trans e6
            replace e7 := (HB.out.cell (p := ⟨b1, o1 + k * 9 + 7, none⟩) hb1).trans e7
            replace e8 := (HB.out.cell (p := ⟨b1, o1 + k * 9 + 8, none⟩) hb1).trans e8
            have q1 : (k : Int) < own.length := by omega
            have q0 : (0 : Int) ≤ (k : Int) := by omega
            have HTX := Lib.hid (to_any x)
            have HTY := Lib.hid (to_any y)
            unfold refV at HTX HTY
            clear hc1 hc2
            have HNA : Hid (Newest (own.take (k + 1)) (putF sa x).1) := by
              have h := HNa.out.put (x := x) (by rw [← snoc_of hx]; exact HON.out.sub fun z hz => List.mem_of_mem_take hz)
              rw [← snoc_of hx] at h
              exact h
            have HNB : Hid (Newest (o.take (k + 1)) (putF sb y).1) := by
              have h := HNb.out.put (x := y) (by rw [← snoc_of hy]; exact HOO.out.sub fun z hz => List.mem_of_mem_take hz)
              rw [← snoc_of hy] at h
              exact h
            have hla := put_len sa x
            have hlb := put_len sb y
            have HPA : Hid (∀ (W : World) (B : Nat), W.ownsRow B 46 8 (.slice Aa sa.length ca) sa.length (rowCells cellsP sa) → Calls Try.prog 16 #[.slice Aa sa.length ca, itmV x] W (PutRet sa x W)) := fun W B h => putS_any Aa sa.length ca sa x W.heap.size W (Nat.le_refl _) (own_row rowS h) (rown_cap h) (by omega) HNa.out.keys
            have HPB : Hid (∀ (W : World) (B : Nat), W.ownsRow B 46 8 (.slice Ab sb.length cb) sb.length (rowCells cellsP sb) → Calls Try.prog 16 #[.slice Ab sb.length cb, itmV y] W (PutRet sb y W)) := fun W B h => putS_any Ab sb.length cb sb y W.heap.size W (Nat.le_refl _) (own_row rowS h) (rown_cap h) (by omega) HNb.out.keys
            unfold PutRet at HPA HPB
            generalize (putF sa x).1 = pa at *
            generalize (putF sa x).2 = ga at *
            generalize (putF sb y).1 = pb at *
            generalize (putF sb y).2 = gb at *
            go_wp2_with fail
            refine (HTX.out _).mono ?_
            rintro e w4 ⟨rfl, hb⟩
            replace HA := Lib.hid (rown_below HA.out hb)
            replace HBr := Lib.hid (rown_below HBr.out hb)
            replace HB := Lib.hid (HB.out.trans (hb.mono HB.out.size))
            clear hb
            go_wp2_with fail
            refine (HPA.out _ _ HA.out).mono ?_
            rintro e w5 ⟨A5, c5, rfl, ho, hb⟩
            have HA5 := Lib.hid (rown_base ho HB.out.size)
            replace HBr := Lib.hid (rown_below HBr.out hb)
            replace HB := Lib.hid (HB.out.trans (hb.mono HB.out.size))
            clear ho hb HA HPA e0 e1 e2 e3 e4 e5 e6 e7 e8
            replace f0 := (HB.out.cell (p := ⟨b2, o2 + k * 9, none⟩) hb2).trans f0
            replace f1 := (HB.out.cell (p := ⟨b2, o2 + k * 9 + 1, none⟩) hb2).trans f1
            replace f2 := (HB.out.cell (p := ⟨b2, o2 + k * 9 + 2, none⟩) hb2).trans f2
            replace f3 := (HB.out.cell (p := ⟨b2, o2 + k * 9 + 3, none⟩) hb2).trans f3
            replace f4 := (HB.out.cell (p := ⟨b2, o2 + k * 9 + 4, none⟩) hb2).trans f4
            replace f5 := (HB.out.cell (p := ⟨b2, o2 + k * 9 + 5, none⟩) hb2).trans f5
            replace f6 := (HB.out.cell (p := ⟨b2, o2 + k * 9 + 6, none⟩) hb2).trans f6
            replace f7 := (HB.out.cell (p := ⟨b2, o2 + k * 9 + 7, none⟩) hb2).trans f7
            replace f8 := (HB.out.cell (p := ⟨b2, o2 + k * 9 + 8, none⟩) hb2).trans f8
            go_wp2_with fail
            refine (HTY.out _).mono ?_
            rintro e w6 ⟨rfl, hb⟩
            replace HA5 := Lib.hid (rown_below HA5.out hb)
            replace HBr := Lib.hid (rown_below HBr.out hb)
            replace HB := Lib.hid (HB.out.trans (hb.mono HB.out.size))
            clear hb
            go_wp2_with fail
            refine (HPB.out _ _ HBr.out).mono ?_
            rintro e w7 ⟨A7, c7, rfl, ho, hb⟩
            have HB7 := Lib.hid (rown_base ho HB.out.size)
            replace HA5 := Lib.hid (rown_below HA5.out hb)
            replace HB := Lib.hid (HB.out.trans (hb.mono HB.out.size))
            clear ho hb HBr HPB f0 f1 f2 f3 f4 f5 f6 f7 f8
            go_wp2
            go_roundw
            case rel => exact ⟨k + 1, A5, c5, A7, c7, pa, pb, by go_num, by omega, rfl, rfl, by omega, by omega, HNA, HNB, HA5, HB7, HB⟩
            case measure => simp [intOf]; omega
          · obtain rfl : k = own.length := by omega
            have q1 : ¬ ((own.length : Int) < own.length) := by omega
            go_wp2
            go_meet
            case rel => exact ⟨Aa, ca, Ab, cb, sa, sb, rfl, rfl, by omega, by omega, (by have h := HNa.out; rw [List.take_length] at h; exact h), (by have h := HNb.out; rw [← hlo, List.take_length] at h; exact h), HA, HBr, HB⟩
      case rest =>
        obtain ⟨Aa, ca, Ab, cb, sa, sb, rfl, rfl, hka, hkb, HNa, HNb, HA, HBr, HB⟩ := hcut
        rename World => wq
        have hll := (orders_like HNa.out HNb.out (fun z => (HMM.out z).symm) HON.out).1
        have HLK := Lib.hid (orders_like HNa.out HNb.out (fun z => (HMM.out z).symm) HON.out).2
        rw [← hll] at HBr ⊢
        have hab : ((sa.length : Int) != sa.length) = false := by simp
        clear hkb hll
        go_wp2_with fail
        refine (told_any _).mono ?_
        rintro e w8 ⟨rfl, hb⟩
        replace HA := Lib.hid (rown_below HA.out hb)
        replace HBr := Lib.hid (rown_below HBr.out hb)
        replace HB := Lib.hid (HB.out.trans (hb.mono HB.out.size))
        clear hb
        have HRA := Lib.hid (own_row rowS HA.out)
        have HRB := Lib.hid (own_row rowS HBr.out)
        clear HA HBr
        go_upto_block 8 with fail
        go_cut [17] (fun _ wr => Hid (Below w8.heap.size w8 wr))
        case first =>
          go_wp2_with fail
          go_loopw [17] (fun i wr => ∃ k : Nat, i = .int .i64 k ∧ k ≤ sa.length ∧ Hid (Below w8.heap.size w8 wr)) (fun i _ => sa.length - (intOf i).toNat)
          case atStart => exact ⟨0, rfl, by omega, Below.refl _ _⟩
          case round =>
            obtain ⟨k, rfl, hk, HB8⟩ := hrel
            by_cases hlt : k < sa.length
            · obtain ⟨b1, o1, rfl, hb1, x, hx, hc1⟩ := HRA.out.get hlt
              obtain ⟨b2, o2, rfl, hb2, y, hy, hc2⟩ := HRB.out.get hlt
              obtain ⟨l1, l2, l3, l4⟩ := HLK.out k x y hx hy
              obtain ⟨e0, e1, e2, e3, e4, e5, e6, e7⟩ := cellsP_at hc1
              obtain ⟨f0, f1, f2, f3, f4, f5, f6, f7⟩ := cellsP_at hc2
              replace e0 := (HB8.out.cell (p := ⟨b1, o1 + k * 8, none⟩) hb1).trans e0
              replace e1 := (HB8.out.cell (p := ⟨b1, o1 + k * 8 + 1, none⟩) hb1).trans e1
              replace e2 := (HB8.out.cell (p := ⟨b1, o1 + k * 8 + 2, none⟩) hb1).trans e2
              replace e3 := (HB8.out.cell (p := ⟨b1, o1 + k * 8 + 3, none⟩) hb1).trans e3
              replace e4 := (HB8.out.cell (p := ⟨b1, o1 + k * 8 + 4, none⟩) hb1).trans e4
              replace e5 := (HB8.out.cell (p := ⟨b1, o1 + k * 8 + 5, none⟩) hb1).trans e5
              replace e6 := (HB8.out.cell (p := ⟨b1, o1 + k * 8 + 6, none⟩) hb1).trans e6
              replace e7 := (HB8.out.cell (p := ⟨b1, o1 + k * 8 + 7, none⟩) hb1).trans e7
              replace f0 := (HB8.out.cell (p := ⟨b2, o2 + k * 8, none⟩) hb2).trans f0
              replace f1 := (HB8.out.cell (p := ⟨b2, o2 + k * 8 + 1, none⟩) hb2).trans f1
              replace f2 := (HB8.out.cell (p := ⟨b2, o2 + k * 8 + 2, none⟩) hb2).trans f2
              replace f3 := (HB8.out.cell (p := ⟨b2, o2 + k * 8 + 3, none⟩) hb2).trans f3
              replace f4 := (HB8.out.cell (p := ⟨b2, o2 + k * 8 + 4, none⟩) hb2).trans f4
              replace f5 := (HB8.out.cell (p := ⟨b2, o2 + k * 8 + 5, none⟩) hb2).trans f5
              replace f6 := (HB8.out.cell (p := ⟨b2, o2 + k * 8 + 6, none⟩) hb2).trans f6
              replace f7 := (HB8.out.cell (p := ⟨b2, o2 + k * 8 + 7, none⟩) hb2).trans f7
              rw [← l1] at f0
              rw [← l2] at f1 f2 f3
              rw [← l3] at f7
              rw [← l4] at f4
              have q1 : (k : Int) < sa.length := by omega
              have q0 : (0 : Int) ≤ (k : Int) := by omega
              have s0 : (x.key != x.key) = false := by simp
              have s1 : (x.held != x.held) = false := by simp
              have s2 : (x.dead != x.dead) = false := by simp
              clear hc1 hc2 l1 l2 l3 l4 hx hy e5 e6 f5 f6
              generalize x.key = key at *
              generalize x.ver.id = d at *
              generalize x.ver.seq = a at *
              generalize x.ver.stamp = s at *
              generalize x.dead = dead at *
              generalize x.held = held at *
              go_wp2_with fail
              go_quiet (fail)
              go_wp2
              go_roundw
              case rel => exact ⟨k + 1, by go_num, by omega, below_drewN HB8.out _⟩
              case measure => simp [intOf]; omega
            · obtain rfl : k = sa.length := by omega
              have q1 : ¬ ((sa.length : Int) < sa.length) := by omega
              go_wp2
              go_meet
              case rel => exact HB8
        case rest =>
          rename World => wx
          have HBX := Lib.hid hcut
          clear hcut
          have HBZ : Hid (Below wb.heap.size wb wx) := HB.out.trans (HBX.out.mono HB.out.size)
          go_wp2_with fail
          go_loopw [18] (fun i wr => ∃ k : Nat, i = .int .i64 k ∧ k ≤ own.length ∧ Hid (Below wx.heap.size wx wr)) (fun i _ => own.length - (intOf i).toNat)
          case atStart => exact ⟨0, rfl, by omega, Below.refl _ _⟩
          case round =>
            obtain ⟨k, rfl, hk, HB9⟩ := hrel
            by_cases hlt : k < own.length
            · obtain ⟨b1, o1, rfl, hb1, x, hx, hc1⟩ := HRW1.out.get hlt
              obtain ⟨e0, e1, e2, e3, e4, e5, e6, e7, e8⟩ := cellsI_at hc1
              have HBT := HBZ.out.trans (HB9.out.mono HBZ.out.size)
              replace e0 := (HBT.cell (p := ⟨b1, o1 + k * 9, none⟩) hb1).trans e0
              replace e1 := (HBT.cell (p := ⟨b1, o1 + k * 9 + 1, none⟩) hb1).trans e1
              replace e2 := (HBT.cell (p := ⟨b1, o1 + k * 9 + 2, none⟩) hb1).trans e2
              replace e3 := (HBT.cell (p := ⟨b1, o1 + k * 9 + 3, none⟩) hb1).trans e3
              replace e4 := (HBT.cell (p := ⟨b1, o1 + k * 9 + 4, none⟩) hb1).trans e4
              replace e5 := (HBT.cell (p := ⟨b1, o1 + k * 9 + 5, none⟩) hb1).trans e5
              replace e6 := (HBT.cell (p := ⟨b1, o1 + k * 9 + 6, none⟩) hb1).trans e6
              replace e7 := (HBT.cell (p := ⟨b1, o1 + k * 9 + 7, none⟩) hb1).trans e7
              replace e8 := (HBT.cell (p := ⟨b1, o1 + k * 9 + 8, none⟩) hb1).trans e8
              have hbl : b1 < wr.heap.size := Nat.lt_of_lt_of_le hb1 HBT.size
              have HBT8 : Hid (Below w8.heap.size w8 wr) := HBX.out.trans (HB9.out.mono HBX.out.size)
              have hxm := List.mem_of_getElem? hx
              obtain ⟨z, hz⟩ := HNa.out.has x hxm
              have htop := HNa.out.top x.key z hz x hxm rfl
              have hsm := right_small (HRI.out z (HNa.out.mem z (getF_mem hz).1))
              have HG : Hid (∀ W, Below w8.heap.size w8 W → Calls Try.prog 19 #[.slice Aa sa.length ca, .int .i64 x.key] W fun e w' => e = .returned (.tuple #[itmV z, .bool true]) ∧ Below W.heap.size W w') := fun W hb => by
                have h := getS_any Aa sa.length ca sa x.key w8.heap.size W hb.size (HRA.out.keep hb) (by omega) HNa.out.keys
                rw [hz] at h
                exact h
              have HF := Lib.hid (from_any z hsm.1 hsm.2)
              have hidx : x.ver.id.size ≤ 9223372036854775807 := id_small (HRI.out x hxm)
              have HNW : Hid (∀ W, Calls Try.prog 32 #[.agg #[.string x.ver.id, .int .i64 x.ver.seq, .int .i64 x.ver.stamp], .agg #[.string z.ver.id, .int .i64 z.ver.seq, .int .i64 z.ver.stamp]] W fun e w' => e = .returned (.bool false) ∧ Below W.heap.size W w') := fun W => by
                have h := rnewer_raw x.ver.id x.ver.seq x.ver.stamp z.ver.id z.ver.seq z.ver.stamp hidx W
                rw [show newerF ⟨x.ver.id, x.ver.seq, x.ver.stamp⟩ ⟨z.ver.id, z.ver.seq, z.ver.stamp⟩ = false from htop.1] at h
                exact h
              have hvv : eqV ⟨x.ver.id, x.ver.seq, x.ver.stamp⟩ ⟨z.ver.id, z.ver.seq, z.ver.stamp⟩ = true → x.held = true → z.held = true := fun h => htop.2 ((eqV_iff _ _).mp h)
              have hve := eql_rver x.ver.id x.ver.seq x.ver.stamp z.ver.id z.ver.seq z.ver.stamp
              generalize eqV ⟨x.ver.id, x.ver.seq, x.ver.stamp⟩ ⟨z.ver.id, z.ver.seq, z.ver.stamp⟩ = eb at *
              have hst := store_complex
              have q1 : (k : Int) < own.length := by omega
              have q0 : (0 : Int) ≤ (k : Int) := by omega
              unfold itmV at HG
              unfold refV itmV at HF
              clear hc1 htop hsm hidx HBT hz hxm hx
              generalize x.key = key at *
              generalize x.ver.id = d at *
              generalize x.ver.seq = a at *
              generalize x.ver.stamp = s at *
              generalize x.dead = dead at *
              generalize x.held = held at *
              generalize x.x = xx at *
              generalize x.y = xy at *
              generalize x.text = text at *
              generalize z.key = key2 at *
              generalize z.ver.id = d2 at *
              generalize z.ver.seq = a2 at *
              generalize z.ver.stamp = s2 at *
              generalize z.dead = dead2 at *
              generalize z.held = held2 at *
              generalize fl z.x = fx at *
              generalize fl z.y = fy at *
              generalize z.x = zx at *
              generalize z.y = zy at *
              generalize z.text = text2 at *
              have hfd : ∀ w : World, (Instr.field 28 (.agg #[.int .i64 key2, .string d2, .int .i64 a2, .int .i64 s2, .bool dead2, .int .i64 zx, .int .i64 zy, .string text2, .bool held2]) 1).run Try.prog w = .ok (.agg #[.string d2, .int .i64 a2, .int .i64 s2]) w := fun _ => by kernel_rfl
              go_wp2_with fail
              refine (HG.out _ HBT8.out).mono ?_
              rintro e w9 ⟨rfl, hb⟩
              replace e0 := (hb.cell (p := ⟨b1, o1 + k * 9, none⟩) hbl).trans e0
              replace e1 := (hb.cell (p := ⟨b1, o1 + k * 9 + 1, none⟩) hbl).trans e1
              replace e2 := (hb.cell (p := ⟨b1, o1 + k * 9 + 2, none⟩) hbl).trans e2
              replace e3 := (hb.cell (p := ⟨b1, o1 + k * 9 + 3, none⟩) hbl).trans e3
              replace e4 := (hb.cell (p := ⟨b1, o1 + k * 9 + 4, none⟩) hbl).trans e4
              replace e5 := (hb.cell (p := ⟨b1, o1 + k * 9 + 5, none⟩) hbl).trans e5
              replace e6 := (hb.cell (p := ⟨b1, o1 + k * 9 + 6, none⟩) hbl).trans e6
              replace e7 := (hb.cell (p := ⟨b1, o1 + k * 9 + 7, none⟩) hbl).trans e7
              replace e8 := (hb.cell (p := ⟨b1, o1 + k * 9 + 8, none⟩) hbl).trans e8
              replace hbl := Nat.lt_of_lt_of_le hbl hb.size
              replace HB9 := Lib.hid (HB9.out.trans (hb.mono HB9.out.size))
              clear hb HBT8 HG
              go_upto_region 38 with fail
              have hb : Below w9.heap.size w9 (w9.alloc (.cells #[.int .i64 key2, .string d2, .int .i64 a2, .int .i64 s2, .bool dead2, .complex .f64 fx fy, .string text2, .bool held2] 46)) := (Below.refl _ _).alloc (Nat.le_refl _) _
              replace e0 := (hb.cell (p := ⟨b1, o1 + k * 9, none⟩) hbl).trans e0
              replace e1 := (hb.cell (p := ⟨b1, o1 + k * 9 + 1, none⟩) hbl).trans e1
              replace e2 := (hb.cell (p := ⟨b1, o1 + k * 9 + 2, none⟩) hbl).trans e2
              replace e3 := (hb.cell (p := ⟨b1, o1 + k * 9 + 3, none⟩) hbl).trans e3
              replace e4 := (hb.cell (p := ⟨b1, o1 + k * 9 + 4, none⟩) hbl).trans e4
              replace e5 := (hb.cell (p := ⟨b1, o1 + k * 9 + 5, none⟩) hbl).trans e5
              replace e6 := (hb.cell (p := ⟨b1, o1 + k * 9 + 6, none⟩) hbl).trans e6
              replace e7 := (hb.cell (p := ⟨b1, o1 + k * 9 + 7, none⟩) hbl).trans e7
              replace e8 := (hb.cell (p := ⟨b1, o1 + k * 9 + 8, none⟩) hbl).trans e8
              have k0 : (w9.alloc (.cells #[.int .i64 key2, .string d2, .int .i64 a2, .int .i64 s2, .bool dead2, .complex .f64 fx fy, .string text2, .bool held2] 46)).cell? ⟨w9.heap.size, 0, none⟩ = some (.int .i64 key2) := by simp [go_sem]
              have k1 : (w9.alloc (.cells #[.int .i64 key2, .string d2, .int .i64 a2, .int .i64 s2, .bool dead2, .complex .f64 fx fy, .string text2, .bool held2] 46)).cell? ⟨w9.heap.size, 1, none⟩ = some (.string d2) := by simp [go_sem]
              have k2 : (w9.alloc (.cells #[.int .i64 key2, .string d2, .int .i64 a2, .int .i64 s2, .bool dead2, .complex .f64 fx fy, .string text2, .bool held2] 46)).cell? ⟨w9.heap.size, 2, none⟩ = some (.int .i64 a2) := by simp [go_sem]
              have k3 : (w9.alloc (.cells #[.int .i64 key2, .string d2, .int .i64 a2, .int .i64 s2, .bool dead2, .complex .f64 fx fy, .string text2, .bool held2] 46)).cell? ⟨w9.heap.size, 3, none⟩ = some (.int .i64 s2) := by simp [go_sem]
              have k4 : (w9.alloc (.cells #[.int .i64 key2, .string d2, .int .i64 a2, .int .i64 s2, .bool dead2, .complex .f64 fx fy, .string text2, .bool held2] 46)).cell? ⟨w9.heap.size, 4, none⟩ = some (.bool dead2) := by simp [go_sem]
              have k5 : (w9.alloc (.cells #[.int .i64 key2, .string d2, .int .i64 a2, .int .i64 s2, .bool dead2, .complex .f64 fx fy, .string text2, .bool held2] 46)).cell? ⟨w9.heap.size, 5, none⟩ = some (.complex .f64 fx fy) := by simp [go_sem]
              have k6 : (w9.alloc (.cells #[.int .i64 key2, .string d2, .int .i64 a2, .int .i64 s2, .bool dead2, .complex .f64 fx fy, .string text2, .bool held2] 46)).cell? ⟨w9.heap.size, 6, none⟩ = some (.string text2) := by simp [go_sem]
              have k7 : (w9.alloc (.cells #[.int .i64 key2, .string d2, .int .i64 a2, .int .i64 s2, .bool dead2, .complex .f64 fx fy, .string text2, .bool held2] 46)).cell? ⟨w9.heap.size, 7, none⟩ = some (.bool held2) := by simp [go_sem]
              have kz : w9.heap.size < (w9.alloc (.cells #[.int .i64 key2, .string d2, .int .i64 a2, .int .i64 s2, .bool dead2, .complex .f64 fx fy, .string text2, .bool held2] 46)).heap.size := by simp
              replace hbl := Nat.lt_of_lt_of_le hbl hb.size
              replace HB9 := Lib.hid (HB9.out.trans (hb.mono HB9.out.size))
              clear hb
              generalize (w9.alloc (.cells #[.int .i64 key2, .string d2, .int .i64 a2, .int .i64 s2, .bool dead2, .complex .f64 fx fy, .string text2, .bool held2] 46)) = W9 at *
              generalize w9.heap.size = P9 at *
              clear e0 e4 e5 e6 e7
              rcases eb with _ | _
              · clear hvv
                as_aux_lemma =>
                  refine wp_region_held_drew (S := fun w' => w'.cell? ⟨b1, o1 + k * 9 + 1, none⟩ = some (.string d) ∧ w'.cell? ⟨b1, o1 + k * 9 + 2, none⟩ = some (.int .i64 a) ∧ w'.cell? ⟨b1, o1 + k * 9 + 3, none⟩ = some (.int .i64 s) ∧ w'.cell? ⟨b1, o1 + k * 9 + 8, none⟩ = some (.bool held) ∧ w'.cell? ⟨P9, 0, none⟩ = some (.int .i64 key2) ∧ w'.cell? ⟨P9, 1, none⟩ = some (.string d2) ∧ w'.cell? ⟨P9, 2, none⟩ = some (.int .i64 a2) ∧ w'.cell? ⟨P9, 3, none⟩ = some (.int .i64 s2) ∧ w'.cell? ⟨P9, 4, none⟩ = some (.bool dead2) ∧ w'.cell? ⟨P9, 5, none⟩ = some (.complex .f64 fx fy) ∧ w'.cell? ⟨P9, 6, none⟩ = some (.string text2) ∧ w'.cell? ⟨P9, 7, none⟩ = some (.bool held2)) (by kernel_rfl) ⟨e1, e2, e3, e8, k0, k1, k2, k3, k4, k5, k6, k7⟩ (fun hHeld => ?_)
                  refine wpAnyH_take (i := 0) (oi := { dst := some 231, op := Go.Op.move (Go.Operand.tmp 20), type := 4, pos := "law.go:111", after := #[], guard := none }) (v := ?_) rfl (by kernel_rfl) (by kernel_rfl) (by kernel_rfl) (fun _ _ _ h => h) (Or.inl ⟨rfl, ?_⟩) (by assumption) ?_
                  rotate_left
                  · intro wz hSw; (try dsimp only at hSw); go_simp; try (with_reducible rfl)
                  try simp only [Act.put, List.setIfInBounds_toArray, List.set_cons_zero, List.set_cons_succ]
                  refine wpAnyH_take (i := 1) (oi := { dst := some 232, op := Go.Op.unOp Go.UnOp.not 4 (Go.Operand.tmp 231), type := 4, pos := "law.go:111", after := #[{ on := 0, ground := Go.Ground.data }], guard := none }) (v := ?_) rfl (by kernel_rfl) (by kernel_rfl) (by kernel_rfl) (fun _ _ _ h => h) (Or.inl ⟨rfl, ?_⟩) (by assumption) ?_
                  rotate_left
                  · intro wz hSw; (try dsimp only at hSw); go_simp; try (with_reducible rfl)
                  try simp only [Act.put, List.setIfInBounds_toArray, List.set_cons_zero, List.set_cons_succ]
                  refine wpAnyH_take (i := 2) (oi := { dst := some 233, op := Go.Op.move (Go.Operand.tmp 232), type := 4, pos := "law.go:111", after := #[{ on := 1, ground := Go.Ground.data }], guard := none }) (v := ?_) rfl (by kernel_rfl) (by kernel_rfl) (by kernel_rfl) (fun _ _ _ h => h) (Or.inl ⟨rfl, ?_⟩) (by assumption) ?_
                  rotate_left
                  · intro wz hSw; (try dsimp only at hSw); go_simp; try (with_reducible rfl)
                  try simp only [Act.put, List.setIfInBounds_toArray, List.set_cons_zero, List.set_cons_succ]
                  refine wpAnyH_take (i := 3) (oi := { dst := some 234, op := Go.Op.move (Go.Operand.tmp 5), type := 22, pos := "law.go:111", after := #[{ on := 2, ground := Go.Ground.guard }], guard := some (2, false) }) (v := ?_) rfl (by kernel_rfl) (by kernel_rfl) (by kernel_rfl) (fun _ _ _ h => h) (Or.inl ⟨rfl, ?_⟩) (by assumption) ?_
                  rotate_left
                  · intro wz hSw; (try dsimp only at hSw); go_simp; try (with_reducible rfl)
                  try simp only [Act.put, List.setIfInBounds_toArray, List.set_cons_zero, List.set_cons_succ]
                  refine wpAnyH_take (i := 4) (oi := { dst := some 235, op := Go.Op.move (Go.Operand.tmp 18), type := 3, pos := "law.go:111", after := #[{ on := 2, ground := Go.Ground.guard }], guard := some (2, false) }) (v := ?_) rfl (by kernel_rfl) (by kernel_rfl) (by kernel_rfl) (fun _ _ _ h => h) (Or.inl ⟨rfl, ?_⟩) (by assumption) ?_
                  rotate_left
                  · intro wz hSw; (try dsimp only at hSw); go_simp; try (with_reducible rfl)
                  try simp only [Act.put, List.setIfInBounds_toArray, List.set_cons_zero, List.set_cons_succ]
                  refine wpAnyH_take (i := 5) (oi := { dst := some 236, op := Go.Op.indexAddr 22 (Go.Operand.tmp 234) (Go.Operand.tmp 235), type := 0, pos := "law.go:111", after := #[{ on := 3, ground := Go.Ground.data }, { on := 4, ground := Go.Ground.data }, { on := 2, ground := Go.Ground.guard }], guard := some (2, false) }) (v := ?_) rfl (by kernel_rfl) (by kernel_rfl) (by kernel_rfl) (fun _ _ _ h => h) (Or.inl ⟨rfl, ?_⟩) (by assumption) ?_
                  rotate_left
                  · intro wz hSw; (try dsimp only at hSw); go_simp; try (with_reducible rfl)
                  try simp only [Act.put, List.setIfInBounds_toArray, List.set_cons_zero, List.set_cons_succ]
                  refine wpAnyH_take (i := 6) (oi := { dst := some 237, op := Go.Op.fieldAddr 28 (Go.Operand.tmp 236) 1, type := 0, pos := "law.go:111", after := #[{ on := 5, ground := Go.Ground.data }, { on := 2, ground := Go.Ground.guard }], guard := some (2, false) }) (v := ?_) rfl (by kernel_rfl) (by kernel_rfl) (by kernel_rfl) (fun _ _ _ h => h) (Or.inl ⟨rfl, ?_⟩) (by assumption) ?_
                  rotate_left
                  · intro wz hSw; (try dsimp only at hSw); go_simp; try (with_reducible rfl)
                  try simp only [Act.put, List.setIfInBounds_toArray, List.set_cons_zero, List.set_cons_succ]
                  refine wpAnyH_take (i := 7) (oi := { dst := some 238, op := Go.Op.load 26 (Go.Operand.tmp 237), type := 26, pos := "law.go:111", after := #[{ on := 6, ground := Go.Ground.data }, { on := 2, ground := Go.Ground.guard }], guard := some (2, false) }) (v := ?_) rfl (by kernel_rfl) (by kernel_rfl) (by kernel_rfl) (fun _ _ _ h => h) (Or.inl ⟨rfl, ?_⟩) (by assumption) ?_
                  rotate_left
                  · intro wz hSw; (try dsimp only at hSw); go_simp; try (with_reducible rfl)
                  try simp only [Act.put, List.setIfInBounds_toArray, List.set_cons_zero, List.set_cons_succ]
                  refine wpAnyH_take (i := 8) (oi := { dst := some 239, op := Go.Op.load 46 (Go.Operand.tmp 19), type := 46, pos := "law.go:111", after := #[{ on := 2, ground := Go.Ground.guard }], guard := some (2, false) }) (v := ?_) rfl (by kernel_rfl) (by kernel_rfl) (by kernel_rfl) (fun _ _ _ h => h) (Or.inl ⟨rfl, ?_⟩) (by assumption) ?_
                  rotate_left
                  · intro wz hSw; (try dsimp only at hSw); go_simp; try (with_reducible rfl)
                  try simp only [Act.put, List.setIfInBounds_toArray, List.set_cons_zero, List.set_cons_succ]
                  refine wpAnyH_ready (rs := [9]) (by kernel_rfl) (by simp) ?_
                  refine AllReadyH.cons (o := { dst := some 240, op := Go.Op.call { callee := Go.Callee.value (Go.Operand.func 22), args := #[Go.Operand.tmp 239], argTypes := #[46] }, type := 28, pos := "law.go:111", after := #[{ on := 8, ground := Go.Ground.data }, { on := 2, ground := Go.Ground.chain }, { on := 2, ground := Go.Ground.guard }], guard := some (2, false) }) rfl (fun K hK => ?_) AllReadyH.nil
                  go_simp
                  go_at_call 22
                  refine (HF.out _).mono ?_
                  rintro e v1 ⟨rfl, hb⟩
                  replace e1 := (hb.cell (p := ⟨b1, o1 + k * 9 + 1, none⟩) hbl).trans e1
                  replace e2 := (hb.cell (p := ⟨b1, o1 + k * 9 + 2, none⟩) hbl).trans e2
                  replace e3 := (hb.cell (p := ⟨b1, o1 + k * 9 + 3, none⟩) hbl).trans e3
                  replace e8 := (hb.cell (p := ⟨b1, o1 + k * 9 + 8, none⟩) hbl).trans e8
                  replace k0 := (hb.cell (p := ⟨P9, 0, none⟩) kz).trans k0
                  replace k1 := (hb.cell (p := ⟨P9, 1, none⟩) kz).trans k1
                  replace k2 := (hb.cell (p := ⟨P9, 2, none⟩) kz).trans k2
                  replace k3 := (hb.cell (p := ⟨P9, 3, none⟩) kz).trans k3
                  replace k4 := (hb.cell (p := ⟨P9, 4, none⟩) kz).trans k4
                  replace k5 := (hb.cell (p := ⟨P9, 5, none⟩) kz).trans k5
                  replace k6 := (hb.cell (p := ⟨P9, 6, none⟩) kz).trans k6
                  replace k7 := (hb.cell (p := ⟨P9, 7, none⟩) kz).trans k7
                  replace hbl := Nat.lt_of_lt_of_le hbl hb.size
                  replace kz := Nat.lt_of_lt_of_le kz hb.size
                  replace HB9 := Lib.hid (below_via HB9.out hb HB9.out.size ⟨rfl, rfl, rfl, rfl⟩)
                  clear hb
                  refine hK.out _ _ ⟨e1, e2, e3, e8, k0, k1, k2, k3, k4, k5, k6, k7⟩ (fun hHeld => ?_)
                  clear hK K
                  try simp only [Act.put, List.setIfInBounds_toArray, List.set_cons_zero, List.set_cons_succ]
                  refine wpAnyH_take (i := 10) (oi := { dst := some 241, op := Go.Op.field 28 (Go.Operand.tmp 240) 1, type := 26, pos := "law.go:111", after := #[{ on := 9, ground := Go.Ground.data }, { on := 2, ground := Go.Ground.guard }], guard := some (2, false) }) (v := ?_) rfl (by kernel_rfl) (by kernel_rfl) (by kernel_rfl) (fun _ _ _ h => h) (Or.inl ⟨rfl, ?_⟩) (by assumption) ?_
                  rotate_left
                  · intro wz hSw; (try dsimp only at hSw); go_simp; try (with_reducible rfl)
                  try simp only [Act.put, List.setIfInBounds_toArray, List.set_cons_zero, List.set_cons_succ]
                  refine wpAnyH_ready (rs := [11]) (by kernel_rfl) (by simp) ?_
                  refine AllReadyH.cons (o := { dst := some 242, op := Go.Op.call { callee := Go.Callee.value (Go.Operand.func 32), args := #[Go.Operand.tmp 238, Go.Operand.tmp 241], argTypes := #[26, 26] }, type := 4, pos := "law.go:111", after := #[{ on := 7, ground := Go.Ground.data }, { on := 10, ground := Go.Ground.data }, { on := 9, ground := Go.Ground.chain }, { on := 2, ground := Go.Ground.guard }], guard := some (2, false) }) rfl (fun K hK => ?_) AllReadyH.nil
                  go_simp
                  go_at_call 32
                  refine (HNW.out _).mono ?_
                  rintro e v2 ⟨rfl, hb⟩
                  replace e1 := (hb.cell (p := ⟨b1, o1 + k * 9 + 1, none⟩) hbl).trans e1
                  replace e2 := (hb.cell (p := ⟨b1, o1 + k * 9 + 2, none⟩) hbl).trans e2
                  replace e3 := (hb.cell (p := ⟨b1, o1 + k * 9 + 3, none⟩) hbl).trans e3
                  replace e8 := (hb.cell (p := ⟨b1, o1 + k * 9 + 8, none⟩) hbl).trans e8
                  replace k0 := (hb.cell (p := ⟨P9, 0, none⟩) kz).trans k0
                  replace k1 := (hb.cell (p := ⟨P9, 1, none⟩) kz).trans k1
                  replace k2 := (hb.cell (p := ⟨P9, 2, none⟩) kz).trans k2
                  replace k3 := (hb.cell (p := ⟨P9, 3, none⟩) kz).trans k3
                  replace k4 := (hb.cell (p := ⟨P9, 4, none⟩) kz).trans k4
                  replace k5 := (hb.cell (p := ⟨P9, 5, none⟩) kz).trans k5
                  replace k6 := (hb.cell (p := ⟨P9, 6, none⟩) kz).trans k6
                  replace k7 := (hb.cell (p := ⟨P9, 7, none⟩) kz).trans k7
                  replace hbl := Nat.lt_of_lt_of_le hbl hb.size
                  replace kz := Nat.lt_of_lt_of_le kz hb.size
                  replace HB9 := Lib.hid (below_via HB9.out hb HB9.out.size ⟨rfl, rfl, rfl, rfl⟩)
                  clear hb
                  refine hK.out _ _ ⟨e1, e2, e3, e8, k0, k1, k2, k3, k4, k5, k6, k7⟩ (fun hHeld => ?_)
                  clear hK K
                  try simp only [Act.put, List.setIfInBounds_toArray, List.set_cons_zero, List.set_cons_succ]
                  refine wpAnyH_take (i := 12) (oi := { dst := some 243, op := Go.Op.pick (Go.Operand.tmp 233) (Go.Operand.const (Go.Value.bool true)) (Go.Operand.tmp 242), type := 4, pos := "law.go:111", after := #[{ on := 2, ground := Go.Ground.data }, { on := 11, ground := Go.Ground.data }], guard := none }) (v := ?_) rfl (by kernel_rfl) (by kernel_rfl) (by kernel_rfl) (fun _ _ _ h => h) (Or.inl ⟨rfl, ?_⟩) (by assumption) ?_
                  rotate_left
                  · intro wz hSw; (try dsimp only at hSw); go_simp; try (with_reducible rfl)
                  try simp only [Act.put, List.setIfInBounds_toArray, List.set_cons_zero, List.set_cons_succ]
                  refine wpAnyH_take (i := 13) (oi := { dst := some 244, op := Go.Op.move (Go.Operand.tmp 243), type := 4, pos := "law.go:111", after := #[{ on := 12, ground := Go.Ground.data }, { on := 11, ground := Go.Ground.chain }], guard := none }) (v := ?_) rfl (by kernel_rfl) (by kernel_rfl) (by kernel_rfl) (fun _ _ _ h => h) (Or.inl ⟨rfl, ?_⟩) (by assumption) ?_
                  rotate_left
                  · intro wz hSw; (try dsimp only at hSw); go_simp; try (with_reducible rfl)
                  try simp only [Act.put, List.setIfInBounds_toArray, List.set_cons_zero, List.set_cons_succ]
                  refine wpAnyH_take (i := 14) (oi := { dst := some 245, op := Go.Op.move (Go.Operand.tmp 5), type := 22, pos := "law.go:111", after := #[{ on := 13, ground := Go.Ground.guard }], guard := some (13, false) }) (v := ?_) rfl (by kernel_rfl) (by kernel_rfl) (by kernel_rfl) (fun _ _ _ h => h) (Or.inl ⟨rfl, ?_⟩) (by assumption) ?_
                  rotate_left
                  · intro wz hSw; (try dsimp only at hSw); go_simp; try (with_reducible rfl)
                  try simp only [Act.put, List.setIfInBounds_toArray, List.set_cons_zero, List.set_cons_succ]
                  refine wpAnyH_take (i := 15) (oi := { dst := some 246, op := Go.Op.move (Go.Operand.tmp 18), type := 3, pos := "law.go:111", after := #[{ on := 13, ground := Go.Ground.guard }], guard := some (13, false) }) (v := ?_) rfl (by kernel_rfl) (by kernel_rfl) (by kernel_rfl) (fun _ _ _ h => h) (Or.inl ⟨rfl, ?_⟩) (by assumption) ?_
                  rotate_left
                  · intro wz hSw; (try dsimp only at hSw); go_simp; try (with_reducible rfl)
                  try simp only [Act.put, List.setIfInBounds_toArray, List.set_cons_zero, List.set_cons_succ]
                  refine wpAnyH_take (i := 16) (oi := { dst := some 247, op := Go.Op.indexAddr 22 (Go.Operand.tmp 245) (Go.Operand.tmp 246), type := 0, pos := "law.go:111", after := #[{ on := 14, ground := Go.Ground.data }, { on := 15, ground := Go.Ground.data }, { on := 13, ground := Go.Ground.guard }], guard := some (13, false) }) (v := ?_) rfl (by kernel_rfl) (by kernel_rfl) (by kernel_rfl) (fun _ _ _ h => h) (Or.inl ⟨rfl, ?_⟩) (by assumption) ?_
                  rotate_left
                  · intro wz hSw; (try dsimp only at hSw); go_simp; try (with_reducible rfl)
                  try simp only [Act.put, List.setIfInBounds_toArray, List.set_cons_zero, List.set_cons_succ]
                  refine wpAnyH_take (i := 17) (oi := { dst := some 248, op := Go.Op.fieldAddr 28 (Go.Operand.tmp 247) 1, type := 0, pos := "law.go:111", after := #[{ on := 16, ground := Go.Ground.data }, { on := 13, ground := Go.Ground.guard }], guard := some (13, false) }) (v := ?_) rfl (by kernel_rfl) (by kernel_rfl) (by kernel_rfl) (fun _ _ _ h => h) (Or.inl ⟨rfl, ?_⟩) (by assumption) ?_
                  rotate_left
                  · intro wz hSw; (try dsimp only at hSw); go_simp; try (with_reducible rfl)
                  try simp only [Act.put, List.setIfInBounds_toArray, List.set_cons_zero, List.set_cons_succ]
                  refine wpAnyH_take (i := 18) (oi := { dst := some 249, op := Go.Op.load 26 (Go.Operand.tmp 248), type := 26, pos := "law.go:111", after := #[{ on := 17, ground := Go.Ground.data }, { on := 13, ground := Go.Ground.guard }], guard := some (13, false) }) (v := ?_) rfl (by kernel_rfl) (by kernel_rfl) (by kernel_rfl) (fun _ _ _ h => h) (Or.inl ⟨rfl, ?_⟩) (by assumption) ?_
                  rotate_left
                  · intro wz hSw; (try dsimp only at hSw); go_simp; try (with_reducible rfl)
                  try simp only [Act.put, List.setIfInBounds_toArray, List.set_cons_zero, List.set_cons_succ]
                  refine wpAnyH_take (i := 19) (oi := { dst := some 250, op := Go.Op.load 46 (Go.Operand.tmp 19), type := 46, pos := "law.go:111", after := #[{ on := 13, ground := Go.Ground.guard }], guard := some (13, false) }) (v := ?_) rfl (by kernel_rfl) (by kernel_rfl) (by kernel_rfl) (fun _ _ _ h => h) (Or.inl ⟨rfl, ?_⟩) (by assumption) ?_
                  rotate_left
                  · intro wz hSw; (try dsimp only at hSw); go_simp; try (with_reducible rfl)
                  try simp only [Act.put, List.setIfInBounds_toArray, List.set_cons_zero, List.set_cons_succ]
                  refine wpAnyH_ready (rs := [20]) (by kernel_rfl) (by simp) ?_
                  refine AllReadyH.cons (o := { dst := some 251, op := Go.Op.call { callee := Go.Callee.value (Go.Operand.func 22), args := #[Go.Operand.tmp 250], argTypes := #[46] }, type := 28, pos := "law.go:111", after := #[{ on := 19, ground := Go.Ground.data }, { on := 13, ground := Go.Ground.chain }, { on := 13, ground := Go.Ground.guard }], guard := some (13, false) }) rfl (fun K hK => ?_) AllReadyH.nil
                  go_simp
                  go_at_call 22
                  refine (HF.out _).mono ?_
                  rintro e v3 ⟨rfl, hb⟩
                  replace e1 := (hb.cell (p := ⟨b1, o1 + k * 9 + 1, none⟩) hbl).trans e1
                  replace e2 := (hb.cell (p := ⟨b1, o1 + k * 9 + 2, none⟩) hbl).trans e2
                  replace e3 := (hb.cell (p := ⟨b1, o1 + k * 9 + 3, none⟩) hbl).trans e3
                  replace e8 := (hb.cell (p := ⟨b1, o1 + k * 9 + 8, none⟩) hbl).trans e8
                  replace k0 := (hb.cell (p := ⟨P9, 0, none⟩) kz).trans k0
                  replace k1 := (hb.cell (p := ⟨P9, 1, none⟩) kz).trans k1
                  replace k2 := (hb.cell (p := ⟨P9, 2, none⟩) kz).trans k2
                  replace k3 := (hb.cell (p := ⟨P9, 3, none⟩) kz).trans k3
                  replace k4 := (hb.cell (p := ⟨P9, 4, none⟩) kz).trans k4
                  replace k5 := (hb.cell (p := ⟨P9, 5, none⟩) kz).trans k5
                  replace k6 := (hb.cell (p := ⟨P9, 6, none⟩) kz).trans k6
                  replace k7 := (hb.cell (p := ⟨P9, 7, none⟩) kz).trans k7
                  replace hbl := Nat.lt_of_lt_of_le hbl hb.size
                  replace kz := Nat.lt_of_lt_of_le kz hb.size
                  replace HB9 := Lib.hid (below_via HB9.out hb HB9.out.size ⟨rfl, rfl, rfl, rfl⟩)
                  clear hb
                  refine hK.out _ _ ⟨e1, e2, e3, e8, k0, k1, k2, k3, k4, k5, k6, k7⟩ (fun hHeld => ?_)
                  clear hK K
                  try simp only [Act.put, List.setIfInBounds_toArray, List.set_cons_zero, List.set_cons_succ]
                  refine wpAnyH_take (i := 21) (oi := { dst := some 252, op := Go.Op.field 28 (Go.Operand.tmp 251) 1, type := 26, pos := "law.go:111", after := #[{ on := 20, ground := Go.Ground.data }, { on := 13, ground := Go.Ground.guard }], guard := some (13, false) }) (v := ?_) rfl (by kernel_rfl) (by kernel_rfl) (by kernel_rfl) (fun _ _ _ h => h) (Or.inl ⟨rfl, ?_⟩) (by assumption) ?_
                  rotate_left
                  · intro wz hSw; (try dsimp only at hSw); go_simp; try (with_reducible rfl)
                  try simp only [Act.put, List.setIfInBounds_toArray, List.set_cons_zero, List.set_cons_succ]
                  refine wpAnyH_take (i := 22) (oi := { dst := some 253, op := Go.Op.binOp Go.BinOp.eql 26 (Go.Operand.tmp 249) (Go.Operand.tmp 252) 26, type := 4, pos := "law.go:111", after := #[{ on := 18, ground := Go.Ground.data }, { on := 21, ground := Go.Ground.data }, { on := 13, ground := Go.Ground.guard }], guard := some (13, false) }) (v := ?_) rfl (by kernel_rfl) (by kernel_rfl) (by kernel_rfl) (fun _ _ _ h => h) (Or.inl ⟨rfl, ?_⟩) (by assumption) ?_
                  rotate_left
                  · intro wz hSw; (try dsimp only at hSw); go_simp; try (with_reducible rfl)
                  try simp only [Act.put, List.setIfInBounds_toArray, List.set_cons_zero, List.set_cons_succ]
                  refine wpAnyH_take (i := 23) (oi := { dst := some 254, op := Go.Op.move (Go.Operand.tmp 253), type := 4, pos := "law.go:111", after := #[{ on := 22, ground := Go.Ground.data }, { on := 20, ground := Go.Ground.chain }, { on := 13, ground := Go.Ground.guard }], guard := some (13, false) }) (v := ?_) rfl (by kernel_rfl) (by kernel_rfl) (by kernel_rfl) (fun _ _ _ h => h) (Or.inl ⟨rfl, ?_⟩) (by assumption) ?_
                  rotate_left
                  · intro wz hSw; (try dsimp only at hSw); go_simp; try (with_reducible rfl)
                  try simp only [Act.put, List.setIfInBounds_toArray, List.set_cons_zero, List.set_cons_succ]
                  refine wpAnyH_take (i := 24) (oi := { dst := some 255, op := Go.Op.move (Go.Operand.tmp 5), type := 22, pos := "law.go:111", after := #[{ on := 23, ground := Go.Ground.guard }], guard := some (23, true) }) (v := undef) rfl (by kernel_rfl) (by kernel_rfl) (by kernel_rfl) (fun _ _ _ h => h) (Or.inr ⟨rfl, rfl⟩) (by assumption) ?_
                  try simp only [Act.put, List.setIfInBounds_toArray, List.set_cons_zero, List.set_cons_succ]
                  refine wpAnyH_take (i := 25) (oi := { dst := some 256, op := Go.Op.move (Go.Operand.tmp 18), type := 3, pos := "law.go:111", after := #[{ on := 23, ground := Go.Ground.guard }], guard := some (23, true) }) (v := undef) rfl (by kernel_rfl) (by kernel_rfl) (by kernel_rfl) (fun _ _ _ h => h) (Or.inr ⟨rfl, rfl⟩) (by assumption) ?_
                  try simp only [Act.put, List.setIfInBounds_toArray, List.set_cons_zero, List.set_cons_succ]
                  refine wpAnyH_take (i := 26) (oi := { dst := some 257, op := Go.Op.indexAddr 22 (Go.Operand.tmp 255) (Go.Operand.tmp 256), type := 0, pos := "law.go:111", after := #[{ on := 24, ground := Go.Ground.data }, { on := 25, ground := Go.Ground.data }, { on := 23, ground := Go.Ground.guard }], guard := some (23, true) }) (v := undef) rfl (by kernel_rfl) (by kernel_rfl) (by kernel_rfl) (fun _ _ _ h => h) (Or.inr ⟨rfl, rfl⟩) (by assumption) ?_
                  try simp only [Act.put, List.setIfInBounds_toArray, List.set_cons_zero, List.set_cons_succ]
                  refine wpAnyH_take (i := 27) (oi := { dst := some 258, op := Go.Op.fieldAddr 28 (Go.Operand.tmp 257) 5, type := 0, pos := "law.go:111", after := #[{ on := 26, ground := Go.Ground.data }, { on := 23, ground := Go.Ground.guard }], guard := some (23, true) }) (v := undef) rfl (by kernel_rfl) (by kernel_rfl) (by kernel_rfl) (fun _ _ _ h => h) (Or.inr ⟨rfl, rfl⟩) (by assumption) ?_
                  try simp only [Act.put, List.setIfInBounds_toArray, List.set_cons_zero, List.set_cons_succ]
                  refine wpAnyH_take (i := 28) (oi := { dst := some 259, op := Go.Op.load 4 (Go.Operand.tmp 258), type := 4, pos := "law.go:111", after := #[{ on := 27, ground := Go.Ground.data }, { on := 23, ground := Go.Ground.guard }], guard := some (23, true) }) (v := undef) rfl (by kernel_rfl) (by kernel_rfl) (by kernel_rfl) (fun _ _ _ h => h) (Or.inr ⟨rfl, rfl⟩) (by assumption) ?_
                  try simp only [Act.put, List.setIfInBounds_toArray, List.set_cons_zero, List.set_cons_succ]
                  refine wpAnyH_take (i := 29) (oi := { dst := some 260, op := Go.Op.pick (Go.Operand.tmp 254) (Go.Operand.tmp 259) (Go.Operand.const (Go.Value.bool false)), type := 4, pos := "law.go:111", after := #[{ on := 23, ground := Go.Ground.data }, { on := 28, ground := Go.Ground.data }, { on := 13, ground := Go.Ground.guard }], guard := some (13, false) }) (v := ?_) rfl (by kernel_rfl) (by kernel_rfl) (by kernel_rfl) (fun _ _ _ h => h) (Or.inl ⟨rfl, ?_⟩) (by assumption) ?_
                  rotate_left
                  · intro wz hSw; (try dsimp only at hSw); go_simp; try (with_reducible rfl)
                  try simp only [Act.put, List.setIfInBounds_toArray, List.set_cons_zero, List.set_cons_succ]
                  refine wpAnyH_take (i := 30) (oi := { dst := some 261, op := Go.Op.move (Go.Operand.tmp 260), type := 4, pos := "law.go:111", after := #[{ on := 29, ground := Go.Ground.data }, { on := 23, ground := Go.Ground.chain }, { on := 13, ground := Go.Ground.guard }], guard := some (13, false) }) (v := ?_) rfl (by kernel_rfl) (by kernel_rfl) (by kernel_rfl) (fun _ _ _ h => h) (Or.inl ⟨rfl, ?_⟩) (by assumption) ?_
                  rotate_left
                  · intro wz hSw; (try dsimp only at hSw); go_simp; try (with_reducible rfl)
                  try simp only [Act.put, List.setIfInBounds_toArray, List.set_cons_zero, List.set_cons_succ]
                  refine wpAnyH_take (i := 31) (oi := { dst := some 262, op := Go.Op.fieldAddr 46 (Go.Operand.tmp 19) 5, type := 0, pos := "law.go:111", after := #[{ on := 30, ground := Go.Ground.guard }], guard := some (30, true) }) (v := undef) rfl (by kernel_rfl) (by kernel_rfl) (by kernel_rfl) (fun _ _ _ h => h) (Or.inr ⟨rfl, rfl⟩) (by assumption) ?_
                  try simp only [Act.put, List.setIfInBounds_toArray, List.set_cons_zero, List.set_cons_succ]
                  refine wpAnyH_take (i := 32) (oi := { dst := some 263, op := Go.Op.load 4 (Go.Operand.tmp 262), type := 4, pos := "law.go:111", after := #[{ on := 31, ground := Go.Ground.data }, { on := 30, ground := Go.Ground.guard }], guard := some (30, true) }) (v := undef) rfl (by kernel_rfl) (by kernel_rfl) (by kernel_rfl) (fun _ _ _ h => h) (Or.inr ⟨rfl, rfl⟩) (by assumption) ?_
                  try simp only [Act.put, List.setIfInBounds_toArray, List.set_cons_zero, List.set_cons_succ]
                  refine wpAnyH_take (i := 33) (oi := { dst := some 264, op := Go.Op.unOp Go.UnOp.not 4 (Go.Operand.tmp 263), type := 4, pos := "law.go:111", after := #[{ on := 32, ground := Go.Ground.data }, { on := 30, ground := Go.Ground.guard }], guard := some (30, true) }) (v := undef) rfl (by kernel_rfl) (by kernel_rfl) (by kernel_rfl) (fun _ _ _ h => h) (Or.inr ⟨rfl, rfl⟩) (by assumption) ?_
                  try simp only [Act.put, List.setIfInBounds_toArray, List.set_cons_zero, List.set_cons_succ]
                  refine wpAnyH_take (i := 34) (oi := { dst := some 265, op := Go.Op.pick (Go.Operand.tmp 261) (Go.Operand.tmp 264) (Go.Operand.const (Go.Value.bool false)), type := 4, pos := "law.go:111", after := #[{ on := 30, ground := Go.Ground.data }, { on := 33, ground := Go.Ground.data }, { on := 13, ground := Go.Ground.guard }], guard := some (13, false) }) (v := ?_) rfl (by kernel_rfl) (by kernel_rfl) (by kernel_rfl) (fun _ _ _ h => h) (Or.inl ⟨rfl, ?_⟩) (by assumption) ?_
                  rotate_left
                  · intro wz hSw; (try dsimp only at hSw); go_simp; try (with_reducible rfl)
                  try simp only [Act.put, List.setIfInBounds_toArray, List.set_cons_zero, List.set_cons_succ]
                  refine wpAnyH_take (i := 35) (oi := { dst := some 266, op := Go.Op.pick (Go.Operand.tmp 244) (Go.Operand.const (Go.Value.bool true)) (Go.Operand.tmp 265), type := 4, pos := "law.go:111", after := #[{ on := 13, ground := Go.Ground.data }, { on := 34, ground := Go.Ground.data }], guard := none }) (v := ?_) rfl (by kernel_rfl) (by kernel_rfl) (by kernel_rfl) (fun _ _ _ h => h) (Or.inl ⟨rfl, ?_⟩) (by assumption) ?_
                  rotate_left
                  · intro wz hSw; (try dsimp only at hSw); go_simp; try (with_reducible rfl)
                  try simp only [Act.put, List.setIfInBounds_toArray, List.set_cons_zero, List.set_cons_succ]
                  refine wpAnyH_done (by kernel_rfl) ?_ _
                  clear hHeld hbl kz e1 e2 e3 e8 k0 k1 k2 k3 k4 k5 k6 k7
                  go_wp2
                  go_roundw
                  case rel => exact ⟨k + 1, by go_num, by omega, HB9⟩
                  case measure => simp [intOf]; omega
              · replace hvv := hvv rfl
                rcases held with _ | _
                · clear hvv
                  as_aux_lemma =>
                    refine wp_region_held_drew (S := fun w' => w'.cell? ⟨b1, o1 + k * 9 + 1, none⟩ = some (.string d) ∧ w'.cell? ⟨b1, o1 + k * 9 + 2, none⟩ = some (.int .i64 a) ∧ w'.cell? ⟨b1, o1 + k * 9 + 3, none⟩ = some (.int .i64 s) ∧ w'.cell? ⟨b1, o1 + k * 9 + 8, none⟩ = some (.bool false) ∧ w'.cell? ⟨P9, 0, none⟩ = some (.int .i64 key2) ∧ w'.cell? ⟨P9, 1, none⟩ = some (.string d2) ∧ w'.cell? ⟨P9, 2, none⟩ = some (.int .i64 a2) ∧ w'.cell? ⟨P9, 3, none⟩ = some (.int .i64 s2) ∧ w'.cell? ⟨P9, 4, none⟩ = some (.bool dead2) ∧ w'.cell? ⟨P9, 5, none⟩ = some (.complex .f64 fx fy) ∧ w'.cell? ⟨P9, 6, none⟩ = some (.string text2) ∧ w'.cell? ⟨P9, 7, none⟩ = some (.bool held2)) (by kernel_rfl) ⟨e1, e2, e3, e8, k0, k1, k2, k3, k4, k5, k6, k7⟩ (fun hHeld => ?_)
                    refine wpAnyH_take (i := 0) (oi := { dst := some 231, op := Go.Op.move (Go.Operand.tmp 20), type := 4, pos := "law.go:111", after := #[], guard := none }) (v := ?_) rfl (by kernel_rfl) (by kernel_rfl) (by kernel_rfl) (fun _ _ _ h => h) (Or.inl ⟨rfl, ?_⟩) (by assumption) ?_
                    rotate_left
                    · intro wz hSw; (try dsimp only at hSw); go_simp; try (with_reducible rfl)
                    try simp only [Act.put, List.setIfInBounds_toArray, List.set_cons_zero, List.set_cons_succ]
                    refine wpAnyH_take (i := 1) (oi := { dst := some 232, op := Go.Op.unOp Go.UnOp.not 4 (Go.Operand.tmp 231), type := 4, pos := "law.go:111", after := #[{ on := 0, ground := Go.Ground.data }], guard := none }) (v := ?_) rfl (by kernel_rfl) (by kernel_rfl) (by kernel_rfl) (fun _ _ _ h => h) (Or.inl ⟨rfl, ?_⟩) (by assumption) ?_
                    rotate_left
                    · intro wz hSw; (try dsimp only at hSw); go_simp; try (with_reducible rfl)
                    try simp only [Act.put, List.setIfInBounds_toArray, List.set_cons_zero, List.set_cons_succ]
                    refine wpAnyH_take (i := 2) (oi := { dst := some 233, op := Go.Op.move (Go.Operand.tmp 232), type := 4, pos := "law.go:111", after := #[{ on := 1, ground := Go.Ground.data }], guard := none }) (v := ?_) rfl (by kernel_rfl) (by kernel_rfl) (by kernel_rfl) (fun _ _ _ h => h) (Or.inl ⟨rfl, ?_⟩) (by assumption) ?_
                    rotate_left
                    · intro wz hSw; (try dsimp only at hSw); go_simp; try (with_reducible rfl)
                    try simp only [Act.put, List.setIfInBounds_toArray, List.set_cons_zero, List.set_cons_succ]
                    refine wpAnyH_take (i := 3) (oi := { dst := some 234, op := Go.Op.move (Go.Operand.tmp 5), type := 22, pos := "law.go:111", after := #[{ on := 2, ground := Go.Ground.guard }], guard := some (2, false) }) (v := ?_) rfl (by kernel_rfl) (by kernel_rfl) (by kernel_rfl) (fun _ _ _ h => h) (Or.inl ⟨rfl, ?_⟩) (by assumption) ?_
                    rotate_left
                    · intro wz hSw; (try dsimp only at hSw); go_simp; try (with_reducible rfl)
                    try simp only [Act.put, List.setIfInBounds_toArray, List.set_cons_zero, List.set_cons_succ]
                    refine wpAnyH_take (i := 4) (oi := { dst := some 235, op := Go.Op.move (Go.Operand.tmp 18), type := 3, pos := "law.go:111", after := #[{ on := 2, ground := Go.Ground.guard }], guard := some (2, false) }) (v := ?_) rfl (by kernel_rfl) (by kernel_rfl) (by kernel_rfl) (fun _ _ _ h => h) (Or.inl ⟨rfl, ?_⟩) (by assumption) ?_
                    rotate_left
                    · intro wz hSw; (try dsimp only at hSw); go_simp; try (with_reducible rfl)
                    try simp only [Act.put, List.setIfInBounds_toArray, List.set_cons_zero, List.set_cons_succ]
                    refine wpAnyH_take (i := 5) (oi := { dst := some 236, op := Go.Op.indexAddr 22 (Go.Operand.tmp 234) (Go.Operand.tmp 235), type := 0, pos := "law.go:111", after := #[{ on := 3, ground := Go.Ground.data }, { on := 4, ground := Go.Ground.data }, { on := 2, ground := Go.Ground.guard }], guard := some (2, false) }) (v := ?_) rfl (by kernel_rfl) (by kernel_rfl) (by kernel_rfl) (fun _ _ _ h => h) (Or.inl ⟨rfl, ?_⟩) (by assumption) ?_
                    rotate_left
                    · intro wz hSw; (try dsimp only at hSw); go_simp; try (with_reducible rfl)
                    try simp only [Act.put, List.setIfInBounds_toArray, List.set_cons_zero, List.set_cons_succ]
                    refine wpAnyH_take (i := 6) (oi := { dst := some 237, op := Go.Op.fieldAddr 28 (Go.Operand.tmp 236) 1, type := 0, pos := "law.go:111", after := #[{ on := 5, ground := Go.Ground.data }, { on := 2, ground := Go.Ground.guard }], guard := some (2, false) }) (v := ?_) rfl (by kernel_rfl) (by kernel_rfl) (by kernel_rfl) (fun _ _ _ h => h) (Or.inl ⟨rfl, ?_⟩) (by assumption) ?_
                    rotate_left
                    · intro wz hSw; (try dsimp only at hSw); go_simp; try (with_reducible rfl)
                    try simp only [Act.put, List.setIfInBounds_toArray, List.set_cons_zero, List.set_cons_succ]
                    refine wpAnyH_take (i := 7) (oi := { dst := some 238, op := Go.Op.load 26 (Go.Operand.tmp 237), type := 26, pos := "law.go:111", after := #[{ on := 6, ground := Go.Ground.data }, { on := 2, ground := Go.Ground.guard }], guard := some (2, false) }) (v := ?_) rfl (by kernel_rfl) (by kernel_rfl) (by kernel_rfl) (fun _ _ _ h => h) (Or.inl ⟨rfl, ?_⟩) (by assumption) ?_
                    rotate_left
                    · intro wz hSw; (try dsimp only at hSw); go_simp; try (with_reducible rfl)
                    try simp only [Act.put, List.setIfInBounds_toArray, List.set_cons_zero, List.set_cons_succ]
                    refine wpAnyH_take (i := 8) (oi := { dst := some 239, op := Go.Op.load 46 (Go.Operand.tmp 19), type := 46, pos := "law.go:111", after := #[{ on := 2, ground := Go.Ground.guard }], guard := some (2, false) }) (v := ?_) rfl (by kernel_rfl) (by kernel_rfl) (by kernel_rfl) (fun _ _ _ h => h) (Or.inl ⟨rfl, ?_⟩) (by assumption) ?_
                    rotate_left
                    · intro wz hSw; (try dsimp only at hSw); go_simp; try (with_reducible rfl)
                    try simp only [Act.put, List.setIfInBounds_toArray, List.set_cons_zero, List.set_cons_succ]
                    refine wpAnyH_ready (rs := [9]) (by kernel_rfl) (by simp) ?_
                    refine AllReadyH.cons (o := { dst := some 240, op := Go.Op.call { callee := Go.Callee.value (Go.Operand.func 22), args := #[Go.Operand.tmp 239], argTypes := #[46] }, type := 28, pos := "law.go:111", after := #[{ on := 8, ground := Go.Ground.data }, { on := 2, ground := Go.Ground.chain }, { on := 2, ground := Go.Ground.guard }], guard := some (2, false) }) rfl (fun K hK => ?_) AllReadyH.nil
                    go_simp
                    go_at_call 22
                    refine (HF.out _).mono ?_
                    rintro e v1 ⟨rfl, hb⟩
                    replace e1 := (hb.cell (p := ⟨b1, o1 + k * 9 + 1, none⟩) hbl).trans e1
                    replace e2 := (hb.cell (p := ⟨b1, o1 + k * 9 + 2, none⟩) hbl).trans e2
                    replace e3 := (hb.cell (p := ⟨b1, o1 + k * 9 + 3, none⟩) hbl).trans e3
                    replace e8 := (hb.cell (p := ⟨b1, o1 + k * 9 + 8, none⟩) hbl).trans e8
                    replace k0 := (hb.cell (p := ⟨P9, 0, none⟩) kz).trans k0
                    replace k1 := (hb.cell (p := ⟨P9, 1, none⟩) kz).trans k1
                    replace k2 := (hb.cell (p := ⟨P9, 2, none⟩) kz).trans k2
                    replace k3 := (hb.cell (p := ⟨P9, 3, none⟩) kz).trans k3
                    replace k4 := (hb.cell (p := ⟨P9, 4, none⟩) kz).trans k4
                    replace k5 := (hb.cell (p := ⟨P9, 5, none⟩) kz).trans k5
                    replace k6 := (hb.cell (p := ⟨P9, 6, none⟩) kz).trans k6
                    replace k7 := (hb.cell (p := ⟨P9, 7, none⟩) kz).trans k7
                    replace hbl := Nat.lt_of_lt_of_le hbl hb.size
                    replace kz := Nat.lt_of_lt_of_le kz hb.size
                    replace HB9 := Lib.hid (below_via HB9.out hb HB9.out.size ⟨rfl, rfl, rfl, rfl⟩)
                    clear hb
                    refine hK.out _ _ ⟨e1, e2, e3, e8, k0, k1, k2, k3, k4, k5, k6, k7⟩ (fun hHeld => ?_)
                    clear hK K
                    try simp only [Act.put, List.setIfInBounds_toArray, List.set_cons_zero, List.set_cons_succ]
                    refine wpAnyH_take (i := 10) (oi := { dst := some 241, op := Go.Op.field 28 (Go.Operand.tmp 240) 1, type := 26, pos := "law.go:111", after := #[{ on := 9, ground := Go.Ground.data }, { on := 2, ground := Go.Ground.guard }], guard := some (2, false) }) (v := ?_) rfl (by kernel_rfl) (by kernel_rfl) (by kernel_rfl) (fun _ _ _ h => h) (Or.inl ⟨rfl, ?_⟩) (by assumption) ?_
                    rotate_left
                    · intro wz hSw; (try dsimp only at hSw); go_simp; try (with_reducible rfl)
                    try simp only [Act.put, List.setIfInBounds_toArray, List.set_cons_zero, List.set_cons_succ]
                    refine wpAnyH_ready (rs := [11]) (by kernel_rfl) (by simp) ?_
                    refine AllReadyH.cons (o := { dst := some 242, op := Go.Op.call { callee := Go.Callee.value (Go.Operand.func 32), args := #[Go.Operand.tmp 238, Go.Operand.tmp 241], argTypes := #[26, 26] }, type := 4, pos := "law.go:111", after := #[{ on := 7, ground := Go.Ground.data }, { on := 10, ground := Go.Ground.data }, { on := 9, ground := Go.Ground.chain }, { on := 2, ground := Go.Ground.guard }], guard := some (2, false) }) rfl (fun K hK => ?_) AllReadyH.nil
                    go_simp
                    go_at_call 32
                    refine (HNW.out _).mono ?_
                    rintro e v2 ⟨rfl, hb⟩
                    replace e1 := (hb.cell (p := ⟨b1, o1 + k * 9 + 1, none⟩) hbl).trans e1
                    replace e2 := (hb.cell (p := ⟨b1, o1 + k * 9 + 2, none⟩) hbl).trans e2
                    replace e3 := (hb.cell (p := ⟨b1, o1 + k * 9 + 3, none⟩) hbl).trans e3
                    replace e8 := (hb.cell (p := ⟨b1, o1 + k * 9 + 8, none⟩) hbl).trans e8
                    replace k0 := (hb.cell (p := ⟨P9, 0, none⟩) kz).trans k0
                    replace k1 := (hb.cell (p := ⟨P9, 1, none⟩) kz).trans k1
                    replace k2 := (hb.cell (p := ⟨P9, 2, none⟩) kz).trans k2
                    replace k3 := (hb.cell (p := ⟨P9, 3, none⟩) kz).trans k3
                    replace k4 := (hb.cell (p := ⟨P9, 4, none⟩) kz).trans k4
                    replace k5 := (hb.cell (p := ⟨P9, 5, none⟩) kz).trans k5
                    replace k6 := (hb.cell (p := ⟨P9, 6, none⟩) kz).trans k6
                    replace k7 := (hb.cell (p := ⟨P9, 7, none⟩) kz).trans k7
                    replace hbl := Nat.lt_of_lt_of_le hbl hb.size
                    replace kz := Nat.lt_of_lt_of_le kz hb.size
                    replace HB9 := Lib.hid (below_via HB9.out hb HB9.out.size ⟨rfl, rfl, rfl, rfl⟩)
                    clear hb
                    refine hK.out _ _ ⟨e1, e2, e3, e8, k0, k1, k2, k3, k4, k5, k6, k7⟩ (fun hHeld => ?_)
                    clear hK K
                    try simp only [Act.put, List.setIfInBounds_toArray, List.set_cons_zero, List.set_cons_succ]
                    refine wpAnyH_take (i := 12) (oi := { dst := some 243, op := Go.Op.pick (Go.Operand.tmp 233) (Go.Operand.const (Go.Value.bool true)) (Go.Operand.tmp 242), type := 4, pos := "law.go:111", after := #[{ on := 2, ground := Go.Ground.data }, { on := 11, ground := Go.Ground.data }], guard := none }) (v := ?_) rfl (by kernel_rfl) (by kernel_rfl) (by kernel_rfl) (fun _ _ _ h => h) (Or.inl ⟨rfl, ?_⟩) (by assumption) ?_
                    rotate_left
                    · intro wz hSw; (try dsimp only at hSw); go_simp; try (with_reducible rfl)
                    try simp only [Act.put, List.setIfInBounds_toArray, List.set_cons_zero, List.set_cons_succ]
                    refine wpAnyH_take (i := 13) (oi := { dst := some 244, op := Go.Op.move (Go.Operand.tmp 243), type := 4, pos := "law.go:111", after := #[{ on := 12, ground := Go.Ground.data }, { on := 11, ground := Go.Ground.chain }], guard := none }) (v := ?_) rfl (by kernel_rfl) (by kernel_rfl) (by kernel_rfl) (fun _ _ _ h => h) (Or.inl ⟨rfl, ?_⟩) (by assumption) ?_
                    rotate_left
                    · intro wz hSw; (try dsimp only at hSw); go_simp; try (with_reducible rfl)
                    try simp only [Act.put, List.setIfInBounds_toArray, List.set_cons_zero, List.set_cons_succ]
                    refine wpAnyH_take (i := 14) (oi := { dst := some 245, op := Go.Op.move (Go.Operand.tmp 5), type := 22, pos := "law.go:111", after := #[{ on := 13, ground := Go.Ground.guard }], guard := some (13, false) }) (v := ?_) rfl (by kernel_rfl) (by kernel_rfl) (by kernel_rfl) (fun _ _ _ h => h) (Or.inl ⟨rfl, ?_⟩) (by assumption) ?_
                    rotate_left
                    · intro wz hSw; (try dsimp only at hSw); go_simp; try (with_reducible rfl)
                    try simp only [Act.put, List.setIfInBounds_toArray, List.set_cons_zero, List.set_cons_succ]
                    refine wpAnyH_take (i := 15) (oi := { dst := some 246, op := Go.Op.move (Go.Operand.tmp 18), type := 3, pos := "law.go:111", after := #[{ on := 13, ground := Go.Ground.guard }], guard := some (13, false) }) (v := ?_) rfl (by kernel_rfl) (by kernel_rfl) (by kernel_rfl) (fun _ _ _ h => h) (Or.inl ⟨rfl, ?_⟩) (by assumption) ?_
                    rotate_left
                    · intro wz hSw; (try dsimp only at hSw); go_simp; try (with_reducible rfl)
                    try simp only [Act.put, List.setIfInBounds_toArray, List.set_cons_zero, List.set_cons_succ]
                    refine wpAnyH_take (i := 16) (oi := { dst := some 247, op := Go.Op.indexAddr 22 (Go.Operand.tmp 245) (Go.Operand.tmp 246), type := 0, pos := "law.go:111", after := #[{ on := 14, ground := Go.Ground.data }, { on := 15, ground := Go.Ground.data }, { on := 13, ground := Go.Ground.guard }], guard := some (13, false) }) (v := ?_) rfl (by kernel_rfl) (by kernel_rfl) (by kernel_rfl) (fun _ _ _ h => h) (Or.inl ⟨rfl, ?_⟩) (by assumption) ?_
                    rotate_left
                    · intro wz hSw; (try dsimp only at hSw); go_simp; try (with_reducible rfl)
                    try simp only [Act.put, List.setIfInBounds_toArray, List.set_cons_zero, List.set_cons_succ]
                    refine wpAnyH_take (i := 17) (oi := { dst := some 248, op := Go.Op.fieldAddr 28 (Go.Operand.tmp 247) 1, type := 0, pos := "law.go:111", after := #[{ on := 16, ground := Go.Ground.data }, { on := 13, ground := Go.Ground.guard }], guard := some (13, false) }) (v := ?_) rfl (by kernel_rfl) (by kernel_rfl) (by kernel_rfl) (fun _ _ _ h => h) (Or.inl ⟨rfl, ?_⟩) (by assumption) ?_
                    rotate_left
                    · intro wz hSw; (try dsimp only at hSw); go_simp; try (with_reducible rfl)
                    try simp only [Act.put, List.setIfInBounds_toArray, List.set_cons_zero, List.set_cons_succ]
                    refine wpAnyH_take (i := 18) (oi := { dst := some 249, op := Go.Op.load 26 (Go.Operand.tmp 248), type := 26, pos := "law.go:111", after := #[{ on := 17, ground := Go.Ground.data }, { on := 13, ground := Go.Ground.guard }], guard := some (13, false) }) (v := ?_) rfl (by kernel_rfl) (by kernel_rfl) (by kernel_rfl) (fun _ _ _ h => h) (Or.inl ⟨rfl, ?_⟩) (by assumption) ?_
                    rotate_left
                    · intro wz hSw; (try dsimp only at hSw); go_simp; try (with_reducible rfl)
                    try simp only [Act.put, List.setIfInBounds_toArray, List.set_cons_zero, List.set_cons_succ]
                    refine wpAnyH_take (i := 19) (oi := { dst := some 250, op := Go.Op.load 46 (Go.Operand.tmp 19), type := 46, pos := "law.go:111", after := #[{ on := 13, ground := Go.Ground.guard }], guard := some (13, false) }) (v := ?_) rfl (by kernel_rfl) (by kernel_rfl) (by kernel_rfl) (fun _ _ _ h => h) (Or.inl ⟨rfl, ?_⟩) (by assumption) ?_
                    rotate_left
                    · intro wz hSw; (try dsimp only at hSw); go_simp; try (with_reducible rfl)
                    try simp only [Act.put, List.setIfInBounds_toArray, List.set_cons_zero, List.set_cons_succ]
                    refine wpAnyH_ready (rs := [20]) (by kernel_rfl) (by simp) ?_
                    refine AllReadyH.cons (o := { dst := some 251, op := Go.Op.call { callee := Go.Callee.value (Go.Operand.func 22), args := #[Go.Operand.tmp 250], argTypes := #[46] }, type := 28, pos := "law.go:111", after := #[{ on := 19, ground := Go.Ground.data }, { on := 13, ground := Go.Ground.chain }, { on := 13, ground := Go.Ground.guard }], guard := some (13, false) }) rfl (fun K hK => ?_) AllReadyH.nil
                    go_simp
                    go_at_call 22
                    refine (HF.out _).mono ?_
                    rintro e v3 ⟨rfl, hb⟩
                    replace e1 := (hb.cell (p := ⟨b1, o1 + k * 9 + 1, none⟩) hbl).trans e1
                    replace e2 := (hb.cell (p := ⟨b1, o1 + k * 9 + 2, none⟩) hbl).trans e2
                    replace e3 := (hb.cell (p := ⟨b1, o1 + k * 9 + 3, none⟩) hbl).trans e3
                    replace e8 := (hb.cell (p := ⟨b1, o1 + k * 9 + 8, none⟩) hbl).trans e8
                    replace k0 := (hb.cell (p := ⟨P9, 0, none⟩) kz).trans k0
                    replace k1 := (hb.cell (p := ⟨P9, 1, none⟩) kz).trans k1
                    replace k2 := (hb.cell (p := ⟨P9, 2, none⟩) kz).trans k2
                    replace k3 := (hb.cell (p := ⟨P9, 3, none⟩) kz).trans k3
                    replace k4 := (hb.cell (p := ⟨P9, 4, none⟩) kz).trans k4
                    replace k5 := (hb.cell (p := ⟨P9, 5, none⟩) kz).trans k5
                    replace k6 := (hb.cell (p := ⟨P9, 6, none⟩) kz).trans k6
                    replace k7 := (hb.cell (p := ⟨P9, 7, none⟩) kz).trans k7
                    replace hbl := Nat.lt_of_lt_of_le hbl hb.size
                    replace kz := Nat.lt_of_lt_of_le kz hb.size
                    replace HB9 := Lib.hid (below_via HB9.out hb HB9.out.size ⟨rfl, rfl, rfl, rfl⟩)
                    clear hb
                    refine hK.out _ _ ⟨e1, e2, e3, e8, k0, k1, k2, k3, k4, k5, k6, k7⟩ (fun hHeld => ?_)
                    clear hK K
                    try simp only [Act.put, List.setIfInBounds_toArray, List.set_cons_zero, List.set_cons_succ]
                    refine wpAnyH_take (i := 21) (oi := { dst := some 252, op := Go.Op.field 28 (Go.Operand.tmp 251) 1, type := 26, pos := "law.go:111", after := #[{ on := 20, ground := Go.Ground.data }, { on := 13, ground := Go.Ground.guard }], guard := some (13, false) }) (v := ?_) rfl (by kernel_rfl) (by kernel_rfl) (by kernel_rfl) (fun _ _ _ h => h) (Or.inl ⟨rfl, ?_⟩) (by assumption) ?_
                    rotate_left
                    · intro wz hSw; (try dsimp only at hSw); go_simp; try (with_reducible rfl)
                    try simp only [Act.put, List.setIfInBounds_toArray, List.set_cons_zero, List.set_cons_succ]
                    refine wpAnyH_take (i := 22) (oi := { dst := some 253, op := Go.Op.binOp Go.BinOp.eql 26 (Go.Operand.tmp 249) (Go.Operand.tmp 252) 26, type := 4, pos := "law.go:111", after := #[{ on := 18, ground := Go.Ground.data }, { on := 21, ground := Go.Ground.data }, { on := 13, ground := Go.Ground.guard }], guard := some (13, false) }) (v := ?_) rfl (by kernel_rfl) (by kernel_rfl) (by kernel_rfl) (fun _ _ _ h => h) (Or.inl ⟨rfl, ?_⟩) (by assumption) ?_
                    rotate_left
                    · intro wz hSw; (try dsimp only at hSw); go_simp; try (with_reducible rfl)
                    try simp only [Act.put, List.setIfInBounds_toArray, List.set_cons_zero, List.set_cons_succ]
                    refine wpAnyH_take (i := 23) (oi := { dst := some 254, op := Go.Op.move (Go.Operand.tmp 253), type := 4, pos := "law.go:111", after := #[{ on := 22, ground := Go.Ground.data }, { on := 20, ground := Go.Ground.chain }, { on := 13, ground := Go.Ground.guard }], guard := some (13, false) }) (v := ?_) rfl (by kernel_rfl) (by kernel_rfl) (by kernel_rfl) (fun _ _ _ h => h) (Or.inl ⟨rfl, ?_⟩) (by assumption) ?_
                    rotate_left
                    · intro wz hSw; (try dsimp only at hSw); go_simp; try (with_reducible rfl)
                    try simp only [Act.put, List.setIfInBounds_toArray, List.set_cons_zero, List.set_cons_succ]
                    refine wpAnyH_take (i := 24) (oi := { dst := some 255, op := Go.Op.move (Go.Operand.tmp 5), type := 22, pos := "law.go:111", after := #[{ on := 23, ground := Go.Ground.guard }], guard := some (23, true) }) (v := ?_) rfl (by kernel_rfl) (by kernel_rfl) (by kernel_rfl) (fun _ _ _ h => h) (Or.inl ⟨rfl, ?_⟩) (by assumption) ?_
                    rotate_left
                    · intro wz hSw; (try dsimp only at hSw); go_simp; try (with_reducible rfl)
                    try simp only [Act.put, List.setIfInBounds_toArray, List.set_cons_zero, List.set_cons_succ]
                    refine wpAnyH_take (i := 25) (oi := { dst := some 256, op := Go.Op.move (Go.Operand.tmp 18), type := 3, pos := "law.go:111", after := #[{ on := 23, ground := Go.Ground.guard }], guard := some (23, true) }) (v := ?_) rfl (by kernel_rfl) (by kernel_rfl) (by kernel_rfl) (fun _ _ _ h => h) (Or.inl ⟨rfl, ?_⟩) (by assumption) ?_
                    rotate_left
                    · intro wz hSw; (try dsimp only at hSw); go_simp; try (with_reducible rfl)
                    try simp only [Act.put, List.setIfInBounds_toArray, List.set_cons_zero, List.set_cons_succ]
                    refine wpAnyH_take (i := 26) (oi := { dst := some 257, op := Go.Op.indexAddr 22 (Go.Operand.tmp 255) (Go.Operand.tmp 256), type := 0, pos := "law.go:111", after := #[{ on := 24, ground := Go.Ground.data }, { on := 25, ground := Go.Ground.data }, { on := 23, ground := Go.Ground.guard }], guard := some (23, true) }) (v := ?_) rfl (by kernel_rfl) (by kernel_rfl) (by kernel_rfl) (fun _ _ _ h => h) (Or.inl ⟨rfl, ?_⟩) (by assumption) ?_
                    rotate_left
                    · intro wz hSw; (try dsimp only at hSw); go_simp; try (with_reducible rfl)
                    try simp only [Act.put, List.setIfInBounds_toArray, List.set_cons_zero, List.set_cons_succ]
                    refine wpAnyH_take (i := 27) (oi := { dst := some 258, op := Go.Op.fieldAddr 28 (Go.Operand.tmp 257) 5, type := 0, pos := "law.go:111", after := #[{ on := 26, ground := Go.Ground.data }, { on := 23, ground := Go.Ground.guard }], guard := some (23, true) }) (v := ?_) rfl (by kernel_rfl) (by kernel_rfl) (by kernel_rfl) (fun _ _ _ h => h) (Or.inl ⟨rfl, ?_⟩) (by assumption) ?_
                    rotate_left
                    · intro wz hSw; (try dsimp only at hSw); go_simp; try (with_reducible rfl)
                    try simp only [Act.put, List.setIfInBounds_toArray, List.set_cons_zero, List.set_cons_succ]
                    refine wpAnyH_take (i := 28) (oi := { dst := some 259, op := Go.Op.load 4 (Go.Operand.tmp 258), type := 4, pos := "law.go:111", after := #[{ on := 27, ground := Go.Ground.data }, { on := 23, ground := Go.Ground.guard }], guard := some (23, true) }) (v := ?_) rfl (by kernel_rfl) (by kernel_rfl) (by kernel_rfl) (fun _ _ _ h => h) (Or.inl ⟨rfl, ?_⟩) (by assumption) ?_
                    rotate_left
                    · intro wz hSw; (try dsimp only at hSw); go_simp; try (with_reducible rfl)
                    try simp only [Act.put, List.setIfInBounds_toArray, List.set_cons_zero, List.set_cons_succ]
                    refine wpAnyH_take (i := 29) (oi := { dst := some 260, op := Go.Op.pick (Go.Operand.tmp 254) (Go.Operand.tmp 259) (Go.Operand.const (Go.Value.bool false)), type := 4, pos := "law.go:111", after := #[{ on := 23, ground := Go.Ground.data }, { on := 28, ground := Go.Ground.data }, { on := 13, ground := Go.Ground.guard }], guard := some (13, false) }) (v := ?_) rfl (by kernel_rfl) (by kernel_rfl) (by kernel_rfl) (fun _ _ _ h => h) (Or.inl ⟨rfl, ?_⟩) (by assumption) ?_
                    rotate_left
                    · intro wz hSw; (try dsimp only at hSw); go_simp; try (with_reducible rfl)
                    try simp only [Act.put, List.setIfInBounds_toArray, List.set_cons_zero, List.set_cons_succ]
                    refine wpAnyH_take (i := 30) (oi := { dst := some 261, op := Go.Op.move (Go.Operand.tmp 260), type := 4, pos := "law.go:111", after := #[{ on := 29, ground := Go.Ground.data }, { on := 23, ground := Go.Ground.chain }, { on := 13, ground := Go.Ground.guard }], guard := some (13, false) }) (v := ?_) rfl (by kernel_rfl) (by kernel_rfl) (by kernel_rfl) (fun _ _ _ h => h) (Or.inl ⟨rfl, ?_⟩) (by assumption) ?_
                    rotate_left
                    · intro wz hSw; (try dsimp only at hSw); go_simp; try (with_reducible rfl)
                    try simp only [Act.put, List.setIfInBounds_toArray, List.set_cons_zero, List.set_cons_succ]
                    refine wpAnyH_take (i := 31) (oi := { dst := some 262, op := Go.Op.fieldAddr 46 (Go.Operand.tmp 19) 5, type := 0, pos := "law.go:111", after := #[{ on := 30, ground := Go.Ground.guard }], guard := some (30, true) }) (v := undef) rfl (by kernel_rfl) (by kernel_rfl) (by kernel_rfl) (fun _ _ _ h => h) (Or.inr ⟨rfl, rfl⟩) (by assumption) ?_
                    try simp only [Act.put, List.setIfInBounds_toArray, List.set_cons_zero, List.set_cons_succ]
                    refine wpAnyH_take (i := 32) (oi := { dst := some 263, op := Go.Op.load 4 (Go.Operand.tmp 262), type := 4, pos := "law.go:111", after := #[{ on := 31, ground := Go.Ground.data }, { on := 30, ground := Go.Ground.guard }], guard := some (30, true) }) (v := undef) rfl (by kernel_rfl) (by kernel_rfl) (by kernel_rfl) (fun _ _ _ h => h) (Or.inr ⟨rfl, rfl⟩) (by assumption) ?_
                    try simp only [Act.put, List.setIfInBounds_toArray, List.set_cons_zero, List.set_cons_succ]
                    refine wpAnyH_take (i := 33) (oi := { dst := some 264, op := Go.Op.unOp Go.UnOp.not 4 (Go.Operand.tmp 263), type := 4, pos := "law.go:111", after := #[{ on := 32, ground := Go.Ground.data }, { on := 30, ground := Go.Ground.guard }], guard := some (30, true) }) (v := undef) rfl (by kernel_rfl) (by kernel_rfl) (by kernel_rfl) (fun _ _ _ h => h) (Or.inr ⟨rfl, rfl⟩) (by assumption) ?_
                    try simp only [Act.put, List.setIfInBounds_toArray, List.set_cons_zero, List.set_cons_succ]
                    refine wpAnyH_take (i := 34) (oi := { dst := some 265, op := Go.Op.pick (Go.Operand.tmp 261) (Go.Operand.tmp 264) (Go.Operand.const (Go.Value.bool false)), type := 4, pos := "law.go:111", after := #[{ on := 30, ground := Go.Ground.data }, { on := 33, ground := Go.Ground.data }, { on := 13, ground := Go.Ground.guard }], guard := some (13, false) }) (v := ?_) rfl (by kernel_rfl) (by kernel_rfl) (by kernel_rfl) (fun _ _ _ h => h) (Or.inl ⟨rfl, ?_⟩) (by assumption) ?_
                    rotate_left
                    · intro wz hSw; (try dsimp only at hSw); go_simp; try (with_reducible rfl)
                    try simp only [Act.put, List.setIfInBounds_toArray, List.set_cons_zero, List.set_cons_succ]
                    refine wpAnyH_take (i := 35) (oi := { dst := some 266, op := Go.Op.pick (Go.Operand.tmp 244) (Go.Operand.const (Go.Value.bool true)) (Go.Operand.tmp 265), type := 4, pos := "law.go:111", after := #[{ on := 13, ground := Go.Ground.data }, { on := 34, ground := Go.Ground.data }], guard := none }) (v := ?_) rfl (by kernel_rfl) (by kernel_rfl) (by kernel_rfl) (fun _ _ _ h => h) (Or.inl ⟨rfl, ?_⟩) (by assumption) ?_
                    rotate_left
                    · intro wz hSw; (try dsimp only at hSw); go_simp; try (with_reducible rfl)
                    try simp only [Act.put, List.setIfInBounds_toArray, List.set_cons_zero, List.set_cons_succ]
                    refine wpAnyH_done (by kernel_rfl) ?_ _
                    clear hHeld hbl kz e1 e2 e3 e8 k0 k1 k2 k3 k4 k5 k6 k7
                    go_wp2
                    go_roundw
                    case rel => exact ⟨k + 1, by go_num, by omega, HB9⟩
                    case measure => simp [intOf]; omega
                · replace hvv := hvv rfl
                  subst hvv
                  as_aux_lemma =>
                    refine wp_region_held_drew (S := fun w' => w'.cell? ⟨b1, o1 + k * 9 + 1, none⟩ = some (.string d) ∧ w'.cell? ⟨b1, o1 + k * 9 + 2, none⟩ = some (.int .i64 a) ∧ w'.cell? ⟨b1, o1 + k * 9 + 3, none⟩ = some (.int .i64 s) ∧ w'.cell? ⟨b1, o1 + k * 9 + 8, none⟩ = some (.bool true) ∧ w'.cell? ⟨P9, 0, none⟩ = some (.int .i64 key2) ∧ w'.cell? ⟨P9, 1, none⟩ = some (.string d2) ∧ w'.cell? ⟨P9, 2, none⟩ = some (.int .i64 a2) ∧ w'.cell? ⟨P9, 3, none⟩ = some (.int .i64 s2) ∧ w'.cell? ⟨P9, 4, none⟩ = some (.bool dead2) ∧ w'.cell? ⟨P9, 5, none⟩ = some (.complex .f64 fx fy) ∧ w'.cell? ⟨P9, 6, none⟩ = some (.string text2) ∧ w'.cell? ⟨P9, 7, none⟩ = some (.bool true)) (by kernel_rfl) ⟨e1, e2, e3, e8, k0, k1, k2, k3, k4, k5, k6, k7⟩ (fun hHeld => ?_)
                    refine wpAnyH_take (i := 0) (oi := { dst := some 231, op := Go.Op.move (Go.Operand.tmp 20), type := 4, pos := "law.go:111", after := #[], guard := none }) (v := ?_) rfl (by kernel_rfl) (by kernel_rfl) (by kernel_rfl) (fun _ _ _ h => h) (Or.inl ⟨rfl, ?_⟩) (by assumption) ?_
                    rotate_left
                    · intro wz hSw; (try dsimp only at hSw); go_simp; try (with_reducible rfl)
                    try simp only [Act.put, List.setIfInBounds_toArray, List.set_cons_zero, List.set_cons_succ]
                    refine wpAnyH_take (i := 1) (oi := { dst := some 232, op := Go.Op.unOp Go.UnOp.not 4 (Go.Operand.tmp 231), type := 4, pos := "law.go:111", after := #[{ on := 0, ground := Go.Ground.data }], guard := none }) (v := ?_) rfl (by kernel_rfl) (by kernel_rfl) (by kernel_rfl) (fun _ _ _ h => h) (Or.inl ⟨rfl, ?_⟩) (by assumption) ?_
                    rotate_left
                    · intro wz hSw; (try dsimp only at hSw); go_simp; try (with_reducible rfl)
                    try simp only [Act.put, List.setIfInBounds_toArray, List.set_cons_zero, List.set_cons_succ]
                    refine wpAnyH_take (i := 2) (oi := { dst := some 233, op := Go.Op.move (Go.Operand.tmp 232), type := 4, pos := "law.go:111", after := #[{ on := 1, ground := Go.Ground.data }], guard := none }) (v := ?_) rfl (by kernel_rfl) (by kernel_rfl) (by kernel_rfl) (fun _ _ _ h => h) (Or.inl ⟨rfl, ?_⟩) (by assumption) ?_
                    rotate_left
                    · intro wz hSw; (try dsimp only at hSw); go_simp; try (with_reducible rfl)
                    try simp only [Act.put, List.setIfInBounds_toArray, List.set_cons_zero, List.set_cons_succ]
                    refine wpAnyH_take (i := 3) (oi := { dst := some 234, op := Go.Op.move (Go.Operand.tmp 5), type := 22, pos := "law.go:111", after := #[{ on := 2, ground := Go.Ground.guard }], guard := some (2, false) }) (v := ?_) rfl (by kernel_rfl) (by kernel_rfl) (by kernel_rfl) (fun _ _ _ h => h) (Or.inl ⟨rfl, ?_⟩) (by assumption) ?_
                    rotate_left
                    · intro wz hSw; (try dsimp only at hSw); go_simp; try (with_reducible rfl)
                    try simp only [Act.put, List.setIfInBounds_toArray, List.set_cons_zero, List.set_cons_succ]
                    refine wpAnyH_take (i := 4) (oi := { dst := some 235, op := Go.Op.move (Go.Operand.tmp 18), type := 3, pos := "law.go:111", after := #[{ on := 2, ground := Go.Ground.guard }], guard := some (2, false) }) (v := ?_) rfl (by kernel_rfl) (by kernel_rfl) (by kernel_rfl) (fun _ _ _ h => h) (Or.inl ⟨rfl, ?_⟩) (by assumption) ?_
                    rotate_left
                    · intro wz hSw; (try dsimp only at hSw); go_simp; try (with_reducible rfl)
                    try simp only [Act.put, List.setIfInBounds_toArray, List.set_cons_zero, List.set_cons_succ]
                    refine wpAnyH_take (i := 5) (oi := { dst := some 236, op := Go.Op.indexAddr 22 (Go.Operand.tmp 234) (Go.Operand.tmp 235), type := 0, pos := "law.go:111", after := #[{ on := 3, ground := Go.Ground.data }, { on := 4, ground := Go.Ground.data }, { on := 2, ground := Go.Ground.guard }], guard := some (2, false) }) (v := ?_) rfl (by kernel_rfl) (by kernel_rfl) (by kernel_rfl) (fun _ _ _ h => h) (Or.inl ⟨rfl, ?_⟩) (by assumption) ?_
                    rotate_left
                    · intro wz hSw; (try dsimp only at hSw); go_simp; try (with_reducible rfl)
                    try simp only [Act.put, List.setIfInBounds_toArray, List.set_cons_zero, List.set_cons_succ]
                    refine wpAnyH_take (i := 6) (oi := { dst := some 237, op := Go.Op.fieldAddr 28 (Go.Operand.tmp 236) 1, type := 0, pos := "law.go:111", after := #[{ on := 5, ground := Go.Ground.data }, { on := 2, ground := Go.Ground.guard }], guard := some (2, false) }) (v := ?_) rfl (by kernel_rfl) (by kernel_rfl) (by kernel_rfl) (fun _ _ _ h => h) (Or.inl ⟨rfl, ?_⟩) (by assumption) ?_
                    rotate_left
                    · intro wz hSw; (try dsimp only at hSw); go_simp; try (with_reducible rfl)
                    try simp only [Act.put, List.setIfInBounds_toArray, List.set_cons_zero, List.set_cons_succ]
                    refine wpAnyH_take (i := 7) (oi := { dst := some 238, op := Go.Op.load 26 (Go.Operand.tmp 237), type := 26, pos := "law.go:111", after := #[{ on := 6, ground := Go.Ground.data }, { on := 2, ground := Go.Ground.guard }], guard := some (2, false) }) (v := ?_) rfl (by kernel_rfl) (by kernel_rfl) (by kernel_rfl) (fun _ _ _ h => h) (Or.inl ⟨rfl, ?_⟩) (by assumption) ?_
                    rotate_left
                    · intro wz hSw; (try dsimp only at hSw); go_simp; try (with_reducible rfl)
                    try simp only [Act.put, List.setIfInBounds_toArray, List.set_cons_zero, List.set_cons_succ]
                    refine wpAnyH_take (i := 8) (oi := { dst := some 239, op := Go.Op.load 46 (Go.Operand.tmp 19), type := 46, pos := "law.go:111", after := #[{ on := 2, ground := Go.Ground.guard }], guard := some (2, false) }) (v := ?_) rfl (by kernel_rfl) (by kernel_rfl) (by kernel_rfl) (fun _ _ _ h => h) (Or.inl ⟨rfl, ?_⟩) (by assumption) ?_
                    rotate_left
                    · intro wz hSw; (try dsimp only at hSw); go_simp; try (with_reducible rfl)
                    try simp only [Act.put, List.setIfInBounds_toArray, List.set_cons_zero, List.set_cons_succ]
                    refine wpAnyH_ready (rs := [9]) (by kernel_rfl) (by simp) ?_
                    refine AllReadyH.cons (o := { dst := some 240, op := Go.Op.call { callee := Go.Callee.value (Go.Operand.func 22), args := #[Go.Operand.tmp 239], argTypes := #[46] }, type := 28, pos := "law.go:111", after := #[{ on := 8, ground := Go.Ground.data }, { on := 2, ground := Go.Ground.chain }, { on := 2, ground := Go.Ground.guard }], guard := some (2, false) }) rfl (fun K hK => ?_) AllReadyH.nil
                    go_simp
                    go_at_call 22
                    refine (HF.out _).mono ?_
                    rintro e v1 ⟨rfl, hb⟩
                    replace e1 := (hb.cell (p := ⟨b1, o1 + k * 9 + 1, none⟩) hbl).trans e1
                    replace e2 := (hb.cell (p := ⟨b1, o1 + k * 9 + 2, none⟩) hbl).trans e2
                    replace e3 := (hb.cell (p := ⟨b1, o1 + k * 9 + 3, none⟩) hbl).trans e3
                    replace e8 := (hb.cell (p := ⟨b1, o1 + k * 9 + 8, none⟩) hbl).trans e8
                    replace k0 := (hb.cell (p := ⟨P9, 0, none⟩) kz).trans k0
                    replace k1 := (hb.cell (p := ⟨P9, 1, none⟩) kz).trans k1
                    replace k2 := (hb.cell (p := ⟨P9, 2, none⟩) kz).trans k2
                    replace k3 := (hb.cell (p := ⟨P9, 3, none⟩) kz).trans k3
                    replace k4 := (hb.cell (p := ⟨P9, 4, none⟩) kz).trans k4
                    replace k5 := (hb.cell (p := ⟨P9, 5, none⟩) kz).trans k5
                    replace k6 := (hb.cell (p := ⟨P9, 6, none⟩) kz).trans k6
                    replace k7 := (hb.cell (p := ⟨P9, 7, none⟩) kz).trans k7
                    replace hbl := Nat.lt_of_lt_of_le hbl hb.size
                    replace kz := Nat.lt_of_lt_of_le kz hb.size
                    replace HB9 := Lib.hid (below_via HB9.out hb HB9.out.size ⟨rfl, rfl, rfl, rfl⟩)
                    clear hb
                    refine hK.out _ _ ⟨e1, e2, e3, e8, k0, k1, k2, k3, k4, k5, k6, k7⟩ (fun hHeld => ?_)
                    clear hK K
                    try simp only [Act.put, List.setIfInBounds_toArray, List.set_cons_zero, List.set_cons_succ]
                    refine wpAnyH_take (i := 10) (oi := { dst := some 241, op := Go.Op.field 28 (Go.Operand.tmp 240) 1, type := 26, pos := "law.go:111", after := #[{ on := 9, ground := Go.Ground.data }, { on := 2, ground := Go.Ground.guard }], guard := some (2, false) }) (v := ?_) rfl (by kernel_rfl) (by kernel_rfl) (by kernel_rfl) (fun _ _ _ h => h) (Or.inl ⟨rfl, ?_⟩) (by assumption) ?_
                    rotate_left
                    · intro wz hSw; (try dsimp only at hSw); go_simp; try (with_reducible rfl)
                    try simp only [Act.put, List.setIfInBounds_toArray, List.set_cons_zero, List.set_cons_succ]
                    refine wpAnyH_ready (rs := [11]) (by kernel_rfl) (by simp) ?_
                    refine AllReadyH.cons (o := { dst := some 242, op := Go.Op.call { callee := Go.Callee.value (Go.Operand.func 32), args := #[Go.Operand.tmp 238, Go.Operand.tmp 241], argTypes := #[26, 26] }, type := 4, pos := "law.go:111", after := #[{ on := 7, ground := Go.Ground.data }, { on := 10, ground := Go.Ground.data }, { on := 9, ground := Go.Ground.chain }, { on := 2, ground := Go.Ground.guard }], guard := some (2, false) }) rfl (fun K hK => ?_) AllReadyH.nil
                    go_simp
                    go_at_call 32
                    refine (HNW.out _).mono ?_
                    rintro e v2 ⟨rfl, hb⟩
                    replace e1 := (hb.cell (p := ⟨b1, o1 + k * 9 + 1, none⟩) hbl).trans e1
                    replace e2 := (hb.cell (p := ⟨b1, o1 + k * 9 + 2, none⟩) hbl).trans e2
                    replace e3 := (hb.cell (p := ⟨b1, o1 + k * 9 + 3, none⟩) hbl).trans e3
                    replace e8 := (hb.cell (p := ⟨b1, o1 + k * 9 + 8, none⟩) hbl).trans e8
                    replace k0 := (hb.cell (p := ⟨P9, 0, none⟩) kz).trans k0
                    replace k1 := (hb.cell (p := ⟨P9, 1, none⟩) kz).trans k1
                    replace k2 := (hb.cell (p := ⟨P9, 2, none⟩) kz).trans k2
                    replace k3 := (hb.cell (p := ⟨P9, 3, none⟩) kz).trans k3
                    replace k4 := (hb.cell (p := ⟨P9, 4, none⟩) kz).trans k4
                    replace k5 := (hb.cell (p := ⟨P9, 5, none⟩) kz).trans k5
                    replace k6 := (hb.cell (p := ⟨P9, 6, none⟩) kz).trans k6
                    replace k7 := (hb.cell (p := ⟨P9, 7, none⟩) kz).trans k7
                    replace hbl := Nat.lt_of_lt_of_le hbl hb.size
                    replace kz := Nat.lt_of_lt_of_le kz hb.size
                    replace HB9 := Lib.hid (below_via HB9.out hb HB9.out.size ⟨rfl, rfl, rfl, rfl⟩)
                    clear hb
                    refine hK.out _ _ ⟨e1, e2, e3, e8, k0, k1, k2, k3, k4, k5, k6, k7⟩ (fun hHeld => ?_)
                    clear hK K
                    try simp only [Act.put, List.setIfInBounds_toArray, List.set_cons_zero, List.set_cons_succ]
                    refine wpAnyH_take (i := 12) (oi := { dst := some 243, op := Go.Op.pick (Go.Operand.tmp 233) (Go.Operand.const (Go.Value.bool true)) (Go.Operand.tmp 242), type := 4, pos := "law.go:111", after := #[{ on := 2, ground := Go.Ground.data }, { on := 11, ground := Go.Ground.data }], guard := none }) (v := ?_) rfl (by kernel_rfl) (by kernel_rfl) (by kernel_rfl) (fun _ _ _ h => h) (Or.inl ⟨rfl, ?_⟩) (by assumption) ?_
                    rotate_left
                    · intro wz hSw; (try dsimp only at hSw); go_simp; try (with_reducible rfl)
                    try simp only [Act.put, List.setIfInBounds_toArray, List.set_cons_zero, List.set_cons_succ]
                    refine wpAnyH_take (i := 13) (oi := { dst := some 244, op := Go.Op.move (Go.Operand.tmp 243), type := 4, pos := "law.go:111", after := #[{ on := 12, ground := Go.Ground.data }, { on := 11, ground := Go.Ground.chain }], guard := none }) (v := ?_) rfl (by kernel_rfl) (by kernel_rfl) (by kernel_rfl) (fun _ _ _ h => h) (Or.inl ⟨rfl, ?_⟩) (by assumption) ?_
                    rotate_left
                    · intro wz hSw; (try dsimp only at hSw); go_simp; try (with_reducible rfl)
                    try simp only [Act.put, List.setIfInBounds_toArray, List.set_cons_zero, List.set_cons_succ]
                    refine wpAnyH_take (i := 14) (oi := { dst := some 245, op := Go.Op.move (Go.Operand.tmp 5), type := 22, pos := "law.go:111", after := #[{ on := 13, ground := Go.Ground.guard }], guard := some (13, false) }) (v := ?_) rfl (by kernel_rfl) (by kernel_rfl) (by kernel_rfl) (fun _ _ _ h => h) (Or.inl ⟨rfl, ?_⟩) (by assumption) ?_
                    rotate_left
                    · intro wz hSw; (try dsimp only at hSw); go_simp; try (with_reducible rfl)
                    try simp only [Act.put, List.setIfInBounds_toArray, List.set_cons_zero, List.set_cons_succ]
                    refine wpAnyH_take (i := 15) (oi := { dst := some 246, op := Go.Op.move (Go.Operand.tmp 18), type := 3, pos := "law.go:111", after := #[{ on := 13, ground := Go.Ground.guard }], guard := some (13, false) }) (v := ?_) rfl (by kernel_rfl) (by kernel_rfl) (by kernel_rfl) (fun _ _ _ h => h) (Or.inl ⟨rfl, ?_⟩) (by assumption) ?_
                    rotate_left
                    · intro wz hSw; (try dsimp only at hSw); go_simp; try (with_reducible rfl)
                    try simp only [Act.put, List.setIfInBounds_toArray, List.set_cons_zero, List.set_cons_succ]
                    refine wpAnyH_take (i := 16) (oi := { dst := some 247, op := Go.Op.indexAddr 22 (Go.Operand.tmp 245) (Go.Operand.tmp 246), type := 0, pos := "law.go:111", after := #[{ on := 14, ground := Go.Ground.data }, { on := 15, ground := Go.Ground.data }, { on := 13, ground := Go.Ground.guard }], guard := some (13, false) }) (v := ?_) rfl (by kernel_rfl) (by kernel_rfl) (by kernel_rfl) (fun _ _ _ h => h) (Or.inl ⟨rfl, ?_⟩) (by assumption) ?_
                    rotate_left
                    · intro wz hSw; (try dsimp only at hSw); go_simp; try (with_reducible rfl)
                    try simp only [Act.put, List.setIfInBounds_toArray, List.set_cons_zero, List.set_cons_succ]
                    refine wpAnyH_take (i := 17) (oi := { dst := some 248, op := Go.Op.fieldAddr 28 (Go.Operand.tmp 247) 1, type := 0, pos := "law.go:111", after := #[{ on := 16, ground := Go.Ground.data }, { on := 13, ground := Go.Ground.guard }], guard := some (13, false) }) (v := ?_) rfl (by kernel_rfl) (by kernel_rfl) (by kernel_rfl) (fun _ _ _ h => h) (Or.inl ⟨rfl, ?_⟩) (by assumption) ?_
                    rotate_left
                    · intro wz hSw; (try dsimp only at hSw); go_simp; try (with_reducible rfl)
                    try simp only [Act.put, List.setIfInBounds_toArray, List.set_cons_zero, List.set_cons_succ]
                    refine wpAnyH_take (i := 18) (oi := { dst := some 249, op := Go.Op.load 26 (Go.Operand.tmp 248), type := 26, pos := "law.go:111", after := #[{ on := 17, ground := Go.Ground.data }, { on := 13, ground := Go.Ground.guard }], guard := some (13, false) }) (v := ?_) rfl (by kernel_rfl) (by kernel_rfl) (by kernel_rfl) (fun _ _ _ h => h) (Or.inl ⟨rfl, ?_⟩) (by assumption) ?_
                    rotate_left
                    · intro wz hSw; (try dsimp only at hSw); go_simp; try (with_reducible rfl)
                    try simp only [Act.put, List.setIfInBounds_toArray, List.set_cons_zero, List.set_cons_succ]
                    refine wpAnyH_take (i := 19) (oi := { dst := some 250, op := Go.Op.load 46 (Go.Operand.tmp 19), type := 46, pos := "law.go:111", after := #[{ on := 13, ground := Go.Ground.guard }], guard := some (13, false) }) (v := ?_) rfl (by kernel_rfl) (by kernel_rfl) (by kernel_rfl) (fun _ _ _ h => h) (Or.inl ⟨rfl, ?_⟩) (by assumption) ?_
                    rotate_left
                    · intro wz hSw; (try dsimp only at hSw); go_simp; try (with_reducible rfl)
                    try simp only [Act.put, List.setIfInBounds_toArray, List.set_cons_zero, List.set_cons_succ]
                    refine wpAnyH_ready (rs := [20]) (by kernel_rfl) (by simp) ?_
                    refine AllReadyH.cons (o := { dst := some 251, op := Go.Op.call { callee := Go.Callee.value (Go.Operand.func 22), args := #[Go.Operand.tmp 250], argTypes := #[46] }, type := 28, pos := "law.go:111", after := #[{ on := 19, ground := Go.Ground.data }, { on := 13, ground := Go.Ground.chain }, { on := 13, ground := Go.Ground.guard }], guard := some (13, false) }) rfl (fun K hK => ?_) AllReadyH.nil
                    go_simp
                    go_at_call 22
                    refine (HF.out _).mono ?_
                    rintro e v3 ⟨rfl, hb⟩
                    replace e1 := (hb.cell (p := ⟨b1, o1 + k * 9 + 1, none⟩) hbl).trans e1
                    replace e2 := (hb.cell (p := ⟨b1, o1 + k * 9 + 2, none⟩) hbl).trans e2
                    replace e3 := (hb.cell (p := ⟨b1, o1 + k * 9 + 3, none⟩) hbl).trans e3
                    replace e8 := (hb.cell (p := ⟨b1, o1 + k * 9 + 8, none⟩) hbl).trans e8
                    replace k0 := (hb.cell (p := ⟨P9, 0, none⟩) kz).trans k0
                    replace k1 := (hb.cell (p := ⟨P9, 1, none⟩) kz).trans k1
                    replace k2 := (hb.cell (p := ⟨P9, 2, none⟩) kz).trans k2
                    replace k3 := (hb.cell (p := ⟨P9, 3, none⟩) kz).trans k3
                    replace k4 := (hb.cell (p := ⟨P9, 4, none⟩) kz).trans k4
                    replace k5 := (hb.cell (p := ⟨P9, 5, none⟩) kz).trans k5
                    replace k6 := (hb.cell (p := ⟨P9, 6, none⟩) kz).trans k6
                    replace k7 := (hb.cell (p := ⟨P9, 7, none⟩) kz).trans k7
                    replace hbl := Nat.lt_of_lt_of_le hbl hb.size
                    replace kz := Nat.lt_of_lt_of_le kz hb.size
                    replace HB9 := Lib.hid (below_via HB9.out hb HB9.out.size ⟨rfl, rfl, rfl, rfl⟩)
                    clear hb
                    refine hK.out _ _ ⟨e1, e2, e3, e8, k0, k1, k2, k3, k4, k5, k6, k7⟩ (fun hHeld => ?_)
                    clear hK K
                    try simp only [Act.put, List.setIfInBounds_toArray, List.set_cons_zero, List.set_cons_succ]
                    refine wpAnyH_take (i := 21) (oi := { dst := some 252, op := Go.Op.field 28 (Go.Operand.tmp 251) 1, type := 26, pos := "law.go:111", after := #[{ on := 20, ground := Go.Ground.data }, { on := 13, ground := Go.Ground.guard }], guard := some (13, false) }) (v := ?_) rfl (by kernel_rfl) (by kernel_rfl) (by kernel_rfl) (fun _ _ _ h => h) (Or.inl ⟨rfl, ?_⟩) (by assumption) ?_
                    rotate_left
                    · intro wz hSw; (try dsimp only at hSw); go_simp; try (with_reducible rfl)
                    try simp only [Act.put, List.setIfInBounds_toArray, List.set_cons_zero, List.set_cons_succ]
                    refine wpAnyH_take (i := 22) (oi := { dst := some 253, op := Go.Op.binOp Go.BinOp.eql 26 (Go.Operand.tmp 249) (Go.Operand.tmp 252) 26, type := 4, pos := "law.go:111", after := #[{ on := 18, ground := Go.Ground.data }, { on := 21, ground := Go.Ground.data }, { on := 13, ground := Go.Ground.guard }], guard := some (13, false) }) (v := ?_) rfl (by kernel_rfl) (by kernel_rfl) (by kernel_rfl) (fun _ _ _ h => h) (Or.inl ⟨rfl, ?_⟩) (by assumption) ?_
                    rotate_left
                    · intro wz hSw; (try dsimp only at hSw); go_simp; try (with_reducible rfl)
                    try simp only [Act.put, List.setIfInBounds_toArray, List.set_cons_zero, List.set_cons_succ]
                    refine wpAnyH_take (i := 23) (oi := { dst := some 254, op := Go.Op.move (Go.Operand.tmp 253), type := 4, pos := "law.go:111", after := #[{ on := 22, ground := Go.Ground.data }, { on := 20, ground := Go.Ground.chain }, { on := 13, ground := Go.Ground.guard }], guard := some (13, false) }) (v := ?_) rfl (by kernel_rfl) (by kernel_rfl) (by kernel_rfl) (fun _ _ _ h => h) (Or.inl ⟨rfl, ?_⟩) (by assumption) ?_
                    rotate_left
                    · intro wz hSw; (try dsimp only at hSw); go_simp; try (with_reducible rfl)
                    try simp only [Act.put, List.setIfInBounds_toArray, List.set_cons_zero, List.set_cons_succ]
                    refine wpAnyH_take (i := 24) (oi := { dst := some 255, op := Go.Op.move (Go.Operand.tmp 5), type := 22, pos := "law.go:111", after := #[{ on := 23, ground := Go.Ground.guard }], guard := some (23, true) }) (v := ?_) rfl (by kernel_rfl) (by kernel_rfl) (by kernel_rfl) (fun _ _ _ h => h) (Or.inl ⟨rfl, ?_⟩) (by assumption) ?_
                    rotate_left
                    · intro wz hSw; (try dsimp only at hSw); go_simp; try (with_reducible rfl)
                    try simp only [Act.put, List.setIfInBounds_toArray, List.set_cons_zero, List.set_cons_succ]
                    refine wpAnyH_take (i := 25) (oi := { dst := some 256, op := Go.Op.move (Go.Operand.tmp 18), type := 3, pos := "law.go:111", after := #[{ on := 23, ground := Go.Ground.guard }], guard := some (23, true) }) (v := ?_) rfl (by kernel_rfl) (by kernel_rfl) (by kernel_rfl) (fun _ _ _ h => h) (Or.inl ⟨rfl, ?_⟩) (by assumption) ?_
                    rotate_left
                    · intro wz hSw; (try dsimp only at hSw); go_simp; try (with_reducible rfl)
                    try simp only [Act.put, List.setIfInBounds_toArray, List.set_cons_zero, List.set_cons_succ]
                    refine wpAnyH_take (i := 26) (oi := { dst := some 257, op := Go.Op.indexAddr 22 (Go.Operand.tmp 255) (Go.Operand.tmp 256), type := 0, pos := "law.go:111", after := #[{ on := 24, ground := Go.Ground.data }, { on := 25, ground := Go.Ground.data }, { on := 23, ground := Go.Ground.guard }], guard := some (23, true) }) (v := ?_) rfl (by kernel_rfl) (by kernel_rfl) (by kernel_rfl) (fun _ _ _ h => h) (Or.inl ⟨rfl, ?_⟩) (by assumption) ?_
                    rotate_left
                    · intro wz hSw; (try dsimp only at hSw); go_simp; try (with_reducible rfl)
                    try simp only [Act.put, List.setIfInBounds_toArray, List.set_cons_zero, List.set_cons_succ]
                    refine wpAnyH_take (i := 27) (oi := { dst := some 258, op := Go.Op.fieldAddr 28 (Go.Operand.tmp 257) 5, type := 0, pos := "law.go:111", after := #[{ on := 26, ground := Go.Ground.data }, { on := 23, ground := Go.Ground.guard }], guard := some (23, true) }) (v := ?_) rfl (by kernel_rfl) (by kernel_rfl) (by kernel_rfl) (fun _ _ _ h => h) (Or.inl ⟨rfl, ?_⟩) (by assumption) ?_
                    rotate_left
                    · intro wz hSw; (try dsimp only at hSw); go_simp; try (with_reducible rfl)
                    try simp only [Act.put, List.setIfInBounds_toArray, List.set_cons_zero, List.set_cons_succ]
                    refine wpAnyH_take (i := 28) (oi := { dst := some 259, op := Go.Op.load 4 (Go.Operand.tmp 258), type := 4, pos := "law.go:111", after := #[{ on := 27, ground := Go.Ground.data }, { on := 23, ground := Go.Ground.guard }], guard := some (23, true) }) (v := ?_) rfl (by kernel_rfl) (by kernel_rfl) (by kernel_rfl) (fun _ _ _ h => h) (Or.inl ⟨rfl, ?_⟩) (by assumption) ?_
                    rotate_left
                    · intro wz hSw; (try dsimp only at hSw); go_simp; try (with_reducible rfl)
                    try simp only [Act.put, List.setIfInBounds_toArray, List.set_cons_zero, List.set_cons_succ]
                    refine wpAnyH_take (i := 29) (oi := { dst := some 260, op := Go.Op.pick (Go.Operand.tmp 254) (Go.Operand.tmp 259) (Go.Operand.const (Go.Value.bool false)), type := 4, pos := "law.go:111", after := #[{ on := 23, ground := Go.Ground.data }, { on := 28, ground := Go.Ground.data }, { on := 13, ground := Go.Ground.guard }], guard := some (13, false) }) (v := ?_) rfl (by kernel_rfl) (by kernel_rfl) (by kernel_rfl) (fun _ _ _ h => h) (Or.inl ⟨rfl, ?_⟩) (by assumption) ?_
                    rotate_left
                    · intro wz hSw; (try dsimp only at hSw); go_simp; try (with_reducible rfl)
                    try simp only [Act.put, List.setIfInBounds_toArray, List.set_cons_zero, List.set_cons_succ]
                    refine wpAnyH_take (i := 30) (oi := { dst := some 261, op := Go.Op.move (Go.Operand.tmp 260), type := 4, pos := "law.go:111", after := #[{ on := 29, ground := Go.Ground.data }, { on := 23, ground := Go.Ground.chain }, { on := 13, ground := Go.Ground.guard }], guard := some (13, false) }) (v := ?_) rfl (by kernel_rfl) (by kernel_rfl) (by kernel_rfl) (fun _ _ _ h => h) (Or.inl ⟨rfl, ?_⟩) (by assumption) ?_
                    rotate_left
                    · intro wz hSw; (try dsimp only at hSw); go_simp; try (with_reducible rfl)
                    try simp only [Act.put, List.setIfInBounds_toArray, List.set_cons_zero, List.set_cons_succ]
                    refine wpAnyH_take (i := 31) (oi := { dst := some 262, op := Go.Op.fieldAddr 46 (Go.Operand.tmp 19) 5, type := 0, pos := "law.go:111", after := #[{ on := 30, ground := Go.Ground.guard }], guard := some (30, true) }) (v := ?_) rfl (by kernel_rfl) (by kernel_rfl) (by kernel_rfl) (fun _ _ _ h => h) (Or.inl ⟨rfl, ?_⟩) (by assumption) ?_
                    rotate_left
                    · intro wz hSw; (try dsimp only at hSw); go_simp; try (with_reducible rfl)
                    try simp only [Act.put, List.setIfInBounds_toArray, List.set_cons_zero, List.set_cons_succ]
                    refine wpAnyH_take (i := 32) (oi := { dst := some 263, op := Go.Op.load 4 (Go.Operand.tmp 262), type := 4, pos := "law.go:111", after := #[{ on := 31, ground := Go.Ground.data }, { on := 30, ground := Go.Ground.guard }], guard := some (30, true) }) (v := ?_) rfl (by kernel_rfl) (by kernel_rfl) (by kernel_rfl) (fun _ _ _ h => h) (Or.inl ⟨rfl, ?_⟩) (by assumption) ?_
                    rotate_left
                    · intro wz hSw; (try dsimp only at hSw); go_simp; try (with_reducible rfl)
                    try simp only [Act.put, List.setIfInBounds_toArray, List.set_cons_zero, List.set_cons_succ]
                    refine wpAnyH_take (i := 33) (oi := { dst := some 264, op := Go.Op.unOp Go.UnOp.not 4 (Go.Operand.tmp 263), type := 4, pos := "law.go:111", after := #[{ on := 32, ground := Go.Ground.data }, { on := 30, ground := Go.Ground.guard }], guard := some (30, true) }) (v := ?_) rfl (by kernel_rfl) (by kernel_rfl) (by kernel_rfl) (fun _ _ _ h => h) (Or.inl ⟨rfl, ?_⟩) (by assumption) ?_
                    rotate_left
                    · intro wz hSw; (try dsimp only at hSw); go_simp; try (with_reducible rfl)
                    try simp only [Act.put, List.setIfInBounds_toArray, List.set_cons_zero, List.set_cons_succ]
                    refine wpAnyH_take (i := 34) (oi := { dst := some 265, op := Go.Op.pick (Go.Operand.tmp 261) (Go.Operand.tmp 264) (Go.Operand.const (Go.Value.bool false)), type := 4, pos := "law.go:111", after := #[{ on := 30, ground := Go.Ground.data }, { on := 33, ground := Go.Ground.data }, { on := 13, ground := Go.Ground.guard }], guard := some (13, false) }) (v := ?_) rfl (by kernel_rfl) (by kernel_rfl) (by kernel_rfl) (fun _ _ _ h => h) (Or.inl ⟨rfl, ?_⟩) (by assumption) ?_
                    rotate_left
                    · intro wz hSw; (try dsimp only at hSw); go_simp; try (with_reducible rfl)
                    try simp only [Act.put, List.setIfInBounds_toArray, List.set_cons_zero, List.set_cons_succ]
                    refine wpAnyH_take (i := 35) (oi := { dst := some 266, op := Go.Op.pick (Go.Operand.tmp 244) (Go.Operand.const (Go.Value.bool true)) (Go.Operand.tmp 265), type := 4, pos := "law.go:111", after := #[{ on := 13, ground := Go.Ground.data }, { on := 34, ground := Go.Ground.data }], guard := none }) (v := ?_) rfl (by kernel_rfl) (by kernel_rfl) (by kernel_rfl) (fun _ _ _ h => h) (Or.inl ⟨rfl, ?_⟩) (by assumption) ?_
                    rotate_left
                    · intro wz hSw; (try dsimp only at hSw); go_simp; try (with_reducible rfl)
                    try simp only [Act.put, List.setIfInBounds_toArray, List.set_cons_zero, List.set_cons_succ]
                    refine wpAnyH_done (by kernel_rfl) ?_ _
                    clear hHeld hbl kz e1 e2 e3 e8 k0 k1 k2 k3 k4 k5 k6 k7
                    go_wp2
                    go_roundw
                    case rel => exact ⟨k + 1, by go_num, by omega, HB9⟩
                    case measure => simp [intOf]; omega
            · obtain rfl : k = own.length := by omega
              have q1 : ¬ ((own.length : Int) < own.length) := by omega
              go_wp2
              go_ret
              exact ⟨rfl, HBW.out.trans ((HBZ.out.trans (HB9.out.mono HBZ.out.size)).mono HBW.out.size)⟩

end Go.Proofs.Ytpaiigminmakgaa
