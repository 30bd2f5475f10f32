/- vec.order, the library's binary search by it, and vec.Of. -/
import Derived.Test.YtbbcifcdimfdgaaVa
import Derived.Test.YtbbcifcdimfdgaaVm
namespace Go.Proofs.Ytbbcifcdimfdgaa
open Go.RowKit

set_option maxHeartbeats 400000 in
theorem order_any (s : ByteArray) (n : Int) (a : ByteArray) (w : World) :
    Calls Try.prog 56 #[.agg #[.string s, .int .i64 n], .string a] w fun e w' => e = .returned (.int .i64 (cmpId s a)) ∧ Below w.heap.size w w' := by
  go_enter Try.func56, Try.ntmps56
  go_wp2_with fail
  refine (compare_any _ _ _).mono ?_
  rintro e w' ⟨rfl, rfl⟩
  go_wp2
  go_ret
  exact ⟨rfl, (Below.refl _ _).alloc (Nat.le_refl _) _⟩

theorem order_is (s : ByteArray) (n : Int) (a : ByteArray) (x : Int) (h : Hid (cmpId s a = x)) (w : World) :
    Calls Try.prog 56 #[.agg #[.string s, .int .i64 n], .string a] w fun e w' => e = .returned (.int .i64 x) ∧ Below w.heap.size w w' := by
  rw [← h.out]; exact order_any s n a w

/-- The cells of one element, in a world that came behind. -/
theorem VecAt.cells {w wr : World} {B : Nat} {A : Option Addr} {n : Nat} {zs : List At} (h : VecAt w B A n zs) (hb : Below B w wr) {k : Nat} (hk : k < n) :
    ∃ b off, A = some ⟨b, off, none⟩ ∧ b < B ∧ wr.cell? ⟨b, off + k * 2, none⟩ = some (.string (zs.getD k atNil).1) ∧ wr.cell? ⟨b, off + k * 2 + 1, none⟩ = some (.int .i64 (zs.getD k atNil).2) := by
  obtain ⟨b, off, e, hlt, hc⟩ := (h.keep hb).2 (by omega)
  exact ⟨b, off, e, hlt, hc k hk⟩

set_option maxRecDepth 100000 in
set_option maxHeartbeats 1000000 in
theorem search_any (A : Option Addr) (n c : Nat) (zs : List At) (a : ByteArray) (B : Nat) (w : World) (hB : B ≤ w.heap.size) (hz : VecAt w B A n zs) (hn : n ≤ 1099511627776) (hs : Rising zs) :
    Calls Try.prog 62 #[.slice A n c, .string a, .func (.func 56) #[] #[]] w fun e w' => Found a zs e ∧ Below w.heap.size w w' := by
  have hl : zs.length = n := hz.1
  have HL := Lib.hid hl
  have HS := Lib.hid hs
  have HZ := Lib.hid hz
  clear hl hs hz
  go_enter Try.func62, Try.ntmps62
  go_wp2
  go_loopw [9, 10, 11] (fun i j _ wr => ∃ p q : Nat, p ≤ q ∧ q ≤ n ∧ i = .int .i64 p ∧ j = .int .i64 q ∧ Hid (Parts zs a p q) ∧ Hid (Below w.heap.size w wr)) (fun i j _ _ => ((intOf j) - (intOf i)).toNat)
  case atStart => exact ⟨0, n, by omega, by omega, rfl, rfl, by show Parts _ _ _ _; rw [← HL.out]; exact parts_start zs a, Below.refl _ _⟩
  case round =>
    obtain ⟨p, q, hpq, hqn, rfl, rfl, HQ, HB⟩ := hrel
    by_cases hlt : p < q
    · obtain ⟨blk, off, rfl, hbB, hc1, hc2⟩ := HZ.out.cells (HB.out.mono hB) (k := (p + q) / 2) (by omega)
      have hm : (p + q) / 2 < zs.length := by have := HL.out; omega
      obtain ⟨y, hy⟩ : ∃ y, cmpId (zs.getD ((p + q) / 2) atNil).1 a = y := ⟨_, rfl⟩
      by_cases hx : y < 0
      · have HN : Hid (Parts zs a ((p + q) / 2 + 1) q) := parts_lo HS.out HQ.out hm (by omega)
        generalize zs.getD ((p + q) / 2) atNil = x at hc1 hc2 hy
        have HY := Lib.hid hy
        clear hm hy
        go_wp2_with fail
        refine (order_is _ _ _ _ HY _).mono ?_
        rintro e w1 ⟨rfl, hb1⟩
        have HB1 : Hid (Below w.heap.size w w1) := HB.out.trans (hb1.mono HB.out.size)
        clear hb1
        go_wp2
        go_roundw
        case rel => exact ⟨(p + q) / 2 + 1, q, by omega, by omega, by go_num, rfl, HN, HB1⟩
        case measure => simp [intOf]; omega
      · have HN : Hid (Parts zs a p ((p + q) / 2)) := parts_hi HS.out HQ.out (by omega)
        generalize zs.getD ((p + q) / 2) atNil = x at hc1 hc2 hy
        have HY := Lib.hid hy
        clear hm hy
        go_wp2_with fail
        refine (order_is _ _ _ _ HY _).mono ?_
        rintro e w1 ⟨rfl, hb1⟩
        have HB1 : Hid (Below w.heap.size w w1) := HB.out.trans (hb1.mono HB.out.size)
        clear hb1
        go_wp2
        go_roundw
        case rel => exact ⟨p, (p + q) / 2, by omega, by omega, rfl, by go_num, HN, HB1⟩
        case measure => simp [intOf]; omega
    · obtain rfl : p = q := by omega
      by_cases hpn : p < n
      · obtain ⟨blk, off, rfl, hbB, hc1, hc2⟩ := HZ.out.cells (HB.out.mono hB) (k := p) hpn
        obtain ⟨y, hy⟩ : ∃ y, cmpId (zs.getD p atNil).1 a = y := ⟨_, rfl⟩
        by_cases hx : y = 0
        · have HF : Hid ((zs.getD p atNil).1 = a) := (cmpId_zero _ _).mp (by omega)
          have hx' : (y == 0) = true := by simp [hx]
          generalize hg : zs.getD p atNil = x at hc1 hc2 hy HF
          have HG := Lib.hid hg
          have HY := Lib.hid hy
          clear hy hx hg
          go_wp2_with fail
          refine (order_is _ _ _ _ HY _).mono ?_
          rintro e w1 ⟨rfl, hb1⟩
          have HB1 : Hid (Below w.heap.size w w1) := HB.out.trans (hb1.mono HB.out.size)
          clear hb1
          go_wp2
          go_ret2
          exact ⟨Or.inl ⟨p, by have := HL.out; omega, by rw [HG.out]; exact HF.out, rfl⟩, HB1.out⟩
        · have HF : Hid (∀ x ∈ zs, x.1 ≠ a) := parts_none HS.out HQ.out (fun h => by omega)
          have hx' : (y == 0) = false := by simp [hx]
          generalize zs.getD p atNil = x at hc1 hc2 hy
          have HY := Lib.hid hy
          clear hy hx
          go_wp2_with fail
          refine (order_is _ _ _ _ HY _).mono ?_
          rintro e w1 ⟨rfl, hb1⟩
          have HB1 : Hid (Below w.heap.size w w1) := HB.out.trans (hb1.mono HB.out.size)
          clear hb1
          go_wp2
          go_ret2
          exact ⟨Or.inr ⟨HF.out, p, rfl⟩, HB1.out⟩
      · have HF : Hid (∀ x ∈ zs, x.1 ≠ a) := parts_none HS.out HQ.out (fun h => by have := HL.out; omega)
        go_wp2
        go_ret2
        exact ⟨Or.inr ⟨HF.out, p, rfl⟩, HB.out⟩

set_option maxHeartbeats 1000000 in
theorem of_any (A : Option Addr) (n c : Nat) (zs : List At) (a : ByteArray) (B : Nat) (w : World) (hB : B ≤ w.heap.size) (hz : VecAt w B A n zs) (hn : n ≤ 1099511627776) (hs : Rising zs) :
    Calls Try.prog 53 #[.slice A n c, .string a] w fun e w' => e = .returned (.int .i64 (ofF zs a)) ∧ Below w.heap.size w w' := by
  have HS := Lib.hid hs
  have HZ := Lib.hid hz
  clear hs hz
  go_enter Try.func53, Try.ntmps53
  go_wp2_with fail
  refine (search_any A n c zs a B _ hB HZ.out hn HS.out).mono ?_
  rintro e w1 ⟨hf, hb1⟩
  have HB1 := Lib.hid hb1
  clear hb1
  rcases hf with ⟨k, hk, hka, rfl⟩ | ⟨hno, k, rfl⟩
  · have hkn : k < n := by have := HZ.out.1; omega
    obtain ⟨blk, off, rfl, hbB, hc1, hc2⟩ := HZ.out.cells (HB1.out.mono hB) (k := k) hkn
    have HR : Hid (ofF zs a = (zs.getD k atNil).2) := by show _ = _; rw [← hka]; exact ofF_mem HS.out (getD_mem hk)
    generalize zs.getD k atNil = x at hc1 hc2 HR
    clear hka hk
    go_wp2
    go_ret
    exact ⟨ret_int HR.out.symm, HB1.out⟩
  · have HR : Hid (ofF zs a = 0) := ofF_none hno
    clear hno
    go_wp2
    go_ret
    exact ⟨ret_int HR.out.symm, HB1.out⟩
theorem of_is (A : Option Addr) (n c : Nat) (zs : List At) (a : ByteArray) (B : Nat) (x : Int) (h : Hid (ofF zs a = x)) (w : World) (hB : B ≤ w.heap.size) (hz : VecAt w B A n zs) (hn : n ≤ 1099511627776) (hs : Rising zs) :
    Calls Try.prog 53 #[.slice A n c, .string a] w fun e w' => e = .returned (.int .i64 x) ∧ Below w.heap.size w w' := by
  rw [← h.out]; exact of_any A n c zs a B w hB hz hn hs
end Go.Proofs.Ytbbcifcdimfdgaa
