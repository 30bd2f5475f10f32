/- store.find: the library's binary search by the keys. -/
import Derived.Test.YtpaiigminmakgaaPa
namespace Go.Proofs.Ytpaiigminmakgaa
open Go.RowKit

def cmpK (a b : Int) : Int := if a < b then -1 else if b < a then 1 else 0
set_option maxRecDepth 100000 in
set_option maxHeartbeats 1000000 in
theorem isNaN_any (n : Int) (w : World) : Calls Try.prog 86 #[.int .i64 n] w fun e w' => e = .returned (.bool false) ∧ w = w' := by
  go_enter Try.func86, Try.ntmps86
  go_wp2
  go_ret
  exact ⟨rfl, rfl⟩
set_option maxRecDepth 100000 in
set_option maxHeartbeats 1000000 in
theorem cmpInt_any (a b : Int) (w : World) : Calls Try.prog 77 #[.int .i64 a, .int .i64 b] w fun e w' => e = .returned (.int .i64 (cmpK a b)) ∧ w = w' := by
  have HC := Lib.hid (show cmpK a b = if a < b then -1 else if b < a then 1 else 0 from rfl)
  generalize cmpK a b = c at *
  by_cases h1 : a < b
  · rw [if_pos h1] at HC
    go_enter Try.func77, Try.ntmps77
    go_wp2_with (go_at_call 86; refine (isNaN_any _ _).mono ?_; rintro e w' ⟨rfl, rfl⟩)
    go_ret
    exact ⟨ret_int (by rw [HC.out]), rfl⟩
  · rw [if_neg h1] at HC
    by_cases h2 : b < a
    · rw [if_pos h2] at HC
      go_enter Try.func77, Try.ntmps77
      go_wp2_with (go_at_call 86; refine (isNaN_any _ _).mono ?_; rintro e w' ⟨rfl, rfl⟩)
      go_ret
      exact ⟨ret_int (by rw [HC.out]), rfl⟩
    · rw [if_neg h2] at HC
      go_enter Try.func77, Try.ntmps77
      go_wp2_with (go_at_call 86; refine (isNaN_any _ _).mono ?_; rintro e w' ⟨rfl, rfl⟩)
      go_ret
      exact ⟨ret_int (by rw [HC.out]), rfl⟩
set_option maxRecDepth 100000 in
set_option maxHeartbeats 1000000 in
theorem orderRaw (key : Int) (d : ByteArray) (a s : Int) (dead : Bool) (fx fy : Nat) (text : ByteArray) (held : Bool) (k c : Int) (hc : Hid (cmpK key k = c)) (w : World) : Calls Try.prog 61 #[.agg #[.int .i64 key, .string d, .int .i64 a, .int .i64 s, .bool dead, .complex .f64 fx fy, .string text, .bool held], .int .i64 k] w fun e w' => e = .returned (.int .i64 c) ∧ Below w.heap.size w w' := by
  have H := Lib.hid (cmpInt_any key k)
  rw [hc.out] at H
  go_enter Try.func61, Try.ntmps61
  go_wp2_with fail
  refine (H.out _).mono ?_
  rintro e w1 ⟨rfl, rfl⟩
  go_wp2
  go_ret
  exact ⟨rfl, (Below.refl _ _).alloc (Nat.le_refl _) _⟩

/-- The keys rise. -/
def Keys (zs : List Itm) : Prop := zs.Pairwise fun x y => x.key < y.key
theorem keys_lt {zs : List Itm} (h : Keys zs) {i j : Nat} {x y : Itm} (hi : zs[i]? = some x) (hj : zs[j]? = some y) (hij : i < j) : x.key < y.key := by
  obtain ⟨h1, rfl⟩ := List.getElem?_eq_some_iff.mp hi
  obtain ⟨h2, rfl⟩ := List.getElem?_eq_some_iff.mp hj
  exact List.pairwise_iff_getElem.mp h i j h1 h2 hij
def PartsK (zs : List Itm) (k : Int) (p q : Nat) : Prop := (∀ j z, zs[j]? = some z → j < p → z.key < k) ∧ (∀ j z, zs[j]? = some z → q ≤ j → k ≤ z.key)
theorem partsK_start (zs : List Itm) (k : Int) : PartsK zs k 0 zs.length := ⟨fun _ _ _ h => by omega, fun j z h hq => by have := (List.getElem?_eq_some_iff.mp h).1; omega⟩
theorem partsK_lo {zs : List Itm} {k : Int} {p q m : Nat} {x : Itm} (hs : Keys zs) (h : PartsK zs k p q) (hm : zs[m]? = some x) (hx : x.key < k) : PartsK zs k (m + 1) q := by
  refine ⟨fun j z hj hlt => ?_, h.2⟩
  rcases Nat.lt_or_ge j m with h1 | h1
  · have := keys_lt hs hj hm h1; omega
  · obtain rfl : j = m := by omega
    rw [hm] at hj
    injection hj with hj
    subst hj
    exact hx
theorem partsK_hi {zs : List Itm} {k : Int} {p q m : Nat} {x : Itm} (hs : Keys zs) (h : PartsK zs k p q) (hm : zs[m]? = some x) (hx : ¬ x.key < k) : PartsK zs k p m := by
  refine ⟨h.1, fun j z hj hle => ?_⟩
  rcases Nat.lt_or_ge m j with h1 | h1
  · have := keys_lt hs hm hj h1; omega
  · obtain rfl : j = m := by omega
    rw [hm] at hj
    injection hj with hj
    subst hj
    omega
/-- Is the key at p? -/
def isAt (zs : List Itm) (k : Int) (p : Nat) : Bool := match zs[p]? with | some z => z.key == k | none => false
/-- Where the key stands, or would stand. -/
def FoundAt (zs : List Itm) (k : Int) (e : Ending) : Prop := ∃ p : Nat, p ≤ zs.length ∧ PartsK zs k p p ∧ e = .returned (.tuple #[.int .i64 p, .bool (isAt zs k p)])
theorem cmpK_neg (a b : Int) : (cmpK a b < 0) ↔ a < b := by unfold cmpK; split <;> (try split) <;> omega
theorem cmpK_zero (a b : Int) : (cmpK a b == 0) = (a == b) := by
  rw [Bool.eq_iff_iff, beq_iff_eq, beq_iff_eq]
  unfold cmpK; split <;> (try split) <;> omega
theorem ret_tuple {p : Nat} {a b : Bool} (h : a = b) : Ending.returned (.tuple #[.int .i64 (p : Int), .bool a]) = .returned (.tuple #[.int .i64 (p : Int), .bool b]) := by rw [h]

set_option maxRecDepth 100000 in
set_option maxHeartbeats 2000000 in
theorem searchK_any (A : Option Addr) (n c : Nat) (zs : List Itm) (k : Int) (B : Nat) (w : World) (hB : B ≤ w.heap.size) (hz : RowAt cellsP 8 w B A n zs) (hn : n ≤ 1099511627776) (hs : Keys zs) :
    Calls Try.prog 60 #[.slice A n c, .int .i64 k, .func (.func 61) #[] #[]] w fun e w' => FoundAt zs k e ∧ Below w.heap.size w w' := by
  have hl : zs.length = n := hz.1
  have HL := Lib.hid hl
  have HS := Lib.hid hs
  have HZ := Lib.hid hz
  clear hl hs hz
  go_enter Try.func60, Try.ntmps60
  go_wp2
  go_loopw [9, 10, 11] (fun i j _ wr => ∃ p q : Nat, p ≤ q ∧ q ≤ n ∧ i = .int .i64 p ∧ j = .int .i64 q ∧ Hid (PartsK zs k p q) ∧ Hid (Below w.heap.size w wr)) (fun i j _ _ => ((intOf j) - (intOf i)).toNat)
  case atStart => exact ⟨0, n, by omega, by omega, rfl, rfl, by show PartsK _ _ _ _; rw [← HL.out]; exact partsK_start zs k, Below.refl _ _⟩
  case round =>
    obtain ⟨p, q, hpq, hqn, rfl, rfl, HQ, HB⟩ := hrel
    by_cases hlt : p < q
    · skip
      obtain ⟨blk, off, rfl, hbB, z, hzk, hcell⟩ := HZ.out.get (k := (p + q) / 2) (by omega)
      obtain ⟨e0, e1, e2, e3, e4, e5, e6, e7⟩ := cellsP_at hcell
      replace e0 := ((HB.out.mono hB).cell (p := ⟨blk, off + (p + q) / 2 * 8, none⟩) hbB).trans e0
      replace e1 := ((HB.out.mono hB).cell (p := ⟨blk, off + (p + q) / 2 * 8 + 1, none⟩) hbB).trans e1
      replace e2 := ((HB.out.mono hB).cell (p := ⟨blk, off + (p + q) / 2 * 8 + 2, none⟩) hbB).trans e2
      replace e3 := ((HB.out.mono hB).cell (p := ⟨blk, off + (p + q) / 2 * 8 + 3, none⟩) hbB).trans e3
      replace e4 := ((HB.out.mono hB).cell (p := ⟨blk, off + (p + q) / 2 * 8 + 4, none⟩) hbB).trans e4
      replace e5 := ((HB.out.mono hB).cell (p := ⟨blk, off + (p + q) / 2 * 8 + 5, none⟩) hbB).trans e5
      replace e6 := ((HB.out.mono hB).cell (p := ⟨blk, off + (p + q) / 2 * 8 + 6, none⟩) hbB).trans e6
      replace e7 := ((HB.out.mono hB).cell (p := ⟨blk, off + (p + q) / 2 * 8 + 7, none⟩) hbB).trans e7
      obtain ⟨y', hy⟩ : ∃ y', cmpK z.key k = y' := ⟨_, rfl⟩
      by_cases hx : y' < 0
      · have HN : Hid (PartsK zs k ((p + q) / 2 + 1) q) := partsK_lo HS.out HQ.out hzk ((cmpK_neg _ _).mp (by omega))
        generalize fl z.x = fx at *
        generalize fl z.y = fy at *
        clear hcell
        obtain ⟨key, ⟨d, a, s⟩, dead, x, y, text, held⟩ := z
        simp only at e0 e1 e2 e3 e4 e5 e6 e7 hy
        have HY := Lib.hid hy
        clear hy hzk
        go_wp2_with fail
        refine (orderRaw _ _ _ _ _ _ _ _ _ _ _ HY _).mono ?_
        rintro e w1 ⟨rfl, hb1⟩
        replace HB := Lib.hid (HB.out.trans (hb1.mono HB.out.size))
        clear hb1 e0 e1 e2 e3 e4 e5 e6 e7
        go_wp2
        go_roundw
        case rel => exact ⟨(p + q) / 2 + 1, q, by omega, by omega, by go_num, rfl, HN, HB⟩
        case measure => simp [intOf]; omega
      · have HN : Hid (PartsK zs k p ((p + q) / 2)) := partsK_hi HS.out HQ.out hzk (fun h => hx (by rw [← hy]; exact (cmpK_neg _ _).mpr h))
        generalize fl z.x = fx at *
        generalize fl z.y = fy at *
        clear hcell
        obtain ⟨key, ⟨d, a, s⟩, dead, x, y, text, held⟩ := z
        simp only at e0 e1 e2 e3 e4 e5 e6 e7 hy
        have HY := Lib.hid hy
        clear hy hzk
        go_wp2_with fail
        refine (orderRaw _ _ _ _ _ _ _ _ _ _ _ HY _).mono ?_
        rintro e w1 ⟨rfl, hb1⟩
        replace HB := Lib.hid (HB.out.trans (hb1.mono HB.out.size))
        clear hb1 e0 e1 e2 e3 e4 e5 e6 e7
        go_wp2
        go_roundw
        case rel => exact ⟨p, (p + q) / 2, by omega, by omega, rfl, by go_num, HN, HB⟩
        case measure => simp [intOf]; omega
    · obtain rfl : p = q := by omega
      by_cases hpn : p < n
      · skip
        obtain ⟨blk, off, rfl, hbB, z, hzk, hcell⟩ := HZ.out.get (k := p) (by omega)
        obtain ⟨e0, e1, e2, e3, e4, e5, e6, e7⟩ := cellsP_at hcell
        replace e0 := ((HB.out.mono hB).cell (p := ⟨blk, off + p * 8, none⟩) hbB).trans e0
        replace e1 := ((HB.out.mono hB).cell (p := ⟨blk, off + p * 8 + 1, none⟩) hbB).trans e1
        replace e2 := ((HB.out.mono hB).cell (p := ⟨blk, off + p * 8 + 2, none⟩) hbB).trans e2
        replace e3 := ((HB.out.mono hB).cell (p := ⟨blk, off + p * 8 + 3, none⟩) hbB).trans e3
        replace e4 := ((HB.out.mono hB).cell (p := ⟨blk, off + p * 8 + 4, none⟩) hbB).trans e4
        replace e5 := ((HB.out.mono hB).cell (p := ⟨blk, off + p * 8 + 5, none⟩) hbB).trans e5
        replace e6 := ((HB.out.mono hB).cell (p := ⟨blk, off + p * 8 + 6, none⟩) hbB).trans e6
        replace e7 := ((HB.out.mono hB).cell (p := ⟨blk, off + p * 8 + 7, none⟩) hbB).trans e7
        obtain ⟨y', hy⟩ : ∃ y', cmpK z.key k = y' := ⟨_, rfl⟩
        have hIA : (y' == 0) = isAt zs k p := by rw [← hy, cmpK_zero]; unfold isAt; rw [hzk]
        have HIA := Lib.hid hIA
        clear hIA
        generalize fl z.x = fx at *
        generalize fl z.y = fy at *
        clear hcell
        obtain ⟨key, ⟨d, a, s⟩, dead, x, y, text, held⟩ := z
        simp only at e0 e1 e2 e3 e4 e5 e6 e7 hy
        have HY := Lib.hid hy
        clear hy hzk
        go_wp2_with fail
        refine (orderRaw _ _ _ _ _ _ _ _ _ _ _ HY _).mono ?_
        rintro e w1 ⟨rfl, hb1⟩
        replace HB := Lib.hid (HB.out.trans (hb1.mono HB.out.size))
        clear hb1 e0 e1 e2 e3 e4 e5 e6 e7
        go_wp2
        go_ret2
        exact ⟨⟨p, by have := HL.out; omega, HQ.out, ret_tuple HIA.out⟩, HB.out⟩
      · have HIA : Hid (false = isAt zs k p) := by show _ = _; unfold isAt; rw [List.getElem?_eq_none (by have := HL.out; omega)]
        have hpn' : decide ((p : Int) < n) = false := by simp; omega
        go_wp2
        go_ret2
        exact ⟨⟨p, by have := HL.out; omega, HQ.out, ret_tuple HIA.out⟩, HB.out⟩
set_option maxRecDepth 100000 in
set_option maxHeartbeats 1000000 in
theorem find_any (A : Option Addr) (n c : Nat) (zs : List Itm) (k : Int) (B : Nat) (w : World) (hB : B ≤ w.heap.size) (hz : RowAt cellsP 8 w B A n zs) (hn : n ≤ 1099511627776) (hs : Keys zs) :
    Calls Try.prog 38 #[.slice A n c, .int .i64 k] w fun e w' => FoundAt zs k e ∧ Below w.heap.size w w' := by
  have H := Lib.hid (searchK_any A n c zs k B w hB hz hn hs)
  clear hz hs
  go_enter Try.func38, Try.ntmps38
  go_wp2_with fail
  refine H.out.mono ?_
  rintro e w1 ⟨⟨p, hp, HP, rfl⟩, hb⟩
  have HP' := Lib.hid HP
  have HB := Lib.hid hb
  clear HP hb H
  obtain ⟨b, hb⟩ : ∃ b, isAt zs k p = b := ⟨_, rfl⟩
  rw [hb]
  have HIB := Lib.hid hb
  clear hb
  go_wp2
  go_ret2
  exact ⟨⟨p, hp, HP'.out, ret_tuple HIB.out.symm⟩, HB.out⟩
end Go.Proofs.Ytpaiigminmakgaa
