/- The words of whole numbers that are great: they stand for great numbers. No program in it. -/
import Derived.Test.YtbookbgfipbaoaaGreatDoorH12
import Derived.Lib.AtoiAllCases
import Derived.Lib.SplitLaws
namespace Go.Proofs.YtbookbgfipbaoaaGreatDoor.Zo
open Ieee

theorem order_great {x y : Nat} {s : Bool} {m : Nat} {e : Int} {c : Int} (hr : double.read x = .number s m e) (hm : 2 ^ 52 ≤ m) (he : 0 ≤ e) (hy : Num y c) (hc : Small c) :
    FloatKind.f64.format.order x y = some (if s then .lt else .gt) ∧ FloatKind.f64.format.order y x = some (if s then .gt else .lt) := by
  obtain ⟨t, j, hy, ht⟩ := hy
  have e1 : FloatKind.f64.format.order x y = (double.read x).order (double.read y) := rfl
  have e2 : FloatKind.f64.format.order y x = (double.read y).order (double.read x) := rfl
  rw [e1, e2, hr, hy]
  unfold Datum.order
  simp only
  have b1 : min e (-(j : Int)) = -(j : Int) := by omega
  have b2 : min (-(j : Int)) e = -(j : Int) := by omega
  rw [b1, b2, signed_num ht, show (-(j : Int) - -(j : Int)).toNat = 0 by omega, Nat.add_zero]
  have hk : (e - -(j : Int)).toNat = e.toNat + j := by omega
  rw [hk]
  have hp : (0 : Int) < ((2 ^ j : Nat) : Int) := by exact_mod_cast Nat.two_pow_pos j
  have hbig : (2 ^ 52 : Int) * ((2 ^ j : Nat) : Int) ≤ ((m * 2 ^ (e.toNat + j) : Nat) : Int) := by
    have : 2 ^ 52 * 2 ^ j ≤ m * 2 ^ (e.toNat + j) := Nat.mul_le_mul hm (Nat.pow_le_pow_right (by decide) (by omega))
    exact_mod_cast this
  have hc1 : c * ((2 ^ j : Nat) : Int) < (2 ^ 52 : Int) * ((2 ^ j : Nat) : Int) := Int.mul_lt_mul_of_pos_right (by unfold Small at hc; omega) hp
  have hc2 : -((2 ^ 52 : Int) * ((2 ^ j : Nat) : Int)) < c * ((2 ^ j : Nat) : Int) := by
    rw [← Int.neg_mul]
    exact Int.mul_lt_mul_of_pos_right (by unfold Small at hc; omega) hp
  unfold signed
  rw [shl_eq]
  generalize c * ((2 ^ j : Nat) : Int) = C at *
  generalize (2 ^ 52 : Int) * ((2 ^ j : Nat) : Int) = D at *
  generalize m * 2 ^ (e.toNat + j) = M at *
  cases s
  · simp only [Bool.false_eq_true, if_false]
    exact ⟨by rw [Int.compare_eq_gt.mpr (by omega)], by rw [Int.compare_eq_lt.mpr (by omega)]⟩
  · simp only [if_true]
    exact ⟨by rw [Int.compare_eq_lt.mpr (by omega)], by rw [Int.compare_eq_gt.mpr (by omega)]⟩
theorem big_of {x : Nat} {s : Bool} {m : Nat} {e : Int} (hr : double.read x = .number s m e) (hm : 2 ^ 52 ≤ m) (he : 0 ≤ e) : Big x := by
  refine ⟨fun lo hi a b hl hh ha hb => ?_, ?_⟩
  · have h1 := (order_great hr hm he hl ha).2
    have h2 := (order_great hr hm he hh hb).1
    unfold wwB leqB
    rw [h1, h2]
    cases s <;> rfl
  · have h1 := (order_great hr hm he num_zero small_zero).1
    unfold eqlB
    rw [h1]
    cases s <;> rfl
theorem cut_even_in (s : Bool) (m d : Nat) (hd : d ≤ m.log2 + 2) : ∃ r, r ≤ 1 ∧ Toward.even.cut s m d = m / 2 ^ d + r := by
  unfold Toward.cut
  simp only
  rw [Nat.min_eq_left hd, Nat.shiftLeft_eq, Nat.one_mul]
  exact ⟨_, Bool.toNat_le _, rfl⟩
theorem read_great (n : Int) (h1 : 2 ^ 53 ≤ n.natAbs) (h2 : n.natAbs < 2 ^ 64) : ∃ s m e, double.read (fl n) = .number s m e ∧ 2 ^ 52 ≤ m ∧ 0 ≤ e := by
  have h0 : n.natAbs ≠ 0 := by omega
  have hL1 : 53 ≤ n.natAbs.log2 := (Nat.le_log2 h0).mpr h1
  have hL2 : n.natAbs.log2 < 64 := (Nat.log2_lt h0).mpr h2
  have hlo := Nat.log2_self_le h0
  have hhi := Nat.lt_log2_self (n := n.natAbs)
  have e1 : double.leastPlace = -1074 := by decide
  have e2 : double.fractionBits = 52 := rfl
  have e3 : double.binade = 2 ^ 52 := rfl
  have e4 : double.signWeight = 2 ^ 63 := rfl
  have e5 : double.infRung = 2047 * 2 ^ 52 := by decide
  obtain ⟨r, hr, hcut⟩ := cut_even_in (decide (n < 0)) n.natAbs (n.natAbs.log2 - 52) (by omega)
  have hw : fl n = double.word (decide (n < 0)) ((n.natAbs.log2 + 1022) * 2 ^ 52 + (n.natAbs / 2 ^ (n.natAbs.log2 - 52) + r)) := by
    show double.nearest (decide (n < 0)) n.natAbs 0 = _
    unfold Format.nearest
    rw [if_neg h0]
    simp only [e1, e2, e3, e5]
    rw [show max ((0 : Int) + (n.natAbs.log2 : Int) - ((52 : Nat) : Int)) (-1074) = (n.natAbs.log2 : Int) - 52 by omega,
      show ((0 : Int) - ((n.natAbs.log2 : Int) - 52)).toNat = 0 by omega, show ((n.natAbs.log2 : Int) - 52 - 0).toNat = n.natAbs.log2 - 52 by omega, shl_eq, Nat.pow_zero, Nat.mul_one, hcut,
      show ((n.natAbs.log2 : Int) - 52 - -1074).toNat = n.natAbs.log2 + 1022 by omega]
    congr 1
    apply Nat.min_eq_left
    have : n.natAbs / 2 ^ (n.natAbs.log2 - 52) < 2 ^ 53 := by
      rw [Nat.div_lt_iff_lt_mul (Nat.two_pow_pos _), ← Nat.pow_add, show 53 + (n.natAbs.log2 - 52) = n.natAbs.log2 + 1 by omega]
      exact hhi
    omega
  have hK1 : 2 ^ 52 ≤ n.natAbs / 2 ^ (n.natAbs.log2 - 52) := by
    rw [Nat.le_div_iff_mul_le (Nat.two_pow_pos _), ← Nat.pow_add, show 52 + (n.natAbs.log2 - 52) = n.natAbs.log2 by omega]
    exact hlo
  have hK2 : n.natAbs / 2 ^ (n.natAbs.log2 - 52) < 2 ^ 53 := by
    rw [Nat.div_lt_iff_lt_mul (Nat.two_pow_pos _), ← Nat.pow_add, show 53 + (n.natAbs.log2 - 52) = n.natAbs.log2 + 1 by omega]
    exact hhi
  rw [hw]
  generalize decide (n < 0) = s
  generalize n.natAbs / 2 ^ (n.natAbs.log2 - 52) = K at *
  generalize n.natAbs.log2 = L at *
  clear hw hcut hlo hhi h0 h1 h2
  have hrng : (L + 1022) * 2 ^ 52 + (K + r) < 2 ^ 63 := by omega
  have hmod : double.word s ((L + 1022) * 2 ^ 52 + (K + r)) % 2 ^ 63 = (L + 1022) * 2 ^ 52 + (K + r) := by
    unfold Format.word
    rw [e4]
    cases s <;> simp <;> omega
  unfold Format.read
  simp only [e1, e3, e4, e5]
  rw [hmod, if_neg (by omega), if_pos (by omega)]
  exact ⟨_, _, _, rfl, by omega, by omega⟩
/-- A whole number's word stands for it, or both are great. -/
theorem numB_fl (n : Int) (h : n.natAbs < 2 ^ 64) : NumB (fl n) n := by
  by_cases hs : Small n
  · exact .inl ⟨hs, num_fl n hs.lt⟩
  refine .inr ⟨hs, ?_⟩
  by_cases h53 : n.natAbs < 2 ^ 53
  · have hn := num_fl n h53
    refine ⟨fun lo hi a b hl hh ha hb => ?_, ?_⟩
    · rw [ww_num hn h53 hl hh]
      unfold withinF Small at *
      rw [Bool.and_eq_false_iff, decide_eq_false_iff_not, decide_eq_false_iff_not]
      omega
    · have := num_eql hn num_zero
      unfold eqlB
      rw [this, decide_eq_false_iff_not]
      rintro rfl
      exact hs small_zero
  · obtain ⟨s, m, e, hr, hm, he⟩ := read_great n (by omega) h
    exact big_of hr hm he
end Go.Proofs.YtbookbgfipbaoaaGreatDoor.Zo

/- A step out of its words. -/
namespace Go.Proofs.YtbookbgfipbaoaaGreatDoor.Zo
open Go.RowKit

def eqW (a b : ByteArray) : Bool := a.toList == b.toList
theorem toList_inj {a b : ByteArray} (h : a.toList = b.toList) : a = b := by
  rw [Lib.toList_data, Lib.toList_data] at h
  obtain ⟨⟨x⟩⟩ := a
  obtain ⟨⟨y⟩⟩ := b
  simpa using h
def opFrom : Nat → Int → ByteArray → Int
  | 0, _, _ => 0
  | f + 1, k, s => if eqW (nameF k) s = true then k else opFrom f (k + 1) s
/-- The Op of that name; 0: there is none. -/
def opF (s : ByteArray) : Int := opFrom 6 1 s

set_option maxRecDepth 100000 in
set_option maxHeartbeats 1000000 in
theorem opOf_any (s : ByteArray) (w : World) : Calls Tryz.prog 203 #[.string s] w fun e w' => e = .returned (.int .i64 (opF s)) ∧ w = w' := by
  have HF : Hid (opFrom 6 1 s = opF s) := rfl
  generalize opF s = O at *
  go_enter Tryz.func203, Tryz.ntmps203
  go_wp2
  go_loop [3] (fun i => ∃ k f : Nat, 1 ≤ k ∧ k + f = 7 ∧ i = .int .i64 k ∧ Hid (opFrom f k s = O)) (fun i => 7 - (intOf i).toNat)
  case atStart => exact ⟨1, 6, by omega, by omega, rfl, HF.out⟩
  case round =>
    clear HF
    obtain ⟨k, f, hk1, hkf, rfl, HF⟩ := hrel
    cases f with
    | zero =>
      have hk6 : ¬ ((k : Int) ≤ 6) := by omega
      have HF' : Hid (0 = O) := HF.out
      clear HF
      go_wp2
      go_ret
      exact ⟨ret_int HF'.out, rfl⟩
    | succ f =>
      have hk6 : (k : Int) ≤ 6 := by omega
      have HN := Lib.hid (name_any k)
      have HF' : Hid ((if eqW (nameF k) s = true then (k : Int) else opFrom f (k + 1) s) = O) := HF.out
      clear HF
      rcases he : eqW (nameF k) s with _ | _
      · rw [he] at HF'
        have he' : ((nameF k).toList == s.toList) = false := he
        generalize nameF k = nm at *
        clear he
        go_wp2_with fail
        refine (HN.out _).mono ?_
        rintro e w1 ⟨rfl, rfl⟩
        go_wp2
        go_round
        case rel => exact ⟨k + 1, f, by omega, by omega, by go_num, HF'.out⟩
        case measure => simp [intOf]; omega
      · rw [he] at HF'
        have he' : ((nameF k).toList == s.toList) = true := he
        generalize nameF k = nm at *
        clear he
        go_wp2_with fail
        refine (HN.out _).mono ?_
        rintro e w1 ⟨rfl, rfl⟩
        go_wp2
        go_ret
        exact ⟨ret_int HF'.out, rfl⟩

/-- A number's one text alone. -/
def numF (s : ByteArray) : Option Int := match Lib.atoiAll s.data.toList with
  | .ok v => if eqW (itoaB v) s = true then some v else none
  | _ => none
/-- The float that parseNumber answers. -/
def numX (s : ByteArray) : Nat := match Lib.atoiAll s.data.toList with
  | .ok v => fl v
  | Lib.NumEnd.syntax => fl 0
  | .range => fl (Lib.atoiSat s.data.toList)
theorem num_like {s : ByteArray} {v : Int} (h : numF s = some v) : NumB (numX s) v := by
  unfold numF at h
  unfold numX
  cases e : Lib.atoiAll s.data.toList with
  | ok u =>
    rw [e] at h
    simp only at h
    split at h
    · injection h with h
      subst h
      have := Lib.atoiAll_bounds e
      exact numB_fl u (by omega)
    · cases h
  | range => rw [e] at h; cases h
  | _ => rw [e] at h; cases h
theorem sat_in (l : List UInt8) : -9223372036854775808 ≤ Lib.atoiSat l ∧ Lib.atoiSat l ≤ 9223372036854775807 := by
  unfold Lib.atoiSat
  split <;> omega

set_option maxRecDepth 100000 in
set_option maxHeartbeats 2000000 in
theorem parseNumber_any (s : ByteArray) (hs : s.size ≤ 281474976710656) (w : World) (hg : Glob w) : Calls Tryz.prog 216 #[.string s] w fun e w' => e = .returned (.tuple #[.float .f64 (numX s), .bool (numF s).isSome]) ∧ Below w.heap.size w w' := by
  have hc : ∀ (n : Int) w, (convert 3 163 (.int .i64 n)).run Tryz.prog w = .ok (.float .f64 (fl n)) w := fun n w => run_convert_int_float w 3 163 .i64 .f64 n (by kernel_rfl) Tryz.underlying163
  cases e : Lib.atoiAll s.data.toList with
  | ok v =>
    have hb := Lib.atoiAll_bounds e
    have HA := Lib.hid (Tryz.strconv_Atoi_ok s (by omega) v e w)
    have HX : Hid (numX s = fl v) := by show _ = _; unfold numX; rw [e]
    have HI := Lib.hid (itoa_any v hb.1 hb.2)
    have HG := Lib.hid hg
    rcases hq : eqW (itoaB v) s with _ | _
    all_goals
      have HF : Hid ((numF s).isSome = eqW (itoaB v) s) := by show _ = _; unfold numF; rw [e]; simp only; rw [hq]; rfl
      rw [hq] at HF
      have hq' := hq
      unfold eqW at hq'
      rw [HX.out]
      generalize itoaB v = tv at *
      generalize (numF s).isSome = OK at *
      generalize fl = g at *
      clear e hq HX hg hb
      go_enter Tryz.func216, Tryz.ntmps216
      go_wp2_with fail
      refine HA.out.mono ?_
      rintro e w1 ⟨rfl, hw1⟩
      have HB1 : Hid (Below w.heap.size w w1) := by
        rcases hw1 with rfl | ⟨t, rfl⟩
        · exact Below.refl _ _
        · exact Lib.bytesWorld_below _ _ _
      clear hw1
      go_wp2_with fail
      refine (HI.out _ (HG.out.below HB1.out)).mono ?_
      rintro e w2 ⟨rfl, hb2⟩
      have HB2 := Lib.hid (HB1.out.trans (hb2.mono HB1.out.size))
      clear hb2
      go_wp2
      go_ret2
      exact ⟨by rw [HF.out]; rfl, HB2.out⟩
  | range =>
    obtain ⟨tp, p, hv⟩ := hg.ran
    have HA := Lib.hid (Tryz.strconv_Atoi_range_var s hs e tp p w hv)
    have HX : Hid (numX s = fl (Lib.atoiSat s.data.toList)) := by show _ = _; unfold numX; rw [e]
    have HF : Hid ((numF s).isSome = false) := by show _ = _; unfold numF; rw [e]; rfl
    have hsat := sat_in s.data.toList
    rw [HX.out]
    generalize Lib.atoiSat s.data.toList = sat at *
    generalize (numF s).isSome = OK at *
    generalize fl = g at *
    clear e hv hg HX
    go_enter Tryz.func216, Tryz.ntmps216
    go_wp2_with fail
    refine HA.out.mono ?_
    rintro e w1 ⟨N, rfl, _, _, hb1⟩
    go_wp2
    go_ret2
    exact ⟨by rw [HF.out]; rfl, hb1⟩
  | _ =>
    obtain ⟨tp, p, hv⟩ := hg.syn
    have HA := Lib.hid (Tryz.strconv_Atoi_syntax_var s hs e tp p w hv)
    have HX : Hid (numX s = fl 0) := by show _ = _; unfold numX; rw [e]
    have HF : Hid ((numF s).isSome = false) := by show _ = _; unfold numF; rw [e]; rfl
    rw [HX.out]
    generalize (numF s).isSome = OK at *
    generalize fl = g at *
    clear e hv hg HX
    go_enter Tryz.func216, Tryz.ntmps216
    go_wp2_with fail
    refine HA.out.mono ?_
    rintro e w1 ⟨N, rfl, _, _, hb1⟩
    go_wp2
    go_ret2
    exact ⟨by rw [HF.out]; rfl, hb1⟩
end Go.Proofs.YtbookbgfipbaoaaGreatDoor.Zo

/- A step out of its words, whole. -/
namespace Go.Proofs.YtbookbgfipbaoaaGreatDoor.Zo
open Go.RowKit

def okN (s : ByteArray) : Bool := (numF s).isSome
def zeroP : Stp := ⟨0, 0, 0, 0⟩
def zeroQ : RSt := ⟨0, 0, 0, 0⟩
def numbersP (op : Int) (a b c : ByteArray) : Stp := if okN a && (okN b && okN c) then ⟨op, numX a, numX b, numX c⟩ else zeroP
def numbersQ (op : Int) (a b c : ByteArray) : RSt := match numF a, numF b, numF c with
  | some x, some y, some z => ⟨op, x, y, z⟩
  | _, _, _ => zeroQ
theorem numB_zero : NumB 0 0 := .inl ⟨small_zero, num_zero⟩
theorem like_zero : Like zeroP zeroQ := ⟨rfl, numB_zero, numB_zero, numB_zero⟩
theorem numbers_like (op : Int) (a b c : ByteArray) : Like (numbersP op a b c) (numbersQ op a b c) := by
  unfold numbersP numbersQ okN
  rcases ha : numF a with _ | x
  · exact like_zero
  rcases hb : numF b with _ | y
  · exact like_zero
  rcases hc : numF c with _ | z
  · exact like_zero
  exact ⟨rfl, num_like ha, num_like hb, num_like hc⟩
theorem text_at {w : World} {B : Nat} {A : Option Addr} {m : Nat} {ts : List ByteArray} (h : RowAt cellsS 1 w B A m ts) {k : Nat} {t : ByteArray} (hk : ts[k]? = some t) : ∃ b o, A = some ⟨b, o, none⟩ ∧ b < B ∧ w.cell? ⟨b, o + k, none⟩ = some (.string t) := by
  have hkm : k < m := by have := (List.getElem?_eq_some_iff.mp hk).1; have := h.1; omega
  obtain ⟨b, o, e, hlt, z, hz, hc⟩ := h.get hkm
  rw [hk] at hz
  injection hz with hz
  subst hz
  refine ⟨b, o, e, hlt, ?_⟩
  have := hc 0 (.string t) rfl
  simpa using this
set_option maxRecDepth 100000 in
set_option maxHeartbeats 4000000 in
theorem parseNumbers_any (op : Int) (b o cc : Nat) (x y z : ByteArray) (w : World) (hb0 : b < w.heap.size) (h0 : w.cell? ⟨b, o, none⟩ = some (.string x)) (h1 : w.cell? ⟨b, o + 1, none⟩ = some (.string y)) (h2 : w.cell? ⟨b, o + 2, none⟩ = some (.string z))
    (hx : x.size ≤ 281474976710656) (hy : y.size ≤ 281474976710656) (hz : z.size ≤ 281474976710656) (hg : Glob w) :
    Calls Tryz.prog 204 #[.int .i64 op, .slice (some ⟨b, o, none⟩) 3 cc] w fun e w' => e = .returned (stpV (numbersP op x y z)) ∧ Below w.heap.size w w' := by
  have HX := Lib.hid (parseNumber_any x hx)
  have HY := Lib.hid (parseNumber_any y hy)
  have HZ := Lib.hid (parseNumber_any z hz)
  have HG := Lib.hid hg
  have HF : Hid (numbersP op x y z = if okN x && (okN y && okN z) then ⟨op, numX x, numX y, numX z⟩ else zeroP) := rfl
  change Hid (∀ w, Glob w → Calls Tryz.prog 216 #[.string x] w fun e w' => e = .returned (.tuple #[.float .f64 (numX x), .bool (okN x)]) ∧ Below w.heap.size w w') at HX
  change Hid (∀ w, Glob w → Calls Tryz.prog 216 #[.string y] w fun e w' => e = .returned (.tuple #[.float .f64 (numX y), .bool (okN y)]) ∧ Below w.heap.size w w') at HY
  change Hid (∀ w, Glob w → Calls Tryz.prog 216 #[.string z] w fun e w' => e = .returned (.tuple #[.float .f64 (numX z), .bool (okN z)]) ∧ Below w.heap.size w w') at HZ
  generalize numbersP op x y z = R at *
  generalize okN x = bx at *
  generalize okN y = by1 at *
  generalize okN z = bz at *
  generalize numX x = nx at *
  generalize numX y = ny at *
  generalize numX z = nz at *
  have E1 := Lib.hid h1
  have E2 := Lib.hid h2
  have hst := store_complex
  have hst' := store_float
  clear h1 h2 hx hy hz hg
  go_enter Tryz.func204, Tryz.ntmps204
  go_upto_region 1 with fail
  have k0 : (w.alloc (.cells #[.int .i64 0, .complex .f64 0 0, .float .f64 0] 165)).cell? ⟨w.heap.size, 0, none⟩ = some (.int .i64 0) := by simp [go_sem]
  have kf0 : (w.alloc (.cells #[.int .i64 0, .complex .f64 0 0, .float .f64 0] 165)).frozen? ⟨w.heap.size, 0, none⟩ = false := by simp [go_sem]
  have k1 : (w.alloc (.cells #[.int .i64 0, .complex .f64 0 0, .float .f64 0] 165)).cell? ⟨w.heap.size, 1, none⟩ = some (.complex .f64 0 0) := by simp [go_sem]
  have kf1 : (w.alloc (.cells #[.int .i64 0, .complex .f64 0 0, .float .f64 0] 165)).frozen? ⟨w.heap.size, 1, none⟩ = false := by simp [go_sem]
  have k2 : (w.alloc (.cells #[.int .i64 0, .complex .f64 0 0, .float .f64 0] 165)).cell? ⟨w.heap.size, 2, none⟩ = some (.float .f64 0) := by simp [go_sem]
  have kf2 : (w.alloc (.cells #[.int .i64 0, .complex .f64 0 0, .float .f64 0] 165)).frozen? ⟨w.heap.size, 2, none⟩ = false := by simp [go_sem]
  have kz : w.heap.size < (w.alloc (.cells #[.int .i64 0, .complex .f64 0 0, .float .f64 0] 165)).heap.size := by simp
  have HB : Hid (Below w.heap.size w (w.alloc (.cells #[.int .i64 0, .complex .f64 0 0, .float .f64 0] 165))) := (Below.refl _ _).alloc (Nat.le_refl _) _
  generalize (w.alloc (.cells #[.int .i64 0, .complex .f64 0 0, .float .f64 0] 165)) = W1 at *
  replace h0 := (HB.out.cell (p := ⟨b, o, none⟩) hb0).trans h0
  go_wp2_with fail
  refine (HX.out _ (HG.out.below HB.out)).mono ?_
  rintro e w1 ⟨rfl, hb⟩
  replace k0 := (hb.cell (p := ⟨w.heap.size, 0, none⟩) kz).trans k0
  replace kf0 := (hb.frozen (p := ⟨w.heap.size, 0, none⟩) kz).trans kf0
  replace k1 := (hb.cell (p := ⟨w.heap.size, 1, none⟩) kz).trans k1
  replace kf1 := (hb.frozen (p := ⟨w.heap.size, 1, none⟩) kz).trans kf1
  replace k2 := (hb.cell (p := ⟨w.heap.size, 2, none⟩) kz).trans k2
  replace kf2 := (hb.frozen (p := ⟨w.heap.size, 2, none⟩) kz).trans kf2
  replace kz := Nat.lt_of_lt_of_le kz hb.size
  replace HB := Lib.hid (HB.out.trans (hb.mono HB.out.size))
  clear hb h0
  have h1 := (HB.out.cell (p := ⟨b, o + 1, none⟩) hb0).trans E1.out
  go_wp2_with fail
  refine (HY.out _ (HG.out.below HB.out)).mono ?_
  rintro e w2 ⟨rfl, hb⟩
  replace k0 := (hb.cell (p := ⟨w.heap.size, 0, none⟩) kz).trans k0
  replace kf0 := (hb.frozen (p := ⟨w.heap.size, 0, none⟩) kz).trans kf0
  replace k1 := (hb.cell (p := ⟨w.heap.size, 1, none⟩) kz).trans k1
  replace kf1 := (hb.frozen (p := ⟨w.heap.size, 1, none⟩) kz).trans kf1
  replace k2 := (hb.cell (p := ⟨w.heap.size, 2, none⟩) kz).trans k2
  replace kf2 := (hb.frozen (p := ⟨w.heap.size, 2, none⟩) kz).trans kf2
  replace kz := Nat.lt_of_lt_of_le kz hb.size
  replace HB := Lib.hid (HB.out.trans (hb.mono HB.out.size))
  clear hb h1
  have h2 := (HB.out.cell (p := ⟨b, o + 2, none⟩) hb0).trans E2.out
  go_wp2_with fail
  refine (HZ.out _ (HG.out.below HB.out)).mono ?_
  rintro e w3 ⟨rfl, hb⟩
  replace k0 := (hb.cell (p := ⟨w.heap.size, 0, none⟩) kz).trans k0
  replace kf0 := (hb.frozen (p := ⟨w.heap.size, 0, none⟩) kz).trans kf0
  replace k1 := (hb.cell (p := ⟨w.heap.size, 1, none⟩) kz).trans k1
  replace kf1 := (hb.frozen (p := ⟨w.heap.size, 1, none⟩) kz).trans kf1
  replace k2 := (hb.cell (p := ⟨w.heap.size, 2, none⟩) kz).trans k2
  replace kf2 := (hb.frozen (p := ⟨w.heap.size, 2, none⟩) kz).trans kf2
  replace kz := Nat.lt_of_lt_of_le kz hb.size
  replace HB := Lib.hid (HB.out.trans (hb.mono HB.out.size))
  clear hb h2
  generalize hX : w.heap.size = X at *
  cases bx
  · skip
    go_wp2
    refine bodyPost_ret (v := .agg #[.int .i64 0, .complex .f64 0 0, .float .f64 0]) ?_ rfl ?_
    · simp [results, Tryz.results204, go_sem, k0, k1, k2]
    · refine ⟨by rw [HF.out]; rfl, ?_⟩
      have hbx := HB.out
      subst hX
      exact ((hbx.setCell (by simp) _).setCell (by simp) _).setCell (by simp) _
  · cases by1
    · skip
      go_wp2
      refine bodyPost_ret (v := .agg #[.int .i64 0, .complex .f64 0 0, .float .f64 0]) ?_ rfl ?_
      · simp [results, Tryz.results204, go_sem, k0, k1, k2]
      · refine ⟨by rw [HF.out]; rfl, ?_⟩
        have hbx := HB.out
        subst hX
        exact ((hbx.setCell (by simp) _).setCell (by simp) _).setCell (by simp) _
    · cases bz
      · skip
        go_wp2
        refine bodyPost_ret (v := .agg #[.int .i64 0, .complex .f64 0 0, .float .f64 0]) ?_ rfl ?_
        · simp [results, Tryz.results204, go_sem, k0, k1, k2]
        · refine ⟨by rw [HF.out]; rfl, ?_⟩
          have hbx := HB.out
          subst hX
          exact ((hbx.setCell (by simp) _).setCell (by simp) _).setCell (by simp) _
      · skip
        go_wp2
        refine bodyPost_ret (v := .agg #[.int .i64 op, .complex .f64 nx ny, .float .f64 nz]) ?_ rfl ?_
        · simp [results, Tryz.results204, go_sem, k0, k1, k2]
        · refine ⟨by rw [HF.out]; rfl, ?_⟩
          have hbx := HB.out
          subst hX
          exact ((hbx.setCell (by simp) _).setCell (by simp) _).setCell (by simp) _
def stepP (ws : List ByteArray) : Stp :=
  if opF (ws.getD 0 ⟨#[]⟩) = 2 ∨ opF (ws.getD 0 ⟨#[]⟩) = 3 then (if ws.length = 4 then numbersP (opF (ws.getD 0 ⟨#[]⟩)) (ws.getD 1 ⟨#[]⟩) (ws.getD 2 ⟨#[]⟩) (ws.getD 3 ⟨#[]⟩) else zeroP)
  else if ws.length = 1 then ⟨opF (ws.getD 0 ⟨#[]⟩), 0, 0, 0⟩ else zeroP
def stepQ (ws : List ByteArray) : RSt :=
  if opF (ws.getD 0 ⟨#[]⟩) = 2 ∨ opF (ws.getD 0 ⟨#[]⟩) = 3 then (if ws.length = 4 then numbersQ (opF (ws.getD 0 ⟨#[]⟩)) (ws.getD 1 ⟨#[]⟩) (ws.getD 2 ⟨#[]⟩) (ws.getD 3 ⟨#[]⟩) else zeroQ)
  else if ws.length = 1 then ⟨opF (ws.getD 0 ⟨#[]⟩), 0, 0, 0⟩ else zeroQ
theorem step_like (ws : List ByteArray) : Like (stepP ws) (stepQ ws) := by
  unfold stepP stepQ
  split
  · split
    · exact numbers_like _ _ _ _
    · exact like_zero
  · split
    · exact ⟨rfl, numB_zero, numB_zero, numB_zero⟩
    · exact like_zero
set_option maxRecDepth 100000 in
set_option maxHeartbeats 4000000 in
theorem parseStep_any (b o m : Nat) (ws : List ByteArray) (B : Nat) (w : World) (hB : B ≤ w.heap.size) (hz : RowAt cellsS 1 w B (some ⟨b, o, none⟩) m ws) (hm : 1 ≤ m) (hsz : ∀ s ∈ ws, s.size ≤ 281474976710656) (hg : Glob w) :
    Calls Tryz.prog 192 #[.slice (some ⟨b, o, none⟩) m m] w fun e w' => e = .returned (stpV (stepP ws)) ∧ Below w.heap.size w w' := by
  have hlen : ws.length = m := hz.1
  obtain ⟨a, ha⟩ : ∃ a, ws[0]? = some a := ⟨_, List.getElem?_eq_getElem (by omega)⟩
  obtain ⟨b', o', e', hb0, h0⟩ := text_at hz ha
  obtain ⟨rfl, rfl⟩ : b = b' ∧ o = o' := by injection e' with e'; injection e' with e1 e2; exact ⟨e1, e2⟩
  replace hb0 : b < w.heap.size := by omega
  have ha0 : ws.getD 0 ⟨#[]⟩ = a := by rw [List.getD_eq_getElem?_getD, ha]; rfl
  have HOP := Lib.hid (opOf_any a)
  have HG := Lib.hid hg
  have hst := store_complex
  have hst' := store_float
  have hm0 : (0 : Int) < m := by omega
  replace h0 : w.cell? ⟨b, o, none⟩ = some (.string a) := h0
  by_cases h23 : opF a = 2 ∨ opF a = 3
  · by_cases hm4 : m = 4
    · subst hm4
      obtain ⟨x, hx⟩ : ∃ x, ws[1]? = some x := ⟨_, List.getElem?_eq_getElem (by omega)⟩
      obtain ⟨y, hy⟩ : ∃ y, ws[2]? = some y := ⟨_, List.getElem?_eq_getElem (by omega)⟩
      obtain ⟨z, hzz⟩ : ∃ z, ws[3]? = some z := ⟨_, List.getElem?_eq_getElem (by omega)⟩
      have cx : w.cell? ⟨b, o + 1, none⟩ = some (.string x) := by obtain ⟨b1, o1, e1, _, c⟩ := text_at hz hx; injection e1 with e1; injection e1 with e1 e2; subst e1 e2; exact c
      have cy : w.cell? ⟨b, o + 2, none⟩ = some (.string y) := by obtain ⟨b1, o1, e1, _, c⟩ := text_at hz hy; injection e1 with e1; injection e1 with e1 e2; subst e1 e2; exact c
      have cz : w.cell? ⟨b, o + 3, none⟩ = some (.string z) := by obtain ⟨b1, o1, e1, _, c⟩ := text_at hz hzz; injection e1 with e1; injection e1 with e1 e2; subst e1 e2; exact c
      have hR : stepP ws = numbersP (opF a) x y z := by
        unfold stepP
        rw [ha0, if_pos h23, if_pos hlen, show ws.getD 1 ⟨#[]⟩ = x by rw [List.getD_eq_getElem?_getD, hx]; rfl, show ws.getD 2 ⟨#[]⟩ = y by rw [List.getD_eq_getElem?_getD, hy]; rfl, show ws.getD 3 ⟨#[]⟩ = z by rw [List.getD_eq_getElem?_getD, hzz]; rfl]
      have HNUM := Lib.hid (fun (w' : World) (hb : Below w.heap.size w w') => parseNumbers_any (opF a) b (o + 1) 3 x y z w' (by have := hb.size; omega) ((hb.cell (p := ⟨b, o + 1, none⟩) hb0).trans cx) ((hb.cell (p := ⟨b, o + 2, none⟩) hb0).trans cy) ((hb.cell (p := ⟨b, o + 3, none⟩) hb0).trans cz) (hsz x (List.mem_of_getElem? hx)) (hsz y (List.mem_of_getElem? hy)) (hsz z (List.mem_of_getElem? hzz)) (hg.below hb))
      have HR := Lib.hid hR
      generalize hnP : numbersP (opF a) x y z = NP at *
      generalize opF a = op at *
      generalize stepP ws = R at *
      obtain ⟨np1, np2, np3, np4⟩ := NP
      unfold stpV at HNUM
      simp only at HNUM
      clear hz hx hy hzz cx cy cz hR ha ha0 hsz hg hlen hnP
      rcases h23 with rfl | rfl
      all_goals
        go_enter Tryz.func192, Tryz.ntmps192
        go_upto_region 1 with fail
        have k0 : (w.alloc (.cells #[.int .i64 0, .complex .f64 0 0, .float .f64 0] 165)).cell? ⟨w.heap.size, 0, none⟩ = some (.int .i64 0) := by simp [go_sem]
        have kf0 : (w.alloc (.cells #[.int .i64 0, .complex .f64 0 0, .float .f64 0] 165)).frozen? ⟨w.heap.size, 0, none⟩ = false := by simp [go_sem]
        have k1 : (w.alloc (.cells #[.int .i64 0, .complex .f64 0 0, .float .f64 0] 165)).cell? ⟨w.heap.size, 1, none⟩ = some (.complex .f64 0 0) := by simp [go_sem]
        have kf1 : (w.alloc (.cells #[.int .i64 0, .complex .f64 0 0, .float .f64 0] 165)).frozen? ⟨w.heap.size, 1, none⟩ = false := by simp [go_sem]
        have k2 : (w.alloc (.cells #[.int .i64 0, .complex .f64 0 0, .float .f64 0] 165)).cell? ⟨w.heap.size, 2, none⟩ = some (.float .f64 0) := by simp [go_sem]
        have kf2 : (w.alloc (.cells #[.int .i64 0, .complex .f64 0 0, .float .f64 0] 165)).frozen? ⟨w.heap.size, 2, none⟩ = false := by simp [go_sem]
        have kz : w.heap.size < (w.alloc (.cells #[.int .i64 0, .complex .f64 0 0, .float .f64 0] 165)).heap.size := by simp
        have HB : Hid (Below w.heap.size w (w.alloc (.cells #[.int .i64 0, .complex .f64 0 0, .float .f64 0] 165))) := (Below.refl _ _).alloc (Nat.le_refl _) _
        generalize (w.alloc (.cells #[.int .i64 0, .complex .f64 0 0, .float .f64 0] 165)) = W1 at *
        have HB0 := HB
        replace h0 := (HB.out.cell (p := ⟨b, o, none⟩) hb0).trans h0
        go_wp2_with fail
        refine (HOP.out _).mono ?_
        rintro e w1 ⟨rfl, rfl⟩
        go_wp2_with fail
        refine (HNUM.out _ HB.out).mono ?_
        rintro e w2 ⟨rfl, hb⟩
        replace k0 := (hb.cell (p := ⟨w.heap.size, 0, none⟩) kz).trans k0
        replace kf0 := (hb.frozen (p := ⟨w.heap.size, 0, none⟩) kz).trans kf0
        replace k1 := (hb.cell (p := ⟨w.heap.size, 1, none⟩) kz).trans k1
        replace kf1 := (hb.frozen (p := ⟨w.heap.size, 1, none⟩) kz).trans kf1
        replace k2 := (hb.cell (p := ⟨w.heap.size, 2, none⟩) kz).trans k2
        replace kf2 := (hb.frozen (p := ⟨w.heap.size, 2, none⟩) kz).trans kf2
        replace kz := Nat.lt_of_lt_of_le kz hb.size
        replace HB := Lib.hid (HB.out.trans (hb.mono HB.out.size))
        clear hb h0
        generalize hX : w.heap.size = X at *
        go_wp2
        refine bodyPost_ret (v := .agg #[.int .i64 np1, .complex .f64 np2 np3, .float .f64 np4]) ?_ rfl ?_
        · simp [results, Tryz.results192, go_sem, k0, k1, k2]
        · refine ⟨by rw [HR.out]; rfl, ?_⟩
          have hbx := HB.out
          subst hX
          exact ((hbx.setCell (by simp) _).setCell (by simp) _).setCell (by simp) _
    · have HR : Hid (stepP ws = zeroP) := by
        show _ = _
        unfold stepP
        rw [ha0, if_pos h23, if_neg (by omega)]
      have hm4' : ((m : Int) == 4) = false := by simp; omega
      generalize opF a = op at *
      generalize stepP ws = R at *
      clear hz ha ha0 hsz hg hlen hm4
      rcases h23 with rfl | rfl
      all_goals
        go_enter Tryz.func192, Tryz.ntmps192
        go_upto_region 1 with fail
        have k0 : (w.alloc (.cells #[.int .i64 0, .complex .f64 0 0, .float .f64 0] 165)).cell? ⟨w.heap.size, 0, none⟩ = some (.int .i64 0) := by simp [go_sem]
        have kf0 : (w.alloc (.cells #[.int .i64 0, .complex .f64 0 0, .float .f64 0] 165)).frozen? ⟨w.heap.size, 0, none⟩ = false := by simp [go_sem]
        have k1 : (w.alloc (.cells #[.int .i64 0, .complex .f64 0 0, .float .f64 0] 165)).cell? ⟨w.heap.size, 1, none⟩ = some (.complex .f64 0 0) := by simp [go_sem]
        have kf1 : (w.alloc (.cells #[.int .i64 0, .complex .f64 0 0, .float .f64 0] 165)).frozen? ⟨w.heap.size, 1, none⟩ = false := by simp [go_sem]
        have k2 : (w.alloc (.cells #[.int .i64 0, .complex .f64 0 0, .float .f64 0] 165)).cell? ⟨w.heap.size, 2, none⟩ = some (.float .f64 0) := by simp [go_sem]
        have kf2 : (w.alloc (.cells #[.int .i64 0, .complex .f64 0 0, .float .f64 0] 165)).frozen? ⟨w.heap.size, 2, none⟩ = false := by simp [go_sem]
        have kz : w.heap.size < (w.alloc (.cells #[.int .i64 0, .complex .f64 0 0, .float .f64 0] 165)).heap.size := by simp
        have HB : Hid (Below w.heap.size w (w.alloc (.cells #[.int .i64 0, .complex .f64 0 0, .float .f64 0] 165))) := (Below.refl _ _).alloc (Nat.le_refl _) _
        generalize (w.alloc (.cells #[.int .i64 0, .complex .f64 0 0, .float .f64 0] 165)) = W1 at *
        replace h0 := (HB.out.cell (p := ⟨b, o, none⟩) hb0).trans h0
        go_wp2_with fail
        refine (HOP.out _).mono ?_
        rintro e w1 ⟨rfl, rfl⟩
        clear h0
        generalize hX : w.heap.size = X at *
        go_wp2
        refine bodyPost_ret (v := .agg #[.int .i64 0, .complex .f64 0 0, .float .f64 0]) ?_ rfl ?_
        · simp [results, Tryz.results192, go_sem, k0, k1, k2]
        · refine ⟨by rw [HR.out]; rfl, ?_⟩
          have hbx := HB.out
          subst hX
          exact ((hbx.setCell (by simp) _).setCell (by simp) _).setCell (by simp) _
  · have g2 : ¬ opF a = 2 := fun e => h23 (Or.inl e)
    have g3 : ¬ opF a = 3 := fun e => h23 (Or.inr e)
    have g2' : (opF a == 2) = false := by simpa using g2
    have g3' : (opF a == 3) = false := by simpa using g3
    have g2n : (opF a != 2) = true := by simpa using g2
    have g3n : (opF a != 3) = true := by simpa using g3
    by_cases hm1 : m = 1
    · subst hm1
      have HR : Hid (stepP ws = ⟨opF a, 0, 0, 0⟩) := by
        show _ = _
        unfold stepP
        rw [ha0, if_neg h23, if_pos hlen]
      generalize opF a = op at *
      generalize stepP ws = R at *
      clear hz ha ha0 hsz hg hlen h23 g2 g3
      go_enter Tryz.func192, Tryz.ntmps192
      go_upto_region 1 with fail
      have k0 : (w.alloc (.cells #[.int .i64 0, .complex .f64 0 0, .float .f64 0] 165)).cell? ⟨w.heap.size, 0, none⟩ = some (.int .i64 0) := by simp [go_sem]
      have kf0 : (w.alloc (.cells #[.int .i64 0, .complex .f64 0 0, .float .f64 0] 165)).frozen? ⟨w.heap.size, 0, none⟩ = false := by simp [go_sem]
      have k1 : (w.alloc (.cells #[.int .i64 0, .complex .f64 0 0, .float .f64 0] 165)).cell? ⟨w.heap.size, 1, none⟩ = some (.complex .f64 0 0) := by simp [go_sem]
      have kf1 : (w.alloc (.cells #[.int .i64 0, .complex .f64 0 0, .float .f64 0] 165)).frozen? ⟨w.heap.size, 1, none⟩ = false := by simp [go_sem]
      have k2 : (w.alloc (.cells #[.int .i64 0, .complex .f64 0 0, .float .f64 0] 165)).cell? ⟨w.heap.size, 2, none⟩ = some (.float .f64 0) := by simp [go_sem]
      have kf2 : (w.alloc (.cells #[.int .i64 0, .complex .f64 0 0, .float .f64 0] 165)).frozen? ⟨w.heap.size, 2, none⟩ = false := by simp [go_sem]
      have kz : w.heap.size < (w.alloc (.cells #[.int .i64 0, .complex .f64 0 0, .float .f64 0] 165)).heap.size := by simp
      have HB : Hid (Below w.heap.size w (w.alloc (.cells #[.int .i64 0, .complex .f64 0 0, .float .f64 0] 165))) := (Below.refl _ _).alloc (Nat.le_refl _) _
      generalize (w.alloc (.cells #[.int .i64 0, .complex .f64 0 0, .float .f64 0] 165)) = W1 at *
      replace h0 := (HB.out.cell (p := ⟨b, o, none⟩) hb0).trans h0
      go_wp2_with fail
      refine (HOP.out _).mono ?_
      rintro e w1 ⟨rfl, rfl⟩
      clear h0
      generalize hX : w.heap.size = X at *
      go_wp2
      refine bodyPost_ret (v := .agg #[.int .i64 op, .complex .f64 0 0, .float .f64 0]) ?_ rfl ?_
      · simp [results, Tryz.results192, go_sem, k0, k1, k2]
      · refine ⟨by rw [HR.out]; rfl, ?_⟩
        have hbx := HB.out
        subst hX
        exact ((hbx.setCell (by simp) _).setCell (by simp) _).setCell (by simp) _
    · have HR : Hid (stepP ws = zeroP) := by
        show _ = _
        unfold stepP
        rw [ha0, if_neg h23, if_neg (by omega)]
      have hm1' : ((m : Int) == 1) = false := by simp; omega
      generalize opF a = op at *
      generalize stepP ws = R at *
      clear hz ha ha0 hsz hg hlen h23 g2 g3 hm1
      go_enter Tryz.func192, Tryz.ntmps192
      go_upto_region 1 with fail
      have k0 : (w.alloc (.cells #[.int .i64 0, .complex .f64 0 0, .float .f64 0] 165)).cell? ⟨w.heap.size, 0, none⟩ = some (.int .i64 0) := by simp [go_sem]
      have kf0 : (w.alloc (.cells #[.int .i64 0, .complex .f64 0 0, .float .f64 0] 165)).frozen? ⟨w.heap.size, 0, none⟩ = false := by simp [go_sem]
      have k1 : (w.alloc (.cells #[.int .i64 0, .complex .f64 0 0, .float .f64 0] 165)).cell? ⟨w.heap.size, 1, none⟩ = some (.complex .f64 0 0) := by simp [go_sem]
      have kf1 : (w.alloc (.cells #[.int .i64 0, .complex .f64 0 0, .float .f64 0] 165)).frozen? ⟨w.heap.size, 1, none⟩ = false := by simp [go_sem]
      have k2 : (w.alloc (.cells #[.int .i64 0, .complex .f64 0 0, .float .f64 0] 165)).cell? ⟨w.heap.size, 2, none⟩ = some (.float .f64 0) := by simp [go_sem]
      have kf2 : (w.alloc (.cells #[.int .i64 0, .complex .f64 0 0, .float .f64 0] 165)).frozen? ⟨w.heap.size, 2, none⟩ = false := by simp [go_sem]
      have kz : w.heap.size < (w.alloc (.cells #[.int .i64 0, .complex .f64 0 0, .float .f64 0] 165)).heap.size := by simp
      have HB : Hid (Below w.heap.size w (w.alloc (.cells #[.int .i64 0, .complex .f64 0 0, .float .f64 0] 165))) := (Below.refl _ _).alloc (Nat.le_refl _) _
      generalize (w.alloc (.cells #[.int .i64 0, .complex .f64 0 0, .float .f64 0] 165)) = W1 at *
      replace h0 := (HB.out.cell (p := ⟨b, o, none⟩) hb0).trans h0
      go_wp2_with fail
      refine (HOP.out _).mono ?_
      rintro e w1 ⟨rfl, rfl⟩
      clear h0
      generalize hX : w.heap.size = X at *
      go_wp2
      refine bodyPost_ret (v := .agg #[.int .i64 0, .complex .f64 0 0, .float .f64 0]) ?_ rfl ?_
      · simp [results, Tryz.results192, go_sem, k0, k1, k2]
      · refine ⟨by rw [HR.out]; rfl, ?_⟩
        have hbx := HB.out
        subst hX
        exact ((hbx.setCell (by simp) _).setCell (by simp) _).setCell (by simp) _
end Go.Proofs.YtbookbgfipbaoaaGreatDoor.Zo

/- zone.Parse. -/
namespace Go.Proofs.YtbookbgfipbaoaaGreatDoor.Zo
open Go.RowKit

def zeroZ : Value := .agg #[.int .i64 0, .complex .f64 0 0, .float .f64 0]
theorem cellsZ_one (x : Stp) : ∀ u ∈ cellsZ x, u.oneCell' = true := by
  intro u hu
  simp only [cellsZ, List.mem_cons, List.not_mem_nil, or_false] at hu
  rcases hu with rfl | rfl | rfl <;> rfl
theorem rowZ : RowTy cellsZ 3 32 zeroZ 42 165 := ⟨Tryz.underlying42, by kernel_rfl, rfl, by omega, by omega, fun _ => rfl, cellsZ_one⟩
/-- What stands between the bytes of a kind. -/
def pieces (sep s : ByteArray) : List ByteArray := Lib.splitB sep 0 (Lib.countB s sep) s
theorem pieces_len (sep s : ByteArray) (h : 1 ≤ sep.size) : (pieces sep s).length = Lib.countB s sep + 1 := Lib.splitB_all sep h 0 _ s rfl
theorem split_size (sep : ByteArray) : ∀ (k : Nat) (s x : ByteArray), x ∈ Lib.splitB sep 0 k s → x.size ≤ s.size
  | 0, s, x, h => by
    rw [Lib.splitB_zero] at h
    rw [List.mem_singleton.mp h]
    exact Nat.le_refl _
  | k + 1, s, x, h => by
    unfold Lib.splitB at h
    split at h
    · rw [List.mem_singleton.mp h]
      exact Nat.le_refl _
    · rcases List.mem_cons.mp h with rfl | h
      · rw [ByteArray.size_extract]; omega
      · have := split_size sep k _ x h
        rw [ByteArray.size_extract] at this
        omega
theorem pieces_size {sep s x : ByteArray} (h : x ∈ pieces sep s) : x.size ≤ s.size := split_size sep _ s x h
theorem split_any (s sep : ByteArray) (w : World) (hg : Glob w) (hs : s.size < 4294967281) (h1 : 1 ≤ sep.size) :
    Calls Tryz.prog 191 #[.string s, .string sep] w fun e w' => e = .returned (.slice (some ⟨w.heap.size, 0, none⟩) (pieces sep s).length (pieces sep s).length) ∧ RowAt cellsS 1 w' w'.heap.size (some ⟨w.heap.size, 0, none⟩) (pieces sep s).length (pieces sep s) ∧ Below w.heap.size w w' := by
  obtain ⟨m, hm⟩ := hg.max
  refine (Tryz.strings_Split s sep m w hs hm h1).mono fun e w' h => ?_
  obtain ⟨rfl, rfl⟩ := h
  rw [pieces_len sep s h1]
  refine ⟨rfl, ⟨pieces_len sep s h1, fun _ => ⟨_, _, rfl, by simp, fun k hk j u hu => ?_⟩⟩, (Below.refl _ _).alloc (Nat.le_refl _) _⟩
  have hj : j = 0 := by
    have := (List.getElem?_eq_some_iff.mp hu).1
    simp only [cellsS, List.length_singleton] at this
    omega
  subst hj
  have hu' : u = .string (pieces sep s)[k] := by
    simp only [cellsS, List.getElem?_cons_zero, Option.some.injEq] at hu
    exact hu.symm
  have h3 := cell_of_row (w.alloc (.cells ((Lib.splitB sep 0 (Lib.countB s sep) s).map Value.string).toArray 9)) w.heap.size k _ _ _ (heap_alloc_new w _)
  rw [show 0 + k * 1 + 0 = k by omega, h3, hu']
  show (((pieces sep s).map Value.string).toArray)[k]? = _
  simp [hk]
def parseP (s : ByteArray) : List Stp := (pieces ⟨#[44]⟩ s).map fun p => stepP (pieces ⟨#[32]⟩ p)
def parseQ (s : ByteArray) : List RSt := (pieces ⟨#[44]⟩ s).map fun p => stepQ (pieces ⟨#[32]⟩ p)
theorem parse_like (s : ByteArray) : LikeL (parseP s) (parseQ s) := by
  refine ⟨by unfold parseP parseQ; rw [List.length_map, List.length_map], fun k z r hz hr => ?_⟩
  unfold parseP at hz
  unfold parseQ at hr
  rw [List.getElem?_map] at hz hr
  rcases h : (pieces ⟨#[44]⟩ s)[k]? with _ | p
  · rw [h] at hz; cases hz
  · rw [h] at hz hr
    simp only [Option.map_some, Option.some.injEq] at hz hr
    subst hz hr
    exact step_like _
def HalfP (s : ByteArray) (w : World) (k : Nat) (Av : Option Addr) (cv : Nat) (wr : World) : Prop := wr.ownsRow w.heap.size 165 3 (.slice Av k cv) k (rowCells cellsZ ((parseP s).take k)) ∧ Below w.heap.size w wr

end Go.Proofs.YtbookbgfipbaoaaGreatDoor.Zo

/- The document's Whole and Right of steps. -/
namespace Go.Proofs.YtbookbgfipbaoaaGreatDoor.Zo
open Go.RowKit

def cellsR (r : RSt) : List Value := [.int .i64 r.op, .int .i64 r.x, .int .i64 r.y, .int .i64 r.sz]
theorem cellsR_at {w : World} {b o : Nat} {z : RSt} (h : ∀ j u, (cellsR z)[j]? = some u → w.cell? ⟨b, o + j, none⟩ = some u) :
    w.cell? ⟨b, o, none⟩ = some (.int .i64 z.op) ∧ w.cell? ⟨b, o + 1, none⟩ = some (.int .i64 z.x) ∧ w.cell? ⟨b, o + 2, none⟩ = some (.int .i64 z.y) ∧ w.cell? ⟨b, o + 3, none⟩ = some (.int .i64 z.sz) :=
  ⟨h 0 _ rfl, h 1 _ rfl, h 2 _ rfl, h 3 _ rfl⟩
set_option maxRecDepth 100000 in
set_option maxHeartbeats 1000000 in
theorem near_any (x n : Int) (h0 : 0 ≤ n) (hn : n ≤ 2000000) (w : World) : Calls Tryz.prog 107 #[.int .i64 x, .int .i64 n] w fun e w' => e = .returned (.bool (withinF x (-n) n)) ∧ w = w' := by
  have hneg : (0 : Int) - n = -n := by omega
  have HF : Hid (withinF x (-n) n = (decide (-n ≤ x) && decide (x ≤ n))) := rfl
  by_cases h1 : -n ≤ x
  · have HF' : Hid (withinF x (-n) n = decide (x ≤ n)) := by show _ = _; rw [HF.out]; simp [h1]
    go_enter Tryz.func107, Tryz.ntmps107
    go_wp2
    go_ret
    exact ⟨ret_bool HF'.out.symm, rfl⟩
  · have HF' : Hid (withinF x (-n) n = false) := by show _ = _; rw [HF.out]; simp [h1]
    go_enter Tryz.func107, Tryz.ntmps107
    go_wp2
    go_ret
    exact ⟨ret_bool HF'.out.symm, rfl⟩
set_option maxRecDepth 100000 in
set_option maxHeartbeats 1000000 in
theorem rwhole_any (x y : Int) (w : World) : Calls Tryz.prog 106 #[.agg #[.int .i64 x, .int .i64 y]] w fun e w' => e = .returned (.bool (wholeF x y)) ∧ Below w.heap.size w w' := by
  have H1 := Lib.hid (near_any x 1000 (by omega) (by omega))
  have H2 := Lib.hid (near_any y 1000 (by omega) (by omega))
  have HF : Hid (wholeF x y = (withinF x (-1000) 1000 && withinF y (-1000) 1000)) := rfl
  generalize withinF x (-1000) 1000 = b1 at *
  generalize withinF y (-1000) 1000 = b2 at *
  go_enter Tryz.func106, Tryz.ntmps106
  go_wp2_with fail
  refine (H1.out _).mono ?_
  rintro e w1 ⟨rfl, rfl⟩
  cases b1
  · go_wp2
    go_ret
    exact ⟨ret_bool (by rw [HF.out]; rfl), (Below.refl _ _).alloc (Nat.le_refl _) _⟩
  · go_wp2_with fail
    refine (H2.out _).mono ?_
    rintro e w1 ⟨rfl, rfl⟩
    go_wp2
    go_ret
    exact ⟨ret_bool (by rw [HF.out]; rfl), (Below.refl _ _).alloc (Nat.le_refl _) _⟩

set_option maxRecDepth 100000 in
set_option maxHeartbeats 8000000 in
theorem rright_any (A : Option Addr) (n c : Nat) (rs : List RSt) (B : Nat) (w : World) (hB : B ≤ w.heap.size) (hz : RowAt cellsR 4 w B A n rs) (hn63 : n ≤ 9223372036854775807) :
    Calls Tryz.prog 35 #[.slice A n c] w fun e w' => e = .returned (.bool (rightZ rs)) ∧ Below w.heap.size w w' := by
  have HN : Hid (rs.length = n) := hz.1
  have HZ := Lib.hid hz
  clear hz
  by_cases h1 : n < 1
  · have HF : Hid (rightZ rs = false) := by
      show _ = _
      rw [List.eq_nil_of_length_eq_zero (show rs.length = 0 by have := HN.out; omega)]
      rfl
    have h1' : (n : Int) < 1 := by omega
    clear h1
    go_enter Tryz.func35, Tryz.ntmps35
    go_wp2
    go_ret
    exact ⟨ret_bool HF.out.symm, Below.refl _ _⟩
  have h1' : ¬ (n : Int) < 1 := by omega
  by_cases h32 : 32 < n
  · have HF : Hid (rightZ rs = false) := right_long' (by rw [HN.out]; exact h32)
    have h32' : (32 : Int) < n := by omega
    clear h32 h1
    go_enter Tryz.func35, Tryz.ntmps35
    go_wp2
    go_ret
    exact ⟨ret_bool HF.out.symm, Below.refl _ _⟩
  have h32' : ¬ (32 : Int) < n := by omega
  have hn : n ≤ 32 := by omega
  clear h32 h1
  go_enter Tryz.func35, Tryz.ntmps35
  go_wp2
  go_loopw [3, 4] (fun tr i wr => ∃ (k : Nat) (t : Int), k ≤ n ∧ i = .int .i64 k ∧ tr = .int .i64 t ∧ 0 ≤ t ∧ t ≤ k ∧ Hid (foldR 0 (rs.take k) = some t) ∧ Hid (Below w.heap.size w wr)) (fun _ i _ => n - (intOf i).toNat)
  case atStart => exact ⟨0, 0, by omega, rfl, rfl, by omega, by omega, rfl, Below.refl _ _⟩
  case round =>
    obtain ⟨k, t, hk, rfl, rfl, ht0, htk, HF, HB⟩ := hrel
    by_cases hlt : k < n
    · obtain ⟨blk, off, rfl, hbB, r, hrk, hcell⟩ := HZ.out.get hlt
      obtain ⟨e0, e1, e2, e3⟩ := cellsR_at hcell
      replace e0 := ((HB.out.mono hB).cell (p := ⟨blk, off + k * 4, none⟩) hbB).trans e0
      replace e1 := ((HB.out.mono hB).cell (p := ⟨blk, off + k * 4 + 1, none⟩) hbB).trans e1
      replace e2 := ((HB.out.mono hB).cell (p := ⟨blk, off + k * 4 + 2, none⟩) hbB).trans e2
      replace e3 := ((HB.out.mono hB).cell (p := ⟨blk, off + k * 4 + 3, none⟩) hbB).trans e3
      have hi1 : (k : Int) < n := by omega
      have HS := Lib.hid (foldR_snoc HF.out hrk)
      have HNO : Hid (stepR t r = none → rightZ rs = false) := fun h => right_none (foldR_none (by rw [HS.out]; exact h))
      have HYES : Hid (∀ u, stepR t r = some u → foldR 0 (rs.take (k + 1)) = some u) := fun u h => by rw [HS.out]; exact h
      obtain ⟨op, x, y, z⟩ := r
      simp only at e0 e1 e2 e3
      have HW := Lib.hid (rwhole_any x y)
      clear hcell hrk HS
      go_upto_region 8 with fail
      have k0 : (wr.alloc (.cells #[.int .i64 op, .int .i64 x, .int .i64 y, .int .i64 z] 77)).cell? ⟨wr.heap.size, 0, none⟩ = some (.int .i64 op) := by simp [go_sem]
      have k1 : (wr.alloc (.cells #[.int .i64 op, .int .i64 x, .int .i64 y, .int .i64 z] 77)).cell? ⟨wr.heap.size, 1, none⟩ = some (.int .i64 x) := by simp [go_sem]
      have k2 : (wr.alloc (.cells #[.int .i64 op, .int .i64 x, .int .i64 y, .int .i64 z] 77)).cell? ⟨wr.heap.size, 2, none⟩ = some (.int .i64 y) := by simp [go_sem]
      have k3 : (wr.alloc (.cells #[.int .i64 op, .int .i64 x, .int .i64 y, .int .i64 z] 77)).cell? ⟨wr.heap.size, 3, none⟩ = some (.int .i64 z) := by simp [go_sem]
      have kz : wr.heap.size < (wr.alloc (.cells #[.int .i64 op, .int .i64 x, .int .i64 y, .int .i64 z] 77)).heap.size := by simp
      replace HB : Hid (Below w.heap.size w (wr.alloc (.cells #[.int .i64 op, .int .i64 x, .int .i64 y, .int .i64 z] 77))) := HB.out.alloc HB.out.size _
      clear e0 e1 e2 e3
      generalize (wr.alloc (.cells #[.int .i64 op, .int .i64 x, .int .i64 y, .int .i64 z] 77)) = W1 at *
      generalize wr.heap.size = X at *
      by_cases h2 : op = 2
      · subst h2
        have hfit : fitsR ⟨2, x, y, z⟩ = (wholeF x y && withinF z 0 2000) := rfl
        have htk0 : takesF 2 = 0 := rfl
        generalize hwf : wholeF x y = c1 at *
        go_wp2_with fail
        refine (HW.out _).mono ?_
        rintro e w1 ⟨rfl, hb⟩
        replace k0 := (hb.cell (p := ⟨X, 0, none⟩) kz).trans k0
        replace k1 := (hb.cell (p := ⟨X, 1, none⟩) kz).trans k1
        replace k2 := (hb.cell (p := ⟨X, 2, none⟩) kz).trans k2
        replace k3 := (hb.cell (p := ⟨X, 3, none⟩) kz).trans k3
        replace HB := Lib.hid (HB.out.trans (hb.mono HB.out.size))
        clear hb kz
        cases c1
        · skip
          have HR : Hid (rightZ rs = false) := HNO.out (by unfold stepR; rw [if_neg (fun h => by rw [hfit] at h; simp at h)])
          go_wp2
          go_ret
          exact ⟨ret_bool HR.out.symm, HB.out⟩
        · by_cases hz0 : z < 0
          · skip
            have HR : Hid (rightZ rs = false) := HNO.out (by unfold stepR; rw [if_neg (fun h => by rw [hfit] at h; simp [withinF] at h; omega)])
            go_wp2
            go_ret
            exact ⟨ret_bool HR.out.symm, HB.out⟩
          · by_cases hz1 : 2000 < z
            · skip
              have HR : Hid (rightZ rs = false) := HNO.out (by unfold stepR; rw [if_neg (fun h => by rw [hfit] at h; simp [withinF] at h; omega)])
              go_wp2
              go_ret
              exact ⟨ret_bool HR.out.symm, HB.out⟩
            · skip
              have HR : Hid (foldR 0 (rs.take (k + 1)) = some (t + 1)) := HYES.out _ (by unfold stepR; rw [if_pos ⟨by rw [hfit]; simp [withinF]; omega, by rw [htk0]; omega⟩]; rfl)
              clear HNO HYES
              go_wp2
              go_roundw
              case rel => exact ⟨k + 1, t + 1, by omega, by go_num, by go_num, by omega, by omega, HR, HB⟩
              case measure => simp [intOf]; omega
      by_cases h3 : op = 3
      · subst h3
        clear h2
        have hfit : fitsR ⟨3, x, y, z⟩ = (wholeF x y && withinF z (-2000000) 2000000) := rfl
        have htk0 : takesF 3 = 0 := rfl
        have HNR := Lib.hid (near_any z 2000000 (by omega) (by omega))
        generalize hwf : wholeF x y = c1 at *
        generalize hws : withinF z (-2000000) 2000000 = c2 at *
        go_wp2_with fail
        refine (HW.out _).mono ?_
        rintro e w1 ⟨rfl, hb⟩
        replace k0 := (hb.cell (p := ⟨X, 0, none⟩) kz).trans k0
        replace k1 := (hb.cell (p := ⟨X, 1, none⟩) kz).trans k1
        replace k2 := (hb.cell (p := ⟨X, 2, none⟩) kz).trans k2
        replace k3 := (hb.cell (p := ⟨X, 3, none⟩) kz).trans k3
        replace HB := Lib.hid (HB.out.trans (hb.mono HB.out.size))
        clear hb kz
        cases c1
        · skip
          have HR : Hid (rightZ rs = false) := HNO.out (by unfold stepR; rw [if_neg (fun h => by rw [hfit] at h; simp at h)])
          go_wp2
          go_ret
          exact ⟨ret_bool HR.out.symm, HB.out⟩
        · go_wp2_with fail
          refine (HNR.out _).mono ?_
          rintro e w2 ⟨rfl, rfl⟩
          cases c2
          · skip
            have HR : Hid (rightZ rs = false) := HNO.out (by unfold stepR; rw [if_neg (fun h => by rw [hfit] at h; simp at h)])
            go_wp2
            go_ret
            exact ⟨ret_bool HR.out.symm, HB.out⟩
          · skip
            have HR : Hid (foldR 0 (rs.take (k + 1)) = some (t + 1)) := HYES.out _ (by unfold stepR; rw [if_pos ⟨by rw [hfit]; rfl, by rw [htk0]; omega⟩]; rfl)
            clear HNO HYES
            go_wp2
            go_roundw
            case rel => exact ⟨k + 1, t + 1, by omega, by go_num, by go_num, by omega, by omega, HR, HB⟩
            case measure => simp [intOf]; omega
      by_cases h1 : op = 1
      · subst h1
        have hfit : fitsR ⟨1, x, y, z⟩ = (decide (x = 0) && decide (y = 0) && decide (z = 0)) := rfl
        have htk0 : takesF 1 = 0 := rfl
        clear HW
        by_cases hx : x = 0
        · by_cases hy : y = 0
          · by_cases hzz : z = 0
            · subst hx hy hzz
              have HR : Hid (foldR 0 (rs.take (k + 1)) = some (t + 1)) := HYES.out _ (by unfold stepR; rw [if_pos ⟨by rw [hfit]; rfl, by rw [htk0]; omega⟩]; rfl)
              clear HNO HYES
              go_wp2
              go_roundw
              case rel => exact ⟨k + 1, t + 1, by omega, by go_num, by go_num, by omega, by omega, HR, HB⟩
              case measure => simp [intOf]; omega
            · have hzb : (z != 0) = true := by simpa using hzz
              subst hx hy
              have HR : Hid (rightZ rs = false) := HNO.out (by unfold stepR; rw [if_neg (fun h => by rw [hfit] at h; simp [hzz] at h)])
              go_wp2
              go_ret
              exact ⟨ret_bool HR.out.symm, HB.out⟩
          · have hyb : (y != 0) = true := by simpa using hy
            subst hx
            have HR : Hid (rightZ rs = false) := HNO.out (by unfold stepR; rw [if_neg (fun h => by rw [hfit] at h; simp [hy] at h)])
            go_wp2
            go_ret
            exact ⟨ret_bool HR.out.symm, HB.out⟩
        · have hxb : (x != 0) = true := by simpa using hx
          have HR : Hid (rightZ rs = false) := HNO.out (by unfold stepR; rw [if_neg (fun h => by rw [hfit] at h; simp [hx] at h)])
          go_wp2
          go_ret
          exact ⟨ret_bool HR.out.symm, HB.out⟩
      by_cases h4 : op = 4
      · subst h4
        have hfit : fitsR ⟨4, x, y, z⟩ = (decide (x = 0) && decide (y = 0) && decide (z = 0)) := rfl
        have htk0 : takesF 4 = 1 := rfl
        clear HW
        by_cases hx : x = 0
        · by_cases hy : y = 0
          · by_cases hzz : z = 0
            · subst hx hy hzz
              by_cases htt : t < 1
              · skip
                have HR : Hid (rightZ rs = false) := HNO.out (by unfold stepR; rw [if_neg (fun h => by rw [htk0] at h; omega)])
                go_wp2
                go_ret
                exact ⟨ret_bool HR.out.symm, HB.out⟩
              · skip
                have HR : Hid (foldR 0 (rs.take (k + 1)) = some (t)) := HYES.out _ (by unfold stepR; rw [if_pos ⟨by rw [hfit]; rfl, by rw [htk0]; omega⟩]; exact congrArg some (show t + (1 - 1) = _ by omega))
                clear HNO HYES
                go_wp2
                go_roundw
                case rel => exact ⟨k + 1, t, by omega, by go_num, by go_num, by omega, by omega, HR, HB⟩
                case measure => simp [intOf]; omega
            · have hzb : (z != 0) = true := by simpa using hzz
              subst hx hy
              have HR : Hid (rightZ rs = false) := HNO.out (by unfold stepR; rw [if_neg (fun h => by rw [hfit] at h; simp [hzz] at h)])
              go_wp2
              go_ret
              exact ⟨ret_bool HR.out.symm, HB.out⟩
          · have hyb : (y != 0) = true := by simpa using hy
            subst hx
            have HR : Hid (rightZ rs = false) := HNO.out (by unfold stepR; rw [if_neg (fun h => by rw [hfit] at h; simp [hy] at h)])
            go_wp2
            go_ret
            exact ⟨ret_bool HR.out.symm, HB.out⟩
        · have hxb : (x != 0) = true := by simpa using hx
          have HR : Hid (rightZ rs = false) := HNO.out (by unfold stepR; rw [if_neg (fun h => by rw [hfit] at h; simp [hx] at h)])
          go_wp2
          go_ret
          exact ⟨ret_bool HR.out.symm, HB.out⟩
      by_cases h5 : op = 5
      · subst h5
        have hfit : fitsR ⟨5, x, y, z⟩ = (decide (x = 0) && decide (y = 0) && decide (z = 0)) := rfl
        have htk0 : takesF 5 = 2 := rfl
        clear HW
        by_cases hx : x = 0
        · by_cases hy : y = 0
          · by_cases hzz : z = 0
            · subst hx hy hzz
              by_cases htt : t < 2
              · skip
                have HR : Hid (rightZ rs = false) := HNO.out (by unfold stepR; rw [if_neg (fun h => by rw [htk0] at h; omega)])
                go_wp2
                go_ret
                exact ⟨ret_bool HR.out.symm, HB.out⟩
              · skip
                have HR : Hid (foldR 0 (rs.take (k + 1)) = some (t - 1)) := HYES.out _ (by unfold stepR; rw [if_pos ⟨by rw [hfit]; rfl, by rw [htk0]; omega⟩]; exact congrArg some (show t + (1 - 2) = _ by omega))
                clear HNO HYES
                go_wp2
                go_roundw
                case rel => exact ⟨k + 1, t - 1, by omega, by go_num, by go_num, by omega, by omega, HR, HB⟩
                case measure => simp [intOf]; omega
            · have hzb : (z != 0) = true := by simpa using hzz
              subst hx hy
              have HR : Hid (rightZ rs = false) := HNO.out (by unfold stepR; rw [if_neg (fun h => by rw [hfit] at h; simp [hzz] at h)])
              go_wp2
              go_ret
              exact ⟨ret_bool HR.out.symm, HB.out⟩
          · have hyb : (y != 0) = true := by simpa using hy
            subst hx
            have HR : Hid (rightZ rs = false) := HNO.out (by unfold stepR; rw [if_neg (fun h => by rw [hfit] at h; simp [hy] at h)])
            go_wp2
            go_ret
            exact ⟨ret_bool HR.out.symm, HB.out⟩
        · have hxb : (x != 0) = true := by simpa using hx
          have HR : Hid (rightZ rs = false) := HNO.out (by unfold stepR; rw [if_neg (fun h => by rw [hfit] at h; simp [hx] at h)])
          go_wp2
          go_ret
          exact ⟨ret_bool HR.out.symm, HB.out⟩
      by_cases h6 : op = 6
      · subst h6
        have hfit : fitsR ⟨6, x, y, z⟩ = (decide (x = 0) && decide (y = 0) && decide (z = 0)) := rfl
        have htk0 : takesF 6 = 2 := rfl
        clear HW
        by_cases hx : x = 0
        · by_cases hy : y = 0
          · by_cases hzz : z = 0
            · subst hx hy hzz
              by_cases htt : t < 2
              · skip
                have HR : Hid (rightZ rs = false) := HNO.out (by unfold stepR; rw [if_neg (fun h => by rw [htk0] at h; omega)])
                go_wp2
                go_ret
                exact ⟨ret_bool HR.out.symm, HB.out⟩
              · skip
                have HR : Hid (foldR 0 (rs.take (k + 1)) = some (t - 1)) := HYES.out _ (by unfold stepR; rw [if_pos ⟨by rw [hfit]; rfl, by rw [htk0]; omega⟩]; exact congrArg some (show t + (1 - 2) = _ by omega))
                clear HNO HYES
                go_wp2
                go_roundw
                case rel => exact ⟨k + 1, t - 1, by omega, by go_num, by go_num, by omega, by omega, HR, HB⟩
                case measure => simp [intOf]; omega
            · have hzb : (z != 0) = true := by simpa using hzz
              subst hx hy
              have HR : Hid (rightZ rs = false) := HNO.out (by unfold stepR; rw [if_neg (fun h => by rw [hfit] at h; simp [hzz] at h)])
              go_wp2
              go_ret
              exact ⟨ret_bool HR.out.symm, HB.out⟩
          · have hyb : (y != 0) = true := by simpa using hy
            subst hx
            have HR : Hid (rightZ rs = false) := HNO.out (by unfold stepR; rw [if_neg (fun h => by rw [hfit] at h; simp [hy] at h)])
            go_wp2
            go_ret
            exact ⟨ret_bool HR.out.symm, HB.out⟩
        · have hxb : (x != 0) = true := by simpa using hx
          have HR : Hid (rightZ rs = false) := HNO.out (by unfold stepR; rw [if_neg (fun h => by rw [hfit] at h; simp [hx] at h)])
          go_wp2
          go_ret
          exact ⟨ret_bool HR.out.symm, HB.out⟩
      have hfit : fitsR ⟨op, x, y, z⟩ = false := by
        unfold fitsR
        simp only
        rw [if_neg h2, if_neg h3, if_neg (by omega)]
      have HR : Hid (rightZ rs = false) := HNO.out (by unfold stepR; rw [if_neg (fun h => by rw [hfit] at h; cases h.1)])
      clear HW hfit
      go_wp2
      go_ret
      exact ⟨ret_bool HR.out.symm, HB.out⟩
    · obtain rfl : k = n := by omega
      have HR : Hid (rightZ rs = decide (t = 1)) := right_some (by have := HN.out; omega) (by rw [← HF.out, List.take_of_length_le (by have := HN.out; omega)])
      go_wp2
      go_ret
      exact ⟨ret_bool HR.out.symm, HB.out⟩
end Go.Proofs.YtbookbgfipbaoaaGreatDoor.Zo
