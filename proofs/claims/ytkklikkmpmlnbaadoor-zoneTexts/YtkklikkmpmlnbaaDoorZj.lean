/- zone.Everywhere; the law's own little check 'told'. -/
import Derived.Test.YtkklikkmpmlnbaaDoorZi
namespace Go.Proofs.YtkklikkmpmlnbaaDoor
open Go.RowKit

def allQ : List RSt := [⟨1, 0, 0, 0⟩]
/-- Everywhere's answer. -/
def EvRet (w : World) (e : Ending) (w' : World) : Prop := ∃ A zs, e = .returned (.slice A 1 1) ∧ RowAt cellsZ 3 w' w'.heap.size A 1 zs ∧ LikeL zs allQ ∧ Below w.heap.size w w'
set_option maxRecDepth 100000 in
set_option maxHeartbeats 1000000 in
theorem everywhere_any (w : World) : Calls Tryd.prog 28 #[] w (EvRet w) := by
  have HL : Hid (LikeL [⟨1, 0, 0, 0⟩] allQ) := ⟨rfl, fun k z r hz hr => by
    cases k with
    | zero =>
      simp only [allQ, List.getElem?_cons_zero, Option.some.injEq] at hz hr
      subst hz hr
      exact ⟨rfl, numB_zero, numB_zero, numB_zero⟩
    | succ k => simp at hz⟩
  have HR : Hid (RowAt cellsZ 3 (w.alloc (.cells #[.int .i64 1, .complex .f64 0 0, .float .f64 0] 54)) (w.heap.size + 1) (some ⟨w.heap.size, 0, none⟩) 1 [⟨1, 0, 0, 0⟩]) := one_row rowZ (heap_alloc_new w _)
  go_enter Tryd.func28, Tryd.ntmps28
  go_wp2
  go_ret
  exact ⟨_, _, rfl, HR.out.more (by simp), HL.out, (Below.refl _ _).alloc (Nat.le_refl _) _⟩

theorem itoa_digit (d : Nat) (h : d < 10) : itoaB (d : Int) = ⟨#[UInt8.ofNat (48 + d)]⟩ := by
  unfold itoaB Lib.itoa
  rw [if_neg (by omega), Int.toNat_natCast, Lib.decDigits_one h]
theorem numF_digit (d : Nat) (h : d < 10) (ha : Lib.atoiAll [UInt8.ofNat (48 + d)] = .ok (d : Int)) : numF ⟨#[UInt8.ofNat (48 + d)]⟩ = some (d : Int) := by
  unfold numF
  rw [show (ByteArray.mk #[UInt8.ofNat (48 + d)]).data.toList = [UInt8.ofNat (48 + d)] from rfl, ha]
  simp only
  rw [itoa_digit d h, if_pos ((eqW_iff _ _).mpr rfl)]
theorem numF0 : numF ⟨#[48]⟩ = some 0 := numF_digit 0 (by omega) (by rfl)
theorem numF1 : numF ⟨#[49]⟩ = some 1 := numF_digit 1 (by omega) (by rfl)
theorem numF3 : numF ⟨#[51]⟩ = some 3 := numF_digit 3 (by omega) (by rfl)
theorem numF5 : numF ⟨#[53]⟩ = some 5 := numF_digit 5 (by omega) (by rfl)
def toldT : ByteArray := ⟨#[100, 105, 115, 99, 32, 48, 32, 48, 32, 53, 44, 104, 97, 108, 102, 32, 49, 32, 48, 32, 51, 44, 97, 110, 100]⟩
def toldQ : List RSt := [⟨2, 0, 0, 5⟩, ⟨3, 1, 0, 3⟩, ⟨5, 0, 0, 0⟩]
theorem told_pieces : pieces ⟨#[44]⟩ toldT = [⟨#[100, 105, 115, 99, 32, 48, 32, 48, 32, 53]⟩, ⟨#[104, 97, 108, 102, 32, 49, 32, 48, 32, 51]⟩, ⟨#[97, 110, 100]⟩] := by kernel_rfl
theorem told_w1 : pieces ⟨#[32]⟩ ⟨#[100, 105, 115, 99, 32, 48, 32, 48, 32, 53]⟩ = [⟨#[100, 105, 115, 99]⟩, ⟨#[48]⟩, ⟨#[48]⟩, ⟨#[53]⟩] := by kernel_rfl
theorem told_w2 : pieces ⟨#[32]⟩ ⟨#[104, 97, 108, 102, 32, 49, 32, 48, 32, 51]⟩ = [⟨#[104, 97, 108, 102]⟩, ⟨#[49]⟩, ⟨#[48]⟩, ⟨#[51]⟩] := by kernel_rfl
theorem told_w3 : pieces ⟨#[32]⟩ ⟨#[97, 110, 100]⟩ = [⟨#[97, 110, 100]⟩] := by kernel_rfl
theorem op_disc : opF ⟨#[100, 105, 115, 99]⟩ = 2 := by kernel_rfl
theorem op_half : opF ⟨#[104, 97, 108, 102]⟩ = 3 := by kernel_rfl
theorem op_and : opF ⟨#[97, 110, 100]⟩ = 5 := by kernel_rfl
theorem told_q : parseQ toldT = toldQ := by
  unfold parseQ
  rw [told_pieces]
  simp only [List.map_cons, List.map_nil]
  rw [told_w1, told_w2, told_w3]
  unfold stepQ toldQ
  simp only [List.getD_cons_zero, List.getD_cons_succ, op_disc, op_half, op_and, List.length_cons, List.length_nil, Nat.zero_add]
  simp only [numbersQ, numF0, numF1, numF3, numF5]
  decide
theorem told_right : rightZ toldQ = true := by decide
theorem told_text : textF toldQ = toldT := by
  unfold textF
  rw [told_right]
  simp only [if_true, toldQ, List.map_cons, List.map_nil]
  have s1 : stepTextF ⟨2, 0, 0, 5⟩ = ⟨#[100, 105, 115, 99, 32, 48, 32, 48, 32, 53]⟩ := by
    unfold stepTextF
    rw [show itoaB 0 = ⟨#[48]⟩ from itoa_digit 0 (by omega), show itoaB 5 = ⟨#[53]⟩ from itoa_digit 5 (by omega)]
    kernel_rfl
  have s2 : stepTextF ⟨3, 1, 0, 3⟩ = ⟨#[104, 97, 108, 102, 32, 49, 32, 48, 32, 51]⟩ := by
    unfold stepTextF
    rw [show itoaB 0 = ⟨#[48]⟩ from itoa_digit 0 (by omega), show itoaB 1 = ⟨#[49]⟩ from itoa_digit 1 (by omega), show itoaB 3 = ⟨#[51]⟩ from itoa_digit 3 (by omega)]
    kernel_rfl
  have s3 : stepTextF ⟨5, 0, 0, 0⟩ = ⟨#[97, 110, 100]⟩ := by kernel_rfl
  rw [s1, s2, s3]
  have e : Lib.join ([(⟨#[100, 105, 115, 99, 32, 48, 32, 48, 32, 53]⟩ : ByteArray), ⟨#[104, 97, 108, 102, 32, 49, 32, 48, 32, 51]⟩, ⟨#[97, 110, 100]⟩].map (·.data.toList)) [44] = toldT.data.toList := by decide
  simp only [List.map_cons, List.map_nil] at e
  rw [e]

set_option maxRecDepth 100000 in
set_option maxHeartbeats 4000000 in
theorem told_any (w : World) (hg : Glob w) : Calls Tryd.prog 11 #[] w fun e w' => e = .returned (.bool true) ∧ Below w.heap.size w w' := by
  have HP := Lib.hid (parse_any toldT w hg (by decide))
  have HG := Lib.hid hg
  have n3 := num_of (show fl 3 = 4613937818241073152 by decide) (by decide)
  have n4 := num_of (show fl 4 = 4616189618054758400 by decide) (by decide)
  have n2 := num_of (show fl 2 = 4611686018427387904 by decide) (by decide)
  have N0 := Lib.hid n2
  have N3 := Lib.hid n3
  have N4 := Lib.hid n4
  unfold ParseRet at HP
  rw [told_q, told_right] at HP
  unfold toldT at HP
  clear hg n3 n4 n2
  go_enter Tryd.func11, Tryd.ntmps11
  go_wp2_with fail
  refine HP.out.mono ?_
  rintro e w1 ⟨A, n, c, zs, rfl, hr, hl, hb⟩
  have HR := Lib.hid hr
  have HL : Hid (LikeL zs toldQ) := hl
  have HB := Lib.hid hb
  clear hr hl hb HP
  have C1 := Lib.hid (has_any A n c zs toldQ 4613937818241073152 4616189618054758400 3 4 N3.out N4.out (by decide) (by decide) w1.heap.size w1 (Nat.le_refl _) HR.out HL.out)
  rw [show hasZ toldQ 3 4 = true by decide] at C1
  go_wp2_with fail
  refine C1.out.mono ?_
  rintro e w2 ⟨rfl, hb⟩
  replace HR := Lib.hid ((HR.out.keep hb).more hb.size)
  replace HB := Lib.hid (HB.out.trans (hb.mono HB.out.size))
  clear hb C1
  have C1 := Lib.hid (has_any A n c zs toldQ 4616189618054758400 4616189618054758400 4 4 N4.out N4.out (by decide) (by decide) w2.heap.size w2 (Nat.le_refl _) HR.out HL.out)
  rw [show hasZ toldQ 4 4 = false by decide] at C1
  go_wp2_with fail
  refine C1.out.mono ?_
  rintro e w3 ⟨rfl, hb⟩
  replace HR := Lib.hid ((HR.out.keep hb).more hb.size)
  replace HB := Lib.hid (HB.out.trans (hb.mono HB.out.size))
  clear hb C1
  have C1 := Lib.hid (has_any A n c zs toldQ 4611686018427387904 0 2 0 N0.out num_zero (by decide) (by decide) w3.heap.size w3 (Nat.le_refl _) HR.out HL.out)
  rw [show hasZ toldQ 2 0 = false by decide] at C1
  go_wp2_with fail
  refine C1.out.mono ?_
  rintro e w4 ⟨rfl, hb⟩
  replace HR := Lib.hid ((HR.out.keep hb).more hb.size)
  replace HB := Lib.hid (HB.out.trans (hb.mono HB.out.size))
  clear hb C1
  go_wp2_with fail
  refine (everywhere_any _).mono ?_
  rintro e w5 ⟨A5, zs5, rfl, hr5, hl5, hb⟩
  replace HR := Lib.hid ((HR.out.keep hb).more hb.size)
  replace HB := Lib.hid (HB.out.trans (hb.mono HB.out.size))
  have HR5 := Lib.hid hr5
  have HL5 := Lib.hid hl5
  clear hb hr5 hl5
  have C1 := Lib.hid (has_any A5 1 1 zs5 allQ 13875379345695965184 4652007308841189376 (-1000) 1000 num_lo num_hi (by decide) (by decide) w5.heap.size w5 (Nat.le_refl _) HR5.out HL5.out)
  rw [show hasZ allQ (-1000) 1000 = true by decide] at C1
  go_wp2_with fail
  refine C1.out.mono ?_
  rintro e w6 ⟨rfl, hb⟩
  replace HR := Lib.hid ((HR.out.keep hb).more hb.size)
  replace HB := Lib.hid (HB.out.trans (hb.mono HB.out.size))
  clear hb C1 HR5 HL5
  have C1 := Lib.hid (text_any A n c zs toldQ w6.heap.size w6 (Nat.le_refl _) HR.out HL.out (HG.out.below HB.out))
  rw [told_text] at C1
  unfold toldT at C1
  go_wp2_with fail
  refine C1.out.mono ?_
  rintro e w7 ⟨rfl, hb⟩
  replace HB := Lib.hid (HB.out.trans (hb.mono HB.out.size))
  clear hb C1
  go_wp2
  go_ret
  exact ⟨rfl, HB.out⟩
end Go.Proofs.YtkklikkmpmlnbaaDoor
