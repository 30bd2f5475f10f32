/- The law's own little check of layer 6: 'told'. -/
import Derived.Test.YtekoedjadkglcaaBe
namespace Go.Proofs.Ytekoedjadkglcaa
open Go.RowKit

theorem digits_300 : digitsF 300 = [172, 2] := by
  rw [digitsF_big (by decide), digitsF_small (by decide)]; rfl
theorem digits_2 : digitsF 2 = [2] := by rw [digitsF_small (by decide)]; rfl

set_option maxRecDepth 100000 in
set_option maxHeartbeats 2000000 in
theorem told_any (w : World) : Calls Try.prog 10 #[] w fun e w' => e = .returned (.bool true) ∧ Below w.heap.size w w' := by
  go_enter Try.func10, Try.ntmps10
  go_wp2_with fail
  refine (put_any none 0 0 [] 300 _ (BytesAt.nil _ _ _) (by simp) (by omega)).mono ?_
  rw [show (300 : Int).toNat = 300 from rfl, digits_300]
  rintro e w1 ⟨A1, c1, rfl, hown1, hb1⟩
  obtain ⟨g1, hz1, _, _, _⟩ := own_bytes hown1
  have HZ1 := Lib.hid hz1
  have HB1 := Lib.hid hb1
  clear hown1 hz1 hb1
  go_wp2_with fail
  refine (putText_any A1 c1 g1 _ ⟨#[97, 98]⟩ _ HZ1.out (by simp) (by decide)).mono ?_
  rw [show (ByteArray.mk #[97, 98]).size = 2 from rfl, digits_2]
  rintro e w2 ⟨A2, c2, rfl, hown2, hb2⟩
  obtain ⟨g2, hz2, _, _, _⟩ := own_bytes hown2
  have HZ2 := Lib.hid hz2
  have HB2 : Hid (Below w.heap.size w w2) := HB1.out.trans (hb2.mono HB1.out.size)
  clear hown2 hz2 hb2 HB1 HZ1
  go_wp2_with fail
  refine (read_any A2 c2 g2 _ _ HZ2.out (by simp)).mono ?_
  rintro e w3 ⟨R, g, rfl, hR, hlR, hlg, hb3⟩
  have HZ3 := Lib.hid (HZ2.out.keep hb3)
  have HB3 : Hid (Below w.heap.size w w3) := HB2.out.trans (hb3.mono HB2.out.size)
  have HR3 := Lib.hid hR
  have hRw : w.heap.size ≤ R := Nat.le_trans HB2.out.size hlR
  clear hR hlR hlg hb3 HB2 HZ2
  have htx : (convert 22 9 (.slice A2 5 c2)).run Try.prog w3 = .ok (.string ⟨#[172, 2, 2, 97, 98]⟩) w3 := run_text c2 HZ3.out
  go_wp2_with fail
  refine (num_any 300 _ HR3.out).mono ?_
  rw [show numF (([] ++ [172, 2] ++ ([2] ++ [97, 98]) : List UInt8), 0) 300 = (300, ([2, 97, 98], 0)) by decide]
  rintro e w4 ⟨rfl, hR, hg, _⟩
  have HB4 : Hid (Below w.heap.size w w4) := HB3.out.grown hg HB3.out.size (fun k e => by injection e with e; omega)
  have HR4 := Lib.hid hR
  clear hR hg HR3 HB3 htx HZ3
  go_wp2_with fail
  refine (text_any 2 _ HR4.out).mono ?_
  rw [show textF (([2, 97, 98] : List UInt8), 0) 2 = ([97, 98], ([], 0)) by decide]
  rintro e w5 ⟨rfl, hR, hg, _⟩
  have HB5 : Hid (Below w.heap.size w w5) := HB4.out.grown hg HB4.out.size (fun k e => by injection e with e; omega)
  have HR5 := Lib.hid hR
  clear hR hg HR4 HB4
  go_wp2_with fail
  refine (end_any _ HR5.out).mono ?_
  rintro e w6 ⟨rfl, rfl⟩
  rw [show ((endF (([] : List UInt8), 0) : Nat) : Int) = 0 from rfl]
  go_wp2
  go_ret
  exact ⟨rfl, HB5.out⟩

set_option maxRecDepth 100000 in
set_option maxHeartbeats 2000000 in
theorem wireNil_walk (n : Int) (w : World) : Calls Try.prog 6 #[.int .i64 n] w fun e w' => e = .returned (.bool true) ∧ Below w.heap.size w w' := by
  go_enter Try.func6, Try.ntmps6
  go_wp2_with fail
  refine (told_any _).mono ?_
  rintro e w1 ⟨rfl, hb⟩
  have HB := Lib.hid hb
  clear hb
  go_wp2_with fail
  refine (num_nil n _).mono ?_
  rintro e w2 ⟨rfl, rfl⟩
  go_wp2_with fail
  refine (text_nil n _).mono ?_
  rintro e w2 ⟨rfl, rfl⟩
  go_wp2_with fail
  refine (end_nil _).mono ?_
  rintro e w2 ⟨rfl, rfl⟩
  go_wp2_with fail
  refine (err_nil _).mono ?_
  rintro e w2 ⟨rfl, rfl⟩
  go_wp2
  go_ret
  exact ⟨rfl, HB.out⟩
end Go.Proofs.Ytekoedjadkglcaa
