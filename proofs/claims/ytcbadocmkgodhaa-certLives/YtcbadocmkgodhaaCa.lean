/- cert's Put, Gone, Last and Merge, as the program has them and as the document does. -/
import Derived.Test.YtcbadocmkgodhaaVr
import Derived.Test.YtcbadocmkgodhaaUd
namespace Go.Proofs.Ytcbadocmkgodhaa
open Go.RowKit

/-- The number that a certificate bears. -/
def oneMore (n : Int) : Int := min (max n 0) 1048575 + 1
theorem oneMore_ref (n : Int) : 1 + max 0 (min n 1048575) = oneMore n := by unfold oneMore; omega
theorem oneMore_bounds (n : Int) : 1 ≤ oneMore n ∧ oneMore n ≤ 1048576 := by unfold oneMore; omega
def goneF (zs : List At) (a : ByteArray) : Bool := decide (0 < ofF zs a)
def lastF (zs : List At) (a : ByteArray) : Int := max (ofF zs a) 1 - 1

set_option maxRecDepth 100000 in
set_option maxHeartbeats 1000000 in
theorem gone_any (A : Option Addr) (n c : Nat) (zs : List At) (a : ByteArray) (B : Nat) (w : World) (hB : B ≤ w.heap.size) (hz : VecAt w B A n zs) (hn : n ≤ 1099511627776) (hs : Rising zs) :
    Calls Try.prog 13 #[.slice A n c, .string a] w fun e w' => e = .returned (.bool (goneF zs a)) ∧ Below w.heap.size w w' := by
  have HO := Lib.hid (of_any A n c zs a B w hB hz hn hs)
  unfold goneF
  generalize ofF zs a = o at *
  clear hz hs
  go_enter Try.func13, Try.ntmps13
  go_wp2_with fail
  refine HO.out.mono ?_
  rintro e w1 ⟨rfl, hb⟩
  have HB := Lib.hid hb
  clear hb HO
  go_wp2
  go_ret
  exact ⟨rfl, HB.out⟩
set_option maxRecDepth 100000 in
set_option maxHeartbeats 1000000 in
theorem rgone_any (A : Option Addr) (n c : Nat) (zs : List At) (a : ByteArray) (B : Nat) (w : World) (hz : VecAt w B A n zs) (hn : n ≤ 1099511627776) :
    Calls Try.prog 14 #[.slice A n c, .string a] w fun e w' => e = .returned (.bool (goneF zs a)) ∧ w = w' := by
  have HO := Lib.hid (rof_any A n c zs a B w hz hn)
  unfold goneF
  generalize ofF zs a = o at *
  clear hz
  go_enter Try.func14, Try.ntmps14
  go_wp2_with fail
  refine HO.out.mono ?_
  rintro e w1 ⟨rfl, rfl⟩
  clear HO
  go_wp2
  go_ret
  exact ⟨rfl, rfl⟩
theorem max_l {a b : Int} (h : ¬ a < b) : max a b = a := by omega
theorem max_r {a b : Int} (h : a < b) : max a b = b := by omega
set_option maxRecDepth 100000 in
set_option maxHeartbeats 1000000 in
theorem last_any (A : Option Addr) (n c : Nat) (zs : List At) (a : ByteArray) (B : Nat) (w : World) (hB : B ≤ w.heap.size) (hz : VecAt w B A n zs) (hn : n ≤ 1099511627776) (hs : Rising zs) (hl : ofF zs a ≤ 1048576) :
    Calls Try.prog 15 #[.slice A n c, .string a] w fun e w' => e = .returned (.int .i64 (lastF zs a)) ∧ Below w.heap.size w w' := by
  have HO := Lib.hid (of_any A n c zs a B w hB hz hn hs)
  unfold lastF
  generalize ofF zs a = o at *
  clear hz hs
  go_enter Try.func15, Try.ntmps15
  go_wp2_with fail
  refine HO.out.mono ?_
  rintro e w1 ⟨rfl, hb⟩
  have HB := Lib.hid hb
  clear hb HO
  have h1 : 0 ≤ max o 1 - 1 ∧ max o 1 - 1 ≤ 1048576 := by omega
  go_wp2
  go_ret
  exact ⟨by go_num, HB.out⟩
set_option maxRecDepth 100000 in
set_option maxHeartbeats 1000000 in
theorem rlast_any (A : Option Addr) (n c : Nat) (zs : List At) (a : ByteArray) (B : Nat) (w : World) (hz : VecAt w B A n zs) (hn : n ≤ 1099511627776) (hl : 0 ≤ ofF zs a ∧ ofF zs a ≤ 1048576) :
    Calls Try.prog 16 #[.slice A n c, .string a] w fun e w' => e = .returned (.int .i64 (lastF zs a)) ∧ w = w' := by
  have HO := Lib.hid (rof_any A n c zs a B w hz hn)
  unfold lastF
  generalize ofF zs a = o at *
  clear hz
  go_enter Try.func16, Try.ntmps16
  go_wp2_with fail
  refine HO.out.mono ?_
  rintro e w1 ⟨rfl, rfl⟩
  clear HO
  have h1 : max (o - 1) 0 = max o 1 - 1 := by omega
  go_wp2
  go_ret
  exact ⟨by rw [← h1]; go_num, rfl⟩
set_option maxRecDepth 100000 in
set_option maxHeartbeats 1000000 in
theorem cput_any (A : Option Addr) (n c : Nat) (zs : List At) (a : ByteArray) (x : Int) (B : Nat) (w : World) (hB : B ≤ w.heap.size) (hz : VecAt w B A n zs) (hnc : n ≤ c) (hn : n ≤ 1073741824) :
    Calls Try.prog 8 #[.slice A n c, .string a, .int .i64 x] w (OwnVec w.heap.size 59 (setF zs a (oneMore x)) w) := by
  have HS := Lib.hid (set_any A n c zs a (oneMore x) B w hB hz hnc hn)
  have hm := oneMore_bounds x
  have hM : min (max x 0) 1048575 + 1 = oneMore x := rfl
  generalize oneMore x = y at *
  clear hz
  go_enter Try.func8, Try.ntmps8
  go_wp2_with fail
  refine HS.out.mono ?_
  rintro e w1 ⟨A1, c1, rfl, hc1, ho1, hb1⟩
  go_wp2
  go_ret
  exact ⟨A1, c1, rfl, hc1, ho1, hb1⟩
set_option maxRecDepth 100000 in
set_option maxHeartbeats 1000000 in
theorem rput_any (A : Option Addr) (n c : Nat) (zs : List At) (a : ByteArray) (x : Int) (B : Nat) (w : World) (hB : B ≤ w.heap.size) (hz : VecAt w B A n zs) (hn : n ≤ 1000000) (hg : Good zs) :
    Calls Try.prog 9 #[.slice A n c, .string a, .int .i64 x] w (OwnVec w.heap.size 56 (setF zs a (oneMore x)) w) := by
  have HS := Lib.hid (rset_any A n c zs a (oneMore x) B w hB hz hn hg)
  have hm := oneMore_bounds x
  have hM : 1 + max 0 (min x 1048575) = oneMore x := oneMore_ref x
  generalize oneMore x = y at *
  clear hz hg
  go_enter Try.func9, Try.ntmps9
  go_wp2_with fail
  refine HS.out.mono ?_
  rintro e w1 ⟨A1, c1, rfl, hc1, ho1, hb1⟩
  go_wp2
  go_ret
  exact ⟨A1, c1, rfl, hc1, ho1, hb1⟩
set_option maxRecDepth 100000 in
set_option maxHeartbeats 1000000 in
theorem merge_any (A : Option Addr) (n c : Nat) (xs : List At) (A' : Option Addr) (m c' : Nat) (ys : List At) (B : Nat) (w : World) (hB : B ≤ w.heap.size)
    (hxs : VecAt w B A n xs) (hys : VecAt w B A' m ys) (hnc : n ≤ c) (hmc : m ≤ c') (hn : n ≤ 1073741824) (hm : m ≤ 1073741824) :
    Calls Try.prog 19 #[.slice A n c, .slice A' m c'] w (OwnVec w.heap.size 59 (joinF xs ys) w) := by
  have HS := Lib.hid (join_any A n c xs A' m c' ys B w hB hxs hys hnc hmc hn hm)
  clear hxs hys
  go_enter Try.func19, Try.ntmps19
  go_wp2_with fail
  refine HS.out.mono ?_
  rintro e w1 ⟨A1, c1, rfl, hc1, ho1, hb1⟩
  go_wp2
  go_ret
  exact ⟨A1, c1, rfl, hc1, ho1, hb1⟩
end Go.Proofs.Ytcbadocmkgodhaa
