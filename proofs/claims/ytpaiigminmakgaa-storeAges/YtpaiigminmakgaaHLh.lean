/- The document's Fix: an item that may be, out of any. -/
import Derived.Test.YtpaiigminmakgaaHA
namespace Go.Proofs.Ytpaiigminmakgaa
open Go.RowKit

def keyF (n : Int) : Int := n % 18446744073709551616 % 32
def cntF (n : Int) : Int := 1 + n % 18446744073709551616 % 60
theorem key_wrap (n : Int) : wrap64 ((IntKind.u64.wrap n).tmod 32) = keyF n := by
  have h0 : IntKind.u64.wrap n = n % 18446744073709551616 := rfl
  unfold keyF
  rw [h0, Int.tmod_eq_emod_of_nonneg (by omega), IntWalk.wrap64_in _ (by omega)]
theorem cnt_wrap (n : Int) : wrap64 (1 + wrap64 ((IntKind.u64.wrap n).tmod 60)) = cntF n := by
  have h0 : IntKind.u64.wrap n = n % 18446744073709551616 := rfl
  unfold cntF
  rw [h0, Int.tmod_eq_emod_of_nonneg (by omega), IntWalk.wrap64_in (_ % 60) (by omega), IntWalk.wrap64_in _ (by omega)]
theorem cnt_wrapI (n : Int) : IntKind.i64.wrap (1 + IntKind.i64.wrap ((IntKind.u64.wrap n).tmod 60)) = cntF n := by
  have h0 : IntKind.u64.wrap n = n % 18446744073709551616 := rfl
  unfold cntF
  rw [h0, Int.tmod_eq_emod_of_nonneg (by omega), IntWalk.i64_in (_ % 60) (by omega), IntWalk.i64_in _ (by omega)]
def cutF (t : ByteArray) : ByteArray := t.extract 0 (min t.size 16)
def fixI (i : Itm) : Itm :=
  ⟨keyF i.key, ⟨⟨(fixL i.ver.id.data.toList).toArray⟩, cntF i.ver.seq, cntF i.ver.stamp⟩, i.dead, if i.dead then 0 else spotF i.x, if i.dead then 0 else spotF i.y, if i.held && !i.dead then cutF i.text else ⟨#[]⟩, i.held && !i.dead⟩

set_option maxRecDepth 100000 in
set_option maxHeartbeats 8000000 in
theorem fixRef_any (i : Itm) (w : World) : Calls Try.prog 15 #[refV i] w fun e w' => e = .returned (refV (fixI i)) ∧ Below w.heap.size w w' := by
  obtain ⟨key, ⟨d, a, s⟩, dead, x, y, text, held⟩ := i
  have HF := Lib.hid (fix_any d)
  have HS := Lib.hid (refSpot_any x y)
  unfold refV fixI
  simp only
  generalize (⟨(fixL d.data.toList).toArray⟩ : ByteArray) = fd at *
  generalize spotF x = sx at *
  generalize spotF y = sy at *
  have hk := key_wrap key
  have HCA := Lib.hid (cnt_wrapI a)
  have HCS := Lib.hid (cnt_wrapI s)
  generalize keyF key = nk at *
  generalize cntF a = ca at *
  generalize cntF s = cs at *
  go_enter Try.func15, Try.ntmps15
  go_upto_region 2 with fail
  simp only [hk]
  have k0 : ((w.alloc (.cells #[.int .i64 nk, .string d, .int .i64 a, .int .i64 s, .bool dead, .int .i64 x, .int .i64 y, .string text, .bool held] 28)).alloc (.cells #[.int .i64 0, .string ⟨#[]⟩, .int .i64 0, .int .i64 0, .bool false, .int .i64 0, .int .i64 0, .string ⟨#[]⟩, .bool false] 28)).cell? ⟨w.heap.size, 0, none⟩ = some (.int .i64 nk) := by simp [go_sem]
  have j0 : ((w.alloc (.cells #[.int .i64 nk, .string d, .int .i64 a, .int .i64 s, .bool dead, .int .i64 x, .int .i64 y, .string text, .bool held] 28)).alloc (.cells #[.int .i64 0, .string ⟨#[]⟩, .int .i64 0, .int .i64 0, .bool false, .int .i64 0, .int .i64 0, .string ⟨#[]⟩, .bool false] 28)).frozen? ⟨w.heap.size, 0, none⟩ = false := by simp [go_sem]
  have k1 : ((w.alloc (.cells #[.int .i64 nk, .string d, .int .i64 a, .int .i64 s, .bool dead, .int .i64 x, .int .i64 y, .string text, .bool held] 28)).alloc (.cells #[.int .i64 0, .string ⟨#[]⟩, .int .i64 0, .int .i64 0, .bool false, .int .i64 0, .int .i64 0, .string ⟨#[]⟩, .bool false] 28)).cell? ⟨w.heap.size, 1, none⟩ = some (.string d) := by simp [go_sem]
  have j1 : ((w.alloc (.cells #[.int .i64 nk, .string d, .int .i64 a, .int .i64 s, .bool dead, .int .i64 x, .int .i64 y, .string text, .bool held] 28)).alloc (.cells #[.int .i64 0, .string ⟨#[]⟩, .int .i64 0, .int .i64 0, .bool false, .int .i64 0, .int .i64 0, .string ⟨#[]⟩, .bool false] 28)).frozen? ⟨w.heap.size, 1, none⟩ = false := by simp [go_sem]
  have k2 : ((w.alloc (.cells #[.int .i64 nk, .string d, .int .i64 a, .int .i64 s, .bool dead, .int .i64 x, .int .i64 y, .string text, .bool held] 28)).alloc (.cells #[.int .i64 0, .string ⟨#[]⟩, .int .i64 0, .int .i64 0, .bool false, .int .i64 0, .int .i64 0, .string ⟨#[]⟩, .bool false] 28)).cell? ⟨w.heap.size, 2, none⟩ = some (.int .i64 a) := by simp [go_sem]
  have j2 : ((w.alloc (.cells #[.int .i64 nk, .string d, .int .i64 a, .int .i64 s, .bool dead, .int .i64 x, .int .i64 y, .string text, .bool held] 28)).alloc (.cells #[.int .i64 0, .string ⟨#[]⟩, .int .i64 0, .int .i64 0, .bool false, .int .i64 0, .int .i64 0, .string ⟨#[]⟩, .bool false] 28)).frozen? ⟨w.heap.size, 2, none⟩ = false := by simp [go_sem]
  have k3 : ((w.alloc (.cells #[.int .i64 nk, .string d, .int .i64 a, .int .i64 s, .bool dead, .int .i64 x, .int .i64 y, .string text, .bool held] 28)).alloc (.cells #[.int .i64 0, .string ⟨#[]⟩, .int .i64 0, .int .i64 0, .bool false, .int .i64 0, .int .i64 0, .string ⟨#[]⟩, .bool false] 28)).cell? ⟨w.heap.size, 3, none⟩ = some (.int .i64 s) := by simp [go_sem]
  have j3 : ((w.alloc (.cells #[.int .i64 nk, .string d, .int .i64 a, .int .i64 s, .bool dead, .int .i64 x, .int .i64 y, .string text, .bool held] 28)).alloc (.cells #[.int .i64 0, .string ⟨#[]⟩, .int .i64 0, .int .i64 0, .bool false, .int .i64 0, .int .i64 0, .string ⟨#[]⟩, .bool false] 28)).frozen? ⟨w.heap.size, 3, none⟩ = false := by simp [go_sem]
  have k4 : ((w.alloc (.cells #[.int .i64 nk, .string d, .int .i64 a, .int .i64 s, .bool dead, .int .i64 x, .int .i64 y, .string text, .bool held] 28)).alloc (.cells #[.int .i64 0, .string ⟨#[]⟩, .int .i64 0, .int .i64 0, .bool false, .int .i64 0, .int .i64 0, .string ⟨#[]⟩, .bool false] 28)).cell? ⟨w.heap.size, 4, none⟩ = some (.bool dead) := by simp [go_sem]
  have j4 : ((w.alloc (.cells #[.int .i64 nk, .string d, .int .i64 a, .int .i64 s, .bool dead, .int .i64 x, .int .i64 y, .string text, .bool held] 28)).alloc (.cells #[.int .i64 0, .string ⟨#[]⟩, .int .i64 0, .int .i64 0, .bool false, .int .i64 0, .int .i64 0, .string ⟨#[]⟩, .bool false] 28)).frozen? ⟨w.heap.size, 4, none⟩ = false := by simp [go_sem]
  have k5 : ((w.alloc (.cells #[.int .i64 nk, .string d, .int .i64 a, .int .i64 s, .bool dead, .int .i64 x, .int .i64 y, .string text, .bool held] 28)).alloc (.cells #[.int .i64 0, .string ⟨#[]⟩, .int .i64 0, .int .i64 0, .bool false, .int .i64 0, .int .i64 0, .string ⟨#[]⟩, .bool false] 28)).cell? ⟨w.heap.size, 5, none⟩ = some (.int .i64 x) := by simp [go_sem]
  have j5 : ((w.alloc (.cells #[.int .i64 nk, .string d, .int .i64 a, .int .i64 s, .bool dead, .int .i64 x, .int .i64 y, .string text, .bool held] 28)).alloc (.cells #[.int .i64 0, .string ⟨#[]⟩, .int .i64 0, .int .i64 0, .bool false, .int .i64 0, .int .i64 0, .string ⟨#[]⟩, .bool false] 28)).frozen? ⟨w.heap.size, 5, none⟩ = false := by simp [go_sem]
  have k6 : ((w.alloc (.cells #[.int .i64 nk, .string d, .int .i64 a, .int .i64 s, .bool dead, .int .i64 x, .int .i64 y, .string text, .bool held] 28)).alloc (.cells #[.int .i64 0, .string ⟨#[]⟩, .int .i64 0, .int .i64 0, .bool false, .int .i64 0, .int .i64 0, .string ⟨#[]⟩, .bool false] 28)).cell? ⟨w.heap.size, 6, none⟩ = some (.int .i64 y) := by simp [go_sem]
  have j6 : ((w.alloc (.cells #[.int .i64 nk, .string d, .int .i64 a, .int .i64 s, .bool dead, .int .i64 x, .int .i64 y, .string text, .bool held] 28)).alloc (.cells #[.int .i64 0, .string ⟨#[]⟩, .int .i64 0, .int .i64 0, .bool false, .int .i64 0, .int .i64 0, .string ⟨#[]⟩, .bool false] 28)).frozen? ⟨w.heap.size, 6, none⟩ = false := by simp [go_sem]
  have k7 : ((w.alloc (.cells #[.int .i64 nk, .string d, .int .i64 a, .int .i64 s, .bool dead, .int .i64 x, .int .i64 y, .string text, .bool held] 28)).alloc (.cells #[.int .i64 0, .string ⟨#[]⟩, .int .i64 0, .int .i64 0, .bool false, .int .i64 0, .int .i64 0, .string ⟨#[]⟩, .bool false] 28)).cell? ⟨w.heap.size, 7, none⟩ = some (.string text) := by simp [go_sem]
  have j7 : ((w.alloc (.cells #[.int .i64 nk, .string d, .int .i64 a, .int .i64 s, .bool dead, .int .i64 x, .int .i64 y, .string text, .bool held] 28)).alloc (.cells #[.int .i64 0, .string ⟨#[]⟩, .int .i64 0, .int .i64 0, .bool false, .int .i64 0, .int .i64 0, .string ⟨#[]⟩, .bool false] 28)).frozen? ⟨w.heap.size, 7, none⟩ = false := by simp [go_sem]
  have k8 : ((w.alloc (.cells #[.int .i64 nk, .string d, .int .i64 a, .int .i64 s, .bool dead, .int .i64 x, .int .i64 y, .string text, .bool held] 28)).alloc (.cells #[.int .i64 0, .string ⟨#[]⟩, .int .i64 0, .int .i64 0, .bool false, .int .i64 0, .int .i64 0, .string ⟨#[]⟩, .bool false] 28)).cell? ⟨w.heap.size, 8, none⟩ = some (.bool held) := by simp [go_sem]
  have j8 : ((w.alloc (.cells #[.int .i64 nk, .string d, .int .i64 a, .int .i64 s, .bool dead, .int .i64 x, .int .i64 y, .string text, .bool held] 28)).alloc (.cells #[.int .i64 0, .string ⟨#[]⟩, .int .i64 0, .int .i64 0, .bool false, .int .i64 0, .int .i64 0, .string ⟨#[]⟩, .bool false] 28)).frozen? ⟨w.heap.size, 8, none⟩ = false := by simp [go_sem]
  have z0 : ((w.alloc (.cells #[.int .i64 nk, .string d, .int .i64 a, .int .i64 s, .bool dead, .int .i64 x, .int .i64 y, .string text, .bool held] 28)).alloc (.cells #[.int .i64 0, .string ⟨#[]⟩, .int .i64 0, .int .i64 0, .bool false, .int .i64 0, .int .i64 0, .string ⟨#[]⟩, .bool false] 28)).cell? ⟨w.heap.size + 1, 0, none⟩ = some (.int .i64 0) := by simp [go_sem]
  have y0 : ((w.alloc (.cells #[.int .i64 nk, .string d, .int .i64 a, .int .i64 s, .bool dead, .int .i64 x, .int .i64 y, .string text, .bool held] 28)).alloc (.cells #[.int .i64 0, .string ⟨#[]⟩, .int .i64 0, .int .i64 0, .bool false, .int .i64 0, .int .i64 0, .string ⟨#[]⟩, .bool false] 28)).frozen? ⟨w.heap.size + 1, 0, none⟩ = false := by simp [go_sem]
  have z1 : ((w.alloc (.cells #[.int .i64 nk, .string d, .int .i64 a, .int .i64 s, .bool dead, .int .i64 x, .int .i64 y, .string text, .bool held] 28)).alloc (.cells #[.int .i64 0, .string ⟨#[]⟩, .int .i64 0, .int .i64 0, .bool false, .int .i64 0, .int .i64 0, .string ⟨#[]⟩, .bool false] 28)).cell? ⟨w.heap.size + 1, 1, none⟩ = some (.string ⟨#[]⟩) := by simp [go_sem]
  have y1 : ((w.alloc (.cells #[.int .i64 nk, .string d, .int .i64 a, .int .i64 s, .bool dead, .int .i64 x, .int .i64 y, .string text, .bool held] 28)).alloc (.cells #[.int .i64 0, .string ⟨#[]⟩, .int .i64 0, .int .i64 0, .bool false, .int .i64 0, .int .i64 0, .string ⟨#[]⟩, .bool false] 28)).frozen? ⟨w.heap.size + 1, 1, none⟩ = false := by simp [go_sem]
  have z2 : ((w.alloc (.cells #[.int .i64 nk, .string d, .int .i64 a, .int .i64 s, .bool dead, .int .i64 x, .int .i64 y, .string text, .bool held] 28)).alloc (.cells #[.int .i64 0, .string ⟨#[]⟩, .int .i64 0, .int .i64 0, .bool false, .int .i64 0, .int .i64 0, .string ⟨#[]⟩, .bool false] 28)).cell? ⟨w.heap.size + 1, 2, none⟩ = some (.int .i64 0) := by simp [go_sem]
  have y2 : ((w.alloc (.cells #[.int .i64 nk, .string d, .int .i64 a, .int .i64 s, .bool dead, .int .i64 x, .int .i64 y, .string text, .bool held] 28)).alloc (.cells #[.int .i64 0, .string ⟨#[]⟩, .int .i64 0, .int .i64 0, .bool false, .int .i64 0, .int .i64 0, .string ⟨#[]⟩, .bool false] 28)).frozen? ⟨w.heap.size + 1, 2, none⟩ = false := by simp [go_sem]
  have z3 : ((w.alloc (.cells #[.int .i64 nk, .string d, .int .i64 a, .int .i64 s, .bool dead, .int .i64 x, .int .i64 y, .string text, .bool held] 28)).alloc (.cells #[.int .i64 0, .string ⟨#[]⟩, .int .i64 0, .int .i64 0, .bool false, .int .i64 0, .int .i64 0, .string ⟨#[]⟩, .bool false] 28)).cell? ⟨w.heap.size + 1, 3, none⟩ = some (.int .i64 0) := by simp [go_sem]
  have y3 : ((w.alloc (.cells #[.int .i64 nk, .string d, .int .i64 a, .int .i64 s, .bool dead, .int .i64 x, .int .i64 y, .string text, .bool held] 28)).alloc (.cells #[.int .i64 0, .string ⟨#[]⟩, .int .i64 0, .int .i64 0, .bool false, .int .i64 0, .int .i64 0, .string ⟨#[]⟩, .bool false] 28)).frozen? ⟨w.heap.size + 1, 3, none⟩ = false := by simp [go_sem]
  have z4 : ((w.alloc (.cells #[.int .i64 nk, .string d, .int .i64 a, .int .i64 s, .bool dead, .int .i64 x, .int .i64 y, .string text, .bool held] 28)).alloc (.cells #[.int .i64 0, .string ⟨#[]⟩, .int .i64 0, .int .i64 0, .bool false, .int .i64 0, .int .i64 0, .string ⟨#[]⟩, .bool false] 28)).cell? ⟨w.heap.size + 1, 4, none⟩ = some (.bool false) := by simp [go_sem]
  have y4 : ((w.alloc (.cells #[.int .i64 nk, .string d, .int .i64 a, .int .i64 s, .bool dead, .int .i64 x, .int .i64 y, .string text, .bool held] 28)).alloc (.cells #[.int .i64 0, .string ⟨#[]⟩, .int .i64 0, .int .i64 0, .bool false, .int .i64 0, .int .i64 0, .string ⟨#[]⟩, .bool false] 28)).frozen? ⟨w.heap.size + 1, 4, none⟩ = false := by simp [go_sem]
  have z5 : ((w.alloc (.cells #[.int .i64 nk, .string d, .int .i64 a, .int .i64 s, .bool dead, .int .i64 x, .int .i64 y, .string text, .bool held] 28)).alloc (.cells #[.int .i64 0, .string ⟨#[]⟩, .int .i64 0, .int .i64 0, .bool false, .int .i64 0, .int .i64 0, .string ⟨#[]⟩, .bool false] 28)).cell? ⟨w.heap.size + 1, 5, none⟩ = some (.int .i64 0) := by simp [go_sem]
  have y5 : ((w.alloc (.cells #[.int .i64 nk, .string d, .int .i64 a, .int .i64 s, .bool dead, .int .i64 x, .int .i64 y, .string text, .bool held] 28)).alloc (.cells #[.int .i64 0, .string ⟨#[]⟩, .int .i64 0, .int .i64 0, .bool false, .int .i64 0, .int .i64 0, .string ⟨#[]⟩, .bool false] 28)).frozen? ⟨w.heap.size + 1, 5, none⟩ = false := by simp [go_sem]
  have z6 : ((w.alloc (.cells #[.int .i64 nk, .string d, .int .i64 a, .int .i64 s, .bool dead, .int .i64 x, .int .i64 y, .string text, .bool held] 28)).alloc (.cells #[.int .i64 0, .string ⟨#[]⟩, .int .i64 0, .int .i64 0, .bool false, .int .i64 0, .int .i64 0, .string ⟨#[]⟩, .bool false] 28)).cell? ⟨w.heap.size + 1, 6, none⟩ = some (.int .i64 0) := by simp [go_sem]
  have y6 : ((w.alloc (.cells #[.int .i64 nk, .string d, .int .i64 a, .int .i64 s, .bool dead, .int .i64 x, .int .i64 y, .string text, .bool held] 28)).alloc (.cells #[.int .i64 0, .string ⟨#[]⟩, .int .i64 0, .int .i64 0, .bool false, .int .i64 0, .int .i64 0, .string ⟨#[]⟩, .bool false] 28)).frozen? ⟨w.heap.size + 1, 6, none⟩ = false := by simp [go_sem]
  have z7 : ((w.alloc (.cells #[.int .i64 nk, .string d, .int .i64 a, .int .i64 s, .bool dead, .int .i64 x, .int .i64 y, .string text, .bool held] 28)).alloc (.cells #[.int .i64 0, .string ⟨#[]⟩, .int .i64 0, .int .i64 0, .bool false, .int .i64 0, .int .i64 0, .string ⟨#[]⟩, .bool false] 28)).cell? ⟨w.heap.size + 1, 7, none⟩ = some (.string ⟨#[]⟩) := by simp [go_sem]
  have y7 : ((w.alloc (.cells #[.int .i64 nk, .string d, .int .i64 a, .int .i64 s, .bool dead, .int .i64 x, .int .i64 y, .string text, .bool held] 28)).alloc (.cells #[.int .i64 0, .string ⟨#[]⟩, .int .i64 0, .int .i64 0, .bool false, .int .i64 0, .int .i64 0, .string ⟨#[]⟩, .bool false] 28)).frozen? ⟨w.heap.size + 1, 7, none⟩ = false := by simp [go_sem]
  have z8 : ((w.alloc (.cells #[.int .i64 nk, .string d, .int .i64 a, .int .i64 s, .bool dead, .int .i64 x, .int .i64 y, .string text, .bool held] 28)).alloc (.cells #[.int .i64 0, .string ⟨#[]⟩, .int .i64 0, .int .i64 0, .bool false, .int .i64 0, .int .i64 0, .string ⟨#[]⟩, .bool false] 28)).cell? ⟨w.heap.size + 1, 8, none⟩ = some (.bool false) := by simp [go_sem]
  have y8 : ((w.alloc (.cells #[.int .i64 nk, .string d, .int .i64 a, .int .i64 s, .bool dead, .int .i64 x, .int .i64 y, .string text, .bool held] 28)).alloc (.cells #[.int .i64 0, .string ⟨#[]⟩, .int .i64 0, .int .i64 0, .bool false, .int .i64 0, .int .i64 0, .string ⟨#[]⟩, .bool false] 28)).frozen? ⟨w.heap.size + 1, 8, none⟩ = false := by simp [go_sem]
  have hz0 : w.heap.size < ((w.alloc (.cells #[.int .i64 nk, .string d, .int .i64 a, .int .i64 s, .bool dead, .int .i64 x, .int .i64 y, .string text, .bool held] 28)).alloc (.cells #[.int .i64 0, .string ⟨#[]⟩, .int .i64 0, .int .i64 0, .bool false, .int .i64 0, .int .i64 0, .string ⟨#[]⟩, .bool false] 28)).heap.size := by simp <;> omega
  have hz1 : w.heap.size + 1 < ((w.alloc (.cells #[.int .i64 nk, .string d, .int .i64 a, .int .i64 s, .bool dead, .int .i64 x, .int .i64 y, .string text, .bool held] 28)).alloc (.cells #[.int .i64 0, .string ⟨#[]⟩, .int .i64 0, .int .i64 0, .bool false, .int .i64 0, .int .i64 0, .string ⟨#[]⟩, .bool false] 28)).heap.size := by simp
  have HB : Hid (Below w.heap.size w ((w.alloc (.cells #[.int .i64 nk, .string d, .int .i64 a, .int .i64 s, .bool dead, .int .i64 x, .int .i64 y, .string text, .bool held] 28)).alloc (.cells #[.int .i64 0, .string ⟨#[]⟩, .int .i64 0, .int .i64 0, .bool false, .int .i64 0, .int .i64 0, .string ⟨#[]⟩, .bool false] 28))) := ((Below.refl _ _).alloc (Nat.le_refl _) _).alloc (by simp) _
  generalize ((w.alloc (.cells #[.int .i64 nk, .string d, .int .i64 a, .int .i64 s, .bool dead, .int .i64 x, .int .i64 y, .string text, .bool held] 28)).alloc (.cells #[.int .i64 0, .string ⟨#[]⟩, .int .i64 0, .int .i64 0, .bool false, .int .i64 0, .int .i64 0, .string ⟨#[]⟩, .bool false] 28)) = W at *
  refine tail_begin (S := fun w' => w'.cell? ⟨w.heap.size, 0, none⟩ = some (.int .i64 nk) ∧ w'.cell? ⟨w.heap.size, 1, none⟩ = some (.string d) ∧ w'.cell? ⟨w.heap.size, 2, none⟩ = some (.int .i64 a) ∧ w'.cell? ⟨w.heap.size, 3, none⟩ = some (.int .i64 s) ∧ w'.cell? ⟨w.heap.size, 4, none⟩ = some (.bool dead) ∧ w'.cell? ⟨w.heap.size, 5, none⟩ = some (.int .i64 x) ∧ w'.cell? ⟨w.heap.size, 6, none⟩ = some (.int .i64 y) ∧ w'.cell? ⟨w.heap.size, 7, none⟩ = some (.string text) ∧ w'.cell? ⟨w.heap.size, 8, none⟩ = some (.bool held)) 20 (by kernel_rfl) ⟨k0, k1, k2, k3, k4, k5, k6, k7, k8⟩ (fun hHeld => ?_)
  refine tail_take (i := 0) (oi := { dst := some 9, op := Go.Op.fieldAddr 28 (Go.Operand.tmp 1) 1, type := 0, pos := "ref.go:96", after := #[], guard := none }) (v := ?_) rfl (by kernel_rfl) (by kernel_rfl) (by kernel_rfl) (by kernel_rfl) (fun _ _ _ h => h) (Or.inl ⟨rfl, ?_⟩) (by assumption) ?_
  rotate_left
  · intro wz hSw; (try dsimp only at hSw); go_simp; try (with_reducible rfl)
  try simp only [Act.put, List.setIfInBounds_toArray, List.set_cons_zero, List.set_cons_succ]
  refine tail_take (i := 1) (oi := { dst := some 10, op := Go.Op.fieldAddr 26 (Go.Operand.tmp 9) 0, type := 0, pos := "ref.go:96", after := #[{ on := 0, ground := Go.Ground.data }], guard := none }) (v := ?_) rfl (by kernel_rfl) (by kernel_rfl) (by kernel_rfl) (by kernel_rfl) (fun _ _ _ h => h) (Or.inl ⟨rfl, ?_⟩) (by assumption) ?_
  rotate_left
  · intro wz hSw; (try dsimp only at hSw); go_simp; try (with_reducible rfl)
  try simp only [Act.put, List.setIfInBounds_toArray, List.set_cons_zero, List.set_cons_succ]
  refine tail_take (i := 2) (oi := { dst := some 11, op := Go.Op.load 9 (Go.Operand.tmp 10), type := 9, pos := "ref.go:96", after := #[{ on := 1, ground := Go.Ground.data }], guard := none }) (v := ?_) rfl (by kernel_rfl) (by kernel_rfl) (by kernel_rfl) (by kernel_rfl) (fun _ _ _ h => h) (Or.inl ⟨rfl, ?_⟩) (by assumption) ?_
  rotate_left
  · intro wz hSw; (try dsimp only at hSw); go_simp; try (with_reducible rfl)
  try simp only [Act.put, List.setIfInBounds_toArray, List.set_cons_zero, List.set_cons_succ]
  refine tail_take (i := 4) (oi := { dst := some 13, op := Go.Op.fieldAddr 28 (Go.Operand.tmp 1) 1, type := 0, pos := "ref.go:96", after := #[], guard := none }) (v := ?_) rfl (by kernel_rfl) (by kernel_rfl) (by kernel_rfl) (by kernel_rfl) (fun _ _ _ h => h) (Or.inl ⟨rfl, ?_⟩) (by assumption) ?_
  rotate_left
  · intro wz hSw; (try dsimp only at hSw); go_simp; try (with_reducible rfl)
  try simp only [Act.put, List.setIfInBounds_toArray, List.set_cons_zero, List.set_cons_succ]
  refine tail_take (i := 5) (oi := { dst := some 14, op := Go.Op.fieldAddr 26 (Go.Operand.tmp 13) 1, type := 0, pos := "ref.go:96", after := #[{ on := 4, ground := Go.Ground.data }], guard := none }) (v := ?_) rfl (by kernel_rfl) (by kernel_rfl) (by kernel_rfl) (by kernel_rfl) (fun _ _ _ h => h) (Or.inl ⟨rfl, ?_⟩) (by assumption) ?_
  rotate_left
  · intro wz hSw; (try dsimp only at hSw); go_simp; try (with_reducible rfl)
  try simp only [Act.put, List.setIfInBounds_toArray, List.set_cons_zero, List.set_cons_succ]
  refine tail_take (i := 6) (oi := { dst := some 15, op := Go.Op.load 3 (Go.Operand.tmp 14), type := 3, pos := "ref.go:96", after := #[{ on := 5, ground := Go.Ground.data }], guard := none }) (v := ?_) rfl (by kernel_rfl) (by kernel_rfl) (by kernel_rfl) (by kernel_rfl) (fun _ _ _ h => h) (Or.inl ⟨rfl, ?_⟩) (by assumption) ?_
  rotate_left
  · intro wz hSw; (try dsimp only at hSw); go_simp; try (with_reducible rfl)
  try simp only [Act.put, List.setIfInBounds_toArray, List.set_cons_zero, List.set_cons_succ]
  refine tail_take (i := 7) (oi := { dst := some 16, op := Go.Op.convert 3 69 (Go.Operand.tmp 15), type := 69, pos := "ref.go:96", after := #[{ on := 6, ground := Go.Ground.data }], guard := none }) (v := ?_) rfl (by kernel_rfl) (by kernel_rfl) (by kernel_rfl) (by kernel_rfl) (fun _ _ _ h => h) (Or.inl ⟨rfl, ?_⟩) (by assumption) ?_
  rotate_left
  · intro wz hSw; (try dsimp only at hSw); go_simp; try (with_reducible rfl)
  try simp only [Act.put, List.setIfInBounds_toArray, List.set_cons_zero, List.set_cons_succ]
  refine tail_take (i := 8) (oi := { dst := some 17, op := Go.Op.binOp Go.BinOp.rem 69 (Go.Operand.tmp 16) (Go.Operand.const (Go.Value.int Go.IntKind.u64 60)) 69, type := 69, pos := "ref.go:96", after := #[{ on := 7, ground := Go.Ground.data }], guard := none }) (v := ?_) rfl (by kernel_rfl) (by kernel_rfl) (by kernel_rfl) (by kernel_rfl) (fun _ _ _ h => h) (Or.inl ⟨rfl, ?_⟩) (by assumption) ?_
  rotate_left
  · intro wz hSw; (try dsimp only at hSw); go_simp; try (with_reducible rfl)
  try simp only [Act.put, List.setIfInBounds_toArray, List.set_cons_zero, List.set_cons_succ]
  refine tail_take (i := 9) (oi := { dst := some 18, op := Go.Op.convert 69 3 (Go.Operand.tmp 17), type := 3, pos := "ref.go:96", after := #[{ on := 8, ground := Go.Ground.data }], guard := none }) (v := ?_) rfl (by kernel_rfl) (by kernel_rfl) (by kernel_rfl) (by kernel_rfl) (fun _ _ _ h => h) (Or.inl ⟨rfl, ?_⟩) (by assumption) ?_
  rotate_left
  · intro wz hSw; (try dsimp only at hSw); go_simp; try (with_reducible rfl)
  try simp only [Act.put, List.setIfInBounds_toArray, List.set_cons_zero, List.set_cons_succ]
  refine tail_take (i := 10) (oi := { dst := some 19, op := Go.Op.binOp Go.BinOp.add 3 (Go.Operand.const (Go.Value.int Go.IntKind.i64 1)) (Go.Operand.tmp 18) 3, type := 3, pos := "ref.go:96", after := #[{ on := 9, ground := Go.Ground.data }], guard := none }) (v := ?_) rfl (by kernel_rfl) (by kernel_rfl) (by kernel_rfl) (by kernel_rfl) (fun _ _ _ h => h) (Or.inl ⟨rfl, ?_⟩) (by assumption) ?_
  rotate_left
  · intro wz hSw; (try dsimp only at hSw); go_simp; try (with_reducible rfl)
  try simp only [Act.put, List.setIfInBounds_toArray, List.set_cons_zero, List.set_cons_succ]
  refine tail_take (i := 11) (oi := { dst := some 20, op := Go.Op.fieldAddr 28 (Go.Operand.tmp 1) 1, type := 0, pos := "ref.go:96", after := #[], guard := none }) (v := ?_) rfl (by kernel_rfl) (by kernel_rfl) (by kernel_rfl) (by kernel_rfl) (fun _ _ _ h => h) (Or.inl ⟨rfl, ?_⟩) (by assumption) ?_
  rotate_left
  · intro wz hSw; (try dsimp only at hSw); go_simp; try (with_reducible rfl)
  try simp only [Act.put, List.setIfInBounds_toArray, List.set_cons_zero, List.set_cons_succ]
  refine tail_take (i := 12) (oi := { dst := some 21, op := Go.Op.fieldAddr 26 (Go.Operand.tmp 20) 2, type := 0, pos := "ref.go:96", after := #[{ on := 11, ground := Go.Ground.data }], guard := none }) (v := ?_) rfl (by kernel_rfl) (by kernel_rfl) (by kernel_rfl) (by kernel_rfl) (fun _ _ _ h => h) (Or.inl ⟨rfl, ?_⟩) (by assumption) ?_
  rotate_left
  · intro wz hSw; (try dsimp only at hSw); go_simp; try (with_reducible rfl)
  try simp only [Act.put, List.setIfInBounds_toArray, List.set_cons_zero, List.set_cons_succ]
  refine tail_take (i := 13) (oi := { dst := some 22, op := Go.Op.load 3 (Go.Operand.tmp 21), type := 3, pos := "ref.go:96", after := #[{ on := 12, ground := Go.Ground.data }], guard := none }) (v := ?_) rfl (by kernel_rfl) (by kernel_rfl) (by kernel_rfl) (by kernel_rfl) (fun _ _ _ h => h) (Or.inl ⟨rfl, ?_⟩) (by assumption) ?_
  rotate_left
  · intro wz hSw; (try dsimp only at hSw); go_simp; try (with_reducible rfl)
  try simp only [Act.put, List.setIfInBounds_toArray, List.set_cons_zero, List.set_cons_succ]
  refine tail_take (i := 14) (oi := { dst := some 23, op := Go.Op.convert 3 69 (Go.Operand.tmp 22), type := 69, pos := "ref.go:96", after := #[{ on := 13, ground := Go.Ground.data }], guard := none }) (v := ?_) rfl (by kernel_rfl) (by kernel_rfl) (by kernel_rfl) (by kernel_rfl) (fun _ _ _ h => h) (Or.inl ⟨rfl, ?_⟩) (by assumption) ?_
  rotate_left
  · intro wz hSw; (try dsimp only at hSw); go_simp; try (with_reducible rfl)
  try simp only [Act.put, List.setIfInBounds_toArray, List.set_cons_zero, List.set_cons_succ]
  refine tail_take (i := 15) (oi := { dst := some 24, op := Go.Op.binOp Go.BinOp.rem 69 (Go.Operand.tmp 23) (Go.Operand.const (Go.Value.int Go.IntKind.u64 60)) 69, type := 69, pos := "ref.go:96", after := #[{ on := 14, ground := Go.Ground.data }], guard := none }) (v := ?_) rfl (by kernel_rfl) (by kernel_rfl) (by kernel_rfl) (by kernel_rfl) (fun _ _ _ h => h) (Or.inl ⟨rfl, ?_⟩) (by assumption) ?_
  rotate_left
  · intro wz hSw; (try dsimp only at hSw); go_simp; try (with_reducible rfl)
  try simp only [Act.put, List.setIfInBounds_toArray, List.set_cons_zero, List.set_cons_succ]
  refine tail_take (i := 16) (oi := { dst := some 25, op := Go.Op.convert 69 3 (Go.Operand.tmp 24), type := 3, pos := "ref.go:96", after := #[{ on := 15, ground := Go.Ground.data }], guard := none }) (v := ?_) rfl (by kernel_rfl) (by kernel_rfl) (by kernel_rfl) (by kernel_rfl) (fun _ _ _ h => h) (Or.inl ⟨rfl, ?_⟩) (by assumption) ?_
  rotate_left
  · intro wz hSw; (try dsimp only at hSw); go_simp; try (with_reducible rfl)
  try simp only [Act.put, List.setIfInBounds_toArray, List.set_cons_zero, List.set_cons_succ]
  refine tail_take (i := 17) (oi := { dst := some 26, op := Go.Op.binOp Go.BinOp.add 3 (Go.Operand.const (Go.Value.int Go.IntKind.i64 1)) (Go.Operand.tmp 25) 3, type := 3, pos := "ref.go:96", after := #[{ on := 16, ground := Go.Ground.data }], guard := none }) (v := ?_) rfl (by kernel_rfl) (by kernel_rfl) (by kernel_rfl) (by kernel_rfl) (fun _ _ _ h => h) (Or.inl ⟨rfl, ?_⟩) (by assumption) ?_
  rotate_left
  · intro wz hSw; (try dsimp only at hSw); go_simp; try (with_reducible rfl)
  try simp only [Act.put, List.setIfInBounds_toArray, List.set_cons_zero, List.set_cons_succ]
  refine tail_call (i := 3) (o := { dst := some 12, op := Go.Op.call { callee := Go.Callee.value (Go.Operand.func 36), args := #[Go.Operand.tmp 11], argTypes := #[9] }, type := 9, pos := "ref.go:96", after := #[{ on := 2, ground := Go.Ground.data }], guard := none }) (by kernel_rfl) (by kernel_rfl) rfl (fun K hK => ?_)
  go_simp
  go_at_call 36
  refine (HF.out _).mono ?_
  rintro e w1 ⟨rfl, hd⟩
  have hb := below_drawn (Below.refl _ _) hd.out
  clear hd
  replace k0 := (hb.cell (p := ⟨w.heap.size, 0, none⟩) hz0).trans k0
  replace j0 := (hb.frozen (p := ⟨w.heap.size, 0, none⟩) hz0).trans j0
  replace z0 := (hb.cell (p := ⟨w.heap.size + 1, 0, none⟩) hz1).trans z0
  replace y0 := (hb.frozen (p := ⟨w.heap.size + 1, 0, none⟩) hz1).trans y0
  replace k1 := (hb.cell (p := ⟨w.heap.size, 1, none⟩) hz0).trans k1
  replace j1 := (hb.frozen (p := ⟨w.heap.size, 1, none⟩) hz0).trans j1
  replace z1 := (hb.cell (p := ⟨w.heap.size + 1, 1, none⟩) hz1).trans z1
  replace y1 := (hb.frozen (p := ⟨w.heap.size + 1, 1, none⟩) hz1).trans y1
  replace k2 := (hb.cell (p := ⟨w.heap.size, 2, none⟩) hz0).trans k2
  replace j2 := (hb.frozen (p := ⟨w.heap.size, 2, none⟩) hz0).trans j2
  replace z2 := (hb.cell (p := ⟨w.heap.size + 1, 2, none⟩) hz1).trans z2
  replace y2 := (hb.frozen (p := ⟨w.heap.size + 1, 2, none⟩) hz1).trans y2
  replace k3 := (hb.cell (p := ⟨w.heap.size, 3, none⟩) hz0).trans k3
  replace j3 := (hb.frozen (p := ⟨w.heap.size, 3, none⟩) hz0).trans j3
  replace z3 := (hb.cell (p := ⟨w.heap.size + 1, 3, none⟩) hz1).trans z3
  replace y3 := (hb.frozen (p := ⟨w.heap.size + 1, 3, none⟩) hz1).trans y3
  replace k4 := (hb.cell (p := ⟨w.heap.size, 4, none⟩) hz0).trans k4
  replace j4 := (hb.frozen (p := ⟨w.heap.size, 4, none⟩) hz0).trans j4
  replace z4 := (hb.cell (p := ⟨w.heap.size + 1, 4, none⟩) hz1).trans z4
  replace y4 := (hb.frozen (p := ⟨w.heap.size + 1, 4, none⟩) hz1).trans y4
  replace k5 := (hb.cell (p := ⟨w.heap.size, 5, none⟩) hz0).trans k5
  replace j5 := (hb.frozen (p := ⟨w.heap.size, 5, none⟩) hz0).trans j5
  replace z5 := (hb.cell (p := ⟨w.heap.size + 1, 5, none⟩) hz1).trans z5
  replace y5 := (hb.frozen (p := ⟨w.heap.size + 1, 5, none⟩) hz1).trans y5
  replace k6 := (hb.cell (p := ⟨w.heap.size, 6, none⟩) hz0).trans k6
  replace j6 := (hb.frozen (p := ⟨w.heap.size, 6, none⟩) hz0).trans j6
  replace z6 := (hb.cell (p := ⟨w.heap.size + 1, 6, none⟩) hz1).trans z6
  replace y6 := (hb.frozen (p := ⟨w.heap.size + 1, 6, none⟩) hz1).trans y6
  replace k7 := (hb.cell (p := ⟨w.heap.size, 7, none⟩) hz0).trans k7
  replace j7 := (hb.frozen (p := ⟨w.heap.size, 7, none⟩) hz0).trans j7
  replace z7 := (hb.cell (p := ⟨w.heap.size + 1, 7, none⟩) hz1).trans z7
  replace y7 := (hb.frozen (p := ⟨w.heap.size + 1, 7, none⟩) hz1).trans y7
  replace k8 := (hb.cell (p := ⟨w.heap.size, 8, none⟩) hz0).trans k8
  replace j8 := (hb.frozen (p := ⟨w.heap.size, 8, none⟩) hz0).trans j8
  replace z8 := (hb.cell (p := ⟨w.heap.size + 1, 8, none⟩) hz1).trans z8
  replace y8 := (hb.frozen (p := ⟨w.heap.size + 1, 8, none⟩) hz1).trans y8
  replace hz0 := Nat.lt_of_lt_of_le hz0 hb.size
  replace hz1 := Nat.lt_of_lt_of_le hz1 hb.size
  replace HB := Lib.hid (below_via HB.out hb HB.out.size ⟨rfl, rfl, rfl, rfl⟩)
  clear hb
  refine hK.out _ _ ⟨k0, k1, k2, k3, k4, k5, k6, k7, k8⟩ (fun hHeld => ?_)
  clear hK K
  try simp only [Act.put, List.setIfInBounds_toArray, List.set_cons_zero, List.set_cons_succ]
  refine tail_take (i := 18) (oi := { dst := some 27, op := Go.Op.build 26 #[(0, Go.Operand.tmp 12), (1, Go.Operand.tmp 19), (2, Go.Operand.tmp 26)], type := 26, pos := "ref.go:96", after := #[{ on := 3, ground := Go.Ground.data }, { on := 10, ground := Go.Ground.data }, { on := 17, ground := Go.Ground.data }], guard := none }) (v := ?_) rfl (by kernel_rfl) (by kernel_rfl) (by kernel_rfl) (by kernel_rfl) (fun _ _ _ h => h) (Or.inl ⟨rfl, ?_⟩) (by assumption) ?_
  rotate_left
  · intro wz hSw; (try dsimp only at hSw); go_simp; try (with_reducible rfl)
  try simp only [Act.put, List.setIfInBounds_toArray, List.set_cons_zero, List.set_cons_succ]
  refine tail_take (i := 19) (oi := { dst := some 28, op := Go.Op.fieldAddr 28 (Go.Operand.tmp 1) 1, type := 0, pos := "ref.go:96", after := #[{ on := 0, ground := Go.Ground.phase }, { on := 1, ground := Go.Ground.phase }, { on := 2, ground := Go.Ground.phase }, { on := 3, ground := Go.Ground.phase }, { on := 4, ground := Go.Ground.phase }, { on := 5, ground := Go.Ground.phase }, { on := 6, ground := Go.Ground.phase }, { on := 7, ground := Go.Ground.phase }, { on := 8, ground := Go.Ground.phase }, { on := 9, ground := Go.Ground.phase }, { on := 10, ground := Go.Ground.phase }, { on := 11, ground := Go.Ground.phase }, { on := 12, ground := Go.Ground.phase }, { on := 13, ground := Go.Ground.phase }, { on := 14, ground := Go.Ground.phase }, { on := 15, ground := Go.Ground.phase }, { on := 16, ground := Go.Ground.phase }, { on := 17, ground := Go.Ground.phase }, { on := 18, ground := Go.Ground.phase }], guard := none }) (v := ?_) rfl (by kernel_rfl) (by kernel_rfl) (by kernel_rfl) (by kernel_rfl) (fun _ _ _ h => h) (Or.inl ⟨rfl, ?_⟩) (by assumption) ?_
  rotate_left
  · intro wz hSw; (try dsimp only at hSw); go_simp; try (with_reducible rfl)
  try simp only [Act.put, List.setIfInBounds_toArray, List.set_cons_zero, List.set_cons_succ]
  refine tail_last (o := { dst := none, op := Go.Op.store 26 (Go.Operand.tmp 28) (Go.Operand.tmp 27), type := 0, pos := "ref.go:96", after := #[{ on := 19, ground := Go.Ground.data }, { on := 18, ground := Go.Ground.data }, { on := 3, ground := Go.Ground.chain }, { on := 0, ground := Go.Ground.phase }, { on := 1, ground := Go.Ground.phase }, { on := 2, ground := Go.Ground.phase }, { on := 3, ground := Go.Ground.phase }, { on := 4, ground := Go.Ground.phase }, { on := 5, ground := Go.Ground.phase }, { on := 6, ground := Go.Ground.phase }, { on := 7, ground := Go.Ground.phase }, { on := 8, ground := Go.Ground.phase }, { on := 9, ground := Go.Ground.phase }, { on := 10, ground := Go.Ground.phase }, { on := 11, ground := Go.Ground.phase }, { on := 12, ground := Go.Ground.phase }, { on := 13, ground := Go.Ground.phase }, { on := 14, ground := Go.Ground.phase }, { on := 15, ground := Go.Ground.phase }, { on := 16, ground := Go.Ground.phase }, { on := 17, ground := Go.Ground.phase }, { on := 18, ground := Go.Ground.phase }], guard := none }) (by kernel_rfl) (by kernel_rfl) rfl (fun K hK => ?_)
  go_simp
  have hca := HCA.out
  have hcs := HCS.out
  simp only [hca, hcs]
  clear hca hcs HCA HCS hHeld
  replace k0 : (((w1.setCell ⟨w.heap.size, 1, none⟩ (.string fd)).setCell ⟨w.heap.size, 2, none⟩ (.int .i64 ca)).setCell ⟨w.heap.size, 3, none⟩ (.int .i64 cs)).cell? ⟨w.heap.size, 0, none⟩ = some (.int .i64 nk) := by simp [go_sem, k0]
  replace j0 : (((w1.setCell ⟨w.heap.size, 1, none⟩ (.string fd)).setCell ⟨w.heap.size, 2, none⟩ (.int .i64 ca)).setCell ⟨w.heap.size, 3, none⟩ (.int .i64 cs)).frozen? ⟨w.heap.size, 0, none⟩ = false := by simp [go_sem, j0]
  replace z0 : (((w1.setCell ⟨w.heap.size, 1, none⟩ (.string fd)).setCell ⟨w.heap.size, 2, none⟩ (.int .i64 ca)).setCell ⟨w.heap.size, 3, none⟩ (.int .i64 cs)).cell? ⟨w.heap.size + 1, 0, none⟩ = some (.int .i64 0) := by simp [go_sem, z0]
  replace y0 : (((w1.setCell ⟨w.heap.size, 1, none⟩ (.string fd)).setCell ⟨w.heap.size, 2, none⟩ (.int .i64 ca)).setCell ⟨w.heap.size, 3, none⟩ (.int .i64 cs)).frozen? ⟨w.heap.size + 1, 0, none⟩ = false := by simp [go_sem, y0]
  replace k1 : (((w1.setCell ⟨w.heap.size, 1, none⟩ (.string fd)).setCell ⟨w.heap.size, 2, none⟩ (.int .i64 ca)).setCell ⟨w.heap.size, 3, none⟩ (.int .i64 cs)).cell? ⟨w.heap.size, 1, none⟩ = some (.string fd) := by simp [go_sem, k1]
  replace j1 : (((w1.setCell ⟨w.heap.size, 1, none⟩ (.string fd)).setCell ⟨w.heap.size, 2, none⟩ (.int .i64 ca)).setCell ⟨w.heap.size, 3, none⟩ (.int .i64 cs)).frozen? ⟨w.heap.size, 1, none⟩ = false := by simp [go_sem, j1]
  replace z1 : (((w1.setCell ⟨w.heap.size, 1, none⟩ (.string fd)).setCell ⟨w.heap.size, 2, none⟩ (.int .i64 ca)).setCell ⟨w.heap.size, 3, none⟩ (.int .i64 cs)).cell? ⟨w.heap.size + 1, 1, none⟩ = some (.string ⟨#[]⟩) := by simp [go_sem, z1]
  replace y1 : (((w1.setCell ⟨w.heap.size, 1, none⟩ (.string fd)).setCell ⟨w.heap.size, 2, none⟩ (.int .i64 ca)).setCell ⟨w.heap.size, 3, none⟩ (.int .i64 cs)).frozen? ⟨w.heap.size + 1, 1, none⟩ = false := by simp [go_sem, y1]
  replace k2 : (((w1.setCell ⟨w.heap.size, 1, none⟩ (.string fd)).setCell ⟨w.heap.size, 2, none⟩ (.int .i64 ca)).setCell ⟨w.heap.size, 3, none⟩ (.int .i64 cs)).cell? ⟨w.heap.size, 2, none⟩ = some (.int .i64 ca) := by simp [go_sem, k2]
  replace j2 : (((w1.setCell ⟨w.heap.size, 1, none⟩ (.string fd)).setCell ⟨w.heap.size, 2, none⟩ (.int .i64 ca)).setCell ⟨w.heap.size, 3, none⟩ (.int .i64 cs)).frozen? ⟨w.heap.size, 2, none⟩ = false := by simp [go_sem, j2]
  replace z2 : (((w1.setCell ⟨w.heap.size, 1, none⟩ (.string fd)).setCell ⟨w.heap.size, 2, none⟩ (.int .i64 ca)).setCell ⟨w.heap.size, 3, none⟩ (.int .i64 cs)).cell? ⟨w.heap.size + 1, 2, none⟩ = some (.int .i64 0) := by simp [go_sem, z2]
  replace y2 : (((w1.setCell ⟨w.heap.size, 1, none⟩ (.string fd)).setCell ⟨w.heap.size, 2, none⟩ (.int .i64 ca)).setCell ⟨w.heap.size, 3, none⟩ (.int .i64 cs)).frozen? ⟨w.heap.size + 1, 2, none⟩ = false := by simp [go_sem, y2]
  replace k3 : (((w1.setCell ⟨w.heap.size, 1, none⟩ (.string fd)).setCell ⟨w.heap.size, 2, none⟩ (.int .i64 ca)).setCell ⟨w.heap.size, 3, none⟩ (.int .i64 cs)).cell? ⟨w.heap.size, 3, none⟩ = some (.int .i64 cs) := by simp [go_sem, k3]
  replace j3 : (((w1.setCell ⟨w.heap.size, 1, none⟩ (.string fd)).setCell ⟨w.heap.size, 2, none⟩ (.int .i64 ca)).setCell ⟨w.heap.size, 3, none⟩ (.int .i64 cs)).frozen? ⟨w.heap.size, 3, none⟩ = false := by simp [go_sem, j3]
  replace z3 : (((w1.setCell ⟨w.heap.size, 1, none⟩ (.string fd)).setCell ⟨w.heap.size, 2, none⟩ (.int .i64 ca)).setCell ⟨w.heap.size, 3, none⟩ (.int .i64 cs)).cell? ⟨w.heap.size + 1, 3, none⟩ = some (.int .i64 0) := by simp [go_sem, z3]
  replace y3 : (((w1.setCell ⟨w.heap.size, 1, none⟩ (.string fd)).setCell ⟨w.heap.size, 2, none⟩ (.int .i64 ca)).setCell ⟨w.heap.size, 3, none⟩ (.int .i64 cs)).frozen? ⟨w.heap.size + 1, 3, none⟩ = false := by simp [go_sem, y3]
  replace k4 : (((w1.setCell ⟨w.heap.size, 1, none⟩ (.string fd)).setCell ⟨w.heap.size, 2, none⟩ (.int .i64 ca)).setCell ⟨w.heap.size, 3, none⟩ (.int .i64 cs)).cell? ⟨w.heap.size, 4, none⟩ = some (.bool dead) := by simp [go_sem, k4]
  replace j4 : (((w1.setCell ⟨w.heap.size, 1, none⟩ (.string fd)).setCell ⟨w.heap.size, 2, none⟩ (.int .i64 ca)).setCell ⟨w.heap.size, 3, none⟩ (.int .i64 cs)).frozen? ⟨w.heap.size, 4, none⟩ = false := by simp [go_sem, j4]
  replace z4 : (((w1.setCell ⟨w.heap.size, 1, none⟩ (.string fd)).setCell ⟨w.heap.size, 2, none⟩ (.int .i64 ca)).setCell ⟨w.heap.size, 3, none⟩ (.int .i64 cs)).cell? ⟨w.heap.size + 1, 4, none⟩ = some (.bool false) := by simp [go_sem, z4]
  replace y4 : (((w1.setCell ⟨w.heap.size, 1, none⟩ (.string fd)).setCell ⟨w.heap.size, 2, none⟩ (.int .i64 ca)).setCell ⟨w.heap.size, 3, none⟩ (.int .i64 cs)).frozen? ⟨w.heap.size + 1, 4, none⟩ = false := by simp [go_sem, y4]
  replace k5 : (((w1.setCell ⟨w.heap.size, 1, none⟩ (.string fd)).setCell ⟨w.heap.size, 2, none⟩ (.int .i64 ca)).setCell ⟨w.heap.size, 3, none⟩ (.int .i64 cs)).cell? ⟨w.heap.size, 5, none⟩ = some (.int .i64 x) := by simp [go_sem, k5]
  replace j5 : (((w1.setCell ⟨w.heap.size, 1, none⟩ (.string fd)).setCell ⟨w.heap.size, 2, none⟩ (.int .i64 ca)).setCell ⟨w.heap.size, 3, none⟩ (.int .i64 cs)).frozen? ⟨w.heap.size, 5, none⟩ = false := by simp [go_sem, j5]
  replace z5 : (((w1.setCell ⟨w.heap.size, 1, none⟩ (.string fd)).setCell ⟨w.heap.size, 2, none⟩ (.int .i64 ca)).setCell ⟨w.heap.size, 3, none⟩ (.int .i64 cs)).cell? ⟨w.heap.size + 1, 5, none⟩ = some (.int .i64 0) := by simp [go_sem, z5]
  replace y5 : (((w1.setCell ⟨w.heap.size, 1, none⟩ (.string fd)).setCell ⟨w.heap.size, 2, none⟩ (.int .i64 ca)).setCell ⟨w.heap.size, 3, none⟩ (.int .i64 cs)).frozen? ⟨w.heap.size + 1, 5, none⟩ = false := by simp [go_sem, y5]
  replace k6 : (((w1.setCell ⟨w.heap.size, 1, none⟩ (.string fd)).setCell ⟨w.heap.size, 2, none⟩ (.int .i64 ca)).setCell ⟨w.heap.size, 3, none⟩ (.int .i64 cs)).cell? ⟨w.heap.size, 6, none⟩ = some (.int .i64 y) := by simp [go_sem, k6]
  replace j6 : (((w1.setCell ⟨w.heap.size, 1, none⟩ (.string fd)).setCell ⟨w.heap.size, 2, none⟩ (.int .i64 ca)).setCell ⟨w.heap.size, 3, none⟩ (.int .i64 cs)).frozen? ⟨w.heap.size, 6, none⟩ = false := by simp [go_sem, j6]
  replace z6 : (((w1.setCell ⟨w.heap.size, 1, none⟩ (.string fd)).setCell ⟨w.heap.size, 2, none⟩ (.int .i64 ca)).setCell ⟨w.heap.size, 3, none⟩ (.int .i64 cs)).cell? ⟨w.heap.size + 1, 6, none⟩ = some (.int .i64 0) := by simp [go_sem, z6]
  replace y6 : (((w1.setCell ⟨w.heap.size, 1, none⟩ (.string fd)).setCell ⟨w.heap.size, 2, none⟩ (.int .i64 ca)).setCell ⟨w.heap.size, 3, none⟩ (.int .i64 cs)).frozen? ⟨w.heap.size + 1, 6, none⟩ = false := by simp [go_sem, y6]
  replace k7 : (((w1.setCell ⟨w.heap.size, 1, none⟩ (.string fd)).setCell ⟨w.heap.size, 2, none⟩ (.int .i64 ca)).setCell ⟨w.heap.size, 3, none⟩ (.int .i64 cs)).cell? ⟨w.heap.size, 7, none⟩ = some (.string text) := by simp [go_sem, k7]
  replace j7 : (((w1.setCell ⟨w.heap.size, 1, none⟩ (.string fd)).setCell ⟨w.heap.size, 2, none⟩ (.int .i64 ca)).setCell ⟨w.heap.size, 3, none⟩ (.int .i64 cs)).frozen? ⟨w.heap.size, 7, none⟩ = false := by simp [go_sem, j7]
  replace z7 : (((w1.setCell ⟨w.heap.size, 1, none⟩ (.string fd)).setCell ⟨w.heap.size, 2, none⟩ (.int .i64 ca)).setCell ⟨w.heap.size, 3, none⟩ (.int .i64 cs)).cell? ⟨w.heap.size + 1, 7, none⟩ = some (.string ⟨#[]⟩) := by simp [go_sem, z7]
  replace y7 : (((w1.setCell ⟨w.heap.size, 1, none⟩ (.string fd)).setCell ⟨w.heap.size, 2, none⟩ (.int .i64 ca)).setCell ⟨w.heap.size, 3, none⟩ (.int .i64 cs)).frozen? ⟨w.heap.size + 1, 7, none⟩ = false := by simp [go_sem, y7]
  replace k8 : (((w1.setCell ⟨w.heap.size, 1, none⟩ (.string fd)).setCell ⟨w.heap.size, 2, none⟩ (.int .i64 ca)).setCell ⟨w.heap.size, 3, none⟩ (.int .i64 cs)).cell? ⟨w.heap.size, 8, none⟩ = some (.bool held) := by simp [go_sem, k8]
  replace j8 : (((w1.setCell ⟨w.heap.size, 1, none⟩ (.string fd)).setCell ⟨w.heap.size, 2, none⟩ (.int .i64 ca)).setCell ⟨w.heap.size, 3, none⟩ (.int .i64 cs)).frozen? ⟨w.heap.size, 8, none⟩ = false := by simp [go_sem, j8]
  replace z8 : (((w1.setCell ⟨w.heap.size, 1, none⟩ (.string fd)).setCell ⟨w.heap.size, 2, none⟩ (.int .i64 ca)).setCell ⟨w.heap.size, 3, none⟩ (.int .i64 cs)).cell? ⟨w.heap.size + 1, 8, none⟩ = some (.bool false) := by simp [go_sem, z8]
  replace y8 : (((w1.setCell ⟨w.heap.size, 1, none⟩ (.string fd)).setCell ⟨w.heap.size, 2, none⟩ (.int .i64 ca)).setCell ⟨w.heap.size, 3, none⟩ (.int .i64 cs)).frozen? ⟨w.heap.size + 1, 8, none⟩ = false := by simp [go_sem, y8]
  replace hz0 : w.heap.size < (((w1.setCell ⟨w.heap.size, 1, none⟩ (.string fd)).setCell ⟨w.heap.size, 2, none⟩ (.int .i64 ca)).setCell ⟨w.heap.size, 3, none⟩ (.int .i64 cs)).heap.size := by simpa using hz0
  replace hz1 : w.heap.size + 1 < (((w1.setCell ⟨w.heap.size, 1, none⟩ (.string fd)).setCell ⟨w.heap.size, 2, none⟩ (.int .i64 ca)).setCell ⟨w.heap.size, 3, none⟩ (.int .i64 cs)).heap.size := by simpa using hz1
  replace HB : Hid (Below w.heap.size w (((w1.setCell ⟨w.heap.size, 1, none⟩ (.string fd)).setCell ⟨w.heap.size, 2, none⟩ (.int .i64 ca)).setCell ⟨w.heap.size, 3, none⟩ (.int .i64 cs))) := ((HB.out.setCell (by simp) _).setCell (by simp) _).setCell (by simp) _
  generalize (((w1.setCell ⟨w.heap.size, 1, none⟩ (.string fd)).setCell ⟨w.heap.size, 2, none⟩ (.int .i64 ca)).setCell ⟨w.heap.size, 3, none⟩ (.int .i64 cs)) = W3 at *
  refine hK.out _ _ ?_
  clear hK K
  try simp only [Act.put, List.setIfInBounds_toArray, List.set_cons_zero, List.set_cons_succ]
  clear hk
  by_cases ht : text.size ≤ 16
  · have HCUT : Hid (cutF text = text) := by show _ = _; unfold cutF; rw [Nat.min_eq_left ht]; exact ByteArray.extract_zero_size
    cases dead
    · cases held
      · skip
        go_wp2_with fail
        refine (HS.out _).mono ?_
        rintro e w2 ⟨rfl, hb⟩
        replace k0 : w2.cell? ⟨w.heap.size, 0, none⟩ = some (.int .i64 nk) := (hb.cell (p := ⟨w.heap.size, 0, none⟩) (by simpa using hz0)).trans (by simp [go_sem, k0])
        replace j0 : w2.frozen? ⟨w.heap.size, 0, none⟩ = false := (hb.frozen (p := ⟨w.heap.size, 0, none⟩) (by simpa using hz0)).trans (by simp [go_sem, j0])
        replace z0 : w2.cell? ⟨w.heap.size + 1, 0, none⟩ = some (.int .i64 0) := (hb.cell (p := ⟨w.heap.size + 1, 0, none⟩) (by simpa using hz1)).trans (by simp [go_sem, z0])
        replace y0 : w2.frozen? ⟨w.heap.size + 1, 0, none⟩ = false := (hb.frozen (p := ⟨w.heap.size + 1, 0, none⟩) (by simpa using hz1)).trans (by simp [go_sem, y0])
        replace k1 : w2.cell? ⟨w.heap.size, 1, none⟩ = some (.string fd) := (hb.cell (p := ⟨w.heap.size, 1, none⟩) (by simpa using hz0)).trans (by simp [go_sem, k1])
        replace j1 : w2.frozen? ⟨w.heap.size, 1, none⟩ = false := (hb.frozen (p := ⟨w.heap.size, 1, none⟩) (by simpa using hz0)).trans (by simp [go_sem, j1])
        replace z1 : w2.cell? ⟨w.heap.size + 1, 1, none⟩ = some (.string ⟨#[]⟩) := (hb.cell (p := ⟨w.heap.size + 1, 1, none⟩) (by simpa using hz1)).trans (by simp [go_sem, z1])
        replace y1 : w2.frozen? ⟨w.heap.size + 1, 1, none⟩ = false := (hb.frozen (p := ⟨w.heap.size + 1, 1, none⟩) (by simpa using hz1)).trans (by simp [go_sem, y1])
        replace k2 : w2.cell? ⟨w.heap.size, 2, none⟩ = some (.int .i64 ca) := (hb.cell (p := ⟨w.heap.size, 2, none⟩) (by simpa using hz0)).trans (by simp [go_sem, k2])
        replace j2 : w2.frozen? ⟨w.heap.size, 2, none⟩ = false := (hb.frozen (p := ⟨w.heap.size, 2, none⟩) (by simpa using hz0)).trans (by simp [go_sem, j2])
        replace z2 : w2.cell? ⟨w.heap.size + 1, 2, none⟩ = some (.int .i64 0) := (hb.cell (p := ⟨w.heap.size + 1, 2, none⟩) (by simpa using hz1)).trans (by simp [go_sem, z2])
        replace y2 : w2.frozen? ⟨w.heap.size + 1, 2, none⟩ = false := (hb.frozen (p := ⟨w.heap.size + 1, 2, none⟩) (by simpa using hz1)).trans (by simp [go_sem, y2])
        replace k3 : w2.cell? ⟨w.heap.size, 3, none⟩ = some (.int .i64 cs) := (hb.cell (p := ⟨w.heap.size, 3, none⟩) (by simpa using hz0)).trans (by simp [go_sem, k3])
        replace j3 : w2.frozen? ⟨w.heap.size, 3, none⟩ = false := (hb.frozen (p := ⟨w.heap.size, 3, none⟩) (by simpa using hz0)).trans (by simp [go_sem, j3])
        replace z3 : w2.cell? ⟨w.heap.size + 1, 3, none⟩ = some (.int .i64 0) := (hb.cell (p := ⟨w.heap.size + 1, 3, none⟩) (by simpa using hz1)).trans (by simp [go_sem, z3])
        replace y3 : w2.frozen? ⟨w.heap.size + 1, 3, none⟩ = false := (hb.frozen (p := ⟨w.heap.size + 1, 3, none⟩) (by simpa using hz1)).trans (by simp [go_sem, y3])
        replace k4 : w2.cell? ⟨w.heap.size, 4, none⟩ = some (.bool false) := (hb.cell (p := ⟨w.heap.size, 4, none⟩) (by simpa using hz0)).trans (by simp [go_sem, k4])
        replace j4 : w2.frozen? ⟨w.heap.size, 4, none⟩ = false := (hb.frozen (p := ⟨w.heap.size, 4, none⟩) (by simpa using hz0)).trans (by simp [go_sem, j4])
        replace z4 : w2.cell? ⟨w.heap.size + 1, 4, none⟩ = some (.bool false) := (hb.cell (p := ⟨w.heap.size + 1, 4, none⟩) (by simpa using hz1)).trans (by simp [go_sem, z4])
        replace y4 : w2.frozen? ⟨w.heap.size + 1, 4, none⟩ = false := (hb.frozen (p := ⟨w.heap.size + 1, 4, none⟩) (by simpa using hz1)).trans (by simp [go_sem, y4])
        replace k5 : w2.cell? ⟨w.heap.size, 5, none⟩ = some (.int .i64 x) := (hb.cell (p := ⟨w.heap.size, 5, none⟩) (by simpa using hz0)).trans (by simp [go_sem, k5])
        replace j5 : w2.frozen? ⟨w.heap.size, 5, none⟩ = false := (hb.frozen (p := ⟨w.heap.size, 5, none⟩) (by simpa using hz0)).trans (by simp [go_sem, j5])
        replace z5 : w2.cell? ⟨w.heap.size + 1, 5, none⟩ = some (.int .i64 0) := (hb.cell (p := ⟨w.heap.size + 1, 5, none⟩) (by simpa using hz1)).trans (by simp [go_sem, z5])
        replace y5 : w2.frozen? ⟨w.heap.size + 1, 5, none⟩ = false := (hb.frozen (p := ⟨w.heap.size + 1, 5, none⟩) (by simpa using hz1)).trans (by simp [go_sem, y5])
        replace k6 : w2.cell? ⟨w.heap.size, 6, none⟩ = some (.int .i64 y) := (hb.cell (p := ⟨w.heap.size, 6, none⟩) (by simpa using hz0)).trans (by simp [go_sem, k6])
        replace j6 : w2.frozen? ⟨w.heap.size, 6, none⟩ = false := (hb.frozen (p := ⟨w.heap.size, 6, none⟩) (by simpa using hz0)).trans (by simp [go_sem, j6])
        replace z6 : w2.cell? ⟨w.heap.size + 1, 6, none⟩ = some (.int .i64 0) := (hb.cell (p := ⟨w.heap.size + 1, 6, none⟩) (by simpa using hz1)).trans (by simp [go_sem, z6])
        replace y6 : w2.frozen? ⟨w.heap.size + 1, 6, none⟩ = false := (hb.frozen (p := ⟨w.heap.size + 1, 6, none⟩) (by simpa using hz1)).trans (by simp [go_sem, y6])
        replace k7 : w2.cell? ⟨w.heap.size, 7, none⟩ = some (.string text) := (hb.cell (p := ⟨w.heap.size, 7, none⟩) (by simpa using hz0)).trans (by simp [go_sem, k7])
        replace j7 : w2.frozen? ⟨w.heap.size, 7, none⟩ = false := (hb.frozen (p := ⟨w.heap.size, 7, none⟩) (by simpa using hz0)).trans (by simp [go_sem, j7])
        replace z7 : w2.cell? ⟨w.heap.size + 1, 7, none⟩ = some (.string ⟨#[]⟩) := (hb.cell (p := ⟨w.heap.size + 1, 7, none⟩) (by simpa using hz1)).trans (by simp [go_sem, z7])
        replace y7 : w2.frozen? ⟨w.heap.size + 1, 7, none⟩ = false := (hb.frozen (p := ⟨w.heap.size + 1, 7, none⟩) (by simpa using hz1)).trans (by simp [go_sem, y7])
        replace k8 : w2.cell? ⟨w.heap.size, 8, none⟩ = some (.bool false) := (hb.cell (p := ⟨w.heap.size, 8, none⟩) (by simpa using hz0)).trans (by simp [go_sem, k8])
        replace j8 : w2.frozen? ⟨w.heap.size, 8, none⟩ = false := (hb.frozen (p := ⟨w.heap.size, 8, none⟩) (by simpa using hz0)).trans (by simp [go_sem, j8])
        replace z8 : w2.cell? ⟨w.heap.size + 1, 8, none⟩ = some (.bool false) := (hb.cell (p := ⟨w.heap.size + 1, 8, none⟩) (by simpa using hz1)).trans (by simp [go_sem, z8])
        replace y8 : w2.frozen? ⟨w.heap.size + 1, 8, none⟩ = false := (hb.frozen (p := ⟨w.heap.size + 1, 8, none⟩) (by simpa using hz1)).trans (by simp [go_sem, y8])
        replace HB : Hid (Below w.heap.size w w2) := below_via (HB.out.setCell (p := ⟨w.heap.size, 7, none⟩) (by simp) (.string text)) hb (by simpa using HB.out.size) ⟨rfl, rfl, rfl, rfl⟩
        clear hb hz0 hz1 HS HF
        go_upto_region 5 with fail
        replace k0 : ((w2.setCell ⟨w.heap.size, 5, none⟩ (.int .i64 sx)).setCell ⟨w.heap.size, 6, none⟩ (.int .i64 sy)).cell? ⟨w.heap.size, 0, none⟩ = some (.int .i64 nk) := by simp [go_sem, k0]
        replace j0 : ((w2.setCell ⟨w.heap.size, 5, none⟩ (.int .i64 sx)).setCell ⟨w.heap.size, 6, none⟩ (.int .i64 sy)).frozen? ⟨w.heap.size, 0, none⟩ = false := by simp [go_sem, j0]
        replace z0 : ((w2.setCell ⟨w.heap.size, 5, none⟩ (.int .i64 sx)).setCell ⟨w.heap.size, 6, none⟩ (.int .i64 sy)).cell? ⟨w.heap.size + 1, 0, none⟩ = some (.int .i64 0) := by simp [go_sem, z0]
        replace y0 : ((w2.setCell ⟨w.heap.size, 5, none⟩ (.int .i64 sx)).setCell ⟨w.heap.size, 6, none⟩ (.int .i64 sy)).frozen? ⟨w.heap.size + 1, 0, none⟩ = false := by simp [go_sem, y0]
        replace k1 : ((w2.setCell ⟨w.heap.size, 5, none⟩ (.int .i64 sx)).setCell ⟨w.heap.size, 6, none⟩ (.int .i64 sy)).cell? ⟨w.heap.size, 1, none⟩ = some (.string fd) := by simp [go_sem, k1]
        replace j1 : ((w2.setCell ⟨w.heap.size, 5, none⟩ (.int .i64 sx)).setCell ⟨w.heap.size, 6, none⟩ (.int .i64 sy)).frozen? ⟨w.heap.size, 1, none⟩ = false := by simp [go_sem, j1]
        replace z1 : ((w2.setCell ⟨w.heap.size, 5, none⟩ (.int .i64 sx)).setCell ⟨w.heap.size, 6, none⟩ (.int .i64 sy)).cell? ⟨w.heap.size + 1, 1, none⟩ = some (.string ⟨#[]⟩) := by simp [go_sem, z1]
        replace y1 : ((w2.setCell ⟨w.heap.size, 5, none⟩ (.int .i64 sx)).setCell ⟨w.heap.size, 6, none⟩ (.int .i64 sy)).frozen? ⟨w.heap.size + 1, 1, none⟩ = false := by simp [go_sem, y1]
        replace k2 : ((w2.setCell ⟨w.heap.size, 5, none⟩ (.int .i64 sx)).setCell ⟨w.heap.size, 6, none⟩ (.int .i64 sy)).cell? ⟨w.heap.size, 2, none⟩ = some (.int .i64 ca) := by simp [go_sem, k2]
        replace j2 : ((w2.setCell ⟨w.heap.size, 5, none⟩ (.int .i64 sx)).setCell ⟨w.heap.size, 6, none⟩ (.int .i64 sy)).frozen? ⟨w.heap.size, 2, none⟩ = false := by simp [go_sem, j2]
        replace z2 : ((w2.setCell ⟨w.heap.size, 5, none⟩ (.int .i64 sx)).setCell ⟨w.heap.size, 6, none⟩ (.int .i64 sy)).cell? ⟨w.heap.size + 1, 2, none⟩ = some (.int .i64 0) := by simp [go_sem, z2]
        replace y2 : ((w2.setCell ⟨w.heap.size, 5, none⟩ (.int .i64 sx)).setCell ⟨w.heap.size, 6, none⟩ (.int .i64 sy)).frozen? ⟨w.heap.size + 1, 2, none⟩ = false := by simp [go_sem, y2]
        replace k3 : ((w2.setCell ⟨w.heap.size, 5, none⟩ (.int .i64 sx)).setCell ⟨w.heap.size, 6, none⟩ (.int .i64 sy)).cell? ⟨w.heap.size, 3, none⟩ = some (.int .i64 cs) := by simp [go_sem, k3]
        replace j3 : ((w2.setCell ⟨w.heap.size, 5, none⟩ (.int .i64 sx)).setCell ⟨w.heap.size, 6, none⟩ (.int .i64 sy)).frozen? ⟨w.heap.size, 3, none⟩ = false := by simp [go_sem, j3]
        replace z3 : ((w2.setCell ⟨w.heap.size, 5, none⟩ (.int .i64 sx)).setCell ⟨w.heap.size, 6, none⟩ (.int .i64 sy)).cell? ⟨w.heap.size + 1, 3, none⟩ = some (.int .i64 0) := by simp [go_sem, z3]
        replace y3 : ((w2.setCell ⟨w.heap.size, 5, none⟩ (.int .i64 sx)).setCell ⟨w.heap.size, 6, none⟩ (.int .i64 sy)).frozen? ⟨w.heap.size + 1, 3, none⟩ = false := by simp [go_sem, y3]
        replace k4 : ((w2.setCell ⟨w.heap.size, 5, none⟩ (.int .i64 sx)).setCell ⟨w.heap.size, 6, none⟩ (.int .i64 sy)).cell? ⟨w.heap.size, 4, none⟩ = some (.bool false) := by simp [go_sem, k4]
        replace j4 : ((w2.setCell ⟨w.heap.size, 5, none⟩ (.int .i64 sx)).setCell ⟨w.heap.size, 6, none⟩ (.int .i64 sy)).frozen? ⟨w.heap.size, 4, none⟩ = false := by simp [go_sem, j4]
        replace z4 : ((w2.setCell ⟨w.heap.size, 5, none⟩ (.int .i64 sx)).setCell ⟨w.heap.size, 6, none⟩ (.int .i64 sy)).cell? ⟨w.heap.size + 1, 4, none⟩ = some (.bool false) := by simp [go_sem, z4]
        replace y4 : ((w2.setCell ⟨w.heap.size, 5, none⟩ (.int .i64 sx)).setCell ⟨w.heap.size, 6, none⟩ (.int .i64 sy)).frozen? ⟨w.heap.size + 1, 4, none⟩ = false := by simp [go_sem, y4]
        replace k5 : ((w2.setCell ⟨w.heap.size, 5, none⟩ (.int .i64 sx)).setCell ⟨w.heap.size, 6, none⟩ (.int .i64 sy)).cell? ⟨w.heap.size, 5, none⟩ = some (.int .i64 sx) := by simp [go_sem, k5]
        replace j5 : ((w2.setCell ⟨w.heap.size, 5, none⟩ (.int .i64 sx)).setCell ⟨w.heap.size, 6, none⟩ (.int .i64 sy)).frozen? ⟨w.heap.size, 5, none⟩ = false := by simp [go_sem, j5]
        replace z5 : ((w2.setCell ⟨w.heap.size, 5, none⟩ (.int .i64 sx)).setCell ⟨w.heap.size, 6, none⟩ (.int .i64 sy)).cell? ⟨w.heap.size + 1, 5, none⟩ = some (.int .i64 0) := by simp [go_sem, z5]
        replace y5 : ((w2.setCell ⟨w.heap.size, 5, none⟩ (.int .i64 sx)).setCell ⟨w.heap.size, 6, none⟩ (.int .i64 sy)).frozen? ⟨w.heap.size + 1, 5, none⟩ = false := by simp [go_sem, y5]
        replace k6 : ((w2.setCell ⟨w.heap.size, 5, none⟩ (.int .i64 sx)).setCell ⟨w.heap.size, 6, none⟩ (.int .i64 sy)).cell? ⟨w.heap.size, 6, none⟩ = some (.int .i64 sy) := by simp [go_sem, k6]
        replace j6 : ((w2.setCell ⟨w.heap.size, 5, none⟩ (.int .i64 sx)).setCell ⟨w.heap.size, 6, none⟩ (.int .i64 sy)).frozen? ⟨w.heap.size, 6, none⟩ = false := by simp [go_sem, j6]
        replace z6 : ((w2.setCell ⟨w.heap.size, 5, none⟩ (.int .i64 sx)).setCell ⟨w.heap.size, 6, none⟩ (.int .i64 sy)).cell? ⟨w.heap.size + 1, 6, none⟩ = some (.int .i64 0) := by simp [go_sem, z6]
        replace y6 : ((w2.setCell ⟨w.heap.size, 5, none⟩ (.int .i64 sx)).setCell ⟨w.heap.size, 6, none⟩ (.int .i64 sy)).frozen? ⟨w.heap.size + 1, 6, none⟩ = false := by simp [go_sem, y6]
        replace k7 : ((w2.setCell ⟨w.heap.size, 5, none⟩ (.int .i64 sx)).setCell ⟨w.heap.size, 6, none⟩ (.int .i64 sy)).cell? ⟨w.heap.size, 7, none⟩ = some (.string text) := by simp [go_sem, k7]
        replace j7 : ((w2.setCell ⟨w.heap.size, 5, none⟩ (.int .i64 sx)).setCell ⟨w.heap.size, 6, none⟩ (.int .i64 sy)).frozen? ⟨w.heap.size, 7, none⟩ = false := by simp [go_sem, j7]
        replace z7 : ((w2.setCell ⟨w.heap.size, 5, none⟩ (.int .i64 sx)).setCell ⟨w.heap.size, 6, none⟩ (.int .i64 sy)).cell? ⟨w.heap.size + 1, 7, none⟩ = some (.string ⟨#[]⟩) := by simp [go_sem, z7]
        replace y7 : ((w2.setCell ⟨w.heap.size, 5, none⟩ (.int .i64 sx)).setCell ⟨w.heap.size, 6, none⟩ (.int .i64 sy)).frozen? ⟨w.heap.size + 1, 7, none⟩ = false := by simp [go_sem, y7]
        replace k8 : ((w2.setCell ⟨w.heap.size, 5, none⟩ (.int .i64 sx)).setCell ⟨w.heap.size, 6, none⟩ (.int .i64 sy)).cell? ⟨w.heap.size, 8, none⟩ = some (.bool false) := by simp [go_sem, k8]
        replace j8 : ((w2.setCell ⟨w.heap.size, 5, none⟩ (.int .i64 sx)).setCell ⟨w.heap.size, 6, none⟩ (.int .i64 sy)).frozen? ⟨w.heap.size, 8, none⟩ = false := by simp [go_sem, j8]
        replace z8 : ((w2.setCell ⟨w.heap.size, 5, none⟩ (.int .i64 sx)).setCell ⟨w.heap.size, 6, none⟩ (.int .i64 sy)).cell? ⟨w.heap.size + 1, 8, none⟩ = some (.bool false) := by simp [go_sem, z8]
        replace y8 : ((w2.setCell ⟨w.heap.size, 5, none⟩ (.int .i64 sx)).setCell ⟨w.heap.size, 6, none⟩ (.int .i64 sy)).frozen? ⟨w.heap.size + 1, 8, none⟩ = false := by simp [go_sem, y8]
        replace HB : Hid (Below w.heap.size w ((w2.setCell ⟨w.heap.size, 5, none⟩ (.int .i64 sx)).setCell ⟨w.heap.size, 6, none⟩ (.int .i64 sy))) := ((HB.out.setCell (by simp) _).setCell (by simp) _)
        generalize ((w2.setCell ⟨w.heap.size, 5, none⟩ (.int .i64 sx)).setCell ⟨w.heap.size, 6, none⟩ (.int .i64 sy)) = W5 at *
        go_wp2
        refine bodyPost_ret (v := .agg #[.int .i64 nk, .string fd, .int .i64 ca, .int .i64 cs, .bool false, .int .i64 sx, .int .i64 sy, .string ⟨#[]⟩, .bool false]) ?_ rfl ?_
        · simp [results, Try.results15, go_sem, z0, z1, z2, z3, z4, z5, z6, z7, z8]
        · refine ⟨?_, ?_⟩
          · rfl
          · repeat (first | with_reducible exact HB.out | with_reducible refine Below.setCell ?_ (by simp) _)
      · skip
        go_wp2_with fail
        refine (HS.out _).mono ?_
        rintro e w2 ⟨rfl, hb⟩
        replace k0 : w2.cell? ⟨w.heap.size, 0, none⟩ = some (.int .i64 nk) := (hb.cell (p := ⟨w.heap.size, 0, none⟩) (by simpa using hz0)).trans (by simp [go_sem, k0])
        replace j0 : w2.frozen? ⟨w.heap.size, 0, none⟩ = false := (hb.frozen (p := ⟨w.heap.size, 0, none⟩) (by simpa using hz0)).trans (by simp [go_sem, j0])
        replace z0 : w2.cell? ⟨w.heap.size + 1, 0, none⟩ = some (.int .i64 0) := (hb.cell (p := ⟨w.heap.size + 1, 0, none⟩) (by simpa using hz1)).trans (by simp [go_sem, z0])
        replace y0 : w2.frozen? ⟨w.heap.size + 1, 0, none⟩ = false := (hb.frozen (p := ⟨w.heap.size + 1, 0, none⟩) (by simpa using hz1)).trans (by simp [go_sem, y0])
        replace k1 : w2.cell? ⟨w.heap.size, 1, none⟩ = some (.string fd) := (hb.cell (p := ⟨w.heap.size, 1, none⟩) (by simpa using hz0)).trans (by simp [go_sem, k1])
        replace j1 : w2.frozen? ⟨w.heap.size, 1, none⟩ = false := (hb.frozen (p := ⟨w.heap.size, 1, none⟩) (by simpa using hz0)).trans (by simp [go_sem, j1])
        replace z1 : w2.cell? ⟨w.heap.size + 1, 1, none⟩ = some (.string ⟨#[]⟩) := (hb.cell (p := ⟨w.heap.size + 1, 1, none⟩) (by simpa using hz1)).trans (by simp [go_sem, z1])
        replace y1 : w2.frozen? ⟨w.heap.size + 1, 1, none⟩ = false := (hb.frozen (p := ⟨w.heap.size + 1, 1, none⟩) (by simpa using hz1)).trans (by simp [go_sem, y1])
        replace k2 : w2.cell? ⟨w.heap.size, 2, none⟩ = some (.int .i64 ca) := (hb.cell (p := ⟨w.heap.size, 2, none⟩) (by simpa using hz0)).trans (by simp [go_sem, k2])
        replace j2 : w2.frozen? ⟨w.heap.size, 2, none⟩ = false := (hb.frozen (p := ⟨w.heap.size, 2, none⟩) (by simpa using hz0)).trans (by simp [go_sem, j2])
        replace z2 : w2.cell? ⟨w.heap.size + 1, 2, none⟩ = some (.int .i64 0) := (hb.cell (p := ⟨w.heap.size + 1, 2, none⟩) (by simpa using hz1)).trans (by simp [go_sem, z2])
        replace y2 : w2.frozen? ⟨w.heap.size + 1, 2, none⟩ = false := (hb.frozen (p := ⟨w.heap.size + 1, 2, none⟩) (by simpa using hz1)).trans (by simp [go_sem, y2])
        replace k3 : w2.cell? ⟨w.heap.size, 3, none⟩ = some (.int .i64 cs) := (hb.cell (p := ⟨w.heap.size, 3, none⟩) (by simpa using hz0)).trans (by simp [go_sem, k3])
        replace j3 : w2.frozen? ⟨w.heap.size, 3, none⟩ = false := (hb.frozen (p := ⟨w.heap.size, 3, none⟩) (by simpa using hz0)).trans (by simp [go_sem, j3])
        replace z3 : w2.cell? ⟨w.heap.size + 1, 3, none⟩ = some (.int .i64 0) := (hb.cell (p := ⟨w.heap.size + 1, 3, none⟩) (by simpa using hz1)).trans (by simp [go_sem, z3])
        replace y3 : w2.frozen? ⟨w.heap.size + 1, 3, none⟩ = false := (hb.frozen (p := ⟨w.heap.size + 1, 3, none⟩) (by simpa using hz1)).trans (by simp [go_sem, y3])
        replace k4 : w2.cell? ⟨w.heap.size, 4, none⟩ = some (.bool false) := (hb.cell (p := ⟨w.heap.size, 4, none⟩) (by simpa using hz0)).trans (by simp [go_sem, k4])
        replace j4 : w2.frozen? ⟨w.heap.size, 4, none⟩ = false := (hb.frozen (p := ⟨w.heap.size, 4, none⟩) (by simpa using hz0)).trans (by simp [go_sem, j4])
        replace z4 : w2.cell? ⟨w.heap.size + 1, 4, none⟩ = some (.bool false) := (hb.cell (p := ⟨w.heap.size + 1, 4, none⟩) (by simpa using hz1)).trans (by simp [go_sem, z4])
        replace y4 : w2.frozen? ⟨w.heap.size + 1, 4, none⟩ = false := (hb.frozen (p := ⟨w.heap.size + 1, 4, none⟩) (by simpa using hz1)).trans (by simp [go_sem, y4])
        replace k5 : w2.cell? ⟨w.heap.size, 5, none⟩ = some (.int .i64 x) := (hb.cell (p := ⟨w.heap.size, 5, none⟩) (by simpa using hz0)).trans (by simp [go_sem, k5])
        replace j5 : w2.frozen? ⟨w.heap.size, 5, none⟩ = false := (hb.frozen (p := ⟨w.heap.size, 5, none⟩) (by simpa using hz0)).trans (by simp [go_sem, j5])
        replace z5 : w2.cell? ⟨w.heap.size + 1, 5, none⟩ = some (.int .i64 0) := (hb.cell (p := ⟨w.heap.size + 1, 5, none⟩) (by simpa using hz1)).trans (by simp [go_sem, z5])
        replace y5 : w2.frozen? ⟨w.heap.size + 1, 5, none⟩ = false := (hb.frozen (p := ⟨w.heap.size + 1, 5, none⟩) (by simpa using hz1)).trans (by simp [go_sem, y5])
        replace k6 : w2.cell? ⟨w.heap.size, 6, none⟩ = some (.int .i64 y) := (hb.cell (p := ⟨w.heap.size, 6, none⟩) (by simpa using hz0)).trans (by simp [go_sem, k6])
        replace j6 : w2.frozen? ⟨w.heap.size, 6, none⟩ = false := (hb.frozen (p := ⟨w.heap.size, 6, none⟩) (by simpa using hz0)).trans (by simp [go_sem, j6])
        replace z6 : w2.cell? ⟨w.heap.size + 1, 6, none⟩ = some (.int .i64 0) := (hb.cell (p := ⟨w.heap.size + 1, 6, none⟩) (by simpa using hz1)).trans (by simp [go_sem, z6])
        replace y6 : w2.frozen? ⟨w.heap.size + 1, 6, none⟩ = false := (hb.frozen (p := ⟨w.heap.size + 1, 6, none⟩) (by simpa using hz1)).trans (by simp [go_sem, y6])
        replace k7 : w2.cell? ⟨w.heap.size, 7, none⟩ = some (.string text) := (hb.cell (p := ⟨w.heap.size, 7, none⟩) (by simpa using hz0)).trans (by simp [go_sem, k7])
        replace j7 : w2.frozen? ⟨w.heap.size, 7, none⟩ = false := (hb.frozen (p := ⟨w.heap.size, 7, none⟩) (by simpa using hz0)).trans (by simp [go_sem, j7])
        replace z7 : w2.cell? ⟨w.heap.size + 1, 7, none⟩ = some (.string ⟨#[]⟩) := (hb.cell (p := ⟨w.heap.size + 1, 7, none⟩) (by simpa using hz1)).trans (by simp [go_sem, z7])
        replace y7 : w2.frozen? ⟨w.heap.size + 1, 7, none⟩ = false := (hb.frozen (p := ⟨w.heap.size + 1, 7, none⟩) (by simpa using hz1)).trans (by simp [go_sem, y7])
        replace k8 : w2.cell? ⟨w.heap.size, 8, none⟩ = some (.bool true) := (hb.cell (p := ⟨w.heap.size, 8, none⟩) (by simpa using hz0)).trans (by simp [go_sem, k8])
        replace j8 : w2.frozen? ⟨w.heap.size, 8, none⟩ = false := (hb.frozen (p := ⟨w.heap.size, 8, none⟩) (by simpa using hz0)).trans (by simp [go_sem, j8])
        replace z8 : w2.cell? ⟨w.heap.size + 1, 8, none⟩ = some (.bool false) := (hb.cell (p := ⟨w.heap.size + 1, 8, none⟩) (by simpa using hz1)).trans (by simp [go_sem, z8])
        replace y8 : w2.frozen? ⟨w.heap.size + 1, 8, none⟩ = false := (hb.frozen (p := ⟨w.heap.size + 1, 8, none⟩) (by simpa using hz1)).trans (by simp [go_sem, y8])
        replace HB : Hid (Below w.heap.size w w2) := below_via (HB.out.setCell (p := ⟨w.heap.size, 7, none⟩) (by simp) (.string text)) hb (by simpa using HB.out.size) ⟨rfl, rfl, rfl, rfl⟩
        clear hb hz0 hz1 HS HF
        go_upto_region 5 with fail
        replace k0 : ((w2.setCell ⟨w.heap.size, 5, none⟩ (.int .i64 sx)).setCell ⟨w.heap.size, 6, none⟩ (.int .i64 sy)).cell? ⟨w.heap.size, 0, none⟩ = some (.int .i64 nk) := by simp [go_sem, k0]
        replace j0 : ((w2.setCell ⟨w.heap.size, 5, none⟩ (.int .i64 sx)).setCell ⟨w.heap.size, 6, none⟩ (.int .i64 sy)).frozen? ⟨w.heap.size, 0, none⟩ = false := by simp [go_sem, j0]
        replace z0 : ((w2.setCell ⟨w.heap.size, 5, none⟩ (.int .i64 sx)).setCell ⟨w.heap.size, 6, none⟩ (.int .i64 sy)).cell? ⟨w.heap.size + 1, 0, none⟩ = some (.int .i64 0) := by simp [go_sem, z0]
        replace y0 : ((w2.setCell ⟨w.heap.size, 5, none⟩ (.int .i64 sx)).setCell ⟨w.heap.size, 6, none⟩ (.int .i64 sy)).frozen? ⟨w.heap.size + 1, 0, none⟩ = false := by simp [go_sem, y0]
        replace k1 : ((w2.setCell ⟨w.heap.size, 5, none⟩ (.int .i64 sx)).setCell ⟨w.heap.size, 6, none⟩ (.int .i64 sy)).cell? ⟨w.heap.size, 1, none⟩ = some (.string fd) := by simp [go_sem, k1]
        replace j1 : ((w2.setCell ⟨w.heap.size, 5, none⟩ (.int .i64 sx)).setCell ⟨w.heap.size, 6, none⟩ (.int .i64 sy)).frozen? ⟨w.heap.size, 1, none⟩ = false := by simp [go_sem, j1]
        replace z1 : ((w2.setCell ⟨w.heap.size, 5, none⟩ (.int .i64 sx)).setCell ⟨w.heap.size, 6, none⟩ (.int .i64 sy)).cell? ⟨w.heap.size + 1, 1, none⟩ = some (.string ⟨#[]⟩) := by simp [go_sem, z1]
        replace y1 : ((w2.setCell ⟨w.heap.size, 5, none⟩ (.int .i64 sx)).setCell ⟨w.heap.size, 6, none⟩ (.int .i64 sy)).frozen? ⟨w.heap.size + 1, 1, none⟩ = false := by simp [go_sem, y1]
        replace k2 : ((w2.setCell ⟨w.heap.size, 5, none⟩ (.int .i64 sx)).setCell ⟨w.heap.size, 6, none⟩ (.int .i64 sy)).cell? ⟨w.heap.size, 2, none⟩ = some (.int .i64 ca) := by simp [go_sem, k2]
        replace j2 : ((w2.setCell ⟨w.heap.size, 5, none⟩ (.int .i64 sx)).setCell ⟨w.heap.size, 6, none⟩ (.int .i64 sy)).frozen? ⟨w.heap.size, 2, none⟩ = false := by simp [go_sem, j2]
        replace z2 : ((w2.setCell ⟨w.heap.size, 5, none⟩ (.int .i64 sx)).setCell ⟨w.heap.size, 6, none⟩ (.int .i64 sy)).cell? ⟨w.heap.size + 1, 2, none⟩ = some (.int .i64 0) := by simp [go_sem, z2]
        replace y2 : ((w2.setCell ⟨w.heap.size, 5, none⟩ (.int .i64 sx)).setCell ⟨w.heap.size, 6, none⟩ (.int .i64 sy)).frozen? ⟨w.heap.size + 1, 2, none⟩ = false := by simp [go_sem, y2]
        replace k3 : ((w2.setCell ⟨w.heap.size, 5, none⟩ (.int .i64 sx)).setCell ⟨w.heap.size, 6, none⟩ (.int .i64 sy)).cell? ⟨w.heap.size, 3, none⟩ = some (.int .i64 cs) := by simp [go_sem, k3]
        replace j3 : ((w2.setCell ⟨w.heap.size, 5, none⟩ (.int .i64 sx)).setCell ⟨w.heap.size, 6, none⟩ (.int .i64 sy)).frozen? ⟨w.heap.size, 3, none⟩ = false := by simp [go_sem, j3]
        replace z3 : ((w2.setCell ⟨w.heap.size, 5, none⟩ (.int .i64 sx)).setCell ⟨w.heap.size, 6, none⟩ (.int .i64 sy)).cell? ⟨w.heap.size + 1, 3, none⟩ = some (.int .i64 0) := by simp [go_sem, z3]
        replace y3 : ((w2.setCell ⟨w.heap.size, 5, none⟩ (.int .i64 sx)).setCell ⟨w.heap.size, 6, none⟩ (.int .i64 sy)).frozen? ⟨w.heap.size + 1, 3, none⟩ = false := by simp [go_sem, y3]
        replace k4 : ((w2.setCell ⟨w.heap.size, 5, none⟩ (.int .i64 sx)).setCell ⟨w.heap.size, 6, none⟩ (.int .i64 sy)).cell? ⟨w.heap.size, 4, none⟩ = some (.bool false) := by simp [go_sem, k4]
        replace j4 : ((w2.setCell ⟨w.heap.size, 5, none⟩ (.int .i64 sx)).setCell ⟨w.heap.size, 6, none⟩ (.int .i64 sy)).frozen? ⟨w.heap.size, 4, none⟩ = false := by simp [go_sem, j4]
        replace z4 : ((w2.setCell ⟨w.heap.size, 5, none⟩ (.int .i64 sx)).setCell ⟨w.heap.size, 6, none⟩ (.int .i64 sy)).cell? ⟨w.heap.size + 1, 4, none⟩ = some (.bool false) := by simp [go_sem, z4]
        replace y4 : ((w2.setCell ⟨w.heap.size, 5, none⟩ (.int .i64 sx)).setCell ⟨w.heap.size, 6, none⟩ (.int .i64 sy)).frozen? ⟨w.heap.size + 1, 4, none⟩ = false := by simp [go_sem, y4]
        replace k5 : ((w2.setCell ⟨w.heap.size, 5, none⟩ (.int .i64 sx)).setCell ⟨w.heap.size, 6, none⟩ (.int .i64 sy)).cell? ⟨w.heap.size, 5, none⟩ = some (.int .i64 sx) := by simp [go_sem, k5]
        replace j5 : ((w2.setCell ⟨w.heap.size, 5, none⟩ (.int .i64 sx)).setCell ⟨w.heap.size, 6, none⟩ (.int .i64 sy)).frozen? ⟨w.heap.size, 5, none⟩ = false := by simp [go_sem, j5]
        replace z5 : ((w2.setCell ⟨w.heap.size, 5, none⟩ (.int .i64 sx)).setCell ⟨w.heap.size, 6, none⟩ (.int .i64 sy)).cell? ⟨w.heap.size + 1, 5, none⟩ = some (.int .i64 0) := by simp [go_sem, z5]
        replace y5 : ((w2.setCell ⟨w.heap.size, 5, none⟩ (.int .i64 sx)).setCell ⟨w.heap.size, 6, none⟩ (.int .i64 sy)).frozen? ⟨w.heap.size + 1, 5, none⟩ = false := by simp [go_sem, y5]
        replace k6 : ((w2.setCell ⟨w.heap.size, 5, none⟩ (.int .i64 sx)).setCell ⟨w.heap.size, 6, none⟩ (.int .i64 sy)).cell? ⟨w.heap.size, 6, none⟩ = some (.int .i64 sy) := by simp [go_sem, k6]
        replace j6 : ((w2.setCell ⟨w.heap.size, 5, none⟩ (.int .i64 sx)).setCell ⟨w.heap.size, 6, none⟩ (.int .i64 sy)).frozen? ⟨w.heap.size, 6, none⟩ = false := by simp [go_sem, j6]
        replace z6 : ((w2.setCell ⟨w.heap.size, 5, none⟩ (.int .i64 sx)).setCell ⟨w.heap.size, 6, none⟩ (.int .i64 sy)).cell? ⟨w.heap.size + 1, 6, none⟩ = some (.int .i64 0) := by simp [go_sem, z6]
        replace y6 : ((w2.setCell ⟨w.heap.size, 5, none⟩ (.int .i64 sx)).setCell ⟨w.heap.size, 6, none⟩ (.int .i64 sy)).frozen? ⟨w.heap.size + 1, 6, none⟩ = false := by simp [go_sem, y6]
        replace k7 : ((w2.setCell ⟨w.heap.size, 5, none⟩ (.int .i64 sx)).setCell ⟨w.heap.size, 6, none⟩ (.int .i64 sy)).cell? ⟨w.heap.size, 7, none⟩ = some (.string text) := by simp [go_sem, k7]
        replace j7 : ((w2.setCell ⟨w.heap.size, 5, none⟩ (.int .i64 sx)).setCell ⟨w.heap.size, 6, none⟩ (.int .i64 sy)).frozen? ⟨w.heap.size, 7, none⟩ = false := by simp [go_sem, j7]
        replace z7 : ((w2.setCell ⟨w.heap.size, 5, none⟩ (.int .i64 sx)).setCell ⟨w.heap.size, 6, none⟩ (.int .i64 sy)).cell? ⟨w.heap.size + 1, 7, none⟩ = some (.string ⟨#[]⟩) := by simp [go_sem, z7]
        replace y7 : ((w2.setCell ⟨w.heap.size, 5, none⟩ (.int .i64 sx)).setCell ⟨w.heap.size, 6, none⟩ (.int .i64 sy)).frozen? ⟨w.heap.size + 1, 7, none⟩ = false := by simp [go_sem, y7]
        replace k8 : ((w2.setCell ⟨w.heap.size, 5, none⟩ (.int .i64 sx)).setCell ⟨w.heap.size, 6, none⟩ (.int .i64 sy)).cell? ⟨w.heap.size, 8, none⟩ = some (.bool true) := by simp [go_sem, k8]
        replace j8 : ((w2.setCell ⟨w.heap.size, 5, none⟩ (.int .i64 sx)).setCell ⟨w.heap.size, 6, none⟩ (.int .i64 sy)).frozen? ⟨w.heap.size, 8, none⟩ = false := by simp [go_sem, j8]
        replace z8 : ((w2.setCell ⟨w.heap.size, 5, none⟩ (.int .i64 sx)).setCell ⟨w.heap.size, 6, none⟩ (.int .i64 sy)).cell? ⟨w.heap.size + 1, 8, none⟩ = some (.bool false) := by simp [go_sem, z8]
        replace y8 : ((w2.setCell ⟨w.heap.size, 5, none⟩ (.int .i64 sx)).setCell ⟨w.heap.size, 6, none⟩ (.int .i64 sy)).frozen? ⟨w.heap.size + 1, 8, none⟩ = false := by simp [go_sem, y8]
        replace HB : Hid (Below w.heap.size w ((w2.setCell ⟨w.heap.size, 5, none⟩ (.int .i64 sx)).setCell ⟨w.heap.size, 6, none⟩ (.int .i64 sy))) := ((HB.out.setCell (by simp) _).setCell (by simp) _)
        generalize ((w2.setCell ⟨w.heap.size, 5, none⟩ (.int .i64 sx)).setCell ⟨w.heap.size, 6, none⟩ (.int .i64 sy)) = W5 at *
        go_wp2
        refine bodyPost_ret (v := .agg #[.int .i64 nk, .string fd, .int .i64 ca, .int .i64 cs, .bool false, .int .i64 sx, .int .i64 sy, .string text, .bool true]) ?_ rfl ?_
        · simp [results, Try.results15, go_sem, z0, z1, z2, z3, z4, z5, z6, z7, z8]
        · refine ⟨?_, ?_⟩
          · rw [HCUT.out]
          · repeat (first | with_reducible exact HB.out | with_reducible refine Below.setCell ?_ (by simp) _)
    · cases held
      · skip
        go_wp2_with fail
        refine (HS.out _).mono ?_
        rintro e w2 ⟨rfl, hb⟩
        replace k0 : w2.cell? ⟨w.heap.size, 0, none⟩ = some (.int .i64 nk) := (hb.cell (p := ⟨w.heap.size, 0, none⟩) (by simpa using hz0)).trans (by simp [go_sem, k0])
        replace j0 : w2.frozen? ⟨w.heap.size, 0, none⟩ = false := (hb.frozen (p := ⟨w.heap.size, 0, none⟩) (by simpa using hz0)).trans (by simp [go_sem, j0])
        replace z0 : w2.cell? ⟨w.heap.size + 1, 0, none⟩ = some (.int .i64 0) := (hb.cell (p := ⟨w.heap.size + 1, 0, none⟩) (by simpa using hz1)).trans (by simp [go_sem, z0])
        replace y0 : w2.frozen? ⟨w.heap.size + 1, 0, none⟩ = false := (hb.frozen (p := ⟨w.heap.size + 1, 0, none⟩) (by simpa using hz1)).trans (by simp [go_sem, y0])
        replace k1 : w2.cell? ⟨w.heap.size, 1, none⟩ = some (.string fd) := (hb.cell (p := ⟨w.heap.size, 1, none⟩) (by simpa using hz0)).trans (by simp [go_sem, k1])
        replace j1 : w2.frozen? ⟨w.heap.size, 1, none⟩ = false := (hb.frozen (p := ⟨w.heap.size, 1, none⟩) (by simpa using hz0)).trans (by simp [go_sem, j1])
        replace z1 : w2.cell? ⟨w.heap.size + 1, 1, none⟩ = some (.string ⟨#[]⟩) := (hb.cell (p := ⟨w.heap.size + 1, 1, none⟩) (by simpa using hz1)).trans (by simp [go_sem, z1])
        replace y1 : w2.frozen? ⟨w.heap.size + 1, 1, none⟩ = false := (hb.frozen (p := ⟨w.heap.size + 1, 1, none⟩) (by simpa using hz1)).trans (by simp [go_sem, y1])
        replace k2 : w2.cell? ⟨w.heap.size, 2, none⟩ = some (.int .i64 ca) := (hb.cell (p := ⟨w.heap.size, 2, none⟩) (by simpa using hz0)).trans (by simp [go_sem, k2])
        replace j2 : w2.frozen? ⟨w.heap.size, 2, none⟩ = false := (hb.frozen (p := ⟨w.heap.size, 2, none⟩) (by simpa using hz0)).trans (by simp [go_sem, j2])
        replace z2 : w2.cell? ⟨w.heap.size + 1, 2, none⟩ = some (.int .i64 0) := (hb.cell (p := ⟨w.heap.size + 1, 2, none⟩) (by simpa using hz1)).trans (by simp [go_sem, z2])
        replace y2 : w2.frozen? ⟨w.heap.size + 1, 2, none⟩ = false := (hb.frozen (p := ⟨w.heap.size + 1, 2, none⟩) (by simpa using hz1)).trans (by simp [go_sem, y2])
        replace k3 : w2.cell? ⟨w.heap.size, 3, none⟩ = some (.int .i64 cs) := (hb.cell (p := ⟨w.heap.size, 3, none⟩) (by simpa using hz0)).trans (by simp [go_sem, k3])
        replace j3 : w2.frozen? ⟨w.heap.size, 3, none⟩ = false := (hb.frozen (p := ⟨w.heap.size, 3, none⟩) (by simpa using hz0)).trans (by simp [go_sem, j3])
        replace z3 : w2.cell? ⟨w.heap.size + 1, 3, none⟩ = some (.int .i64 0) := (hb.cell (p := ⟨w.heap.size + 1, 3, none⟩) (by simpa using hz1)).trans (by simp [go_sem, z3])
        replace y3 : w2.frozen? ⟨w.heap.size + 1, 3, none⟩ = false := (hb.frozen (p := ⟨w.heap.size + 1, 3, none⟩) (by simpa using hz1)).trans (by simp [go_sem, y3])
        replace k4 : w2.cell? ⟨w.heap.size, 4, none⟩ = some (.bool true) := (hb.cell (p := ⟨w.heap.size, 4, none⟩) (by simpa using hz0)).trans (by simp [go_sem, k4])
        replace j4 : w2.frozen? ⟨w.heap.size, 4, none⟩ = false := (hb.frozen (p := ⟨w.heap.size, 4, none⟩) (by simpa using hz0)).trans (by simp [go_sem, j4])
        replace z4 : w2.cell? ⟨w.heap.size + 1, 4, none⟩ = some (.bool false) := (hb.cell (p := ⟨w.heap.size + 1, 4, none⟩) (by simpa using hz1)).trans (by simp [go_sem, z4])
        replace y4 : w2.frozen? ⟨w.heap.size + 1, 4, none⟩ = false := (hb.frozen (p := ⟨w.heap.size + 1, 4, none⟩) (by simpa using hz1)).trans (by simp [go_sem, y4])
        replace k5 : w2.cell? ⟨w.heap.size, 5, none⟩ = some (.int .i64 x) := (hb.cell (p := ⟨w.heap.size, 5, none⟩) (by simpa using hz0)).trans (by simp [go_sem, k5])
        replace j5 : w2.frozen? ⟨w.heap.size, 5, none⟩ = false := (hb.frozen (p := ⟨w.heap.size, 5, none⟩) (by simpa using hz0)).trans (by simp [go_sem, j5])
        replace z5 : w2.cell? ⟨w.heap.size + 1, 5, none⟩ = some (.int .i64 0) := (hb.cell (p := ⟨w.heap.size + 1, 5, none⟩) (by simpa using hz1)).trans (by simp [go_sem, z5])
        replace y5 : w2.frozen? ⟨w.heap.size + 1, 5, none⟩ = false := (hb.frozen (p := ⟨w.heap.size + 1, 5, none⟩) (by simpa using hz1)).trans (by simp [go_sem, y5])
        replace k6 : w2.cell? ⟨w.heap.size, 6, none⟩ = some (.int .i64 y) := (hb.cell (p := ⟨w.heap.size, 6, none⟩) (by simpa using hz0)).trans (by simp [go_sem, k6])
        replace j6 : w2.frozen? ⟨w.heap.size, 6, none⟩ = false := (hb.frozen (p := ⟨w.heap.size, 6, none⟩) (by simpa using hz0)).trans (by simp [go_sem, j6])
        replace z6 : w2.cell? ⟨w.heap.size + 1, 6, none⟩ = some (.int .i64 0) := (hb.cell (p := ⟨w.heap.size + 1, 6, none⟩) (by simpa using hz1)).trans (by simp [go_sem, z6])
        replace y6 : w2.frozen? ⟨w.heap.size + 1, 6, none⟩ = false := (hb.frozen (p := ⟨w.heap.size + 1, 6, none⟩) (by simpa using hz1)).trans (by simp [go_sem, y6])
        replace k7 : w2.cell? ⟨w.heap.size, 7, none⟩ = some (.string text) := (hb.cell (p := ⟨w.heap.size, 7, none⟩) (by simpa using hz0)).trans (by simp [go_sem, k7])
        replace j7 : w2.frozen? ⟨w.heap.size, 7, none⟩ = false := (hb.frozen (p := ⟨w.heap.size, 7, none⟩) (by simpa using hz0)).trans (by simp [go_sem, j7])
        replace z7 : w2.cell? ⟨w.heap.size + 1, 7, none⟩ = some (.string ⟨#[]⟩) := (hb.cell (p := ⟨w.heap.size + 1, 7, none⟩) (by simpa using hz1)).trans (by simp [go_sem, z7])
        replace y7 : w2.frozen? ⟨w.heap.size + 1, 7, none⟩ = false := (hb.frozen (p := ⟨w.heap.size + 1, 7, none⟩) (by simpa using hz1)).trans (by simp [go_sem, y7])
        replace k8 : w2.cell? ⟨w.heap.size, 8, none⟩ = some (.bool false) := (hb.cell (p := ⟨w.heap.size, 8, none⟩) (by simpa using hz0)).trans (by simp [go_sem, k8])
        replace j8 : w2.frozen? ⟨w.heap.size, 8, none⟩ = false := (hb.frozen (p := ⟨w.heap.size, 8, none⟩) (by simpa using hz0)).trans (by simp [go_sem, j8])
        replace z8 : w2.cell? ⟨w.heap.size + 1, 8, none⟩ = some (.bool false) := (hb.cell (p := ⟨w.heap.size + 1, 8, none⟩) (by simpa using hz1)).trans (by simp [go_sem, z8])
        replace y8 : w2.frozen? ⟨w.heap.size + 1, 8, none⟩ = false := (hb.frozen (p := ⟨w.heap.size + 1, 8, none⟩) (by simpa using hz1)).trans (by simp [go_sem, y8])
        replace HB : Hid (Below w.heap.size w w2) := below_via (HB.out.setCell (p := ⟨w.heap.size, 7, none⟩) (by simp) (.string text)) hb (by simpa using HB.out.size) ⟨rfl, rfl, rfl, rfl⟩
        clear hb hz0 hz1 HS HF
        go_upto_region 5 with fail
        replace k0 : ((w2.setCell ⟨w.heap.size, 5, none⟩ (.int .i64 sx)).setCell ⟨w.heap.size, 6, none⟩ (.int .i64 sy)).cell? ⟨w.heap.size, 0, none⟩ = some (.int .i64 nk) := by simp [go_sem, k0]
        replace j0 : ((w2.setCell ⟨w.heap.size, 5, none⟩ (.int .i64 sx)).setCell ⟨w.heap.size, 6, none⟩ (.int .i64 sy)).frozen? ⟨w.heap.size, 0, none⟩ = false := by simp [go_sem, j0]
        replace z0 : ((w2.setCell ⟨w.heap.size, 5, none⟩ (.int .i64 sx)).setCell ⟨w.heap.size, 6, none⟩ (.int .i64 sy)).cell? ⟨w.heap.size + 1, 0, none⟩ = some (.int .i64 0) := by simp [go_sem, z0]
        replace y0 : ((w2.setCell ⟨w.heap.size, 5, none⟩ (.int .i64 sx)).setCell ⟨w.heap.size, 6, none⟩ (.int .i64 sy)).frozen? ⟨w.heap.size + 1, 0, none⟩ = false := by simp [go_sem, y0]
        replace k1 : ((w2.setCell ⟨w.heap.size, 5, none⟩ (.int .i64 sx)).setCell ⟨w.heap.size, 6, none⟩ (.int .i64 sy)).cell? ⟨w.heap.size, 1, none⟩ = some (.string fd) := by simp [go_sem, k1]
        replace j1 : ((w2.setCell ⟨w.heap.size, 5, none⟩ (.int .i64 sx)).setCell ⟨w.heap.size, 6, none⟩ (.int .i64 sy)).frozen? ⟨w.heap.size, 1, none⟩ = false := by simp [go_sem, j1]
        replace z1 : ((w2.setCell ⟨w.heap.size, 5, none⟩ (.int .i64 sx)).setCell ⟨w.heap.size, 6, none⟩ (.int .i64 sy)).cell? ⟨w.heap.size + 1, 1, none⟩ = some (.string ⟨#[]⟩) := by simp [go_sem, z1]
        replace y1 : ((w2.setCell ⟨w.heap.size, 5, none⟩ (.int .i64 sx)).setCell ⟨w.heap.size, 6, none⟩ (.int .i64 sy)).frozen? ⟨w.heap.size + 1, 1, none⟩ = false := by simp [go_sem, y1]
        replace k2 : ((w2.setCell ⟨w.heap.size, 5, none⟩ (.int .i64 sx)).setCell ⟨w.heap.size, 6, none⟩ (.int .i64 sy)).cell? ⟨w.heap.size, 2, none⟩ = some (.int .i64 ca) := by simp [go_sem, k2]
        replace j2 : ((w2.setCell ⟨w.heap.size, 5, none⟩ (.int .i64 sx)).setCell ⟨w.heap.size, 6, none⟩ (.int .i64 sy)).frozen? ⟨w.heap.size, 2, none⟩ = false := by simp [go_sem, j2]
        replace z2 : ((w2.setCell ⟨w.heap.size, 5, none⟩ (.int .i64 sx)).setCell ⟨w.heap.size, 6, none⟩ (.int .i64 sy)).cell? ⟨w.heap.size + 1, 2, none⟩ = some (.int .i64 0) := by simp [go_sem, z2]
        replace y2 : ((w2.setCell ⟨w.heap.size, 5, none⟩ (.int .i64 sx)).setCell ⟨w.heap.size, 6, none⟩ (.int .i64 sy)).frozen? ⟨w.heap.size + 1, 2, none⟩ = false := by simp [go_sem, y2]
        replace k3 : ((w2.setCell ⟨w.heap.size, 5, none⟩ (.int .i64 sx)).setCell ⟨w.heap.size, 6, none⟩ (.int .i64 sy)).cell? ⟨w.heap.size, 3, none⟩ = some (.int .i64 cs) := by simp [go_sem, k3]
        replace j3 : ((w2.setCell ⟨w.heap.size, 5, none⟩ (.int .i64 sx)).setCell ⟨w.heap.size, 6, none⟩ (.int .i64 sy)).frozen? ⟨w.heap.size, 3, none⟩ = false := by simp [go_sem, j3]
        replace z3 : ((w2.setCell ⟨w.heap.size, 5, none⟩ (.int .i64 sx)).setCell ⟨w.heap.size, 6, none⟩ (.int .i64 sy)).cell? ⟨w.heap.size + 1, 3, none⟩ = some (.int .i64 0) := by simp [go_sem, z3]
        replace y3 : ((w2.setCell ⟨w.heap.size, 5, none⟩ (.int .i64 sx)).setCell ⟨w.heap.size, 6, none⟩ (.int .i64 sy)).frozen? ⟨w.heap.size + 1, 3, none⟩ = false := by simp [go_sem, y3]
        replace k4 : ((w2.setCell ⟨w.heap.size, 5, none⟩ (.int .i64 sx)).setCell ⟨w.heap.size, 6, none⟩ (.int .i64 sy)).cell? ⟨w.heap.size, 4, none⟩ = some (.bool true) := by simp [go_sem, k4]
        replace j4 : ((w2.setCell ⟨w.heap.size, 5, none⟩ (.int .i64 sx)).setCell ⟨w.heap.size, 6, none⟩ (.int .i64 sy)).frozen? ⟨w.heap.size, 4, none⟩ = false := by simp [go_sem, j4]
        replace z4 : ((w2.setCell ⟨w.heap.size, 5, none⟩ (.int .i64 sx)).setCell ⟨w.heap.size, 6, none⟩ (.int .i64 sy)).cell? ⟨w.heap.size + 1, 4, none⟩ = some (.bool false) := by simp [go_sem, z4]
        replace y4 : ((w2.setCell ⟨w.heap.size, 5, none⟩ (.int .i64 sx)).setCell ⟨w.heap.size, 6, none⟩ (.int .i64 sy)).frozen? ⟨w.heap.size + 1, 4, none⟩ = false := by simp [go_sem, y4]
        replace k5 : ((w2.setCell ⟨w.heap.size, 5, none⟩ (.int .i64 sx)).setCell ⟨w.heap.size, 6, none⟩ (.int .i64 sy)).cell? ⟨w.heap.size, 5, none⟩ = some (.int .i64 sx) := by simp [go_sem, k5]
        replace j5 : ((w2.setCell ⟨w.heap.size, 5, none⟩ (.int .i64 sx)).setCell ⟨w.heap.size, 6, none⟩ (.int .i64 sy)).frozen? ⟨w.heap.size, 5, none⟩ = false := by simp [go_sem, j5]
        replace z5 : ((w2.setCell ⟨w.heap.size, 5, none⟩ (.int .i64 sx)).setCell ⟨w.heap.size, 6, none⟩ (.int .i64 sy)).cell? ⟨w.heap.size + 1, 5, none⟩ = some (.int .i64 0) := by simp [go_sem, z5]
        replace y5 : ((w2.setCell ⟨w.heap.size, 5, none⟩ (.int .i64 sx)).setCell ⟨w.heap.size, 6, none⟩ (.int .i64 sy)).frozen? ⟨w.heap.size + 1, 5, none⟩ = false := by simp [go_sem, y5]
        replace k6 : ((w2.setCell ⟨w.heap.size, 5, none⟩ (.int .i64 sx)).setCell ⟨w.heap.size, 6, none⟩ (.int .i64 sy)).cell? ⟨w.heap.size, 6, none⟩ = some (.int .i64 sy) := by simp [go_sem, k6]
        replace j6 : ((w2.setCell ⟨w.heap.size, 5, none⟩ (.int .i64 sx)).setCell ⟨w.heap.size, 6, none⟩ (.int .i64 sy)).frozen? ⟨w.heap.size, 6, none⟩ = false := by simp [go_sem, j6]
        replace z6 : ((w2.setCell ⟨w.heap.size, 5, none⟩ (.int .i64 sx)).setCell ⟨w.heap.size, 6, none⟩ (.int .i64 sy)).cell? ⟨w.heap.size + 1, 6, none⟩ = some (.int .i64 0) := by simp [go_sem, z6]
        replace y6 : ((w2.setCell ⟨w.heap.size, 5, none⟩ (.int .i64 sx)).setCell ⟨w.heap.size, 6, none⟩ (.int .i64 sy)).frozen? ⟨w.heap.size + 1, 6, none⟩ = false := by simp [go_sem, y6]
        replace k7 : ((w2.setCell ⟨w.heap.size, 5, none⟩ (.int .i64 sx)).setCell ⟨w.heap.size, 6, none⟩ (.int .i64 sy)).cell? ⟨w.heap.size, 7, none⟩ = some (.string text) := by simp [go_sem, k7]
        replace j7 : ((w2.setCell ⟨w.heap.size, 5, none⟩ (.int .i64 sx)).setCell ⟨w.heap.size, 6, none⟩ (.int .i64 sy)).frozen? ⟨w.heap.size, 7, none⟩ = false := by simp [go_sem, j7]
        replace z7 : ((w2.setCell ⟨w.heap.size, 5, none⟩ (.int .i64 sx)).setCell ⟨w.heap.size, 6, none⟩ (.int .i64 sy)).cell? ⟨w.heap.size + 1, 7, none⟩ = some (.string ⟨#[]⟩) := by simp [go_sem, z7]
        replace y7 : ((w2.setCell ⟨w.heap.size, 5, none⟩ (.int .i64 sx)).setCell ⟨w.heap.size, 6, none⟩ (.int .i64 sy)).frozen? ⟨w.heap.size + 1, 7, none⟩ = false := by simp [go_sem, y7]
        replace k8 : ((w2.setCell ⟨w.heap.size, 5, none⟩ (.int .i64 sx)).setCell ⟨w.heap.size, 6, none⟩ (.int .i64 sy)).cell? ⟨w.heap.size, 8, none⟩ = some (.bool false) := by simp [go_sem, k8]
        replace j8 : ((w2.setCell ⟨w.heap.size, 5, none⟩ (.int .i64 sx)).setCell ⟨w.heap.size, 6, none⟩ (.int .i64 sy)).frozen? ⟨w.heap.size, 8, none⟩ = false := by simp [go_sem, j8]
        replace z8 : ((w2.setCell ⟨w.heap.size, 5, none⟩ (.int .i64 sx)).setCell ⟨w.heap.size, 6, none⟩ (.int .i64 sy)).cell? ⟨w.heap.size + 1, 8, none⟩ = some (.bool false) := by simp [go_sem, z8]
        replace y8 : ((w2.setCell ⟨w.heap.size, 5, none⟩ (.int .i64 sx)).setCell ⟨w.heap.size, 6, none⟩ (.int .i64 sy)).frozen? ⟨w.heap.size + 1, 8, none⟩ = false := by simp [go_sem, y8]
        replace HB : Hid (Below w.heap.size w ((w2.setCell ⟨w.heap.size, 5, none⟩ (.int .i64 sx)).setCell ⟨w.heap.size, 6, none⟩ (.int .i64 sy))) := ((HB.out.setCell (by simp) _).setCell (by simp) _)
        generalize ((w2.setCell ⟨w.heap.size, 5, none⟩ (.int .i64 sx)).setCell ⟨w.heap.size, 6, none⟩ (.int .i64 sy)) = W5 at *
        go_upto_region 7 with fail
        replace k0 : (((W5.setCell ⟨w.heap.size, 5, none⟩ (.int .i64 0)).setCell ⟨w.heap.size, 6, none⟩ (.int .i64 0)).setCell ⟨w.heap.size, 8, none⟩ (.bool false)).cell? ⟨w.heap.size, 0, none⟩ = some (.int .i64 nk) := by simp [go_sem, k0]
        replace j0 : (((W5.setCell ⟨w.heap.size, 5, none⟩ (.int .i64 0)).setCell ⟨w.heap.size, 6, none⟩ (.int .i64 0)).setCell ⟨w.heap.size, 8, none⟩ (.bool false)).frozen? ⟨w.heap.size, 0, none⟩ = false := by simp [go_sem, j0]
        replace z0 : (((W5.setCell ⟨w.heap.size, 5, none⟩ (.int .i64 0)).setCell ⟨w.heap.size, 6, none⟩ (.int .i64 0)).setCell ⟨w.heap.size, 8, none⟩ (.bool false)).cell? ⟨w.heap.size + 1, 0, none⟩ = some (.int .i64 0) := by simp [go_sem, z0]
        replace y0 : (((W5.setCell ⟨w.heap.size, 5, none⟩ (.int .i64 0)).setCell ⟨w.heap.size, 6, none⟩ (.int .i64 0)).setCell ⟨w.heap.size, 8, none⟩ (.bool false)).frozen? ⟨w.heap.size + 1, 0, none⟩ = false := by simp [go_sem, y0]
        replace k1 : (((W5.setCell ⟨w.heap.size, 5, none⟩ (.int .i64 0)).setCell ⟨w.heap.size, 6, none⟩ (.int .i64 0)).setCell ⟨w.heap.size, 8, none⟩ (.bool false)).cell? ⟨w.heap.size, 1, none⟩ = some (.string fd) := by simp [go_sem, k1]
        replace j1 : (((W5.setCell ⟨w.heap.size, 5, none⟩ (.int .i64 0)).setCell ⟨w.heap.size, 6, none⟩ (.int .i64 0)).setCell ⟨w.heap.size, 8, none⟩ (.bool false)).frozen? ⟨w.heap.size, 1, none⟩ = false := by simp [go_sem, j1]
        replace z1 : (((W5.setCell ⟨w.heap.size, 5, none⟩ (.int .i64 0)).setCell ⟨w.heap.size, 6, none⟩ (.int .i64 0)).setCell ⟨w.heap.size, 8, none⟩ (.bool false)).cell? ⟨w.heap.size + 1, 1, none⟩ = some (.string ⟨#[]⟩) := by simp [go_sem, z1]
        replace y1 : (((W5.setCell ⟨w.heap.size, 5, none⟩ (.int .i64 0)).setCell ⟨w.heap.size, 6, none⟩ (.int .i64 0)).setCell ⟨w.heap.size, 8, none⟩ (.bool false)).frozen? ⟨w.heap.size + 1, 1, none⟩ = false := by simp [go_sem, y1]
        replace k2 : (((W5.setCell ⟨w.heap.size, 5, none⟩ (.int .i64 0)).setCell ⟨w.heap.size, 6, none⟩ (.int .i64 0)).setCell ⟨w.heap.size, 8, none⟩ (.bool false)).cell? ⟨w.heap.size, 2, none⟩ = some (.int .i64 ca) := by simp [go_sem, k2]
        replace j2 : (((W5.setCell ⟨w.heap.size, 5, none⟩ (.int .i64 0)).setCell ⟨w.heap.size, 6, none⟩ (.int .i64 0)).setCell ⟨w.heap.size, 8, none⟩ (.bool false)).frozen? ⟨w.heap.size, 2, none⟩ = false := by simp [go_sem, j2]
        replace z2 : (((W5.setCell ⟨w.heap.size, 5, none⟩ (.int .i64 0)).setCell ⟨w.heap.size, 6, none⟩ (.int .i64 0)).setCell ⟨w.heap.size, 8, none⟩ (.bool false)).cell? ⟨w.heap.size + 1, 2, none⟩ = some (.int .i64 0) := by simp [go_sem, z2]
        replace y2 : (((W5.setCell ⟨w.heap.size, 5, none⟩ (.int .i64 0)).setCell ⟨w.heap.size, 6, none⟩ (.int .i64 0)).setCell ⟨w.heap.size, 8, none⟩ (.bool false)).frozen? ⟨w.heap.size + 1, 2, none⟩ = false := by simp [go_sem, y2]
        replace k3 : (((W5.setCell ⟨w.heap.size, 5, none⟩ (.int .i64 0)).setCell ⟨w.heap.size, 6, none⟩ (.int .i64 0)).setCell ⟨w.heap.size, 8, none⟩ (.bool false)).cell? ⟨w.heap.size, 3, none⟩ = some (.int .i64 cs) := by simp [go_sem, k3]
        replace j3 : (((W5.setCell ⟨w.heap.size, 5, none⟩ (.int .i64 0)).setCell ⟨w.heap.size, 6, none⟩ (.int .i64 0)).setCell ⟨w.heap.size, 8, none⟩ (.bool false)).frozen? ⟨w.heap.size, 3, none⟩ = false := by simp [go_sem, j3]
        replace z3 : (((W5.setCell ⟨w.heap.size, 5, none⟩ (.int .i64 0)).setCell ⟨w.heap.size, 6, none⟩ (.int .i64 0)).setCell ⟨w.heap.size, 8, none⟩ (.bool false)).cell? ⟨w.heap.size + 1, 3, none⟩ = some (.int .i64 0) := by simp [go_sem, z3]
        replace y3 : (((W5.setCell ⟨w.heap.size, 5, none⟩ (.int .i64 0)).setCell ⟨w.heap.size, 6, none⟩ (.int .i64 0)).setCell ⟨w.heap.size, 8, none⟩ (.bool false)).frozen? ⟨w.heap.size + 1, 3, none⟩ = false := by simp [go_sem, y3]
        replace k4 : (((W5.setCell ⟨w.heap.size, 5, none⟩ (.int .i64 0)).setCell ⟨w.heap.size, 6, none⟩ (.int .i64 0)).setCell ⟨w.heap.size, 8, none⟩ (.bool false)).cell? ⟨w.heap.size, 4, none⟩ = some (.bool true) := by simp [go_sem, k4]
        replace j4 : (((W5.setCell ⟨w.heap.size, 5, none⟩ (.int .i64 0)).setCell ⟨w.heap.size, 6, none⟩ (.int .i64 0)).setCell ⟨w.heap.size, 8, none⟩ (.bool false)).frozen? ⟨w.heap.size, 4, none⟩ = false := by simp [go_sem, j4]
        replace z4 : (((W5.setCell ⟨w.heap.size, 5, none⟩ (.int .i64 0)).setCell ⟨w.heap.size, 6, none⟩ (.int .i64 0)).setCell ⟨w.heap.size, 8, none⟩ (.bool false)).cell? ⟨w.heap.size + 1, 4, none⟩ = some (.bool false) := by simp [go_sem, z4]
        replace y4 : (((W5.setCell ⟨w.heap.size, 5, none⟩ (.int .i64 0)).setCell ⟨w.heap.size, 6, none⟩ (.int .i64 0)).setCell ⟨w.heap.size, 8, none⟩ (.bool false)).frozen? ⟨w.heap.size + 1, 4, none⟩ = false := by simp [go_sem, y4]
        replace k5 : (((W5.setCell ⟨w.heap.size, 5, none⟩ (.int .i64 0)).setCell ⟨w.heap.size, 6, none⟩ (.int .i64 0)).setCell ⟨w.heap.size, 8, none⟩ (.bool false)).cell? ⟨w.heap.size, 5, none⟩ = some (.int .i64 0) := by simp [go_sem, k5]
        replace j5 : (((W5.setCell ⟨w.heap.size, 5, none⟩ (.int .i64 0)).setCell ⟨w.heap.size, 6, none⟩ (.int .i64 0)).setCell ⟨w.heap.size, 8, none⟩ (.bool false)).frozen? ⟨w.heap.size, 5, none⟩ = false := by simp [go_sem, j5]
        replace z5 : (((W5.setCell ⟨w.heap.size, 5, none⟩ (.int .i64 0)).setCell ⟨w.heap.size, 6, none⟩ (.int .i64 0)).setCell ⟨w.heap.size, 8, none⟩ (.bool false)).cell? ⟨w.heap.size + 1, 5, none⟩ = some (.int .i64 0) := by simp [go_sem, z5]
        replace y5 : (((W5.setCell ⟨w.heap.size, 5, none⟩ (.int .i64 0)).setCell ⟨w.heap.size, 6, none⟩ (.int .i64 0)).setCell ⟨w.heap.size, 8, none⟩ (.bool false)).frozen? ⟨w.heap.size + 1, 5, none⟩ = false := by simp [go_sem, y5]
        replace k6 : (((W5.setCell ⟨w.heap.size, 5, none⟩ (.int .i64 0)).setCell ⟨w.heap.size, 6, none⟩ (.int .i64 0)).setCell ⟨w.heap.size, 8, none⟩ (.bool false)).cell? ⟨w.heap.size, 6, none⟩ = some (.int .i64 0) := by simp [go_sem, k6]
        replace j6 : (((W5.setCell ⟨w.heap.size, 5, none⟩ (.int .i64 0)).setCell ⟨w.heap.size, 6, none⟩ (.int .i64 0)).setCell ⟨w.heap.size, 8, none⟩ (.bool false)).frozen? ⟨w.heap.size, 6, none⟩ = false := by simp [go_sem, j6]
        replace z6 : (((W5.setCell ⟨w.heap.size, 5, none⟩ (.int .i64 0)).setCell ⟨w.heap.size, 6, none⟩ (.int .i64 0)).setCell ⟨w.heap.size, 8, none⟩ (.bool false)).cell? ⟨w.heap.size + 1, 6, none⟩ = some (.int .i64 0) := by simp [go_sem, z6]
        replace y6 : (((W5.setCell ⟨w.heap.size, 5, none⟩ (.int .i64 0)).setCell ⟨w.heap.size, 6, none⟩ (.int .i64 0)).setCell ⟨w.heap.size, 8, none⟩ (.bool false)).frozen? ⟨w.heap.size + 1, 6, none⟩ = false := by simp [go_sem, y6]
        replace k7 : (((W5.setCell ⟨w.heap.size, 5, none⟩ (.int .i64 0)).setCell ⟨w.heap.size, 6, none⟩ (.int .i64 0)).setCell ⟨w.heap.size, 8, none⟩ (.bool false)).cell? ⟨w.heap.size, 7, none⟩ = some (.string text) := by simp [go_sem, k7]
        replace j7 : (((W5.setCell ⟨w.heap.size, 5, none⟩ (.int .i64 0)).setCell ⟨w.heap.size, 6, none⟩ (.int .i64 0)).setCell ⟨w.heap.size, 8, none⟩ (.bool false)).frozen? ⟨w.heap.size, 7, none⟩ = false := by simp [go_sem, j7]
        replace z7 : (((W5.setCell ⟨w.heap.size, 5, none⟩ (.int .i64 0)).setCell ⟨w.heap.size, 6, none⟩ (.int .i64 0)).setCell ⟨w.heap.size, 8, none⟩ (.bool false)).cell? ⟨w.heap.size + 1, 7, none⟩ = some (.string ⟨#[]⟩) := by simp [go_sem, z7]
        replace y7 : (((W5.setCell ⟨w.heap.size, 5, none⟩ (.int .i64 0)).setCell ⟨w.heap.size, 6, none⟩ (.int .i64 0)).setCell ⟨w.heap.size, 8, none⟩ (.bool false)).frozen? ⟨w.heap.size + 1, 7, none⟩ = false := by simp [go_sem, y7]
        replace k8 : (((W5.setCell ⟨w.heap.size, 5, none⟩ (.int .i64 0)).setCell ⟨w.heap.size, 6, none⟩ (.int .i64 0)).setCell ⟨w.heap.size, 8, none⟩ (.bool false)).cell? ⟨w.heap.size, 8, none⟩ = some (.bool false) := by simp [go_sem, k8]
        replace j8 : (((W5.setCell ⟨w.heap.size, 5, none⟩ (.int .i64 0)).setCell ⟨w.heap.size, 6, none⟩ (.int .i64 0)).setCell ⟨w.heap.size, 8, none⟩ (.bool false)).frozen? ⟨w.heap.size, 8, none⟩ = false := by simp [go_sem, j8]
        replace z8 : (((W5.setCell ⟨w.heap.size, 5, none⟩ (.int .i64 0)).setCell ⟨w.heap.size, 6, none⟩ (.int .i64 0)).setCell ⟨w.heap.size, 8, none⟩ (.bool false)).cell? ⟨w.heap.size + 1, 8, none⟩ = some (.bool false) := by simp [go_sem, z8]
        replace y8 : (((W5.setCell ⟨w.heap.size, 5, none⟩ (.int .i64 0)).setCell ⟨w.heap.size, 6, none⟩ (.int .i64 0)).setCell ⟨w.heap.size, 8, none⟩ (.bool false)).frozen? ⟨w.heap.size + 1, 8, none⟩ = false := by simp [go_sem, y8]
        replace HB : Hid (Below w.heap.size w (((W5.setCell ⟨w.heap.size, 5, none⟩ (.int .i64 0)).setCell ⟨w.heap.size, 6, none⟩ (.int .i64 0)).setCell ⟨w.heap.size, 8, none⟩ (.bool false))) := (((HB.out.setCell (by simp) _).setCell (by simp) _).setCell (by simp) _)
        generalize (((W5.setCell ⟨w.heap.size, 5, none⟩ (.int .i64 0)).setCell ⟨w.heap.size, 6, none⟩ (.int .i64 0)).setCell ⟨w.heap.size, 8, none⟩ (.bool false)) = W6 at *
        go_wp2
        refine bodyPost_ret (v := .agg #[.int .i64 nk, .string fd, .int .i64 ca, .int .i64 cs, .bool true, .int .i64 0, .int .i64 0, .string ⟨#[]⟩, .bool false]) ?_ rfl ?_
        · simp [results, Try.results15, go_sem, z0, z1, z2, z3, z4, z5, z6, z7, z8]
        · refine ⟨?_, ?_⟩
          · simp
          · repeat (first | with_reducible exact HB.out | with_reducible refine Below.setCell ?_ (by simp) _)
      · skip
        go_wp2_with fail
        refine (HS.out _).mono ?_
        rintro e w2 ⟨rfl, hb⟩
        replace k0 : w2.cell? ⟨w.heap.size, 0, none⟩ = some (.int .i64 nk) := (hb.cell (p := ⟨w.heap.size, 0, none⟩) (by simpa using hz0)).trans (by simp [go_sem, k0])
        replace j0 : w2.frozen? ⟨w.heap.size, 0, none⟩ = false := (hb.frozen (p := ⟨w.heap.size, 0, none⟩) (by simpa using hz0)).trans (by simp [go_sem, j0])
        replace z0 : w2.cell? ⟨w.heap.size + 1, 0, none⟩ = some (.int .i64 0) := (hb.cell (p := ⟨w.heap.size + 1, 0, none⟩) (by simpa using hz1)).trans (by simp [go_sem, z0])
        replace y0 : w2.frozen? ⟨w.heap.size + 1, 0, none⟩ = false := (hb.frozen (p := ⟨w.heap.size + 1, 0, none⟩) (by simpa using hz1)).trans (by simp [go_sem, y0])
        replace k1 : w2.cell? ⟨w.heap.size, 1, none⟩ = some (.string fd) := (hb.cell (p := ⟨w.heap.size, 1, none⟩) (by simpa using hz0)).trans (by simp [go_sem, k1])
        replace j1 : w2.frozen? ⟨w.heap.size, 1, none⟩ = false := (hb.frozen (p := ⟨w.heap.size, 1, none⟩) (by simpa using hz0)).trans (by simp [go_sem, j1])
        replace z1 : w2.cell? ⟨w.heap.size + 1, 1, none⟩ = some (.string ⟨#[]⟩) := (hb.cell (p := ⟨w.heap.size + 1, 1, none⟩) (by simpa using hz1)).trans (by simp [go_sem, z1])
        replace y1 : w2.frozen? ⟨w.heap.size + 1, 1, none⟩ = false := (hb.frozen (p := ⟨w.heap.size + 1, 1, none⟩) (by simpa using hz1)).trans (by simp [go_sem, y1])
        replace k2 : w2.cell? ⟨w.heap.size, 2, none⟩ = some (.int .i64 ca) := (hb.cell (p := ⟨w.heap.size, 2, none⟩) (by simpa using hz0)).trans (by simp [go_sem, k2])
        replace j2 : w2.frozen? ⟨w.heap.size, 2, none⟩ = false := (hb.frozen (p := ⟨w.heap.size, 2, none⟩) (by simpa using hz0)).trans (by simp [go_sem, j2])
        replace z2 : w2.cell? ⟨w.heap.size + 1, 2, none⟩ = some (.int .i64 0) := (hb.cell (p := ⟨w.heap.size + 1, 2, none⟩) (by simpa using hz1)).trans (by simp [go_sem, z2])
        replace y2 : w2.frozen? ⟨w.heap.size + 1, 2, none⟩ = false := (hb.frozen (p := ⟨w.heap.size + 1, 2, none⟩) (by simpa using hz1)).trans (by simp [go_sem, y2])
        replace k3 : w2.cell? ⟨w.heap.size, 3, none⟩ = some (.int .i64 cs) := (hb.cell (p := ⟨w.heap.size, 3, none⟩) (by simpa using hz0)).trans (by simp [go_sem, k3])
        replace j3 : w2.frozen? ⟨w.heap.size, 3, none⟩ = false := (hb.frozen (p := ⟨w.heap.size, 3, none⟩) (by simpa using hz0)).trans (by simp [go_sem, j3])
        replace z3 : w2.cell? ⟨w.heap.size + 1, 3, none⟩ = some (.int .i64 0) := (hb.cell (p := ⟨w.heap.size + 1, 3, none⟩) (by simpa using hz1)).trans (by simp [go_sem, z3])
        replace y3 : w2.frozen? ⟨w.heap.size + 1, 3, none⟩ = false := (hb.frozen (p := ⟨w.heap.size + 1, 3, none⟩) (by simpa using hz1)).trans (by simp [go_sem, y3])
        replace k4 : w2.cell? ⟨w.heap.size, 4, none⟩ = some (.bool true) := (hb.cell (p := ⟨w.heap.size, 4, none⟩) (by simpa using hz0)).trans (by simp [go_sem, k4])
        replace j4 : w2.frozen? ⟨w.heap.size, 4, none⟩ = false := (hb.frozen (p := ⟨w.heap.size, 4, none⟩) (by simpa using hz0)).trans (by simp [go_sem, j4])
        replace z4 : w2.cell? ⟨w.heap.size + 1, 4, none⟩ = some (.bool false) := (hb.cell (p := ⟨w.heap.size + 1, 4, none⟩) (by simpa using hz1)).trans (by simp [go_sem, z4])
        replace y4 : w2.frozen? ⟨w.heap.size + 1, 4, none⟩ = false := (hb.frozen (p := ⟨w.heap.size + 1, 4, none⟩) (by simpa using hz1)).trans (by simp [go_sem, y4])
        replace k5 : w2.cell? ⟨w.heap.size, 5, none⟩ = some (.int .i64 x) := (hb.cell (p := ⟨w.heap.size, 5, none⟩) (by simpa using hz0)).trans (by simp [go_sem, k5])
        replace j5 : w2.frozen? ⟨w.heap.size, 5, none⟩ = false := (hb.frozen (p := ⟨w.heap.size, 5, none⟩) (by simpa using hz0)).trans (by simp [go_sem, j5])
        replace z5 : w2.cell? ⟨w.heap.size + 1, 5, none⟩ = some (.int .i64 0) := (hb.cell (p := ⟨w.heap.size + 1, 5, none⟩) (by simpa using hz1)).trans (by simp [go_sem, z5])
        replace y5 : w2.frozen? ⟨w.heap.size + 1, 5, none⟩ = false := (hb.frozen (p := ⟨w.heap.size + 1, 5, none⟩) (by simpa using hz1)).trans (by simp [go_sem, y5])
        replace k6 : w2.cell? ⟨w.heap.size, 6, none⟩ = some (.int .i64 y) := (hb.cell (p := ⟨w.heap.size, 6, none⟩) (by simpa using hz0)).trans (by simp [go_sem, k6])
        replace j6 : w2.frozen? ⟨w.heap.size, 6, none⟩ = false := (hb.frozen (p := ⟨w.heap.size, 6, none⟩) (by simpa using hz0)).trans (by simp [go_sem, j6])
        replace z6 : w2.cell? ⟨w.heap.size + 1, 6, none⟩ = some (.int .i64 0) := (hb.cell (p := ⟨w.heap.size + 1, 6, none⟩) (by simpa using hz1)).trans (by simp [go_sem, z6])
        replace y6 : w2.frozen? ⟨w.heap.size + 1, 6, none⟩ = false := (hb.frozen (p := ⟨w.heap.size + 1, 6, none⟩) (by simpa using hz1)).trans (by simp [go_sem, y6])
        replace k7 : w2.cell? ⟨w.heap.size, 7, none⟩ = some (.string text) := (hb.cell (p := ⟨w.heap.size, 7, none⟩) (by simpa using hz0)).trans (by simp [go_sem, k7])
        replace j7 : w2.frozen? ⟨w.heap.size, 7, none⟩ = false := (hb.frozen (p := ⟨w.heap.size, 7, none⟩) (by simpa using hz0)).trans (by simp [go_sem, j7])
        replace z7 : w2.cell? ⟨w.heap.size + 1, 7, none⟩ = some (.string ⟨#[]⟩) := (hb.cell (p := ⟨w.heap.size + 1, 7, none⟩) (by simpa using hz1)).trans (by simp [go_sem, z7])
        replace y7 : w2.frozen? ⟨w.heap.size + 1, 7, none⟩ = false := (hb.frozen (p := ⟨w.heap.size + 1, 7, none⟩) (by simpa using hz1)).trans (by simp [go_sem, y7])
        replace k8 : w2.cell? ⟨w.heap.size, 8, none⟩ = some (.bool true) := (hb.cell (p := ⟨w.heap.size, 8, none⟩) (by simpa using hz0)).trans (by simp [go_sem, k8])
        replace j8 : w2.frozen? ⟨w.heap.size, 8, none⟩ = false := (hb.frozen (p := ⟨w.heap.size, 8, none⟩) (by simpa using hz0)).trans (by simp [go_sem, j8])
        replace z8 : w2.cell? ⟨w.heap.size + 1, 8, none⟩ = some (.bool false) := (hb.cell (p := ⟨w.heap.size + 1, 8, none⟩) (by simpa using hz1)).trans (by simp [go_sem, z8])
        replace y8 : w2.frozen? ⟨w.heap.size + 1, 8, none⟩ = false := (hb.frozen (p := ⟨w.heap.size + 1, 8, none⟩) (by simpa using hz1)).trans (by simp [go_sem, y8])
        replace HB : Hid (Below w.heap.size w w2) := below_via (HB.out.setCell (p := ⟨w.heap.size, 7, none⟩) (by simp) (.string text)) hb (by simpa using HB.out.size) ⟨rfl, rfl, rfl, rfl⟩
        clear hb hz0 hz1 HS HF
        go_upto_region 5 with fail
        replace k0 : ((w2.setCell ⟨w.heap.size, 5, none⟩ (.int .i64 sx)).setCell ⟨w.heap.size, 6, none⟩ (.int .i64 sy)).cell? ⟨w.heap.size, 0, none⟩ = some (.int .i64 nk) := by simp [go_sem, k0]
        replace j0 : ((w2.setCell ⟨w.heap.size, 5, none⟩ (.int .i64 sx)).setCell ⟨w.heap.size, 6, none⟩ (.int .i64 sy)).frozen? ⟨w.heap.size, 0, none⟩ = false := by simp [go_sem, j0]
        replace z0 : ((w2.setCell ⟨w.heap.size, 5, none⟩ (.int .i64 sx)).setCell ⟨w.heap.size, 6, none⟩ (.int .i64 sy)).cell? ⟨w.heap.size + 1, 0, none⟩ = some (.int .i64 0) := by simp [go_sem, z0]
        replace y0 : ((w2.setCell ⟨w.heap.size, 5, none⟩ (.int .i64 sx)).setCell ⟨w.heap.size, 6, none⟩ (.int .i64 sy)).frozen? ⟨w.heap.size + 1, 0, none⟩ = false := by simp [go_sem, y0]
        replace k1 : ((w2.setCell ⟨w.heap.size, 5, none⟩ (.int .i64 sx)).setCell ⟨w.heap.size, 6, none⟩ (.int .i64 sy)).cell? ⟨w.heap.size, 1, none⟩ = some (.string fd) := by simp [go_sem, k1]
        replace j1 : ((w2.setCell ⟨w.heap.size, 5, none⟩ (.int .i64 sx)).setCell ⟨w.heap.size, 6, none⟩ (.int .i64 sy)).frozen? ⟨w.heap.size, 1, none⟩ = false := by simp [go_sem, j1]
        replace z1 : ((w2.setCell ⟨w.heap.size, 5, none⟩ (.int .i64 sx)).setCell ⟨w.heap.size, 6, none⟩ (.int .i64 sy)).cell? ⟨w.heap.size + 1, 1, none⟩ = some (.string ⟨#[]⟩) := by simp [go_sem, z1]
        replace y1 : ((w2.setCell ⟨w.heap.size, 5, none⟩ (.int .i64 sx)).setCell ⟨w.heap.size, 6, none⟩ (.int .i64 sy)).frozen? ⟨w.heap.size + 1, 1, none⟩ = false := by simp [go_sem, y1]
        replace k2 : ((w2.setCell ⟨w.heap.size, 5, none⟩ (.int .i64 sx)).setCell ⟨w.heap.size, 6, none⟩ (.int .i64 sy)).cell? ⟨w.heap.size, 2, none⟩ = some (.int .i64 ca) := by simp [go_sem, k2]
        replace j2 : ((w2.setCell ⟨w.heap.size, 5, none⟩ (.int .i64 sx)).setCell ⟨w.heap.size, 6, none⟩ (.int .i64 sy)).frozen? ⟨w.heap.size, 2, none⟩ = false := by simp [go_sem, j2]
        replace z2 : ((w2.setCell ⟨w.heap.size, 5, none⟩ (.int .i64 sx)).setCell ⟨w.heap.size, 6, none⟩ (.int .i64 sy)).cell? ⟨w.heap.size + 1, 2, none⟩ = some (.int .i64 0) := by simp [go_sem, z2]
        replace y2 : ((w2.setCell ⟨w.heap.size, 5, none⟩ (.int .i64 sx)).setCell ⟨w.heap.size, 6, none⟩ (.int .i64 sy)).frozen? ⟨w.heap.size + 1, 2, none⟩ = false := by simp [go_sem, y2]
        replace k3 : ((w2.setCell ⟨w.heap.size, 5, none⟩ (.int .i64 sx)).setCell ⟨w.heap.size, 6, none⟩ (.int .i64 sy)).cell? ⟨w.heap.size, 3, none⟩ = some (.int .i64 cs) := by simp [go_sem, k3]
        replace j3 : ((w2.setCell ⟨w.heap.size, 5, none⟩ (.int .i64 sx)).setCell ⟨w.heap.size, 6, none⟩ (.int .i64 sy)).frozen? ⟨w.heap.size, 3, none⟩ = false := by simp [go_sem, j3]
        replace z3 : ((w2.setCell ⟨w.heap.size, 5, none⟩ (.int .i64 sx)).setCell ⟨w.heap.size, 6, none⟩ (.int .i64 sy)).cell? ⟨w.heap.size + 1, 3, none⟩ = some (.int .i64 0) := by simp [go_sem, z3]
        replace y3 : ((w2.setCell ⟨w.heap.size, 5, none⟩ (.int .i64 sx)).setCell ⟨w.heap.size, 6, none⟩ (.int .i64 sy)).frozen? ⟨w.heap.size + 1, 3, none⟩ = false := by simp [go_sem, y3]
        replace k4 : ((w2.setCell ⟨w.heap.size, 5, none⟩ (.int .i64 sx)).setCell ⟨w.heap.size, 6, none⟩ (.int .i64 sy)).cell? ⟨w.heap.size, 4, none⟩ = some (.bool true) := by simp [go_sem, k4]
        replace j4 : ((w2.setCell ⟨w.heap.size, 5, none⟩ (.int .i64 sx)).setCell ⟨w.heap.size, 6, none⟩ (.int .i64 sy)).frozen? ⟨w.heap.size, 4, none⟩ = false := by simp [go_sem, j4]
        replace z4 : ((w2.setCell ⟨w.heap.size, 5, none⟩ (.int .i64 sx)).setCell ⟨w.heap.size, 6, none⟩ (.int .i64 sy)).cell? ⟨w.heap.size + 1, 4, none⟩ = some (.bool false) := by simp [go_sem, z4]
        replace y4 : ((w2.setCell ⟨w.heap.size, 5, none⟩ (.int .i64 sx)).setCell ⟨w.heap.size, 6, none⟩ (.int .i64 sy)).frozen? ⟨w.heap.size + 1, 4, none⟩ = false := by simp [go_sem, y4]
        replace k5 : ((w2.setCell ⟨w.heap.size, 5, none⟩ (.int .i64 sx)).setCell ⟨w.heap.size, 6, none⟩ (.int .i64 sy)).cell? ⟨w.heap.size, 5, none⟩ = some (.int .i64 sx) := by simp [go_sem, k5]
        replace j5 : ((w2.setCell ⟨w.heap.size, 5, none⟩ (.int .i64 sx)).setCell ⟨w.heap.size, 6, none⟩ (.int .i64 sy)).frozen? ⟨w.heap.size, 5, none⟩ = false := by simp [go_sem, j5]
        replace z5 : ((w2.setCell ⟨w.heap.size, 5, none⟩ (.int .i64 sx)).setCell ⟨w.heap.size, 6, none⟩ (.int .i64 sy)).cell? ⟨w.heap.size + 1, 5, none⟩ = some (.int .i64 0) := by simp [go_sem, z5]
        replace y5 : ((w2.setCell ⟨w.heap.size, 5, none⟩ (.int .i64 sx)).setCell ⟨w.heap.size, 6, none⟩ (.int .i64 sy)).frozen? ⟨w.heap.size + 1, 5, none⟩ = false := by simp [go_sem, y5]
        replace k6 : ((w2.setCell ⟨w.heap.size, 5, none⟩ (.int .i64 sx)).setCell ⟨w.heap.size, 6, none⟩ (.int .i64 sy)).cell? ⟨w.heap.size, 6, none⟩ = some (.int .i64 sy) := by simp [go_sem, k6]
        replace j6 : ((w2.setCell ⟨w.heap.size, 5, none⟩ (.int .i64 sx)).setCell ⟨w.heap.size, 6, none⟩ (.int .i64 sy)).frozen? ⟨w.heap.size, 6, none⟩ = false := by simp [go_sem, j6]
        replace z6 : ((w2.setCell ⟨w.heap.size, 5, none⟩ (.int .i64 sx)).setCell ⟨w.heap.size, 6, none⟩ (.int .i64 sy)).cell? ⟨w.heap.size + 1, 6, none⟩ = some (.int .i64 0) := by simp [go_sem, z6]
        replace y6 : ((w2.setCell ⟨w.heap.size, 5, none⟩ (.int .i64 sx)).setCell ⟨w.heap.size, 6, none⟩ (.int .i64 sy)).frozen? ⟨w.heap.size + 1, 6, none⟩ = false := by simp [go_sem, y6]
        replace k7 : ((w2.setCell ⟨w.heap.size, 5, none⟩ (.int .i64 sx)).setCell ⟨w.heap.size, 6, none⟩ (.int .i64 sy)).cell? ⟨w.heap.size, 7, none⟩ = some (.string text) := by simp [go_sem, k7]
        replace j7 : ((w2.setCell ⟨w.heap.size, 5, none⟩ (.int .i64 sx)).setCell ⟨w.heap.size, 6, none⟩ (.int .i64 sy)).frozen? ⟨w.heap.size, 7, none⟩ = false := by simp [go_sem, j7]
        replace z7 : ((w2.setCell ⟨w.heap.size, 5, none⟩ (.int .i64 sx)).setCell ⟨w.heap.size, 6, none⟩ (.int .i64 sy)).cell? ⟨w.heap.size + 1, 7, none⟩ = some (.string ⟨#[]⟩) := by simp [go_sem, z7]
        replace y7 : ((w2.setCell ⟨w.heap.size, 5, none⟩ (.int .i64 sx)).setCell ⟨w.heap.size, 6, none⟩ (.int .i64 sy)).frozen? ⟨w.heap.size + 1, 7, none⟩ = false := by simp [go_sem, y7]
        replace k8 : ((w2.setCell ⟨w.heap.size, 5, none⟩ (.int .i64 sx)).setCell ⟨w.heap.size, 6, none⟩ (.int .i64 sy)).cell? ⟨w.heap.size, 8, none⟩ = some (.bool true) := by simp [go_sem, k8]
        replace j8 : ((w2.setCell ⟨w.heap.size, 5, none⟩ (.int .i64 sx)).setCell ⟨w.heap.size, 6, none⟩ (.int .i64 sy)).frozen? ⟨w.heap.size, 8, none⟩ = false := by simp [go_sem, j8]
        replace z8 : ((w2.setCell ⟨w.heap.size, 5, none⟩ (.int .i64 sx)).setCell ⟨w.heap.size, 6, none⟩ (.int .i64 sy)).cell? ⟨w.heap.size + 1, 8, none⟩ = some (.bool false) := by simp [go_sem, z8]
        replace y8 : ((w2.setCell ⟨w.heap.size, 5, none⟩ (.int .i64 sx)).setCell ⟨w.heap.size, 6, none⟩ (.int .i64 sy)).frozen? ⟨w.heap.size + 1, 8, none⟩ = false := by simp [go_sem, y8]
        replace HB : Hid (Below w.heap.size w ((w2.setCell ⟨w.heap.size, 5, none⟩ (.int .i64 sx)).setCell ⟨w.heap.size, 6, none⟩ (.int .i64 sy))) := ((HB.out.setCell (by simp) _).setCell (by simp) _)
        generalize ((w2.setCell ⟨w.heap.size, 5, none⟩ (.int .i64 sx)).setCell ⟨w.heap.size, 6, none⟩ (.int .i64 sy)) = W5 at *
        go_upto_region 7 with fail
        replace k0 : (((W5.setCell ⟨w.heap.size, 5, none⟩ (.int .i64 0)).setCell ⟨w.heap.size, 6, none⟩ (.int .i64 0)).setCell ⟨w.heap.size, 8, none⟩ (.bool false)).cell? ⟨w.heap.size, 0, none⟩ = some (.int .i64 nk) := by simp [go_sem, k0]
        replace j0 : (((W5.setCell ⟨w.heap.size, 5, none⟩ (.int .i64 0)).setCell ⟨w.heap.size, 6, none⟩ (.int .i64 0)).setCell ⟨w.heap.size, 8, none⟩ (.bool false)).frozen? ⟨w.heap.size, 0, none⟩ = false := by simp [go_sem, j0]
        replace z0 : (((W5.setCell ⟨w.heap.size, 5, none⟩ (.int .i64 0)).setCell ⟨w.heap.size, 6, none⟩ (.int .i64 0)).setCell ⟨w.heap.size, 8, none⟩ (.bool false)).cell? ⟨w.heap.size + 1, 0, none⟩ = some (.int .i64 0) := by simp [go_sem, z0]
        replace y0 : (((W5.setCell ⟨w.heap.size, 5, none⟩ (.int .i64 0)).setCell ⟨w.heap.size, 6, none⟩ (.int .i64 0)).setCell ⟨w.heap.size, 8, none⟩ (.bool false)).frozen? ⟨w.heap.size + 1, 0, none⟩ = false := by simp [go_sem, y0]
        replace k1 : (((W5.setCell ⟨w.heap.size, 5, none⟩ (.int .i64 0)).setCell ⟨w.heap.size, 6, none⟩ (.int .i64 0)).setCell ⟨w.heap.size, 8, none⟩ (.bool false)).cell? ⟨w.heap.size, 1, none⟩ = some (.string fd) := by simp [go_sem, k1]
        replace j1 : (((W5.setCell ⟨w.heap.size, 5, none⟩ (.int .i64 0)).setCell ⟨w.heap.size, 6, none⟩ (.int .i64 0)).setCell ⟨w.heap.size, 8, none⟩ (.bool false)).frozen? ⟨w.heap.size, 1, none⟩ = false := by simp [go_sem, j1]
        replace z1 : (((W5.setCell ⟨w.heap.size, 5, none⟩ (.int .i64 0)).setCell ⟨w.heap.size, 6, none⟩ (.int .i64 0)).setCell ⟨w.heap.size, 8, none⟩ (.bool false)).cell? ⟨w.heap.size + 1, 1, none⟩ = some (.string ⟨#[]⟩) := by simp [go_sem, z1]
        replace y1 : (((W5.setCell ⟨w.heap.size, 5, none⟩ (.int .i64 0)).setCell ⟨w.heap.size, 6, none⟩ (.int .i64 0)).setCell ⟨w.heap.size, 8, none⟩ (.bool false)).frozen? ⟨w.heap.size + 1, 1, none⟩ = false := by simp [go_sem, y1]
        replace k2 : (((W5.setCell ⟨w.heap.size, 5, none⟩ (.int .i64 0)).setCell ⟨w.heap.size, 6, none⟩ (.int .i64 0)).setCell ⟨w.heap.size, 8, none⟩ (.bool false)).cell? ⟨w.heap.size, 2, none⟩ = some (.int .i64 ca) := by simp [go_sem, k2]
        replace j2 : (((W5.setCell ⟨w.heap.size, 5, none⟩ (.int .i64 0)).setCell ⟨w.heap.size, 6, none⟩ (.int .i64 0)).setCell ⟨w.heap.size, 8, none⟩ (.bool false)).frozen? ⟨w.heap.size, 2, none⟩ = false := by simp [go_sem, j2]
        replace z2 : (((W5.setCell ⟨w.heap.size, 5, none⟩ (.int .i64 0)).setCell ⟨w.heap.size, 6, none⟩ (.int .i64 0)).setCell ⟨w.heap.size, 8, none⟩ (.bool false)).cell? ⟨w.heap.size + 1, 2, none⟩ = some (.int .i64 0) := by simp [go_sem, z2]
        replace y2 : (((W5.setCell ⟨w.heap.size, 5, none⟩ (.int .i64 0)).setCell ⟨w.heap.size, 6, none⟩ (.int .i64 0)).setCell ⟨w.heap.size, 8, none⟩ (.bool false)).frozen? ⟨w.heap.size + 1, 2, none⟩ = false := by simp [go_sem, y2]
        replace k3 : (((W5.setCell ⟨w.heap.size, 5, none⟩ (.int .i64 0)).setCell ⟨w.heap.size, 6, none⟩ (.int .i64 0)).setCell ⟨w.heap.size, 8, none⟩ (.bool false)).cell? ⟨w.heap.size, 3, none⟩ = some (.int .i64 cs) := by simp [go_sem, k3]
        replace j3 : (((W5.setCell ⟨w.heap.size, 5, none⟩ (.int .i64 0)).setCell ⟨w.heap.size, 6, none⟩ (.int .i64 0)).setCell ⟨w.heap.size, 8, none⟩ (.bool false)).frozen? ⟨w.heap.size, 3, none⟩ = false := by simp [go_sem, j3]
        replace z3 : (((W5.setCell ⟨w.heap.size, 5, none⟩ (.int .i64 0)).setCell ⟨w.heap.size, 6, none⟩ (.int .i64 0)).setCell ⟨w.heap.size, 8, none⟩ (.bool false)).cell? ⟨w.heap.size + 1, 3, none⟩ = some (.int .i64 0) := by simp [go_sem, z3]
        replace y3 : (((W5.setCell ⟨w.heap.size, 5, none⟩ (.int .i64 0)).setCell ⟨w.heap.size, 6, none⟩ (.int .i64 0)).setCell ⟨w.heap.size, 8, none⟩ (.bool false)).frozen? ⟨w.heap.size + 1, 3, none⟩ = false := by simp [go_sem, y3]
        replace k4 : (((W5.setCell ⟨w.heap.size, 5, none⟩ (.int .i64 0)).setCell ⟨w.heap.size, 6, none⟩ (.int .i64 0)).setCell ⟨w.heap.size, 8, none⟩ (.bool false)).cell? ⟨w.heap.size, 4, none⟩ = some (.bool true) := by simp [go_sem, k4]
        replace j4 : (((W5.setCell ⟨w.heap.size, 5, none⟩ (.int .i64 0)).setCell ⟨w.heap.size, 6, none⟩ (.int .i64 0)).setCell ⟨w.heap.size, 8, none⟩ (.bool false)).frozen? ⟨w.heap.size, 4, none⟩ = false := by simp [go_sem, j4]
        replace z4 : (((W5.setCell ⟨w.heap.size, 5, none⟩ (.int .i64 0)).setCell ⟨w.heap.size, 6, none⟩ (.int .i64 0)).setCell ⟨w.heap.size, 8, none⟩ (.bool false)).cell? ⟨w.heap.size + 1, 4, none⟩ = some (.bool false) := by simp [go_sem, z4]
        replace y4 : (((W5.setCell ⟨w.heap.size, 5, none⟩ (.int .i64 0)).setCell ⟨w.heap.size, 6, none⟩ (.int .i64 0)).setCell ⟨w.heap.size, 8, none⟩ (.bool false)).frozen? ⟨w.heap.size + 1, 4, none⟩ = false := by simp [go_sem, y4]
        replace k5 : (((W5.setCell ⟨w.heap.size, 5, none⟩ (.int .i64 0)).setCell ⟨w.heap.size, 6, none⟩ (.int .i64 0)).setCell ⟨w.heap.size, 8, none⟩ (.bool false)).cell? ⟨w.heap.size, 5, none⟩ = some (.int .i64 0) := by simp [go_sem, k5]
        replace j5 : (((W5.setCell ⟨w.heap.size, 5, none⟩ (.int .i64 0)).setCell ⟨w.heap.size, 6, none⟩ (.int .i64 0)).setCell ⟨w.heap.size, 8, none⟩ (.bool false)).frozen? ⟨w.heap.size, 5, none⟩ = false := by simp [go_sem, j5]
        replace z5 : (((W5.setCell ⟨w.heap.size, 5, none⟩ (.int .i64 0)).setCell ⟨w.heap.size, 6, none⟩ (.int .i64 0)).setCell ⟨w.heap.size, 8, none⟩ (.bool false)).cell? ⟨w.heap.size + 1, 5, none⟩ = some (.int .i64 0) := by simp [go_sem, z5]
        replace y5 : (((W5.setCell ⟨w.heap.size, 5, none⟩ (.int .i64 0)).setCell ⟨w.heap.size, 6, none⟩ (.int .i64 0)).setCell ⟨w.heap.size, 8, none⟩ (.bool false)).frozen? ⟨w.heap.size + 1, 5, none⟩ = false := by simp [go_sem, y5]
        replace k6 : (((W5.setCell ⟨w.heap.size, 5, none⟩ (.int .i64 0)).setCell ⟨w.heap.size, 6, none⟩ (.int .i64 0)).setCell ⟨w.heap.size, 8, none⟩ (.bool false)).cell? ⟨w.heap.size, 6, none⟩ = some (.int .i64 0) := by simp [go_sem, k6]
        replace j6 : (((W5.setCell ⟨w.heap.size, 5, none⟩ (.int .i64 0)).setCell ⟨w.heap.size, 6, none⟩ (.int .i64 0)).setCell ⟨w.heap.size, 8, none⟩ (.bool false)).frozen? ⟨w.heap.size, 6, none⟩ = false := by simp [go_sem, j6]
        replace z6 : (((W5.setCell ⟨w.heap.size, 5, none⟩ (.int .i64 0)).setCell ⟨w.heap.size, 6, none⟩ (.int .i64 0)).setCell ⟨w.heap.size, 8, none⟩ (.bool false)).cell? ⟨w.heap.size + 1, 6, none⟩ = some (.int .i64 0) := by simp [go_sem, z6]
        replace y6 : (((W5.setCell ⟨w.heap.size, 5, none⟩ (.int .i64 0)).setCell ⟨w.heap.size, 6, none⟩ (.int .i64 0)).setCell ⟨w.heap.size, 8, none⟩ (.bool false)).frozen? ⟨w.heap.size + 1, 6, none⟩ = false := by simp [go_sem, y6]
        replace k7 : (((W5.setCell ⟨w.heap.size, 5, none⟩ (.int .i64 0)).setCell ⟨w.heap.size, 6, none⟩ (.int .i64 0)).setCell ⟨w.heap.size, 8, none⟩ (.bool false)).cell? ⟨w.heap.size, 7, none⟩ = some (.string text) := by simp [go_sem, k7]
        replace j7 : (((W5.setCell ⟨w.heap.size, 5, none⟩ (.int .i64 0)).setCell ⟨w.heap.size, 6, none⟩ (.int .i64 0)).setCell ⟨w.heap.size, 8, none⟩ (.bool false)).frozen? ⟨w.heap.size, 7, none⟩ = false := by simp [go_sem, j7]
        replace z7 : (((W5.setCell ⟨w.heap.size, 5, none⟩ (.int .i64 0)).setCell ⟨w.heap.size, 6, none⟩ (.int .i64 0)).setCell ⟨w.heap.size, 8, none⟩ (.bool false)).cell? ⟨w.heap.size + 1, 7, none⟩ = some (.string ⟨#[]⟩) := by simp [go_sem, z7]
        replace y7 : (((W5.setCell ⟨w.heap.size, 5, none⟩ (.int .i64 0)).setCell ⟨w.heap.size, 6, none⟩ (.int .i64 0)).setCell ⟨w.heap.size, 8, none⟩ (.bool false)).frozen? ⟨w.heap.size + 1, 7, none⟩ = false := by simp [go_sem, y7]
        replace k8 : (((W5.setCell ⟨w.heap.size, 5, none⟩ (.int .i64 0)).setCell ⟨w.heap.size, 6, none⟩ (.int .i64 0)).setCell ⟨w.heap.size, 8, none⟩ (.bool false)).cell? ⟨w.heap.size, 8, none⟩ = some (.bool false) := by simp [go_sem, k8]
        replace j8 : (((W5.setCell ⟨w.heap.size, 5, none⟩ (.int .i64 0)).setCell ⟨w.heap.size, 6, none⟩ (.int .i64 0)).setCell ⟨w.heap.size, 8, none⟩ (.bool false)).frozen? ⟨w.heap.size, 8, none⟩ = false := by simp [go_sem, j8]
        replace z8 : (((W5.setCell ⟨w.heap.size, 5, none⟩ (.int .i64 0)).setCell ⟨w.heap.size, 6, none⟩ (.int .i64 0)).setCell ⟨w.heap.size, 8, none⟩ (.bool false)).cell? ⟨w.heap.size + 1, 8, none⟩ = some (.bool false) := by simp [go_sem, z8]
        replace y8 : (((W5.setCell ⟨w.heap.size, 5, none⟩ (.int .i64 0)).setCell ⟨w.heap.size, 6, none⟩ (.int .i64 0)).setCell ⟨w.heap.size, 8, none⟩ (.bool false)).frozen? ⟨w.heap.size + 1, 8, none⟩ = false := by simp [go_sem, y8]
        replace HB : Hid (Below w.heap.size w (((W5.setCell ⟨w.heap.size, 5, none⟩ (.int .i64 0)).setCell ⟨w.heap.size, 6, none⟩ (.int .i64 0)).setCell ⟨w.heap.size, 8, none⟩ (.bool false))) := (((HB.out.setCell (by simp) _).setCell (by simp) _).setCell (by simp) _)
        generalize (((W5.setCell ⟨w.heap.size, 5, none⟩ (.int .i64 0)).setCell ⟨w.heap.size, 6, none⟩ (.int .i64 0)).setCell ⟨w.heap.size, 8, none⟩ (.bool false)) = W6 at *
        go_wp2
        refine bodyPost_ret (v := .agg #[.int .i64 nk, .string fd, .int .i64 ca, .int .i64 cs, .bool true, .int .i64 0, .int .i64 0, .string ⟨#[]⟩, .bool false]) ?_ rfl ?_
        · simp [results, Try.results15, go_sem, z0, z1, z2, z3, z4, z5, z6, z7, z8]
        · refine ⟨?_, ?_⟩
          · simp
          · repeat (first | with_reducible exact HB.out | with_reducible refine Below.setCell ?_ (by simp) _)
  · have HCUT : Hid (cutF text = text.extract 0 16) := by show _ = _; unfold cutF; rw [Nat.min_eq_right (by omega)]
    have ht' : (16 : Int) < text.size := by omega
    cases dead
    · cases held
      · skip
        go_wp2_with fail
        refine (HS.out _).mono ?_
        rintro e w2 ⟨rfl, hb⟩
        replace k0 : w2.cell? ⟨w.heap.size, 0, none⟩ = some (.int .i64 nk) := (hb.cell (p := ⟨w.heap.size, 0, none⟩) (by simpa using hz0)).trans (by simp [go_sem, k0])
        replace j0 : w2.frozen? ⟨w.heap.size, 0, none⟩ = false := (hb.frozen (p := ⟨w.heap.size, 0, none⟩) (by simpa using hz0)).trans (by simp [go_sem, j0])
        replace z0 : w2.cell? ⟨w.heap.size + 1, 0, none⟩ = some (.int .i64 0) := (hb.cell (p := ⟨w.heap.size + 1, 0, none⟩) (by simpa using hz1)).trans (by simp [go_sem, z0])
        replace y0 : w2.frozen? ⟨w.heap.size + 1, 0, none⟩ = false := (hb.frozen (p := ⟨w.heap.size + 1, 0, none⟩) (by simpa using hz1)).trans (by simp [go_sem, y0])
        replace k1 : w2.cell? ⟨w.heap.size, 1, none⟩ = some (.string fd) := (hb.cell (p := ⟨w.heap.size, 1, none⟩) (by simpa using hz0)).trans (by simp [go_sem, k1])
        replace j1 : w2.frozen? ⟨w.heap.size, 1, none⟩ = false := (hb.frozen (p := ⟨w.heap.size, 1, none⟩) (by simpa using hz0)).trans (by simp [go_sem, j1])
        replace z1 : w2.cell? ⟨w.heap.size + 1, 1, none⟩ = some (.string ⟨#[]⟩) := (hb.cell (p := ⟨w.heap.size + 1, 1, none⟩) (by simpa using hz1)).trans (by simp [go_sem, z1])
        replace y1 : w2.frozen? ⟨w.heap.size + 1, 1, none⟩ = false := (hb.frozen (p := ⟨w.heap.size + 1, 1, none⟩) (by simpa using hz1)).trans (by simp [go_sem, y1])
        replace k2 : w2.cell? ⟨w.heap.size, 2, none⟩ = some (.int .i64 ca) := (hb.cell (p := ⟨w.heap.size, 2, none⟩) (by simpa using hz0)).trans (by simp [go_sem, k2])
        replace j2 : w2.frozen? ⟨w.heap.size, 2, none⟩ = false := (hb.frozen (p := ⟨w.heap.size, 2, none⟩) (by simpa using hz0)).trans (by simp [go_sem, j2])
        replace z2 : w2.cell? ⟨w.heap.size + 1, 2, none⟩ = some (.int .i64 0) := (hb.cell (p := ⟨w.heap.size + 1, 2, none⟩) (by simpa using hz1)).trans (by simp [go_sem, z2])
        replace y2 : w2.frozen? ⟨w.heap.size + 1, 2, none⟩ = false := (hb.frozen (p := ⟨w.heap.size + 1, 2, none⟩) (by simpa using hz1)).trans (by simp [go_sem, y2])
        replace k3 : w2.cell? ⟨w.heap.size, 3, none⟩ = some (.int .i64 cs) := (hb.cell (p := ⟨w.heap.size, 3, none⟩) (by simpa using hz0)).trans (by simp [go_sem, k3])
        replace j3 : w2.frozen? ⟨w.heap.size, 3, none⟩ = false := (hb.frozen (p := ⟨w.heap.size, 3, none⟩) (by simpa using hz0)).trans (by simp [go_sem, j3])
        replace z3 : w2.cell? ⟨w.heap.size + 1, 3, none⟩ = some (.int .i64 0) := (hb.cell (p := ⟨w.heap.size + 1, 3, none⟩) (by simpa using hz1)).trans (by simp [go_sem, z3])
        replace y3 : w2.frozen? ⟨w.heap.size + 1, 3, none⟩ = false := (hb.frozen (p := ⟨w.heap.size + 1, 3, none⟩) (by simpa using hz1)).trans (by simp [go_sem, y3])
        replace k4 : w2.cell? ⟨w.heap.size, 4, none⟩ = some (.bool false) := (hb.cell (p := ⟨w.heap.size, 4, none⟩) (by simpa using hz0)).trans (by simp [go_sem, k4])
        replace j4 : w2.frozen? ⟨w.heap.size, 4, none⟩ = false := (hb.frozen (p := ⟨w.heap.size, 4, none⟩) (by simpa using hz0)).trans (by simp [go_sem, j4])
        replace z4 : w2.cell? ⟨w.heap.size + 1, 4, none⟩ = some (.bool false) := (hb.cell (p := ⟨w.heap.size + 1, 4, none⟩) (by simpa using hz1)).trans (by simp [go_sem, z4])
        replace y4 : w2.frozen? ⟨w.heap.size + 1, 4, none⟩ = false := (hb.frozen (p := ⟨w.heap.size + 1, 4, none⟩) (by simpa using hz1)).trans (by simp [go_sem, y4])
        replace k5 : w2.cell? ⟨w.heap.size, 5, none⟩ = some (.int .i64 x) := (hb.cell (p := ⟨w.heap.size, 5, none⟩) (by simpa using hz0)).trans (by simp [go_sem, k5])
        replace j5 : w2.frozen? ⟨w.heap.size, 5, none⟩ = false := (hb.frozen (p := ⟨w.heap.size, 5, none⟩) (by simpa using hz0)).trans (by simp [go_sem, j5])
        replace z5 : w2.cell? ⟨w.heap.size + 1, 5, none⟩ = some (.int .i64 0) := (hb.cell (p := ⟨w.heap.size + 1, 5, none⟩) (by simpa using hz1)).trans (by simp [go_sem, z5])
        replace y5 : w2.frozen? ⟨w.heap.size + 1, 5, none⟩ = false := (hb.frozen (p := ⟨w.heap.size + 1, 5, none⟩) (by simpa using hz1)).trans (by simp [go_sem, y5])
        replace k6 : w2.cell? ⟨w.heap.size, 6, none⟩ = some (.int .i64 y) := (hb.cell (p := ⟨w.heap.size, 6, none⟩) (by simpa using hz0)).trans (by simp [go_sem, k6])
        replace j6 : w2.frozen? ⟨w.heap.size, 6, none⟩ = false := (hb.frozen (p := ⟨w.heap.size, 6, none⟩) (by simpa using hz0)).trans (by simp [go_sem, j6])
        replace z6 : w2.cell? ⟨w.heap.size + 1, 6, none⟩ = some (.int .i64 0) := (hb.cell (p := ⟨w.heap.size + 1, 6, none⟩) (by simpa using hz1)).trans (by simp [go_sem, z6])
        replace y6 : w2.frozen? ⟨w.heap.size + 1, 6, none⟩ = false := (hb.frozen (p := ⟨w.heap.size + 1, 6, none⟩) (by simpa using hz1)).trans (by simp [go_sem, y6])
        replace k7 : w2.cell? ⟨w.heap.size, 7, none⟩ = some (.string (text.extract 0 16)) := (hb.cell (p := ⟨w.heap.size, 7, none⟩) (by simpa using hz0)).trans (by simp [go_sem, k7])
        replace j7 : w2.frozen? ⟨w.heap.size, 7, none⟩ = false := (hb.frozen (p := ⟨w.heap.size, 7, none⟩) (by simpa using hz0)).trans (by simp [go_sem, j7])
        replace z7 : w2.cell? ⟨w.heap.size + 1, 7, none⟩ = some (.string ⟨#[]⟩) := (hb.cell (p := ⟨w.heap.size + 1, 7, none⟩) (by simpa using hz1)).trans (by simp [go_sem, z7])
        replace y7 : w2.frozen? ⟨w.heap.size + 1, 7, none⟩ = false := (hb.frozen (p := ⟨w.heap.size + 1, 7, none⟩) (by simpa using hz1)).trans (by simp [go_sem, y7])
        replace k8 : w2.cell? ⟨w.heap.size, 8, none⟩ = some (.bool false) := (hb.cell (p := ⟨w.heap.size, 8, none⟩) (by simpa using hz0)).trans (by simp [go_sem, k8])
        replace j8 : w2.frozen? ⟨w.heap.size, 8, none⟩ = false := (hb.frozen (p := ⟨w.heap.size, 8, none⟩) (by simpa using hz0)).trans (by simp [go_sem, j8])
        replace z8 : w2.cell? ⟨w.heap.size + 1, 8, none⟩ = some (.bool false) := (hb.cell (p := ⟨w.heap.size + 1, 8, none⟩) (by simpa using hz1)).trans (by simp [go_sem, z8])
        replace y8 : w2.frozen? ⟨w.heap.size + 1, 8, none⟩ = false := (hb.frozen (p := ⟨w.heap.size + 1, 8, none⟩) (by simpa using hz1)).trans (by simp [go_sem, y8])
        replace HB : Hid (Below w.heap.size w w2) := below_via (HB.out.setCell (p := ⟨w.heap.size, 7, none⟩) (by simp) (.string (text.extract 0 16))) hb (by simpa using HB.out.size) ⟨rfl, rfl, rfl, rfl⟩
        clear hb hz0 hz1 HS HF
        go_upto_region 5 with fail
        replace k0 : ((w2.setCell ⟨w.heap.size, 5, none⟩ (.int .i64 sx)).setCell ⟨w.heap.size, 6, none⟩ (.int .i64 sy)).cell? ⟨w.heap.size, 0, none⟩ = some (.int .i64 nk) := by simp [go_sem, k0]
        replace j0 : ((w2.setCell ⟨w.heap.size, 5, none⟩ (.int .i64 sx)).setCell ⟨w.heap.size, 6, none⟩ (.int .i64 sy)).frozen? ⟨w.heap.size, 0, none⟩ = false := by simp [go_sem, j0]
        replace z0 : ((w2.setCell ⟨w.heap.size, 5, none⟩ (.int .i64 sx)).setCell ⟨w.heap.size, 6, none⟩ (.int .i64 sy)).cell? ⟨w.heap.size + 1, 0, none⟩ = some (.int .i64 0) := by simp [go_sem, z0]
        replace y0 : ((w2.setCell ⟨w.heap.size, 5, none⟩ (.int .i64 sx)).setCell ⟨w.heap.size, 6, none⟩ (.int .i64 sy)).frozen? ⟨w.heap.size + 1, 0, none⟩ = false := by simp [go_sem, y0]
        replace k1 : ((w2.setCell ⟨w.heap.size, 5, none⟩ (.int .i64 sx)).setCell ⟨w.heap.size, 6, none⟩ (.int .i64 sy)).cell? ⟨w.heap.size, 1, none⟩ = some (.string fd) := by simp [go_sem, k1]
        replace j1 : ((w2.setCell ⟨w.heap.size, 5, none⟩ (.int .i64 sx)).setCell ⟨w.heap.size, 6, none⟩ (.int .i64 sy)).frozen? ⟨w.heap.size, 1, none⟩ = false := by simp [go_sem, j1]
        replace z1 : ((w2.setCell ⟨w.heap.size, 5, none⟩ (.int .i64 sx)).setCell ⟨w.heap.size, 6, none⟩ (.int .i64 sy)).cell? ⟨w.heap.size + 1, 1, none⟩ = some (.string ⟨#[]⟩) := by simp [go_sem, z1]
        replace y1 : ((w2.setCell ⟨w.heap.size, 5, none⟩ (.int .i64 sx)).setCell ⟨w.heap.size, 6, none⟩ (.int .i64 sy)).frozen? ⟨w.heap.size + 1, 1, none⟩ = false := by simp [go_sem, y1]
        replace k2 : ((w2.setCell ⟨w.heap.size, 5, none⟩ (.int .i64 sx)).setCell ⟨w.heap.size, 6, none⟩ (.int .i64 sy)).cell? ⟨w.heap.size, 2, none⟩ = some (.int .i64 ca) := by simp [go_sem, k2]
        replace j2 : ((w2.setCell ⟨w.heap.size, 5, none⟩ (.int .i64 sx)).setCell ⟨w.heap.size, 6, none⟩ (.int .i64 sy)).frozen? ⟨w.heap.size, 2, none⟩ = false := by simp [go_sem, j2]
        replace z2 : ((w2.setCell ⟨w.heap.size, 5, none⟩ (.int .i64 sx)).setCell ⟨w.heap.size, 6, none⟩ (.int .i64 sy)).cell? ⟨w.heap.size + 1, 2, none⟩ = some (.int .i64 0) := by simp [go_sem, z2]
        replace y2 : ((w2.setCell ⟨w.heap.size, 5, none⟩ (.int .i64 sx)).setCell ⟨w.heap.size, 6, none⟩ (.int .i64 sy)).frozen? ⟨w.heap.size + 1, 2, none⟩ = false := by simp [go_sem, y2]
        replace k3 : ((w2.setCell ⟨w.heap.size, 5, none⟩ (.int .i64 sx)).setCell ⟨w.heap.size, 6, none⟩ (.int .i64 sy)).cell? ⟨w.heap.size, 3, none⟩ = some (.int .i64 cs) := by simp [go_sem, k3]
        replace j3 : ((w2.setCell ⟨w.heap.size, 5, none⟩ (.int .i64 sx)).setCell ⟨w.heap.size, 6, none⟩ (.int .i64 sy)).frozen? ⟨w.heap.size, 3, none⟩ = false := by simp [go_sem, j3]
        replace z3 : ((w2.setCell ⟨w.heap.size, 5, none⟩ (.int .i64 sx)).setCell ⟨w.heap.size, 6, none⟩ (.int .i64 sy)).cell? ⟨w.heap.size + 1, 3, none⟩ = some (.int .i64 0) := by simp [go_sem, z3]
        replace y3 : ((w2.setCell ⟨w.heap.size, 5, none⟩ (.int .i64 sx)).setCell ⟨w.heap.size, 6, none⟩ (.int .i64 sy)).frozen? ⟨w.heap.size + 1, 3, none⟩ = false := by simp [go_sem, y3]
        replace k4 : ((w2.setCell ⟨w.heap.size, 5, none⟩ (.int .i64 sx)).setCell ⟨w.heap.size, 6, none⟩ (.int .i64 sy)).cell? ⟨w.heap.size, 4, none⟩ = some (.bool false) := by simp [go_sem, k4]
        replace j4 : ((w2.setCell ⟨w.heap.size, 5, none⟩ (.int .i64 sx)).setCell ⟨w.heap.size, 6, none⟩ (.int .i64 sy)).frozen? ⟨w.heap.size, 4, none⟩ = false := by simp [go_sem, j4]
        replace z4 : ((w2.setCell ⟨w.heap.size, 5, none⟩ (.int .i64 sx)).setCell ⟨w.heap.size, 6, none⟩ (.int .i64 sy)).cell? ⟨w.heap.size + 1, 4, none⟩ = some (.bool false) := by simp [go_sem, z4]
        replace y4 : ((w2.setCell ⟨w.heap.size, 5, none⟩ (.int .i64 sx)).setCell ⟨w.heap.size, 6, none⟩ (.int .i64 sy)).frozen? ⟨w.heap.size + 1, 4, none⟩ = false := by simp [go_sem, y4]
        replace k5 : ((w2.setCell ⟨w.heap.size, 5, none⟩ (.int .i64 sx)).setCell ⟨w.heap.size, 6, none⟩ (.int .i64 sy)).cell? ⟨w.heap.size, 5, none⟩ = some (.int .i64 sx) := by simp [go_sem, k5]
        replace j5 : ((w2.setCell ⟨w.heap.size, 5, none⟩ (.int .i64 sx)).setCell ⟨w.heap.size, 6, none⟩ (.int .i64 sy)).frozen? ⟨w.heap.size, 5, none⟩ = false := by simp [go_sem, j5]
        replace z5 : ((w2.setCell ⟨w.heap.size, 5, none⟩ (.int .i64 sx)).setCell ⟨w.heap.size, 6, none⟩ (.int .i64 sy)).cell? ⟨w.heap.size + 1, 5, none⟩ = some (.int .i64 0) := by simp [go_sem, z5]
        replace y5 : ((w2.setCell ⟨w.heap.size, 5, none⟩ (.int .i64 sx)).setCell ⟨w.heap.size, 6, none⟩ (.int .i64 sy)).frozen? ⟨w.heap.size + 1, 5, none⟩ = false := by simp [go_sem, y5]
        replace k6 : ((w2.setCell ⟨w.heap.size, 5, none⟩ (.int .i64 sx)).setCell ⟨w.heap.size, 6, none⟩ (.int .i64 sy)).cell? ⟨w.heap.size, 6, none⟩ = some (.int .i64 sy) := by simp [go_sem, k6]
        replace j6 : ((w2.setCell ⟨w.heap.size, 5, none⟩ (.int .i64 sx)).setCell ⟨w.heap.size, 6, none⟩ (.int .i64 sy)).frozen? ⟨w.heap.size, 6, none⟩ = false := by simp [go_sem, j6]
        replace z6 : ((w2.setCell ⟨w.heap.size, 5, none⟩ (.int .i64 sx)).setCell ⟨w.heap.size, 6, none⟩ (.int .i64 sy)).cell? ⟨w.heap.size + 1, 6, none⟩ = some (.int .i64 0) := by simp [go_sem, z6]
        replace y6 : ((w2.setCell ⟨w.heap.size, 5, none⟩ (.int .i64 sx)).setCell ⟨w.heap.size, 6, none⟩ (.int .i64 sy)).frozen? ⟨w.heap.size + 1, 6, none⟩ = false := by simp [go_sem, y6]
        replace k7 : ((w2.setCell ⟨w.heap.size, 5, none⟩ (.int .i64 sx)).setCell ⟨w.heap.size, 6, none⟩ (.int .i64 sy)).cell? ⟨w.heap.size, 7, none⟩ = some (.string (text.extract 0 16)) := by simp [go_sem, k7]
        replace j7 : ((w2.setCell ⟨w.heap.size, 5, none⟩ (.int .i64 sx)).setCell ⟨w.heap.size, 6, none⟩ (.int .i64 sy)).frozen? ⟨w.heap.size, 7, none⟩ = false := by simp [go_sem, j7]
        replace z7 : ((w2.setCell ⟨w.heap.size, 5, none⟩ (.int .i64 sx)).setCell ⟨w.heap.size, 6, none⟩ (.int .i64 sy)).cell? ⟨w.heap.size + 1, 7, none⟩ = some (.string ⟨#[]⟩) := by simp [go_sem, z7]
        replace y7 : ((w2.setCell ⟨w.heap.size, 5, none⟩ (.int .i64 sx)).setCell ⟨w.heap.size, 6, none⟩ (.int .i64 sy)).frozen? ⟨w.heap.size + 1, 7, none⟩ = false := by simp [go_sem, y7]
        replace k8 : ((w2.setCell ⟨w.heap.size, 5, none⟩ (.int .i64 sx)).setCell ⟨w.heap.size, 6, none⟩ (.int .i64 sy)).cell? ⟨w.heap.size, 8, none⟩ = some (.bool false) := by simp [go_sem, k8]
        replace j8 : ((w2.setCell ⟨w.heap.size, 5, none⟩ (.int .i64 sx)).setCell ⟨w.heap.size, 6, none⟩ (.int .i64 sy)).frozen? ⟨w.heap.size, 8, none⟩ = false := by simp [go_sem, j8]
        replace z8 : ((w2.setCell ⟨w.heap.size, 5, none⟩ (.int .i64 sx)).setCell ⟨w.heap.size, 6, none⟩ (.int .i64 sy)).cell? ⟨w.heap.size + 1, 8, none⟩ = some (.bool false) := by simp [go_sem, z8]
        replace y8 : ((w2.setCell ⟨w.heap.size, 5, none⟩ (.int .i64 sx)).setCell ⟨w.heap.size, 6, none⟩ (.int .i64 sy)).frozen? ⟨w.heap.size + 1, 8, none⟩ = false := by simp [go_sem, y8]
        replace HB : Hid (Below w.heap.size w ((w2.setCell ⟨w.heap.size, 5, none⟩ (.int .i64 sx)).setCell ⟨w.heap.size, 6, none⟩ (.int .i64 sy))) := ((HB.out.setCell (by simp) _).setCell (by simp) _)
        generalize ((w2.setCell ⟨w.heap.size, 5, none⟩ (.int .i64 sx)).setCell ⟨w.heap.size, 6, none⟩ (.int .i64 sy)) = W5 at *
        go_wp2
        refine bodyPost_ret (v := .agg #[.int .i64 nk, .string fd, .int .i64 ca, .int .i64 cs, .bool false, .int .i64 sx, .int .i64 sy, .string ⟨#[]⟩, .bool false]) ?_ rfl ?_
        · simp [results, Try.results15, go_sem, z0, z1, z2, z3, z4, z5, z6, z7, z8]
        · refine ⟨?_, ?_⟩
          · rfl
          · repeat (first | with_reducible exact HB.out | with_reducible refine Below.setCell ?_ (by simp) _)
      · skip
        go_wp2_with fail
        refine (HS.out _).mono ?_
        rintro e w2 ⟨rfl, hb⟩
        replace k0 : w2.cell? ⟨w.heap.size, 0, none⟩ = some (.int .i64 nk) := (hb.cell (p := ⟨w.heap.size, 0, none⟩) (by simpa using hz0)).trans (by simp [go_sem, k0])
        replace j0 : w2.frozen? ⟨w.heap.size, 0, none⟩ = false := (hb.frozen (p := ⟨w.heap.size, 0, none⟩) (by simpa using hz0)).trans (by simp [go_sem, j0])
        replace z0 : w2.cell? ⟨w.heap.size + 1, 0, none⟩ = some (.int .i64 0) := (hb.cell (p := ⟨w.heap.size + 1, 0, none⟩) (by simpa using hz1)).trans (by simp [go_sem, z0])
        replace y0 : w2.frozen? ⟨w.heap.size + 1, 0, none⟩ = false := (hb.frozen (p := ⟨w.heap.size + 1, 0, none⟩) (by simpa using hz1)).trans (by simp [go_sem, y0])
        replace k1 : w2.cell? ⟨w.heap.size, 1, none⟩ = some (.string fd) := (hb.cell (p := ⟨w.heap.size, 1, none⟩) (by simpa using hz0)).trans (by simp [go_sem, k1])
        replace j1 : w2.frozen? ⟨w.heap.size, 1, none⟩ = false := (hb.frozen (p := ⟨w.heap.size, 1, none⟩) (by simpa using hz0)).trans (by simp [go_sem, j1])
        replace z1 : w2.cell? ⟨w.heap.size + 1, 1, none⟩ = some (.string ⟨#[]⟩) := (hb.cell (p := ⟨w.heap.size + 1, 1, none⟩) (by simpa using hz1)).trans (by simp [go_sem, z1])
        replace y1 : w2.frozen? ⟨w.heap.size + 1, 1, none⟩ = false := (hb.frozen (p := ⟨w.heap.size + 1, 1, none⟩) (by simpa using hz1)).trans (by simp [go_sem, y1])
        replace k2 : w2.cell? ⟨w.heap.size, 2, none⟩ = some (.int .i64 ca) := (hb.cell (p := ⟨w.heap.size, 2, none⟩) (by simpa using hz0)).trans (by simp [go_sem, k2])
        replace j2 : w2.frozen? ⟨w.heap.size, 2, none⟩ = false := (hb.frozen (p := ⟨w.heap.size, 2, none⟩) (by simpa using hz0)).trans (by simp [go_sem, j2])
        replace z2 : w2.cell? ⟨w.heap.size + 1, 2, none⟩ = some (.int .i64 0) := (hb.cell (p := ⟨w.heap.size + 1, 2, none⟩) (by simpa using hz1)).trans (by simp [go_sem, z2])
        replace y2 : w2.frozen? ⟨w.heap.size + 1, 2, none⟩ = false := (hb.frozen (p := ⟨w.heap.size + 1, 2, none⟩) (by simpa using hz1)).trans (by simp [go_sem, y2])
        replace k3 : w2.cell? ⟨w.heap.size, 3, none⟩ = some (.int .i64 cs) := (hb.cell (p := ⟨w.heap.size, 3, none⟩) (by simpa using hz0)).trans (by simp [go_sem, k3])
        replace j3 : w2.frozen? ⟨w.heap.size, 3, none⟩ = false := (hb.frozen (p := ⟨w.heap.size, 3, none⟩) (by simpa using hz0)).trans (by simp [go_sem, j3])
        replace z3 : w2.cell? ⟨w.heap.size + 1, 3, none⟩ = some (.int .i64 0) := (hb.cell (p := ⟨w.heap.size + 1, 3, none⟩) (by simpa using hz1)).trans (by simp [go_sem, z3])
        replace y3 : w2.frozen? ⟨w.heap.size + 1, 3, none⟩ = false := (hb.frozen (p := ⟨w.heap.size + 1, 3, none⟩) (by simpa using hz1)).trans (by simp [go_sem, y3])
        replace k4 : w2.cell? ⟨w.heap.size, 4, none⟩ = some (.bool false) := (hb.cell (p := ⟨w.heap.size, 4, none⟩) (by simpa using hz0)).trans (by simp [go_sem, k4])
        replace j4 : w2.frozen? ⟨w.heap.size, 4, none⟩ = false := (hb.frozen (p := ⟨w.heap.size, 4, none⟩) (by simpa using hz0)).trans (by simp [go_sem, j4])
        replace z4 : w2.cell? ⟨w.heap.size + 1, 4, none⟩ = some (.bool false) := (hb.cell (p := ⟨w.heap.size + 1, 4, none⟩) (by simpa using hz1)).trans (by simp [go_sem, z4])
        replace y4 : w2.frozen? ⟨w.heap.size + 1, 4, none⟩ = false := (hb.frozen (p := ⟨w.heap.size + 1, 4, none⟩) (by simpa using hz1)).trans (by simp [go_sem, y4])
        replace k5 : w2.cell? ⟨w.heap.size, 5, none⟩ = some (.int .i64 x) := (hb.cell (p := ⟨w.heap.size, 5, none⟩) (by simpa using hz0)).trans (by simp [go_sem, k5])
        replace j5 : w2.frozen? ⟨w.heap.size, 5, none⟩ = false := (hb.frozen (p := ⟨w.heap.size, 5, none⟩) (by simpa using hz0)).trans (by simp [go_sem, j5])
        replace z5 : w2.cell? ⟨w.heap.size + 1, 5, none⟩ = some (.int .i64 0) := (hb.cell (p := ⟨w.heap.size + 1, 5, none⟩) (by simpa using hz1)).trans (by simp [go_sem, z5])
        replace y5 : w2.frozen? ⟨w.heap.size + 1, 5, none⟩ = false := (hb.frozen (p := ⟨w.heap.size + 1, 5, none⟩) (by simpa using hz1)).trans (by simp [go_sem, y5])
        replace k6 : w2.cell? ⟨w.heap.size, 6, none⟩ = some (.int .i64 y) := (hb.cell (p := ⟨w.heap.size, 6, none⟩) (by simpa using hz0)).trans (by simp [go_sem, k6])
        replace j6 : w2.frozen? ⟨w.heap.size, 6, none⟩ = false := (hb.frozen (p := ⟨w.heap.size, 6, none⟩) (by simpa using hz0)).trans (by simp [go_sem, j6])
        replace z6 : w2.cell? ⟨w.heap.size + 1, 6, none⟩ = some (.int .i64 0) := (hb.cell (p := ⟨w.heap.size + 1, 6, none⟩) (by simpa using hz1)).trans (by simp [go_sem, z6])
        replace y6 : w2.frozen? ⟨w.heap.size + 1, 6, none⟩ = false := (hb.frozen (p := ⟨w.heap.size + 1, 6, none⟩) (by simpa using hz1)).trans (by simp [go_sem, y6])
        replace k7 : w2.cell? ⟨w.heap.size, 7, none⟩ = some (.string (text.extract 0 16)) := (hb.cell (p := ⟨w.heap.size, 7, none⟩) (by simpa using hz0)).trans (by simp [go_sem, k7])
        replace j7 : w2.frozen? ⟨w.heap.size, 7, none⟩ = false := (hb.frozen (p := ⟨w.heap.size, 7, none⟩) (by simpa using hz0)).trans (by simp [go_sem, j7])
        replace z7 : w2.cell? ⟨w.heap.size + 1, 7, none⟩ = some (.string ⟨#[]⟩) := (hb.cell (p := ⟨w.heap.size + 1, 7, none⟩) (by simpa using hz1)).trans (by simp [go_sem, z7])
        replace y7 : w2.frozen? ⟨w.heap.size + 1, 7, none⟩ = false := (hb.frozen (p := ⟨w.heap.size + 1, 7, none⟩) (by simpa using hz1)).trans (by simp [go_sem, y7])
        replace k8 : w2.cell? ⟨w.heap.size, 8, none⟩ = some (.bool true) := (hb.cell (p := ⟨w.heap.size, 8, none⟩) (by simpa using hz0)).trans (by simp [go_sem, k8])
        replace j8 : w2.frozen? ⟨w.heap.size, 8, none⟩ = false := (hb.frozen (p := ⟨w.heap.size, 8, none⟩) (by simpa using hz0)).trans (by simp [go_sem, j8])
        replace z8 : w2.cell? ⟨w.heap.size + 1, 8, none⟩ = some (.bool false) := (hb.cell (p := ⟨w.heap.size + 1, 8, none⟩) (by simpa using hz1)).trans (by simp [go_sem, z8])
        replace y8 : w2.frozen? ⟨w.heap.size + 1, 8, none⟩ = false := (hb.frozen (p := ⟨w.heap.size + 1, 8, none⟩) (by simpa using hz1)).trans (by simp [go_sem, y8])
        replace HB : Hid (Below w.heap.size w w2) := below_via (HB.out.setCell (p := ⟨w.heap.size, 7, none⟩) (by simp) (.string (text.extract 0 16))) hb (by simpa using HB.out.size) ⟨rfl, rfl, rfl, rfl⟩
        clear hb hz0 hz1 HS HF
        go_upto_region 5 with fail
        replace k0 : ((w2.setCell ⟨w.heap.size, 5, none⟩ (.int .i64 sx)).setCell ⟨w.heap.size, 6, none⟩ (.int .i64 sy)).cell? ⟨w.heap.size, 0, none⟩ = some (.int .i64 nk) := by simp [go_sem, k0]
        replace j0 : ((w2.setCell ⟨w.heap.size, 5, none⟩ (.int .i64 sx)).setCell ⟨w.heap.size, 6, none⟩ (.int .i64 sy)).frozen? ⟨w.heap.size, 0, none⟩ = false := by simp [go_sem, j0]
        replace z0 : ((w2.setCell ⟨w.heap.size, 5, none⟩ (.int .i64 sx)).setCell ⟨w.heap.size, 6, none⟩ (.int .i64 sy)).cell? ⟨w.heap.size + 1, 0, none⟩ = some (.int .i64 0) := by simp [go_sem, z0]
        replace y0 : ((w2.setCell ⟨w.heap.size, 5, none⟩ (.int .i64 sx)).setCell ⟨w.heap.size, 6, none⟩ (.int .i64 sy)).frozen? ⟨w.heap.size + 1, 0, none⟩ = false := by simp [go_sem, y0]
        replace k1 : ((w2.setCell ⟨w.heap.size, 5, none⟩ (.int .i64 sx)).setCell ⟨w.heap.size, 6, none⟩ (.int .i64 sy)).cell? ⟨w.heap.size, 1, none⟩ = some (.string fd) := by simp [go_sem, k1]
        replace j1 : ((w2.setCell ⟨w.heap.size, 5, none⟩ (.int .i64 sx)).setCell ⟨w.heap.size, 6, none⟩ (.int .i64 sy)).frozen? ⟨w.heap.size, 1, none⟩ = false := by simp [go_sem, j1]
        replace z1 : ((w2.setCell ⟨w.heap.size, 5, none⟩ (.int .i64 sx)).setCell ⟨w.heap.size, 6, none⟩ (.int .i64 sy)).cell? ⟨w.heap.size + 1, 1, none⟩ = some (.string ⟨#[]⟩) := by simp [go_sem, z1]
        replace y1 : ((w2.setCell ⟨w.heap.size, 5, none⟩ (.int .i64 sx)).setCell ⟨w.heap.size, 6, none⟩ (.int .i64 sy)).frozen? ⟨w.heap.size + 1, 1, none⟩ = false := by simp [go_sem, y1]
        replace k2 : ((w2.setCell ⟨w.heap.size, 5, none⟩ (.int .i64 sx)).setCell ⟨w.heap.size, 6, none⟩ (.int .i64 sy)).cell? ⟨w.heap.size, 2, none⟩ = some (.int .i64 ca) := by simp [go_sem, k2]
        replace j2 : ((w2.setCell ⟨w.heap.size, 5, none⟩ (.int .i64 sx)).setCell ⟨w.heap.size, 6, none⟩ (.int .i64 sy)).frozen? ⟨w.heap.size, 2, none⟩ = false := by simp [go_sem, j2]
        replace z2 : ((w2.setCell ⟨w.heap.size, 5, none⟩ (.int .i64 sx)).setCell ⟨w.heap.size, 6, none⟩ (.int .i64 sy)).cell? ⟨w.heap.size + 1, 2, none⟩ = some (.int .i64 0) := by simp [go_sem, z2]
        replace y2 : ((w2.setCell ⟨w.heap.size, 5, none⟩ (.int .i64 sx)).setCell ⟨w.heap.size, 6, none⟩ (.int .i64 sy)).frozen? ⟨w.heap.size + 1, 2, none⟩ = false := by simp [go_sem, y2]
        replace k3 : ((w2.setCell ⟨w.heap.size, 5, none⟩ (.int .i64 sx)).setCell ⟨w.heap.size, 6, none⟩ (.int .i64 sy)).cell? ⟨w.heap.size, 3, none⟩ = some (.int .i64 cs) := by simp [go_sem, k3]
        replace j3 : ((w2.setCell ⟨w.heap.size, 5, none⟩ (.int .i64 sx)).setCell ⟨w.heap.size, 6, none⟩ (.int .i64 sy)).frozen? ⟨w.heap.size, 3, none⟩ = false := by simp [go_sem, j3]
        replace z3 : ((w2.setCell ⟨w.heap.size, 5, none⟩ (.int .i64 sx)).setCell ⟨w.heap.size, 6, none⟩ (.int .i64 sy)).cell? ⟨w.heap.size + 1, 3, none⟩ = some (.int .i64 0) := by simp [go_sem, z3]
        replace y3 : ((w2.setCell ⟨w.heap.size, 5, none⟩ (.int .i64 sx)).setCell ⟨w.heap.size, 6, none⟩ (.int .i64 sy)).frozen? ⟨w.heap.size + 1, 3, none⟩ = false := by simp [go_sem, y3]
        replace k4 : ((w2.setCell ⟨w.heap.size, 5, none⟩ (.int .i64 sx)).setCell ⟨w.heap.size, 6, none⟩ (.int .i64 sy)).cell? ⟨w.heap.size, 4, none⟩ = some (.bool false) := by simp [go_sem, k4]
        replace j4 : ((w2.setCell ⟨w.heap.size, 5, none⟩ (.int .i64 sx)).setCell ⟨w.heap.size, 6, none⟩ (.int .i64 sy)).frozen? ⟨w.heap.size, 4, none⟩ = false := by simp [go_sem, j4]
        replace z4 : ((w2.setCell ⟨w.heap.size, 5, none⟩ (.int .i64 sx)).setCell ⟨w.heap.size, 6, none⟩ (.int .i64 sy)).cell? ⟨w.heap.size + 1, 4, none⟩ = some (.bool false) := by simp [go_sem, z4]
        replace y4 : ((w2.setCell ⟨w.heap.size, 5, none⟩ (.int .i64 sx)).setCell ⟨w.heap.size, 6, none⟩ (.int .i64 sy)).frozen? ⟨w.heap.size + 1, 4, none⟩ = false := by simp [go_sem, y4]
        replace k5 : ((w2.setCell ⟨w.heap.size, 5, none⟩ (.int .i64 sx)).setCell ⟨w.heap.size, 6, none⟩ (.int .i64 sy)).cell? ⟨w.heap.size, 5, none⟩ = some (.int .i64 sx) := by simp [go_sem, k5]
        replace j5 : ((w2.setCell ⟨w.heap.size, 5, none⟩ (.int .i64 sx)).setCell ⟨w.heap.size, 6, none⟩ (.int .i64 sy)).frozen? ⟨w.heap.size, 5, none⟩ = false := by simp [go_sem, j5]
        replace z5 : ((w2.setCell ⟨w.heap.size, 5, none⟩ (.int .i64 sx)).setCell ⟨w.heap.size, 6, none⟩ (.int .i64 sy)).cell? ⟨w.heap.size + 1, 5, none⟩ = some (.int .i64 0) := by simp [go_sem, z5]
        replace y5 : ((w2.setCell ⟨w.heap.size, 5, none⟩ (.int .i64 sx)).setCell ⟨w.heap.size, 6, none⟩ (.int .i64 sy)).frozen? ⟨w.heap.size + 1, 5, none⟩ = false := by simp [go_sem, y5]
        replace k6 : ((w2.setCell ⟨w.heap.size, 5, none⟩ (.int .i64 sx)).setCell ⟨w.heap.size, 6, none⟩ (.int .i64 sy)).cell? ⟨w.heap.size, 6, none⟩ = some (.int .i64 sy) := by simp [go_sem, k6]
        replace j6 : ((w2.setCell ⟨w.heap.size, 5, none⟩ (.int .i64 sx)).setCell ⟨w.heap.size, 6, none⟩ (.int .i64 sy)).frozen? ⟨w.heap.size, 6, none⟩ = false := by simp [go_sem, j6]
        replace z6 : ((w2.setCell ⟨w.heap.size, 5, none⟩ (.int .i64 sx)).setCell ⟨w.heap.size, 6, none⟩ (.int .i64 sy)).cell? ⟨w.heap.size + 1, 6, none⟩ = some (.int .i64 0) := by simp [go_sem, z6]
        replace y6 : ((w2.setCell ⟨w.heap.size, 5, none⟩ (.int .i64 sx)).setCell ⟨w.heap.size, 6, none⟩ (.int .i64 sy)).frozen? ⟨w.heap.size + 1, 6, none⟩ = false := by simp [go_sem, y6]
        replace k7 : ((w2.setCell ⟨w.heap.size, 5, none⟩ (.int .i64 sx)).setCell ⟨w.heap.size, 6, none⟩ (.int .i64 sy)).cell? ⟨w.heap.size, 7, none⟩ = some (.string (text.extract 0 16)) := by simp [go_sem, k7]
        replace j7 : ((w2.setCell ⟨w.heap.size, 5, none⟩ (.int .i64 sx)).setCell ⟨w.heap.size, 6, none⟩ (.int .i64 sy)).frozen? ⟨w.heap.size, 7, none⟩ = false := by simp [go_sem, j7]
        replace z7 : ((w2.setCell ⟨w.heap.size, 5, none⟩ (.int .i64 sx)).setCell ⟨w.heap.size, 6, none⟩ (.int .i64 sy)).cell? ⟨w.heap.size + 1, 7, none⟩ = some (.string ⟨#[]⟩) := by simp [go_sem, z7]
        replace y7 : ((w2.setCell ⟨w.heap.size, 5, none⟩ (.int .i64 sx)).setCell ⟨w.heap.size, 6, none⟩ (.int .i64 sy)).frozen? ⟨w.heap.size + 1, 7, none⟩ = false := by simp [go_sem, y7]
        replace k8 : ((w2.setCell ⟨w.heap.size, 5, none⟩ (.int .i64 sx)).setCell ⟨w.heap.size, 6, none⟩ (.int .i64 sy)).cell? ⟨w.heap.size, 8, none⟩ = some (.bool true) := by simp [go_sem, k8]
        replace j8 : ((w2.setCell ⟨w.heap.size, 5, none⟩ (.int .i64 sx)).setCell ⟨w.heap.size, 6, none⟩ (.int .i64 sy)).frozen? ⟨w.heap.size, 8, none⟩ = false := by simp [go_sem, j8]
        replace z8 : ((w2.setCell ⟨w.heap.size, 5, none⟩ (.int .i64 sx)).setCell ⟨w.heap.size, 6, none⟩ (.int .i64 sy)).cell? ⟨w.heap.size + 1, 8, none⟩ = some (.bool false) := by simp [go_sem, z8]
        replace y8 : ((w2.setCell ⟨w.heap.size, 5, none⟩ (.int .i64 sx)).setCell ⟨w.heap.size, 6, none⟩ (.int .i64 sy)).frozen? ⟨w.heap.size + 1, 8, none⟩ = false := by simp [go_sem, y8]
        replace HB : Hid (Below w.heap.size w ((w2.setCell ⟨w.heap.size, 5, none⟩ (.int .i64 sx)).setCell ⟨w.heap.size, 6, none⟩ (.int .i64 sy))) := ((HB.out.setCell (by simp) _).setCell (by simp) _)
        generalize ((w2.setCell ⟨w.heap.size, 5, none⟩ (.int .i64 sx)).setCell ⟨w.heap.size, 6, none⟩ (.int .i64 sy)) = W5 at *
        go_wp2
        refine bodyPost_ret (v := .agg #[.int .i64 nk, .string fd, .int .i64 ca, .int .i64 cs, .bool false, .int .i64 sx, .int .i64 sy, .string (text.extract 0 16), .bool true]) ?_ rfl ?_
        · simp [results, Try.results15, go_sem, z0, z1, z2, z3, z4, z5, z6, z7, z8]
        · refine ⟨?_, ?_⟩
          · rw [HCUT.out]
          · repeat (first | with_reducible exact HB.out | with_reducible refine Below.setCell ?_ (by simp) _)
    · cases held
      · skip
        go_wp2_with fail
        refine (HS.out _).mono ?_
        rintro e w2 ⟨rfl, hb⟩
        replace k0 : w2.cell? ⟨w.heap.size, 0, none⟩ = some (.int .i64 nk) := (hb.cell (p := ⟨w.heap.size, 0, none⟩) (by simpa using hz0)).trans (by simp [go_sem, k0])
        replace j0 : w2.frozen? ⟨w.heap.size, 0, none⟩ = false := (hb.frozen (p := ⟨w.heap.size, 0, none⟩) (by simpa using hz0)).trans (by simp [go_sem, j0])
        replace z0 : w2.cell? ⟨w.heap.size + 1, 0, none⟩ = some (.int .i64 0) := (hb.cell (p := ⟨w.heap.size + 1, 0, none⟩) (by simpa using hz1)).trans (by simp [go_sem, z0])
        replace y0 : w2.frozen? ⟨w.heap.size + 1, 0, none⟩ = false := (hb.frozen (p := ⟨w.heap.size + 1, 0, none⟩) (by simpa using hz1)).trans (by simp [go_sem, y0])
        replace k1 : w2.cell? ⟨w.heap.size, 1, none⟩ = some (.string fd) := (hb.cell (p := ⟨w.heap.size, 1, none⟩) (by simpa using hz0)).trans (by simp [go_sem, k1])
        replace j1 : w2.frozen? ⟨w.heap.size, 1, none⟩ = false := (hb.frozen (p := ⟨w.heap.size, 1, none⟩) (by simpa using hz0)).trans (by simp [go_sem, j1])
        replace z1 : w2.cell? ⟨w.heap.size + 1, 1, none⟩ = some (.string ⟨#[]⟩) := (hb.cell (p := ⟨w.heap.size + 1, 1, none⟩) (by simpa using hz1)).trans (by simp [go_sem, z1])
        replace y1 : w2.frozen? ⟨w.heap.size + 1, 1, none⟩ = false := (hb.frozen (p := ⟨w.heap.size + 1, 1, none⟩) (by simpa using hz1)).trans (by simp [go_sem, y1])
        replace k2 : w2.cell? ⟨w.heap.size, 2, none⟩ = some (.int .i64 ca) := (hb.cell (p := ⟨w.heap.size, 2, none⟩) (by simpa using hz0)).trans (by simp [go_sem, k2])
        replace j2 : w2.frozen? ⟨w.heap.size, 2, none⟩ = false := (hb.frozen (p := ⟨w.heap.size, 2, none⟩) (by simpa using hz0)).trans (by simp [go_sem, j2])
        replace z2 : w2.cell? ⟨w.heap.size + 1, 2, none⟩ = some (.int .i64 0) := (hb.cell (p := ⟨w.heap.size + 1, 2, none⟩) (by simpa using hz1)).trans (by simp [go_sem, z2])
        replace y2 : w2.frozen? ⟨w.heap.size + 1, 2, none⟩ = false := (hb.frozen (p := ⟨w.heap.size + 1, 2, none⟩) (by simpa using hz1)).trans (by simp [go_sem, y2])
        replace k3 : w2.cell? ⟨w.heap.size, 3, none⟩ = some (.int .i64 cs) := (hb.cell (p := ⟨w.heap.size, 3, none⟩) (by simpa using hz0)).trans (by simp [go_sem, k3])
        replace j3 : w2.frozen? ⟨w.heap.size, 3, none⟩ = false := (hb.frozen (p := ⟨w.heap.size, 3, none⟩) (by simpa using hz0)).trans (by simp [go_sem, j3])
        replace z3 : w2.cell? ⟨w.heap.size + 1, 3, none⟩ = some (.int .i64 0) := (hb.cell (p := ⟨w.heap.size + 1, 3, none⟩) (by simpa using hz1)).trans (by simp [go_sem, z3])
        replace y3 : w2.frozen? ⟨w.heap.size + 1, 3, none⟩ = false := (hb.frozen (p := ⟨w.heap.size + 1, 3, none⟩) (by simpa using hz1)).trans (by simp [go_sem, y3])
        replace k4 : w2.cell? ⟨w.heap.size, 4, none⟩ = some (.bool true) := (hb.cell (p := ⟨w.heap.size, 4, none⟩) (by simpa using hz0)).trans (by simp [go_sem, k4])
        replace j4 : w2.frozen? ⟨w.heap.size, 4, none⟩ = false := (hb.frozen (p := ⟨w.heap.size, 4, none⟩) (by simpa using hz0)).trans (by simp [go_sem, j4])
        replace z4 : w2.cell? ⟨w.heap.size + 1, 4, none⟩ = some (.bool false) := (hb.cell (p := ⟨w.heap.size + 1, 4, none⟩) (by simpa using hz1)).trans (by simp [go_sem, z4])
        replace y4 : w2.frozen? ⟨w.heap.size + 1, 4, none⟩ = false := (hb.frozen (p := ⟨w.heap.size + 1, 4, none⟩) (by simpa using hz1)).trans (by simp [go_sem, y4])
        replace k5 : w2.cell? ⟨w.heap.size, 5, none⟩ = some (.int .i64 x) := (hb.cell (p := ⟨w.heap.size, 5, none⟩) (by simpa using hz0)).trans (by simp [go_sem, k5])
        replace j5 : w2.frozen? ⟨w.heap.size, 5, none⟩ = false := (hb.frozen (p := ⟨w.heap.size, 5, none⟩) (by simpa using hz0)).trans (by simp [go_sem, j5])
        replace z5 : w2.cell? ⟨w.heap.size + 1, 5, none⟩ = some (.int .i64 0) := (hb.cell (p := ⟨w.heap.size + 1, 5, none⟩) (by simpa using hz1)).trans (by simp [go_sem, z5])
        replace y5 : w2.frozen? ⟨w.heap.size + 1, 5, none⟩ = false := (hb.frozen (p := ⟨w.heap.size + 1, 5, none⟩) (by simpa using hz1)).trans (by simp [go_sem, y5])
        replace k6 : w2.cell? ⟨w.heap.size, 6, none⟩ = some (.int .i64 y) := (hb.cell (p := ⟨w.heap.size, 6, none⟩) (by simpa using hz0)).trans (by simp [go_sem, k6])
        replace j6 : w2.frozen? ⟨w.heap.size, 6, none⟩ = false := (hb.frozen (p := ⟨w.heap.size, 6, none⟩) (by simpa using hz0)).trans (by simp [go_sem, j6])
        replace z6 : w2.cell? ⟨w.heap.size + 1, 6, none⟩ = some (.int .i64 0) := (hb.cell (p := ⟨w.heap.size + 1, 6, none⟩) (by simpa using hz1)).trans (by simp [go_sem, z6])
        replace y6 : w2.frozen? ⟨w.heap.size + 1, 6, none⟩ = false := (hb.frozen (p := ⟨w.heap.size + 1, 6, none⟩) (by simpa using hz1)).trans (by simp [go_sem, y6])
        replace k7 : w2.cell? ⟨w.heap.size, 7, none⟩ = some (.string (text.extract 0 16)) := (hb.cell (p := ⟨w.heap.size, 7, none⟩) (by simpa using hz0)).trans (by simp [go_sem, k7])
        replace j7 : w2.frozen? ⟨w.heap.size, 7, none⟩ = false := (hb.frozen (p := ⟨w.heap.size, 7, none⟩) (by simpa using hz0)).trans (by simp [go_sem, j7])
        replace z7 : w2.cell? ⟨w.heap.size + 1, 7, none⟩ = some (.string ⟨#[]⟩) := (hb.cell (p := ⟨w.heap.size + 1, 7, none⟩) (by simpa using hz1)).trans (by simp [go_sem, z7])
        replace y7 : w2.frozen? ⟨w.heap.size + 1, 7, none⟩ = false := (hb.frozen (p := ⟨w.heap.size + 1, 7, none⟩) (by simpa using hz1)).trans (by simp [go_sem, y7])
        replace k8 : w2.cell? ⟨w.heap.size, 8, none⟩ = some (.bool false) := (hb.cell (p := ⟨w.heap.size, 8, none⟩) (by simpa using hz0)).trans (by simp [go_sem, k8])
        replace j8 : w2.frozen? ⟨w.heap.size, 8, none⟩ = false := (hb.frozen (p := ⟨w.heap.size, 8, none⟩) (by simpa using hz0)).trans (by simp [go_sem, j8])
        replace z8 : w2.cell? ⟨w.heap.size + 1, 8, none⟩ = some (.bool false) := (hb.cell (p := ⟨w.heap.size + 1, 8, none⟩) (by simpa using hz1)).trans (by simp [go_sem, z8])
        replace y8 : w2.frozen? ⟨w.heap.size + 1, 8, none⟩ = false := (hb.frozen (p := ⟨w.heap.size + 1, 8, none⟩) (by simpa using hz1)).trans (by simp [go_sem, y8])
        replace HB : Hid (Below w.heap.size w w2) := below_via (HB.out.setCell (p := ⟨w.heap.size, 7, none⟩) (by simp) (.string (text.extract 0 16))) hb (by simpa using HB.out.size) ⟨rfl, rfl, rfl, rfl⟩
        clear hb hz0 hz1 HS HF
        go_upto_region 5 with fail
        replace k0 : ((w2.setCell ⟨w.heap.size, 5, none⟩ (.int .i64 sx)).setCell ⟨w.heap.size, 6, none⟩ (.int .i64 sy)).cell? ⟨w.heap.size, 0, none⟩ = some (.int .i64 nk) := by simp [go_sem, k0]
        replace j0 : ((w2.setCell ⟨w.heap.size, 5, none⟩ (.int .i64 sx)).setCell ⟨w.heap.size, 6, none⟩ (.int .i64 sy)).frozen? ⟨w.heap.size, 0, none⟩ = false := by simp [go_sem, j0]
        replace z0 : ((w2.setCell ⟨w.heap.size, 5, none⟩ (.int .i64 sx)).setCell ⟨w.heap.size, 6, none⟩ (.int .i64 sy)).cell? ⟨w.heap.size + 1, 0, none⟩ = some (.int .i64 0) := by simp [go_sem, z0]
        replace y0 : ((w2.setCell ⟨w.heap.size, 5, none⟩ (.int .i64 sx)).setCell ⟨w.heap.size, 6, none⟩ (.int .i64 sy)).frozen? ⟨w.heap.size + 1, 0, none⟩ = false := by simp [go_sem, y0]
        replace k1 : ((w2.setCell ⟨w.heap.size, 5, none⟩ (.int .i64 sx)).setCell ⟨w.heap.size, 6, none⟩ (.int .i64 sy)).cell? ⟨w.heap.size, 1, none⟩ = some (.string fd) := by simp [go_sem, k1]
        replace j1 : ((w2.setCell ⟨w.heap.size, 5, none⟩ (.int .i64 sx)).setCell ⟨w.heap.size, 6, none⟩ (.int .i64 sy)).frozen? ⟨w.heap.size, 1, none⟩ = false := by simp [go_sem, j1]
        replace z1 : ((w2.setCell ⟨w.heap.size, 5, none⟩ (.int .i64 sx)).setCell ⟨w.heap.size, 6, none⟩ (.int .i64 sy)).cell? ⟨w.heap.size + 1, 1, none⟩ = some (.string ⟨#[]⟩) := by simp [go_sem, z1]
        replace y1 : ((w2.setCell ⟨w.heap.size, 5, none⟩ (.int .i64 sx)).setCell ⟨w.heap.size, 6, none⟩ (.int .i64 sy)).frozen? ⟨w.heap.size + 1, 1, none⟩ = false := by simp [go_sem, y1]
        replace k2 : ((w2.setCell ⟨w.heap.size, 5, none⟩ (.int .i64 sx)).setCell ⟨w.heap.size, 6, none⟩ (.int .i64 sy)).cell? ⟨w.heap.size, 2, none⟩ = some (.int .i64 ca) := by simp [go_sem, k2]
        replace j2 : ((w2.setCell ⟨w.heap.size, 5, none⟩ (.int .i64 sx)).setCell ⟨w.heap.size, 6, none⟩ (.int .i64 sy)).frozen? ⟨w.heap.size, 2, none⟩ = false := by simp [go_sem, j2]
        replace z2 : ((w2.setCell ⟨w.heap.size, 5, none⟩ (.int .i64 sx)).setCell ⟨w.heap.size, 6, none⟩ (.int .i64 sy)).cell? ⟨w.heap.size + 1, 2, none⟩ = some (.int .i64 0) := by simp [go_sem, z2]
        replace y2 : ((w2.setCell ⟨w.heap.size, 5, none⟩ (.int .i64 sx)).setCell ⟨w.heap.size, 6, none⟩ (.int .i64 sy)).frozen? ⟨w.heap.size + 1, 2, none⟩ = false := by simp [go_sem, y2]
        replace k3 : ((w2.setCell ⟨w.heap.size, 5, none⟩ (.int .i64 sx)).setCell ⟨w.heap.size, 6, none⟩ (.int .i64 sy)).cell? ⟨w.heap.size, 3, none⟩ = some (.int .i64 cs) := by simp [go_sem, k3]
        replace j3 : ((w2.setCell ⟨w.heap.size, 5, none⟩ (.int .i64 sx)).setCell ⟨w.heap.size, 6, none⟩ (.int .i64 sy)).frozen? ⟨w.heap.size, 3, none⟩ = false := by simp [go_sem, j3]
        replace z3 : ((w2.setCell ⟨w.heap.size, 5, none⟩ (.int .i64 sx)).setCell ⟨w.heap.size, 6, none⟩ (.int .i64 sy)).cell? ⟨w.heap.size + 1, 3, none⟩ = some (.int .i64 0) := by simp [go_sem, z3]
        replace y3 : ((w2.setCell ⟨w.heap.size, 5, none⟩ (.int .i64 sx)).setCell ⟨w.heap.size, 6, none⟩ (.int .i64 sy)).frozen? ⟨w.heap.size + 1, 3, none⟩ = false := by simp [go_sem, y3]
        replace k4 : ((w2.setCell ⟨w.heap.size, 5, none⟩ (.int .i64 sx)).setCell ⟨w.heap.size, 6, none⟩ (.int .i64 sy)).cell? ⟨w.heap.size, 4, none⟩ = some (.bool true) := by simp [go_sem, k4]
        replace j4 : ((w2.setCell ⟨w.heap.size, 5, none⟩ (.int .i64 sx)).setCell ⟨w.heap.size, 6, none⟩ (.int .i64 sy)).frozen? ⟨w.heap.size, 4, none⟩ = false := by simp [go_sem, j4]
        replace z4 : ((w2.setCell ⟨w.heap.size, 5, none⟩ (.int .i64 sx)).setCell ⟨w.heap.size, 6, none⟩ (.int .i64 sy)).cell? ⟨w.heap.size + 1, 4, none⟩ = some (.bool false) := by simp [go_sem, z4]
        replace y4 : ((w2.setCell ⟨w.heap.size, 5, none⟩ (.int .i64 sx)).setCell ⟨w.heap.size, 6, none⟩ (.int .i64 sy)).frozen? ⟨w.heap.size + 1, 4, none⟩ = false := by simp [go_sem, y4]
        replace k5 : ((w2.setCell ⟨w.heap.size, 5, none⟩ (.int .i64 sx)).setCell ⟨w.heap.size, 6, none⟩ (.int .i64 sy)).cell? ⟨w.heap.size, 5, none⟩ = some (.int .i64 sx) := by simp [go_sem, k5]
        replace j5 : ((w2.setCell ⟨w.heap.size, 5, none⟩ (.int .i64 sx)).setCell ⟨w.heap.size, 6, none⟩ (.int .i64 sy)).frozen? ⟨w.heap.size, 5, none⟩ = false := by simp [go_sem, j5]
        replace z5 : ((w2.setCell ⟨w.heap.size, 5, none⟩ (.int .i64 sx)).setCell ⟨w.heap.size, 6, none⟩ (.int .i64 sy)).cell? ⟨w.heap.size + 1, 5, none⟩ = some (.int .i64 0) := by simp [go_sem, z5]
        replace y5 : ((w2.setCell ⟨w.heap.size, 5, none⟩ (.int .i64 sx)).setCell ⟨w.heap.size, 6, none⟩ (.int .i64 sy)).frozen? ⟨w.heap.size + 1, 5, none⟩ = false := by simp [go_sem, y5]
        replace k6 : ((w2.setCell ⟨w.heap.size, 5, none⟩ (.int .i64 sx)).setCell ⟨w.heap.size, 6, none⟩ (.int .i64 sy)).cell? ⟨w.heap.size, 6, none⟩ = some (.int .i64 sy) := by simp [go_sem, k6]
        replace j6 : ((w2.setCell ⟨w.heap.size, 5, none⟩ (.int .i64 sx)).setCell ⟨w.heap.size, 6, none⟩ (.int .i64 sy)).frozen? ⟨w.heap.size, 6, none⟩ = false := by simp [go_sem, j6]
        replace z6 : ((w2.setCell ⟨w.heap.size, 5, none⟩ (.int .i64 sx)).setCell ⟨w.heap.size, 6, none⟩ (.int .i64 sy)).cell? ⟨w.heap.size + 1, 6, none⟩ = some (.int .i64 0) := by simp [go_sem, z6]
        replace y6 : ((w2.setCell ⟨w.heap.size, 5, none⟩ (.int .i64 sx)).setCell ⟨w.heap.size, 6, none⟩ (.int .i64 sy)).frozen? ⟨w.heap.size + 1, 6, none⟩ = false := by simp [go_sem, y6]
        replace k7 : ((w2.setCell ⟨w.heap.size, 5, none⟩ (.int .i64 sx)).setCell ⟨w.heap.size, 6, none⟩ (.int .i64 sy)).cell? ⟨w.heap.size, 7, none⟩ = some (.string (text.extract 0 16)) := by simp [go_sem, k7]
        replace j7 : ((w2.setCell ⟨w.heap.size, 5, none⟩ (.int .i64 sx)).setCell ⟨w.heap.size, 6, none⟩ (.int .i64 sy)).frozen? ⟨w.heap.size, 7, none⟩ = false := by simp [go_sem, j7]
        replace z7 : ((w2.setCell ⟨w.heap.size, 5, none⟩ (.int .i64 sx)).setCell ⟨w.heap.size, 6, none⟩ (.int .i64 sy)).cell? ⟨w.heap.size + 1, 7, none⟩ = some (.string ⟨#[]⟩) := by simp [go_sem, z7]
        replace y7 : ((w2.setCell ⟨w.heap.size, 5, none⟩ (.int .i64 sx)).setCell ⟨w.heap.size, 6, none⟩ (.int .i64 sy)).frozen? ⟨w.heap.size + 1, 7, none⟩ = false := by simp [go_sem, y7]
        replace k8 : ((w2.setCell ⟨w.heap.size, 5, none⟩ (.int .i64 sx)).setCell ⟨w.heap.size, 6, none⟩ (.int .i64 sy)).cell? ⟨w.heap.size, 8, none⟩ = some (.bool false) := by simp [go_sem, k8]
        replace j8 : ((w2.setCell ⟨w.heap.size, 5, none⟩ (.int .i64 sx)).setCell ⟨w.heap.size, 6, none⟩ (.int .i64 sy)).frozen? ⟨w.heap.size, 8, none⟩ = false := by simp [go_sem, j8]
        replace z8 : ((w2.setCell ⟨w.heap.size, 5, none⟩ (.int .i64 sx)).setCell ⟨w.heap.size, 6, none⟩ (.int .i64 sy)).cell? ⟨w.heap.size + 1, 8, none⟩ = some (.bool false) := by simp [go_sem, z8]
        replace y8 : ((w2.setCell ⟨w.heap.size, 5, none⟩ (.int .i64 sx)).setCell ⟨w.heap.size, 6, none⟩ (.int .i64 sy)).frozen? ⟨w.heap.size + 1, 8, none⟩ = false := by simp [go_sem, y8]
        replace HB : Hid (Below w.heap.size w ((w2.setCell ⟨w.heap.size, 5, none⟩ (.int .i64 sx)).setCell ⟨w.heap.size, 6, none⟩ (.int .i64 sy))) := ((HB.out.setCell (by simp) _).setCell (by simp) _)
        generalize ((w2.setCell ⟨w.heap.size, 5, none⟩ (.int .i64 sx)).setCell ⟨w.heap.size, 6, none⟩ (.int .i64 sy)) = W5 at *
        go_upto_region 7 with fail
        replace k0 : (((W5.setCell ⟨w.heap.size, 5, none⟩ (.int .i64 0)).setCell ⟨w.heap.size, 6, none⟩ (.int .i64 0)).setCell ⟨w.heap.size, 8, none⟩ (.bool false)).cell? ⟨w.heap.size, 0, none⟩ = some (.int .i64 nk) := by simp [go_sem, k0]
        replace j0 : (((W5.setCell ⟨w.heap.size, 5, none⟩ (.int .i64 0)).setCell ⟨w.heap.size, 6, none⟩ (.int .i64 0)).setCell ⟨w.heap.size, 8, none⟩ (.bool false)).frozen? ⟨w.heap.size, 0, none⟩ = false := by simp [go_sem, j0]
        replace z0 : (((W5.setCell ⟨w.heap.size, 5, none⟩ (.int .i64 0)).setCell ⟨w.heap.size, 6, none⟩ (.int .i64 0)).setCell ⟨w.heap.size, 8, none⟩ (.bool false)).cell? ⟨w.heap.size + 1, 0, none⟩ = some (.int .i64 0) := by simp [go_sem, z0]
        replace y0 : (((W5.setCell ⟨w.heap.size, 5, none⟩ (.int .i64 0)).setCell ⟨w.heap.size, 6, none⟩ (.int .i64 0)).setCell ⟨w.heap.size, 8, none⟩ (.bool false)).frozen? ⟨w.heap.size + 1, 0, none⟩ = false := by simp [go_sem, y0]
        replace k1 : (((W5.setCell ⟨w.heap.size, 5, none⟩ (.int .i64 0)).setCell ⟨w.heap.size, 6, none⟩ (.int .i64 0)).setCell ⟨w.heap.size, 8, none⟩ (.bool false)).cell? ⟨w.heap.size, 1, none⟩ = some (.string fd) := by simp [go_sem, k1]
        replace j1 : (((W5.setCell ⟨w.heap.size, 5, none⟩ (.int .i64 0)).setCell ⟨w.heap.size, 6, none⟩ (.int .i64 0)).setCell ⟨w.heap.size, 8, none⟩ (.bool false)).frozen? ⟨w.heap.size, 1, none⟩ = false := by simp [go_sem, j1]
        replace z1 : (((W5.setCell ⟨w.heap.size, 5, none⟩ (.int .i64 0)).setCell ⟨w.heap.size, 6, none⟩ (.int .i64 0)).setCell ⟨w.heap.size, 8, none⟩ (.bool false)).cell? ⟨w.heap.size + 1, 1, none⟩ = some (.string ⟨#[]⟩) := by simp [go_sem, z1]
        replace y1 : (((W5.setCell ⟨w.heap.size, 5, none⟩ (.int .i64 0)).setCell ⟨w.heap.size, 6, none⟩ (.int .i64 0)).setCell ⟨w.heap.size, 8, none⟩ (.bool false)).frozen? ⟨w.heap.size + 1, 1, none⟩ = false := by simp [go_sem, y1]
        replace k2 : (((W5.setCell ⟨w.heap.size, 5, none⟩ (.int .i64 0)).setCell ⟨w.heap.size, 6, none⟩ (.int .i64 0)).setCell ⟨w.heap.size, 8, none⟩ (.bool false)).cell? ⟨w.heap.size, 2, none⟩ = some (.int .i64 ca) := by simp [go_sem, k2]
        replace j2 : (((W5.setCell ⟨w.heap.size, 5, none⟩ (.int .i64 0)).setCell ⟨w.heap.size, 6, none⟩ (.int .i64 0)).setCell ⟨w.heap.size, 8, none⟩ (.bool false)).frozen? ⟨w.heap.size, 2, none⟩ = false := by simp [go_sem, j2]
        replace z2 : (((W5.setCell ⟨w.heap.size, 5, none⟩ (.int .i64 0)).setCell ⟨w.heap.size, 6, none⟩ (.int .i64 0)).setCell ⟨w.heap.size, 8, none⟩ (.bool false)).cell? ⟨w.heap.size + 1, 2, none⟩ = some (.int .i64 0) := by simp [go_sem, z2]
        replace y2 : (((W5.setCell ⟨w.heap.size, 5, none⟩ (.int .i64 0)).setCell ⟨w.heap.size, 6, none⟩ (.int .i64 0)).setCell ⟨w.heap.size, 8, none⟩ (.bool false)).frozen? ⟨w.heap.size + 1, 2, none⟩ = false := by simp [go_sem, y2]
        replace k3 : (((W5.setCell ⟨w.heap.size, 5, none⟩ (.int .i64 0)).setCell ⟨w.heap.size, 6, none⟩ (.int .i64 0)).setCell ⟨w.heap.size, 8, none⟩ (.bool false)).cell? ⟨w.heap.size, 3, none⟩ = some (.int .i64 cs) := by simp [go_sem, k3]
        replace j3 : (((W5.setCell ⟨w.heap.size, 5, none⟩ (.int .i64 0)).setCell ⟨w.heap.size, 6, none⟩ (.int .i64 0)).setCell ⟨w.heap.size, 8, none⟩ (.bool false)).frozen? ⟨w.heap.size, 3, none⟩ = false := by simp [go_sem, j3]
        replace z3 : (((W5.setCell ⟨w.heap.size, 5, none⟩ (.int .i64 0)).setCell ⟨w.heap.size, 6, none⟩ (.int .i64 0)).setCell ⟨w.heap.size, 8, none⟩ (.bool false)).cell? ⟨w.heap.size + 1, 3, none⟩ = some (.int .i64 0) := by simp [go_sem, z3]
        replace y3 : (((W5.setCell ⟨w.heap.size, 5, none⟩ (.int .i64 0)).setCell ⟨w.heap.size, 6, none⟩ (.int .i64 0)).setCell ⟨w.heap.size, 8, none⟩ (.bool false)).frozen? ⟨w.heap.size + 1, 3, none⟩ = false := by simp [go_sem, y3]
        replace k4 : (((W5.setCell ⟨w.heap.size, 5, none⟩ (.int .i64 0)).setCell ⟨w.heap.size, 6, none⟩ (.int .i64 0)).setCell ⟨w.heap.size, 8, none⟩ (.bool false)).cell? ⟨w.heap.size, 4, none⟩ = some (.bool true) := by simp [go_sem, k4]
        replace j4 : (((W5.setCell ⟨w.heap.size, 5, none⟩ (.int .i64 0)).setCell ⟨w.heap.size, 6, none⟩ (.int .i64 0)).setCell ⟨w.heap.size, 8, none⟩ (.bool false)).frozen? ⟨w.heap.size, 4, none⟩ = false := by simp [go_sem, j4]
        replace z4 : (((W5.setCell ⟨w.heap.size, 5, none⟩ (.int .i64 0)).setCell ⟨w.heap.size, 6, none⟩ (.int .i64 0)).setCell ⟨w.heap.size, 8, none⟩ (.bool false)).cell? ⟨w.heap.size + 1, 4, none⟩ = some (.bool false) := by simp [go_sem, z4]
        replace y4 : (((W5.setCell ⟨w.heap.size, 5, none⟩ (.int .i64 0)).setCell ⟨w.heap.size, 6, none⟩ (.int .i64 0)).setCell ⟨w.heap.size, 8, none⟩ (.bool false)).frozen? ⟨w.heap.size + 1, 4, none⟩ = false := by simp [go_sem, y4]
        replace k5 : (((W5.setCell ⟨w.heap.size, 5, none⟩ (.int .i64 0)).setCell ⟨w.heap.size, 6, none⟩ (.int .i64 0)).setCell ⟨w.heap.size, 8, none⟩ (.bool false)).cell? ⟨w.heap.size, 5, none⟩ = some (.int .i64 0) := by simp [go_sem, k5]
        replace j5 : (((W5.setCell ⟨w.heap.size, 5, none⟩ (.int .i64 0)).setCell ⟨w.heap.size, 6, none⟩ (.int .i64 0)).setCell ⟨w.heap.size, 8, none⟩ (.bool false)).frozen? ⟨w.heap.size, 5, none⟩ = false := by simp [go_sem, j5]
        replace z5 : (((W5.setCell ⟨w.heap.size, 5, none⟩ (.int .i64 0)).setCell ⟨w.heap.size, 6, none⟩ (.int .i64 0)).setCell ⟨w.heap.size, 8, none⟩ (.bool false)).cell? ⟨w.heap.size + 1, 5, none⟩ = some (.int .i64 0) := by simp [go_sem, z5]
        replace y5 : (((W5.setCell ⟨w.heap.size, 5, none⟩ (.int .i64 0)).setCell ⟨w.heap.size, 6, none⟩ (.int .i64 0)).setCell ⟨w.heap.size, 8, none⟩ (.bool false)).frozen? ⟨w.heap.size + 1, 5, none⟩ = false := by simp [go_sem, y5]
        replace k6 : (((W5.setCell ⟨w.heap.size, 5, none⟩ (.int .i64 0)).setCell ⟨w.heap.size, 6, none⟩ (.int .i64 0)).setCell ⟨w.heap.size, 8, none⟩ (.bool false)).cell? ⟨w.heap.size, 6, none⟩ = some (.int .i64 0) := by simp [go_sem, k6]
        replace j6 : (((W5.setCell ⟨w.heap.size, 5, none⟩ (.int .i64 0)).setCell ⟨w.heap.size, 6, none⟩ (.int .i64 0)).setCell ⟨w.heap.size, 8, none⟩ (.bool false)).frozen? ⟨w.heap.size, 6, none⟩ = false := by simp [go_sem, j6]
        replace z6 : (((W5.setCell ⟨w.heap.size, 5, none⟩ (.int .i64 0)).setCell ⟨w.heap.size, 6, none⟩ (.int .i64 0)).setCell ⟨w.heap.size, 8, none⟩ (.bool false)).cell? ⟨w.heap.size + 1, 6, none⟩ = some (.int .i64 0) := by simp [go_sem, z6]
        replace y6 : (((W5.setCell ⟨w.heap.size, 5, none⟩ (.int .i64 0)).setCell ⟨w.heap.size, 6, none⟩ (.int .i64 0)).setCell ⟨w.heap.size, 8, none⟩ (.bool false)).frozen? ⟨w.heap.size + 1, 6, none⟩ = false := by simp [go_sem, y6]
        replace k7 : (((W5.setCell ⟨w.heap.size, 5, none⟩ (.int .i64 0)).setCell ⟨w.heap.size, 6, none⟩ (.int .i64 0)).setCell ⟨w.heap.size, 8, none⟩ (.bool false)).cell? ⟨w.heap.size, 7, none⟩ = some (.string (text.extract 0 16)) := by simp [go_sem, k7]
        replace j7 : (((W5.setCell ⟨w.heap.size, 5, none⟩ (.int .i64 0)).setCell ⟨w.heap.size, 6, none⟩ (.int .i64 0)).setCell ⟨w.heap.size, 8, none⟩ (.bool false)).frozen? ⟨w.heap.size, 7, none⟩ = false := by simp [go_sem, j7]
        replace z7 : (((W5.setCell ⟨w.heap.size, 5, none⟩ (.int .i64 0)).setCell ⟨w.heap.size, 6, none⟩ (.int .i64 0)).setCell ⟨w.heap.size, 8, none⟩ (.bool false)).cell? ⟨w.heap.size + 1, 7, none⟩ = some (.string ⟨#[]⟩) := by simp [go_sem, z7]
        replace y7 : (((W5.setCell ⟨w.heap.size, 5, none⟩ (.int .i64 0)).setCell ⟨w.heap.size, 6, none⟩ (.int .i64 0)).setCell ⟨w.heap.size, 8, none⟩ (.bool false)).frozen? ⟨w.heap.size + 1, 7, none⟩ = false := by simp [go_sem, y7]
        replace k8 : (((W5.setCell ⟨w.heap.size, 5, none⟩ (.int .i64 0)).setCell ⟨w.heap.size, 6, none⟩ (.int .i64 0)).setCell ⟨w.heap.size, 8, none⟩ (.bool false)).cell? ⟨w.heap.size, 8, none⟩ = some (.bool false) := by simp [go_sem, k8]
        replace j8 : (((W5.setCell ⟨w.heap.size, 5, none⟩ (.int .i64 0)).setCell ⟨w.heap.size, 6, none⟩ (.int .i64 0)).setCell ⟨w.heap.size, 8, none⟩ (.bool false)).frozen? ⟨w.heap.size, 8, none⟩ = false := by simp [go_sem, j8]
        replace z8 : (((W5.setCell ⟨w.heap.size, 5, none⟩ (.int .i64 0)).setCell ⟨w.heap.size, 6, none⟩ (.int .i64 0)).setCell ⟨w.heap.size, 8, none⟩ (.bool false)).cell? ⟨w.heap.size + 1, 8, none⟩ = some (.bool false) := by simp [go_sem, z8]
        replace y8 : (((W5.setCell ⟨w.heap.size, 5, none⟩ (.int .i64 0)).setCell ⟨w.heap.size, 6, none⟩ (.int .i64 0)).setCell ⟨w.heap.size, 8, none⟩ (.bool false)).frozen? ⟨w.heap.size + 1, 8, none⟩ = false := by simp [go_sem, y8]
        replace HB : Hid (Below w.heap.size w (((W5.setCell ⟨w.heap.size, 5, none⟩ (.int .i64 0)).setCell ⟨w.heap.size, 6, none⟩ (.int .i64 0)).setCell ⟨w.heap.size, 8, none⟩ (.bool false))) := (((HB.out.setCell (by simp) _).setCell (by simp) _).setCell (by simp) _)
        generalize (((W5.setCell ⟨w.heap.size, 5, none⟩ (.int .i64 0)).setCell ⟨w.heap.size, 6, none⟩ (.int .i64 0)).setCell ⟨w.heap.size, 8, none⟩ (.bool false)) = W6 at *
        go_wp2
        refine bodyPost_ret (v := .agg #[.int .i64 nk, .string fd, .int .i64 ca, .int .i64 cs, .bool true, .int .i64 0, .int .i64 0, .string ⟨#[]⟩, .bool false]) ?_ rfl ?_
        · simp [results, Try.results15, go_sem, z0, z1, z2, z3, z4, z5, z6, z7, z8]
        · refine ⟨?_, ?_⟩
          · simp
          · repeat (first | with_reducible exact HB.out | with_reducible refine Below.setCell ?_ (by simp) _)
      · skip
        go_wp2_with fail
        refine (HS.out _).mono ?_
        rintro e w2 ⟨rfl, hb⟩
        replace k0 : w2.cell? ⟨w.heap.size, 0, none⟩ = some (.int .i64 nk) := (hb.cell (p := ⟨w.heap.size, 0, none⟩) (by simpa using hz0)).trans (by simp [go_sem, k0])
        replace j0 : w2.frozen? ⟨w.heap.size, 0, none⟩ = false := (hb.frozen (p := ⟨w.heap.size, 0, none⟩) (by simpa using hz0)).trans (by simp [go_sem, j0])
        replace z0 : w2.cell? ⟨w.heap.size + 1, 0, none⟩ = some (.int .i64 0) := (hb.cell (p := ⟨w.heap.size + 1, 0, none⟩) (by simpa using hz1)).trans (by simp [go_sem, z0])
        replace y0 : w2.frozen? ⟨w.heap.size + 1, 0, none⟩ = false := (hb.frozen (p := ⟨w.heap.size + 1, 0, none⟩) (by simpa using hz1)).trans (by simp [go_sem, y0])
        replace k1 : w2.cell? ⟨w.heap.size, 1, none⟩ = some (.string fd) := (hb.cell (p := ⟨w.heap.size, 1, none⟩) (by simpa using hz0)).trans (by simp [go_sem, k1])
        replace j1 : w2.frozen? ⟨w.heap.size, 1, none⟩ = false := (hb.frozen (p := ⟨w.heap.size, 1, none⟩) (by simpa using hz0)).trans (by simp [go_sem, j1])
        replace z1 : w2.cell? ⟨w.heap.size + 1, 1, none⟩ = some (.string ⟨#[]⟩) := (hb.cell (p := ⟨w.heap.size + 1, 1, none⟩) (by simpa using hz1)).trans (by simp [go_sem, z1])
        replace y1 : w2.frozen? ⟨w.heap.size + 1, 1, none⟩ = false := (hb.frozen (p := ⟨w.heap.size + 1, 1, none⟩) (by simpa using hz1)).trans (by simp [go_sem, y1])
        replace k2 : w2.cell? ⟨w.heap.size, 2, none⟩ = some (.int .i64 ca) := (hb.cell (p := ⟨w.heap.size, 2, none⟩) (by simpa using hz0)).trans (by simp [go_sem, k2])
        replace j2 : w2.frozen? ⟨w.heap.size, 2, none⟩ = false := (hb.frozen (p := ⟨w.heap.size, 2, none⟩) (by simpa using hz0)).trans (by simp [go_sem, j2])
        replace z2 : w2.cell? ⟨w.heap.size + 1, 2, none⟩ = some (.int .i64 0) := (hb.cell (p := ⟨w.heap.size + 1, 2, none⟩) (by simpa using hz1)).trans (by simp [go_sem, z2])
        replace y2 : w2.frozen? ⟨w.heap.size + 1, 2, none⟩ = false := (hb.frozen (p := ⟨w.heap.size + 1, 2, none⟩) (by simpa using hz1)).trans (by simp [go_sem, y2])
        replace k3 : w2.cell? ⟨w.heap.size, 3, none⟩ = some (.int .i64 cs) := (hb.cell (p := ⟨w.heap.size, 3, none⟩) (by simpa using hz0)).trans (by simp [go_sem, k3])
        replace j3 : w2.frozen? ⟨w.heap.size, 3, none⟩ = false := (hb.frozen (p := ⟨w.heap.size, 3, none⟩) (by simpa using hz0)).trans (by simp [go_sem, j3])
        replace z3 : w2.cell? ⟨w.heap.size + 1, 3, none⟩ = some (.int .i64 0) := (hb.cell (p := ⟨w.heap.size + 1, 3, none⟩) (by simpa using hz1)).trans (by simp [go_sem, z3])
        replace y3 : w2.frozen? ⟨w.heap.size + 1, 3, none⟩ = false := (hb.frozen (p := ⟨w.heap.size + 1, 3, none⟩) (by simpa using hz1)).trans (by simp [go_sem, y3])
        replace k4 : w2.cell? ⟨w.heap.size, 4, none⟩ = some (.bool true) := (hb.cell (p := ⟨w.heap.size, 4, none⟩) (by simpa using hz0)).trans (by simp [go_sem, k4])
        replace j4 : w2.frozen? ⟨w.heap.size, 4, none⟩ = false := (hb.frozen (p := ⟨w.heap.size, 4, none⟩) (by simpa using hz0)).trans (by simp [go_sem, j4])
        replace z4 : w2.cell? ⟨w.heap.size + 1, 4, none⟩ = some (.bool false) := (hb.cell (p := ⟨w.heap.size + 1, 4, none⟩) (by simpa using hz1)).trans (by simp [go_sem, z4])
        replace y4 : w2.frozen? ⟨w.heap.size + 1, 4, none⟩ = false := (hb.frozen (p := ⟨w.heap.size + 1, 4, none⟩) (by simpa using hz1)).trans (by simp [go_sem, y4])
        replace k5 : w2.cell? ⟨w.heap.size, 5, none⟩ = some (.int .i64 x) := (hb.cell (p := ⟨w.heap.size, 5, none⟩) (by simpa using hz0)).trans (by simp [go_sem, k5])
        replace j5 : w2.frozen? ⟨w.heap.size, 5, none⟩ = false := (hb.frozen (p := ⟨w.heap.size, 5, none⟩) (by simpa using hz0)).trans (by simp [go_sem, j5])
        replace z5 : w2.cell? ⟨w.heap.size + 1, 5, none⟩ = some (.int .i64 0) := (hb.cell (p := ⟨w.heap.size + 1, 5, none⟩) (by simpa using hz1)).trans (by simp [go_sem, z5])
        replace y5 : w2.frozen? ⟨w.heap.size + 1, 5, none⟩ = false := (hb.frozen (p := ⟨w.heap.size + 1, 5, none⟩) (by simpa using hz1)).trans (by simp [go_sem, y5])
        replace k6 : w2.cell? ⟨w.heap.size, 6, none⟩ = some (.int .i64 y) := (hb.cell (p := ⟨w.heap.size, 6, none⟩) (by simpa using hz0)).trans (by simp [go_sem, k6])
        replace j6 : w2.frozen? ⟨w.heap.size, 6, none⟩ = false := (hb.frozen (p := ⟨w.heap.size, 6, none⟩) (by simpa using hz0)).trans (by simp [go_sem, j6])
        replace z6 : w2.cell? ⟨w.heap.size + 1, 6, none⟩ = some (.int .i64 0) := (hb.cell (p := ⟨w.heap.size + 1, 6, none⟩) (by simpa using hz1)).trans (by simp [go_sem, z6])
        replace y6 : w2.frozen? ⟨w.heap.size + 1, 6, none⟩ = false := (hb.frozen (p := ⟨w.heap.size + 1, 6, none⟩) (by simpa using hz1)).trans (by simp [go_sem, y6])
        replace k7 : w2.cell? ⟨w.heap.size, 7, none⟩ = some (.string (text.extract 0 16)) := (hb.cell (p := ⟨w.heap.size, 7, none⟩) (by simpa using hz0)).trans (by simp [go_sem, k7])
        replace j7 : w2.frozen? ⟨w.heap.size, 7, none⟩ = false := (hb.frozen (p := ⟨w.heap.size, 7, none⟩) (by simpa using hz0)).trans (by simp [go_sem, j7])
        replace z7 : w2.cell? ⟨w.heap.size + 1, 7, none⟩ = some (.string ⟨#[]⟩) := (hb.cell (p := ⟨w.heap.size + 1, 7, none⟩) (by simpa using hz1)).trans (by simp [go_sem, z7])
        replace y7 : w2.frozen? ⟨w.heap.size + 1, 7, none⟩ = false := (hb.frozen (p := ⟨w.heap.size + 1, 7, none⟩) (by simpa using hz1)).trans (by simp [go_sem, y7])
        replace k8 : w2.cell? ⟨w.heap.size, 8, none⟩ = some (.bool true) := (hb.cell (p := ⟨w.heap.size, 8, none⟩) (by simpa using hz0)).trans (by simp [go_sem, k8])
        replace j8 : w2.frozen? ⟨w.heap.size, 8, none⟩ = false := (hb.frozen (p := ⟨w.heap.size, 8, none⟩) (by simpa using hz0)).trans (by simp [go_sem, j8])
        replace z8 : w2.cell? ⟨w.heap.size + 1, 8, none⟩ = some (.bool false) := (hb.cell (p := ⟨w.heap.size + 1, 8, none⟩) (by simpa using hz1)).trans (by simp [go_sem, z8])
        replace y8 : w2.frozen? ⟨w.heap.size + 1, 8, none⟩ = false := (hb.frozen (p := ⟨w.heap.size + 1, 8, none⟩) (by simpa using hz1)).trans (by simp [go_sem, y8])
        replace HB : Hid (Below w.heap.size w w2) := below_via (HB.out.setCell (p := ⟨w.heap.size, 7, none⟩) (by simp) (.string (text.extract 0 16))) hb (by simpa using HB.out.size) ⟨rfl, rfl, rfl, rfl⟩
        clear hb hz0 hz1 HS HF
        go_upto_region 5 with fail
        replace k0 : ((w2.setCell ⟨w.heap.size, 5, none⟩ (.int .i64 sx)).setCell ⟨w.heap.size, 6, none⟩ (.int .i64 sy)).cell? ⟨w.heap.size, 0, none⟩ = some (.int .i64 nk) := by simp [go_sem, k0]
        replace j0 : ((w2.setCell ⟨w.heap.size, 5, none⟩ (.int .i64 sx)).setCell ⟨w.heap.size, 6, none⟩ (.int .i64 sy)).frozen? ⟨w.heap.size, 0, none⟩ = false := by simp [go_sem, j0]
        replace z0 : ((w2.setCell ⟨w.heap.size, 5, none⟩ (.int .i64 sx)).setCell ⟨w.heap.size, 6, none⟩ (.int .i64 sy)).cell? ⟨w.heap.size + 1, 0, none⟩ = some (.int .i64 0) := by simp [go_sem, z0]
        replace y0 : ((w2.setCell ⟨w.heap.size, 5, none⟩ (.int .i64 sx)).setCell ⟨w.heap.size, 6, none⟩ (.int .i64 sy)).frozen? ⟨w.heap.size + 1, 0, none⟩ = false := by simp [go_sem, y0]
        replace k1 : ((w2.setCell ⟨w.heap.size, 5, none⟩ (.int .i64 sx)).setCell ⟨w.heap.size, 6, none⟩ (.int .i64 sy)).cell? ⟨w.heap.size, 1, none⟩ = some (.string fd) := by simp [go_sem, k1]
        replace j1 : ((w2.setCell ⟨w.heap.size, 5, none⟩ (.int .i64 sx)).setCell ⟨w.heap.size, 6, none⟩ (.int .i64 sy)).frozen? ⟨w.heap.size, 1, none⟩ = false := by simp [go_sem, j1]
        replace z1 : ((w2.setCell ⟨w.heap.size, 5, none⟩ (.int .i64 sx)).setCell ⟨w.heap.size, 6, none⟩ (.int .i64 sy)).cell? ⟨w.heap.size + 1, 1, none⟩ = some (.string ⟨#[]⟩) := by simp [go_sem, z1]
        replace y1 : ((w2.setCell ⟨w.heap.size, 5, none⟩ (.int .i64 sx)).setCell ⟨w.heap.size, 6, none⟩ (.int .i64 sy)).frozen? ⟨w.heap.size + 1, 1, none⟩ = false := by simp [go_sem, y1]
        replace k2 : ((w2.setCell ⟨w.heap.size, 5, none⟩ (.int .i64 sx)).setCell ⟨w.heap.size, 6, none⟩ (.int .i64 sy)).cell? ⟨w.heap.size, 2, none⟩ = some (.int .i64 ca) := by simp [go_sem, k2]
        replace j2 : ((w2.setCell ⟨w.heap.size, 5, none⟩ (.int .i64 sx)).setCell ⟨w.heap.size, 6, none⟩ (.int .i64 sy)).frozen? ⟨w.heap.size, 2, none⟩ = false := by simp [go_sem, j2]
        replace z2 : ((w2.setCell ⟨w.heap.size, 5, none⟩ (.int .i64 sx)).setCell ⟨w.heap.size, 6, none⟩ (.int .i64 sy)).cell? ⟨w.heap.size + 1, 2, none⟩ = some (.int .i64 0) := by simp [go_sem, z2]
        replace y2 : ((w2.setCell ⟨w.heap.size, 5, none⟩ (.int .i64 sx)).setCell ⟨w.heap.size, 6, none⟩ (.int .i64 sy)).frozen? ⟨w.heap.size + 1, 2, none⟩ = false := by simp [go_sem, y2]
        replace k3 : ((w2.setCell ⟨w.heap.size, 5, none⟩ (.int .i64 sx)).setCell ⟨w.heap.size, 6, none⟩ (.int .i64 sy)).cell? ⟨w.heap.size, 3, none⟩ = some (.int .i64 cs) := by simp [go_sem, k3]
        replace j3 : ((w2.setCell ⟨w.heap.size, 5, none⟩ (.int .i64 sx)).setCell ⟨w.heap.size, 6, none⟩ (.int .i64 sy)).frozen? ⟨w.heap.size, 3, none⟩ = false := by simp [go_sem, j3]
        replace z3 : ((w2.setCell ⟨w.heap.size, 5, none⟩ (.int .i64 sx)).setCell ⟨w.heap.size, 6, none⟩ (.int .i64 sy)).cell? ⟨w.heap.size + 1, 3, none⟩ = some (.int .i64 0) := by simp [go_sem, z3]
        replace y3 : ((w2.setCell ⟨w.heap.size, 5, none⟩ (.int .i64 sx)).setCell ⟨w.heap.size, 6, none⟩ (.int .i64 sy)).frozen? ⟨w.heap.size + 1, 3, none⟩ = false := by simp [go_sem, y3]
        replace k4 : ((w2.setCell ⟨w.heap.size, 5, none⟩ (.int .i64 sx)).setCell ⟨w.heap.size, 6, none⟩ (.int .i64 sy)).cell? ⟨w.heap.size, 4, none⟩ = some (.bool true) := by simp [go_sem, k4]
        replace j4 : ((w2.setCell ⟨w.heap.size, 5, none⟩ (.int .i64 sx)).setCell ⟨w.heap.size, 6, none⟩ (.int .i64 sy)).frozen? ⟨w.heap.size, 4, none⟩ = false := by simp [go_sem, j4]
        replace z4 : ((w2.setCell ⟨w.heap.size, 5, none⟩ (.int .i64 sx)).setCell ⟨w.heap.size, 6, none⟩ (.int .i64 sy)).cell? ⟨w.heap.size + 1, 4, none⟩ = some (.bool false) := by simp [go_sem, z4]
        replace y4 : ((w2.setCell ⟨w.heap.size, 5, none⟩ (.int .i64 sx)).setCell ⟨w.heap.size, 6, none⟩ (.int .i64 sy)).frozen? ⟨w.heap.size + 1, 4, none⟩ = false := by simp [go_sem, y4]
        replace k5 : ((w2.setCell ⟨w.heap.size, 5, none⟩ (.int .i64 sx)).setCell ⟨w.heap.size, 6, none⟩ (.int .i64 sy)).cell? ⟨w.heap.size, 5, none⟩ = some (.int .i64 sx) := by simp [go_sem, k5]
        replace j5 : ((w2.setCell ⟨w.heap.size, 5, none⟩ (.int .i64 sx)).setCell ⟨w.heap.size, 6, none⟩ (.int .i64 sy)).frozen? ⟨w.heap.size, 5, none⟩ = false := by simp [go_sem, j5]
        replace z5 : ((w2.setCell ⟨w.heap.size, 5, none⟩ (.int .i64 sx)).setCell ⟨w.heap.size, 6, none⟩ (.int .i64 sy)).cell? ⟨w.heap.size + 1, 5, none⟩ = some (.int .i64 0) := by simp [go_sem, z5]
        replace y5 : ((w2.setCell ⟨w.heap.size, 5, none⟩ (.int .i64 sx)).setCell ⟨w.heap.size, 6, none⟩ (.int .i64 sy)).frozen? ⟨w.heap.size + 1, 5, none⟩ = false := by simp [go_sem, y5]
        replace k6 : ((w2.setCell ⟨w.heap.size, 5, none⟩ (.int .i64 sx)).setCell ⟨w.heap.size, 6, none⟩ (.int .i64 sy)).cell? ⟨w.heap.size, 6, none⟩ = some (.int .i64 sy) := by simp [go_sem, k6]
        replace j6 : ((w2.setCell ⟨w.heap.size, 5, none⟩ (.int .i64 sx)).setCell ⟨w.heap.size, 6, none⟩ (.int .i64 sy)).frozen? ⟨w.heap.size, 6, none⟩ = false := by simp [go_sem, j6]
        replace z6 : ((w2.setCell ⟨w.heap.size, 5, none⟩ (.int .i64 sx)).setCell ⟨w.heap.size, 6, none⟩ (.int .i64 sy)).cell? ⟨w.heap.size + 1, 6, none⟩ = some (.int .i64 0) := by simp [go_sem, z6]
        replace y6 : ((w2.setCell ⟨w.heap.size, 5, none⟩ (.int .i64 sx)).setCell ⟨w.heap.size, 6, none⟩ (.int .i64 sy)).frozen? ⟨w.heap.size + 1, 6, none⟩ = false := by simp [go_sem, y6]
        replace k7 : ((w2.setCell ⟨w.heap.size, 5, none⟩ (.int .i64 sx)).setCell ⟨w.heap.size, 6, none⟩ (.int .i64 sy)).cell? ⟨w.heap.size, 7, none⟩ = some (.string (text.extract 0 16)) := by simp [go_sem, k7]
        replace j7 : ((w2.setCell ⟨w.heap.size, 5, none⟩ (.int .i64 sx)).setCell ⟨w.heap.size, 6, none⟩ (.int .i64 sy)).frozen? ⟨w.heap.size, 7, none⟩ = false := by simp [go_sem, j7]
        replace z7 : ((w2.setCell ⟨w.heap.size, 5, none⟩ (.int .i64 sx)).setCell ⟨w.heap.size, 6, none⟩ (.int .i64 sy)).cell? ⟨w.heap.size + 1, 7, none⟩ = some (.string ⟨#[]⟩) := by simp [go_sem, z7]
        replace y7 : ((w2.setCell ⟨w.heap.size, 5, none⟩ (.int .i64 sx)).setCell ⟨w.heap.size, 6, none⟩ (.int .i64 sy)).frozen? ⟨w.heap.size + 1, 7, none⟩ = false := by simp [go_sem, y7]
        replace k8 : ((w2.setCell ⟨w.heap.size, 5, none⟩ (.int .i64 sx)).setCell ⟨w.heap.size, 6, none⟩ (.int .i64 sy)).cell? ⟨w.heap.size, 8, none⟩ = some (.bool true) := by simp [go_sem, k8]
        replace j8 : ((w2.setCell ⟨w.heap.size, 5, none⟩ (.int .i64 sx)).setCell ⟨w.heap.size, 6, none⟩ (.int .i64 sy)).frozen? ⟨w.heap.size, 8, none⟩ = false := by simp [go_sem, j8]
        replace z8 : ((w2.setCell ⟨w.heap.size, 5, none⟩ (.int .i64 sx)).setCell ⟨w.heap.size, 6, none⟩ (.int .i64 sy)).cell? ⟨w.heap.size + 1, 8, none⟩ = some (.bool false) := by simp [go_sem, z8]
        replace y8 : ((w2.setCell ⟨w.heap.size, 5, none⟩ (.int .i64 sx)).setCell ⟨w.heap.size, 6, none⟩ (.int .i64 sy)).frozen? ⟨w.heap.size + 1, 8, none⟩ = false := by simp [go_sem, y8]
        replace HB : Hid (Below w.heap.size w ((w2.setCell ⟨w.heap.size, 5, none⟩ (.int .i64 sx)).setCell ⟨w.heap.size, 6, none⟩ (.int .i64 sy))) := ((HB.out.setCell (by simp) _).setCell (by simp) _)
        generalize ((w2.setCell ⟨w.heap.size, 5, none⟩ (.int .i64 sx)).setCell ⟨w.heap.size, 6, none⟩ (.int .i64 sy)) = W5 at *
        go_upto_region 7 with fail
        replace k0 : (((W5.setCell ⟨w.heap.size, 5, none⟩ (.int .i64 0)).setCell ⟨w.heap.size, 6, none⟩ (.int .i64 0)).setCell ⟨w.heap.size, 8, none⟩ (.bool false)).cell? ⟨w.heap.size, 0, none⟩ = some (.int .i64 nk) := by simp [go_sem, k0]
        replace j0 : (((W5.setCell ⟨w.heap.size, 5, none⟩ (.int .i64 0)).setCell ⟨w.heap.size, 6, none⟩ (.int .i64 0)).setCell ⟨w.heap.size, 8, none⟩ (.bool false)).frozen? ⟨w.heap.size, 0, none⟩ = false := by simp [go_sem, j0]
        replace z0 : (((W5.setCell ⟨w.heap.size, 5, none⟩ (.int .i64 0)).setCell ⟨w.heap.size, 6, none⟩ (.int .i64 0)).setCell ⟨w.heap.size, 8, none⟩ (.bool false)).cell? ⟨w.heap.size + 1, 0, none⟩ = some (.int .i64 0) := by simp [go_sem, z0]
        replace y0 : (((W5.setCell ⟨w.heap.size, 5, none⟩ (.int .i64 0)).setCell ⟨w.heap.size, 6, none⟩ (.int .i64 0)).setCell ⟨w.heap.size, 8, none⟩ (.bool false)).frozen? ⟨w.heap.size + 1, 0, none⟩ = false := by simp [go_sem, y0]
        replace k1 : (((W5.setCell ⟨w.heap.size, 5, none⟩ (.int .i64 0)).setCell ⟨w.heap.size, 6, none⟩ (.int .i64 0)).setCell ⟨w.heap.size, 8, none⟩ (.bool false)).cell? ⟨w.heap.size, 1, none⟩ = some (.string fd) := by simp [go_sem, k1]
        replace j1 : (((W5.setCell ⟨w.heap.size, 5, none⟩ (.int .i64 0)).setCell ⟨w.heap.size, 6, none⟩ (.int .i64 0)).setCell ⟨w.heap.size, 8, none⟩ (.bool false)).frozen? ⟨w.heap.size, 1, none⟩ = false := by simp [go_sem, j1]
        replace z1 : (((W5.setCell ⟨w.heap.size, 5, none⟩ (.int .i64 0)).setCell ⟨w.heap.size, 6, none⟩ (.int .i64 0)).setCell ⟨w.heap.size, 8, none⟩ (.bool false)).cell? ⟨w.heap.size + 1, 1, none⟩ = some (.string ⟨#[]⟩) := by simp [go_sem, z1]
        replace y1 : (((W5.setCell ⟨w.heap.size, 5, none⟩ (.int .i64 0)).setCell ⟨w.heap.size, 6, none⟩ (.int .i64 0)).setCell ⟨w.heap.size, 8, none⟩ (.bool false)).frozen? ⟨w.heap.size + 1, 1, none⟩ = false := by simp [go_sem, y1]
        replace k2 : (((W5.setCell ⟨w.heap.size, 5, none⟩ (.int .i64 0)).setCell ⟨w.heap.size, 6, none⟩ (.int .i64 0)).setCell ⟨w.heap.size, 8, none⟩ (.bool false)).cell? ⟨w.heap.size, 2, none⟩ = some (.int .i64 ca) := by simp [go_sem, k2]
        replace j2 : (((W5.setCell ⟨w.heap.size, 5, none⟩ (.int .i64 0)).setCell ⟨w.heap.size, 6, none⟩ (.int .i64 0)).setCell ⟨w.heap.size, 8, none⟩ (.bool false)).frozen? ⟨w.heap.size, 2, none⟩ = false := by simp [go_sem, j2]
        replace z2 : (((W5.setCell ⟨w.heap.size, 5, none⟩ (.int .i64 0)).setCell ⟨w.heap.size, 6, none⟩ (.int .i64 0)).setCell ⟨w.heap.size, 8, none⟩ (.bool false)).cell? ⟨w.heap.size + 1, 2, none⟩ = some (.int .i64 0) := by simp [go_sem, z2]
        replace y2 : (((W5.setCell ⟨w.heap.size, 5, none⟩ (.int .i64 0)).setCell ⟨w.heap.size, 6, none⟩ (.int .i64 0)).setCell ⟨w.heap.size, 8, none⟩ (.bool false)).frozen? ⟨w.heap.size + 1, 2, none⟩ = false := by simp [go_sem, y2]
        replace k3 : (((W5.setCell ⟨w.heap.size, 5, none⟩ (.int .i64 0)).setCell ⟨w.heap.size, 6, none⟩ (.int .i64 0)).setCell ⟨w.heap.size, 8, none⟩ (.bool false)).cell? ⟨w.heap.size, 3, none⟩ = some (.int .i64 cs) := by simp [go_sem, k3]
        replace j3 : (((W5.setCell ⟨w.heap.size, 5, none⟩ (.int .i64 0)).setCell ⟨w.heap.size, 6, none⟩ (.int .i64 0)).setCell ⟨w.heap.size, 8, none⟩ (.bool false)).frozen? ⟨w.heap.size, 3, none⟩ = false := by simp [go_sem, j3]
        replace z3 : (((W5.setCell ⟨w.heap.size, 5, none⟩ (.int .i64 0)).setCell ⟨w.heap.size, 6, none⟩ (.int .i64 0)).setCell ⟨w.heap.size, 8, none⟩ (.bool false)).cell? ⟨w.heap.size + 1, 3, none⟩ = some (.int .i64 0) := by simp [go_sem, z3]
        replace y3 : (((W5.setCell ⟨w.heap.size, 5, none⟩ (.int .i64 0)).setCell ⟨w.heap.size, 6, none⟩ (.int .i64 0)).setCell ⟨w.heap.size, 8, none⟩ (.bool false)).frozen? ⟨w.heap.size + 1, 3, none⟩ = false := by simp [go_sem, y3]
        replace k4 : (((W5.setCell ⟨w.heap.size, 5, none⟩ (.int .i64 0)).setCell ⟨w.heap.size, 6, none⟩ (.int .i64 0)).setCell ⟨w.heap.size, 8, none⟩ (.bool false)).cell? ⟨w.heap.size, 4, none⟩ = some (.bool true) := by simp [go_sem, k4]
        replace j4 : (((W5.setCell ⟨w.heap.size, 5, none⟩ (.int .i64 0)).setCell ⟨w.heap.size, 6, none⟩ (.int .i64 0)).setCell ⟨w.heap.size, 8, none⟩ (.bool false)).frozen? ⟨w.heap.size, 4, none⟩ = false := by simp [go_sem, j4]
        replace z4 : (((W5.setCell ⟨w.heap.size, 5, none⟩ (.int .i64 0)).setCell ⟨w.heap.size, 6, none⟩ (.int .i64 0)).setCell ⟨w.heap.size, 8, none⟩ (.bool false)).cell? ⟨w.heap.size + 1, 4, none⟩ = some (.bool false) := by simp [go_sem, z4]
        replace y4 : (((W5.setCell ⟨w.heap.size, 5, none⟩ (.int .i64 0)).setCell ⟨w.heap.size, 6, none⟩ (.int .i64 0)).setCell ⟨w.heap.size, 8, none⟩ (.bool false)).frozen? ⟨w.heap.size + 1, 4, none⟩ = false := by simp [go_sem, y4]
        replace k5 : (((W5.setCell ⟨w.heap.size, 5, none⟩ (.int .i64 0)).setCell ⟨w.heap.size, 6, none⟩ (.int .i64 0)).setCell ⟨w.heap.size, 8, none⟩ (.bool false)).cell? ⟨w.heap.size, 5, none⟩ = some (.int .i64 0) := by simp [go_sem, k5]
        replace j5 : (((W5.setCell ⟨w.heap.size, 5, none⟩ (.int .i64 0)).setCell ⟨w.heap.size, 6, none⟩ (.int .i64 0)).setCell ⟨w.heap.size, 8, none⟩ (.bool false)).frozen? ⟨w.heap.size, 5, none⟩ = false := by simp [go_sem, j5]
        replace z5 : (((W5.setCell ⟨w.heap.size, 5, none⟩ (.int .i64 0)).setCell ⟨w.heap.size, 6, none⟩ (.int .i64 0)).setCell ⟨w.heap.size, 8, none⟩ (.bool false)).cell? ⟨w.heap.size + 1, 5, none⟩ = some (.int .i64 0) := by simp [go_sem, z5]
        replace y5 : (((W5.setCell ⟨w.heap.size, 5, none⟩ (.int .i64 0)).setCell ⟨w.heap.size, 6, none⟩ (.int .i64 0)).setCell ⟨w.heap.size, 8, none⟩ (.bool false)).frozen? ⟨w.heap.size + 1, 5, none⟩ = false := by simp [go_sem, y5]
        replace k6 : (((W5.setCell ⟨w.heap.size, 5, none⟩ (.int .i64 0)).setCell ⟨w.heap.size, 6, none⟩ (.int .i64 0)).setCell ⟨w.heap.size, 8, none⟩ (.bool false)).cell? ⟨w.heap.size, 6, none⟩ = some (.int .i64 0) := by simp [go_sem, k6]
        replace j6 : (((W5.setCell ⟨w.heap.size, 5, none⟩ (.int .i64 0)).setCell ⟨w.heap.size, 6, none⟩ (.int .i64 0)).setCell ⟨w.heap.size, 8, none⟩ (.bool false)).frozen? ⟨w.heap.size, 6, none⟩ = false := by simp [go_sem, j6]
        replace z6 : (((W5.setCell ⟨w.heap.size, 5, none⟩ (.int .i64 0)).setCell ⟨w.heap.size, 6, none⟩ (.int .i64 0)).setCell ⟨w.heap.size, 8, none⟩ (.bool false)).cell? ⟨w.heap.size + 1, 6, none⟩ = some (.int .i64 0) := by simp [go_sem, z6]
        replace y6 : (((W5.setCell ⟨w.heap.size, 5, none⟩ (.int .i64 0)).setCell ⟨w.heap.size, 6, none⟩ (.int .i64 0)).setCell ⟨w.heap.size, 8, none⟩ (.bool false)).frozen? ⟨w.heap.size + 1, 6, none⟩ = false := by simp [go_sem, y6]
        replace k7 : (((W5.setCell ⟨w.heap.size, 5, none⟩ (.int .i64 0)).setCell ⟨w.heap.size, 6, none⟩ (.int .i64 0)).setCell ⟨w.heap.size, 8, none⟩ (.bool false)).cell? ⟨w.heap.size, 7, none⟩ = some (.string (text.extract 0 16)) := by simp [go_sem, k7]
        replace j7 : (((W5.setCell ⟨w.heap.size, 5, none⟩ (.int .i64 0)).setCell ⟨w.heap.size, 6, none⟩ (.int .i64 0)).setCell ⟨w.heap.size, 8, none⟩ (.bool false)).frozen? ⟨w.heap.size, 7, none⟩ = false := by simp [go_sem, j7]
        replace z7 : (((W5.setCell ⟨w.heap.size, 5, none⟩ (.int .i64 0)).setCell ⟨w.heap.size, 6, none⟩ (.int .i64 0)).setCell ⟨w.heap.size, 8, none⟩ (.bool false)).cell? ⟨w.heap.size + 1, 7, none⟩ = some (.string ⟨#[]⟩) := by simp [go_sem, z7]
        replace y7 : (((W5.setCell ⟨w.heap.size, 5, none⟩ (.int .i64 0)).setCell ⟨w.heap.size, 6, none⟩ (.int .i64 0)).setCell ⟨w.heap.size, 8, none⟩ (.bool false)).frozen? ⟨w.heap.size + 1, 7, none⟩ = false := by simp [go_sem, y7]
        replace k8 : (((W5.setCell ⟨w.heap.size, 5, none⟩ (.int .i64 0)).setCell ⟨w.heap.size, 6, none⟩ (.int .i64 0)).setCell ⟨w.heap.size, 8, none⟩ (.bool false)).cell? ⟨w.heap.size, 8, none⟩ = some (.bool false) := by simp [go_sem, k8]
        replace j8 : (((W5.setCell ⟨w.heap.size, 5, none⟩ (.int .i64 0)).setCell ⟨w.heap.size, 6, none⟩ (.int .i64 0)).setCell ⟨w.heap.size, 8, none⟩ (.bool false)).frozen? ⟨w.heap.size, 8, none⟩ = false := by simp [go_sem, j8]
        replace z8 : (((W5.setCell ⟨w.heap.size, 5, none⟩ (.int .i64 0)).setCell ⟨w.heap.size, 6, none⟩ (.int .i64 0)).setCell ⟨w.heap.size, 8, none⟩ (.bool false)).cell? ⟨w.heap.size + 1, 8, none⟩ = some (.bool false) := by simp [go_sem, z8]
        replace y8 : (((W5.setCell ⟨w.heap.size, 5, none⟩ (.int .i64 0)).setCell ⟨w.heap.size, 6, none⟩ (.int .i64 0)).setCell ⟨w.heap.size, 8, none⟩ (.bool false)).frozen? ⟨w.heap.size + 1, 8, none⟩ = false := by simp [go_sem, y8]
        replace HB : Hid (Below w.heap.size w (((W5.setCell ⟨w.heap.size, 5, none⟩ (.int .i64 0)).setCell ⟨w.heap.size, 6, none⟩ (.int .i64 0)).setCell ⟨w.heap.size, 8, none⟩ (.bool false))) := (((HB.out.setCell (by simp) _).setCell (by simp) _).setCell (by simp) _)
        generalize (((W5.setCell ⟨w.heap.size, 5, none⟩ (.int .i64 0)).setCell ⟨w.heap.size, 6, none⟩ (.int .i64 0)).setCell ⟨w.heap.size, 8, none⟩ (.bool false)) = W6 at *
        go_wp2
        refine bodyPost_ret (v := .agg #[.int .i64 nk, .string fd, .int .i64 ca, .int .i64 cs, .bool true, .int .i64 0, .int .i64 0, .string ⟨#[]⟩, .bool false]) ?_ rfl ?_
        · simp [results, Try.results15, go_sem, z0, z1, z2, z3, z4, z5, z6, z7, z8]
        · refine ⟨?_, ?_⟩
          · simp
          · repeat (first | with_reducible exact HB.out | with_reducible refine Below.setCell ?_ (by simp) _)
end Go.Proofs.Ytpaiigminmakgaa
