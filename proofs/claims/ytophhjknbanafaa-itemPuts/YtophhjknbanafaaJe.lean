/- item.Newer; the law's own little check of layer 7: 'told'. -/
import Derived.Test.YtophhjknbanafaaJd
import Derived.Test.YtophhjknbanafaaBs
namespace Go.Proofs.Ytophhjknbanafaa
open Go.RowKit

/-- Does a win against b? -/
def newerF (a b : Vrs) : Bool := if a.stamp = b.stamp then decide (0 < Lib.compareBytes a.id.data.toList b.id.data.toList) else decide (b.stamp < a.stamp)

set_option maxRecDepth 100000 in
set_option maxHeartbeats 1000000 in
theorem newer_any (a b : Vrs) (w : World) : Calls Try.prog 9 #[vrsV a, vrsV b] w fun e w' => e = .returned (.bool (newerF a b)) ∧ Below w.heap.size w w' := by
  obtain ⟨d1, a1, s1⟩ := a
  obtain ⟨d2, a2, s2⟩ := b
  have HN := Lib.hid (show newerF ⟨d1, a1, s1⟩ ⟨d2, a2, s2⟩ = if s1 = s2 then decide (0 < Lib.compareBytes d1.data.toList d2.data.toList) else decide (s2 < s1) from rfl)
  generalize newerF ⟨d1, a1, s1⟩ ⟨d2, a2, s2⟩ = N at *
  have HC := Lib.hid (compare_any d1 d2)
  generalize Lib.compareBytes d1.data.toList d2.data.toList = c at *
  unfold vrsV
  by_cases h : s1 = s2
  · subst h
    rw [if_pos rfl] at HN
    go_enter Try.func9, Try.ntmps9
    go_wp2_with fail
    refine (HC.out _).mono ?_
    rintro e w1 ⟨rfl, rfl⟩
    go_wp2
    go_ret
    exact ⟨ret_bool (by rw [HN.out]), ((Below.refl _ _).alloc (Nat.le_refl _) _).alloc (by simp) _⟩
  · rw [if_neg h] at HN
    have h1 : (s1 != s2) = true := by simpa using h
    go_enter Try.func9, Try.ntmps9
    go_wp2
    go_ret
    exact ⟨ret_bool (by rw [HN.out]), ((Below.refl _ _).alloc (Nat.le_refl _) _).alloc (by simp) _⟩

def toldI : Itm := ⟨1, ⟨⟨#[48]⟩, 1, 3⟩, true, 0, 0, ⟨#[]⟩, false⟩
def toldV : Value := .agg #[.int .i64 1, .string ⟨#[48]⟩, .int .i64 1, .int .i64 3, .bool true, .complex .f64 0 0, .string ⟨#[]⟩, .bool false]
theorem toldI_V : itmV toldI = toldV := by unfold itmV toldI toldV; simp only [zero_fl]
theorem toldI_right : rightI toldI = true := by decide
theorem toldI_bytes : putItm [] toldI = [1, 1, 48, 1, 3, 0] := by
  unfold putItm
  rw [if_pos toldI_right]
  unfold bytesF headF tailF toldI
  simp only [List.nil_append, if_true]
  rw [show Int.toNat 1 = 1 from rfl, show Int.toNat 3 = 3 from rfl, show (ByteArray.mk #[48]).size = 1 from rfl, digitsF_small (show 1 < 128 by decide), digitsF_small (show 3 < 128 by decide), digitsF_small (show 0 < 128 by decide)]
  rfl
theorem told_ok : okI ([1, 1, 48, 1, 3, 0], 0) = true := by decide
theorem told_raw : rawI ([1, 1, 48, 1, 3, 0], 0) = toldI := by rfl

theorem told_put (w : World) : Calls Try.prog 21 #[.slice none 0 0, .agg #[.int .i64 1, .string ⟨#[48]⟩, .int .i64 1, .int .i64 3, .bool true, .complex .f64 0 0, .string ⟨#[]⟩, .bool false]] w (OwnBytes [1, 1, 48, 1, 3, 0] w) := by
  have h := itemPut_any none 0 0 [] toldI w (BytesAt.nil _ _ _) (by simp) (show (0 : Int).natAbs < 2 ^ 53 by decide) (show (0 : Int).natAbs < 2 ^ 53 by decide)
  rw [toldI_V, toldI_bytes] at h
  exact h
theorem told_take {R g : Nat} (w : World) (h : ReaderAt w R g ([1, 1, 48, 1, 3, 0], 0)) : Calls Try.prog 25 #[.pointer (some ⟨R, 0, none⟩)] w (RdRet (.tuple #[.agg #[.int .i64 1, .string ⟨#[48]⟩, .int .i64 1, .int .i64 3, .bool true, .complex .f64 0 0, .string ⟨#[]⟩, .bool false], .bool true]) R g (tkE ([1, 1, 48, 1, 3, 0], 0)) w) := by
  have h := take_any w h
  rw [told_ok, if_pos rfl, told_raw, toldI_V] at h
  exact h
theorem told_right (w : World) : Calls Try.prog 14 #[.agg #[.int .i64 1, .string ⟨#[48]⟩, .int .i64 1, .int .i64 3, .bool true, .complex .f64 0 0, .string ⟨#[]⟩, .bool false]] w fun e w' => e = .returned (.bool true) ∧ Below w.heap.size w w' := by
  have h := itemRight_any toldI (show (0 : Int).natAbs < 2 ^ 53 by decide) (show (0 : Int).natAbs < 2 ^ 53 by decide) w
  rw [toldI_V, toldI_right] at h
  exact h
theorem told_newer (w : World) : Calls Try.prog 9 #[.agg #[.string ⟨#[48, 49]⟩, .int .i64 0, .int .i64 3], .agg #[.string ⟨#[48]⟩, .int .i64 1, .int .i64 3]] w fun e w' => e = .returned (.bool true) ∧ Below w.heap.size w w' := by
  have h := newer_any ⟨⟨#[48, 49]⟩, 0, 3⟩ ⟨⟨#[48]⟩, 1, 3⟩ w
  rw [show newerF ⟨⟨#[48, 49]⟩, 0, 3⟩ ⟨⟨#[48]⟩, 1, 3⟩ = true by decide] at h
  exact h

set_option maxRecDepth 100000 in
set_option maxHeartbeats 4000000 in
theorem told_any (w : World) : Calls Try.prog 11 #[] w fun e w' => e = .returned (.bool true) ∧ Below w.heap.size w w' := by
  have hst := store_complex
  have heq : ∀ w, (binOp .eql 40 toldV toldV).run Try.prog w = .ok (.bool true) w := fun w => by kernel_rfl
  unfold toldV at heq
  go_enter Try.func11, Try.ntmps11
  go_wp2_with fail
  refine (told_put _).mono ?_
  rintro e w1 ⟨A1, c1, rfl, hown, hb⟩
  obtain ⟨g1, hz, _, _, _⟩ := own_bytes hown
  have HZ1 := Lib.hid hz
  have HB1 : Hid (Below w.heap.size w w1) := ((Below.refl _ _).alloc (Nat.le_refl _) _).trans (hb.mono (by simp))
  have c0' : w1.cell? ⟨w.heap.size, 0, none⟩ = some (.int .i64 1) := (hb.cell (by simp)).trans (by simp [go_sem])
  have c1' : w1.cell? ⟨w.heap.size, 1, none⟩ = some (.string ⟨#[48]⟩) := (hb.cell (by simp)).trans (by simp [go_sem])
  have c2' : w1.cell? ⟨w.heap.size, 2, none⟩ = some (.int .i64 1) := (hb.cell (by simp)).trans (by simp [go_sem])
  have c3' : w1.cell? ⟨w.heap.size, 3, none⟩ = some (.int .i64 3) := (hb.cell (by simp)).trans (by simp [go_sem])
  have c4' : w1.cell? ⟨w.heap.size, 4, none⟩ = some (.bool true) := (hb.cell (by simp)).trans (by simp [go_sem])
  have c5' : w1.cell? ⟨w.heap.size, 5, none⟩ = some (.complex .f64 0 0) := (hb.cell (by simp)).trans (by simp [go_sem])
  have c6' : w1.cell? ⟨w.heap.size, 6, none⟩ = some (.string ⟨#[]⟩) := (hb.cell (by simp)).trans (by simp [go_sem])
  have c7' : w1.cell? ⟨w.heap.size, 7, none⟩ = some (.bool false) := (hb.cell (by simp)).trans (by simp [go_sem])
  have hsz : w.heap.size < w1.heap.size := by have := hb.size; simp at this; omega
  clear hown hz hb
  go_wp2_with fail
  refine (read_any A1 c1 g1 _ _ HZ1.out (by simp)).mono ?_
  rintro e w2 ⟨R, g, rfl, hR, hlR, _, hb⟩
  have HZ2 := Lib.hid (HZ1.out.keep hb)
  have HB2 : Hid (Below w.heap.size w w2) := HB1.out.trans (hb.mono HB1.out.size)
  replace c0' := (hb.cell (p := ⟨w.heap.size, 0, none⟩) hsz).trans c0'
  replace c1' := (hb.cell (p := ⟨w.heap.size, 1, none⟩) hsz).trans c1'
  replace c2' := (hb.cell (p := ⟨w.heap.size, 2, none⟩) hsz).trans c2'
  replace c3' := (hb.cell (p := ⟨w.heap.size, 3, none⟩) hsz).trans c3'
  replace c4' := (hb.cell (p := ⟨w.heap.size, 4, none⟩) hsz).trans c4'
  replace c5' := (hb.cell (p := ⟨w.heap.size, 5, none⟩) hsz).trans c5'
  replace c6' := (hb.cell (p := ⟨w.heap.size, 6, none⟩) hsz).trans c6'
  replace c7' := (hb.cell (p := ⟨w.heap.size, 7, none⟩) hsz).trans c7'
  have HR2 := Lib.hid hR
  have hne : some w.heap.size ≠ (some R : Option Nat) := fun e => by injection e with e; omega
  have HRG : Hid (w.heap.size ≤ R ∧ (0 < 6 → g1 ≠ R)) := ⟨by omega, fun _ e => by have := HZ1.out.lt (by simp); omega⟩
  replace hsz := Nat.lt_of_lt_of_le hsz hb.size
  clear hR hb HB1 HZ1
  go_wp2_with fail
  refine (told_take _ HR2.out).mono ?_
  rintro e w3 ⟨rfl, hR, hg⟩
  have HZ3 : Hid (BytesAt w3 g1 A1 6 [1, 1, 48, 1, 3, 0]) := HZ2.out.grown hg (fun _ e => by injection e with e; exact HRG.out.2 (by omega) e.symm)
  have HB3 : Hid (Below w.heap.size w w3) := HB2.out.grown hg HB2.out.size (fun k e => by injection e with e; have := HRG.out.1; omega)
  replace c0' := (own_cell hg hsz hne 0).1.trans c0'
  replace c1' := (own_cell hg hsz hne 1).1.trans c1'
  replace c2' := (own_cell hg hsz hne 2).1.trans c2'
  replace c3' := (own_cell hg hsz hne 3).1.trans c3'
  replace c4' := (own_cell hg hsz hne 4).1.trans c4'
  replace c5' := (own_cell hg hsz hne 5).1.trans c5'
  replace c6' := (own_cell hg hsz hne 6).1.trans c6'
  replace c7' := (own_cell hg hsz hne 7).1.trans c7'
  replace hsz := Nat.lt_of_lt_of_le hsz hg.size
  clear hR hg HR2 HB2 HZ2
  have HZ4 := Lib.hid (HZ3.out.keep ((Below.refl _ _).alloc (Nat.le_refl _) (.cells #[.int .i64 1, .string ⟨#[48]⟩, .int .i64 1, .int .i64 3, .bool true, .complex .f64 0 0, .string ⟨#[]⟩, .bool false] 40)))
  have htx : (convert 47 9 (.slice A1 6 c1)).run Try.prog (w3.alloc (.cells #[.int .i64 1, .string ⟨#[48]⟩, .int .i64 1, .int .i64 3, .bool true, .complex .f64 0 0, .string ⟨#[]⟩, .bool false] 40)) = .ok (.string ⟨#[1, 1, 48, 1, 3, 0]⟩) (w3.alloc (.cells #[.int .i64 1, .string ⟨#[48]⟩, .int .i64 1, .int .i64 3, .bool true, .complex .f64 0 0, .string ⟨#[]⟩, .bool false] 40)) := run_text c1 HZ4.out
  have HB4 : Hid (Below w.heap.size w (w3.alloc (.cells #[.int .i64 1, .string ⟨#[48]⟩, .int .i64 1, .int .i64 3, .bool true, .complex .f64 0 0, .string ⟨#[]⟩, .bool false] 40))) := HB3.out.alloc HB3.out.size _
  go_wp2_with fail
  refine (told_right _).mono ?_
  rintro e w5 ⟨rfl, hb⟩
  have d1 : w5.cell? ⟨w.heap.size, 1, none⟩ = some (.string ⟨#[48]⟩) := (hb.cell (p := ⟨w.heap.size, 1, none⟩) (by simp; omega)).trans ((World.cell?_alloc_lt w3 _ ⟨w.heap.size, 1, none⟩ hsz).trans c1')
  have d2 : w5.cell? ⟨w.heap.size, 2, none⟩ = some (.int .i64 1) := (hb.cell (p := ⟨w.heap.size, 2, none⟩) (by simp; omega)).trans ((World.cell?_alloc_lt w3 _ ⟨w.heap.size, 2, none⟩ hsz).trans c2')
  have d3 : w5.cell? ⟨w.heap.size, 3, none⟩ = some (.int .i64 3) := (hb.cell (p := ⟨w.heap.size, 3, none⟩) (by simp; omega)).trans ((World.cell?_alloc_lt w3 _ ⟨w.heap.size, 3, none⟩ hsz).trans c3')
  have HB5 : Hid (Below w.heap.size w w5) := HB4.out.trans (hb.mono HB4.out.size)
  clear hb HB4 htx c0' c1' c2' c3' c4' c5' c6' c7' HB3
  go_wp2_with fail
  refine (told_newer _).mono ?_
  rintro e w6 ⟨rfl, hb⟩
  have HB6 : Hid (Below w.heap.size w w6) := HB5.out.trans (hb.mono HB5.out.size)
  clear hb
  go_wp2
  go_ret
  exact ⟨rfl, HB6.out⟩
end Go.Proofs.Ytophhjknbanafaa
