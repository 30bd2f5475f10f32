/- The document's Take of an item. -/
import Derived.Test.YtophhjknbanafaaKe
import Derived.Test.YtophhjknbanafaaKi
import Derived.Test.YtophhjknbanafaaBn
namespace Go.Proofs.Ytophhjknbanafaa
open Go.RowKit

/-- What Take answers. -/
def TakeV (ok : Bool) (a b : Value) : Value := .tuple #[if ok then a else b, .bool ok]
theorem rn {Q g : Nat} {s : Rf} {B : List UInt8} {st : Rd} {n : Int} {r : Rd} (most : Int) (w : World) (hB : s.B = B) (hr : s.rd = st) (hn : numF st most = (n, r)) (h : RefAt w Q g s) : Calls Try.prog 48 #[.pointer (some ⟨Q, 0, none⟩), .int .i64 most] w (RefRet (.int .i64 n) Q g B r w) := by
  subst hB hr
  have := refNum_any most w h
  rwa [hn] at this
theorem rt {Q g : Nat} {s : Rf} {B : List UInt8} {st : Rd} {t : List UInt8} {r : Rd} (most : Int) (w : World) (hB : s.B = B) (hr : s.rd = st) (hn : textF st most = (t, r)) (h : RefAt w Q g s) : Calls Try.prog 49 #[.pointer (some ⟨Q, 0, none⟩), .int .i64 most] w (RefRet (.string ⟨t.toArray⟩) Q g B r w) := by
  subst hB hr
  have := refText_any most w h
  rwa [hn] at this
theorem RefAt.setOwn {w : World} {Q g : Nat} {s : Rf} (h : RefAt w Q g s) {p : Addr} (h1 : Q ≠ p.block) (h2 : s.B ≠ [] → g ≠ p.block) (u : Value) : RefAt (w.setCell p u) Q g s := h.other (grown_set u) h1 h2
theorem RefAt.glt {w : World} {Q g : Nat} {s : Rf} (h : RefAt w Q g s) (hn : s.B ≠ []) : g < w.heap.size := by
  obtain ⟨A, c, _, hz, _⟩ := h.c0
  refine hz.lt ?_
  rcases e : s.B with _ | _
  · exact absurd e hn
  · simp
set_option maxRecDepth 100000 in
set_option maxHeartbeats 8000000 in
theorem refTake_0 {Q g : Nat} {s : Rf} (w : World) (h : RefAt w Q g s) {n1 n3 n4 : Int} {t2 : List UInt8} {r1 r2 r3 r4 r5 : Rd} (h1 : numF s.rd 31 = (n1, r1)) (h2 : textF r1 6 = (t2, r2)) (h3 : numF r2 1048576 = (n3, r3)) (h4 : numF r3 1048576 = (n4, r4)) (h5 : numF r4 2 = (0, r5)) (ok : Bool) (hok : ok = (decide (r5.2 = 0) && rightI ⟨n1, ⟨⟨t2.toArray⟩, n3, n4⟩, true, 0, 0, ⟨#[]⟩, false⟩)) :
    Calls Try.prog 27 #[.pointer (some ⟨Q, 0, none⟩)] w (RefRet (TakeV ok (.agg #[.int .i64 n1, .string ⟨t2.toArray⟩, .int .i64 n3, .int .i64 n4, .bool true, .int .i64 0, .int .i64 0, .string ⟨#[]⟩, .bool false]) (.agg #[.int .i64 0, .string ⟨#[]⟩, .int .i64 0, .int .i64 0, .bool false, .int .i64 0, .int .i64 0, .string ⟨#[]⟩, .bool false])) Q g s.B r5 w) := by
  have HOK := Lib.hid hok
  have HRR := Lib.hid (refRight_any ⟨n1, ⟨⟨t2.toArray⟩, n3, n4⟩, true, 0, 0, ⟨#[]⟩, false⟩)
  generalize rightI ⟨n1, ⟨⟨t2.toArray⟩, n3, n4⟩, true, 0, 0, ⟨#[]⟩, false⟩ = R at *
  unfold refV at HRR
  simp only at HRR
  clear hok
  have hQ := h.lt
  have hG := h.glt
  have H1 := Lib.hid h1
  have H2 := Lib.hid h2
  have H3 := Lib.hid h3
  have H4 := Lib.hid h4
  have H5 := Lib.hid h5
  clear h1 h2 h3 h4 h5
  obtain ⟨B, hB⟩ : ∃ B, s.B = B := ⟨_, rfl⟩
  obtain ⟨st, hst⟩ : ∃ st, s.rd = st := ⟨_, rfl⟩
  rw [hst] at H1
  rw [hB] at hG
  have HB := Lib.hid hB
  have HST := Lib.hid hst
  rw [hB]
  clear hB hst
  have HR := Lib.hid ((h.keep ((Below.refl _ _).alloc (Nat.le_refl _) (.cells #[.int .i64 0, .string ⟨#[]⟩, .int .i64 0, .int .i64 0, .bool false, .int .i64 0, .int .i64 0, .string ⟨#[]⟩, .bool false] 35))).keep ((Below.refl _ _).alloc (Nat.le_refl _) (.cells #[.int .i64 0, .string ⟨#[]⟩, .int .i64 0, .int .i64 0, .bool false, .int .i64 0, .int .i64 0, .string ⟨#[]⟩, .bool false] 35)))
  have HG : Hid (w.grownBy ((w.alloc (.cells #[.int .i64 0, .string ⟨#[]⟩, .int .i64 0, .int .i64 0, .bool false, .int .i64 0, .int .i64 0, .string ⟨#[]⟩, .bool false] 35)).alloc (.cells #[.int .i64 0, .string ⟨#[]⟩, .int .i64 0, .int .i64 0, .bool false, .int .i64 0, .int .i64 0, .string ⟨#[]⟩, .bool false] 35)) (some Q)) := grown_more (grown_alloc w _ _) _
  clear h
  go_enter Try.func27, Try.ntmps27
  go_upto_region 2 with fail
  have z0 : ((w.alloc (.cells #[.int .i64 0, .string ⟨#[]⟩, .int .i64 0, .int .i64 0, .bool false, .int .i64 0, .int .i64 0, .string ⟨#[]⟩, .bool false] 35)).alloc (.cells #[.int .i64 0, .string ⟨#[]⟩, .int .i64 0, .int .i64 0, .bool false, .int .i64 0, .int .i64 0, .string ⟨#[]⟩, .bool false] 35)).cell? ⟨w.heap.size, 0, none⟩ = some (.int .i64 0) := by simp [go_sem]
  have zf0 : ((w.alloc (.cells #[.int .i64 0, .string ⟨#[]⟩, .int .i64 0, .int .i64 0, .bool false, .int .i64 0, .int .i64 0, .string ⟨#[]⟩, .bool false] 35)).alloc (.cells #[.int .i64 0, .string ⟨#[]⟩, .int .i64 0, .int .i64 0, .bool false, .int .i64 0, .int .i64 0, .string ⟨#[]⟩, .bool false] 35)).frozen? ⟨w.heap.size, 0, none⟩ = false := by simp [go_sem]
  have z1 : ((w.alloc (.cells #[.int .i64 0, .string ⟨#[]⟩, .int .i64 0, .int .i64 0, .bool false, .int .i64 0, .int .i64 0, .string ⟨#[]⟩, .bool false] 35)).alloc (.cells #[.int .i64 0, .string ⟨#[]⟩, .int .i64 0, .int .i64 0, .bool false, .int .i64 0, .int .i64 0, .string ⟨#[]⟩, .bool false] 35)).cell? ⟨w.heap.size, 1, none⟩ = some (.string ⟨#[]⟩) := by simp [go_sem]
  have zf1 : ((w.alloc (.cells #[.int .i64 0, .string ⟨#[]⟩, .int .i64 0, .int .i64 0, .bool false, .int .i64 0, .int .i64 0, .string ⟨#[]⟩, .bool false] 35)).alloc (.cells #[.int .i64 0, .string ⟨#[]⟩, .int .i64 0, .int .i64 0, .bool false, .int .i64 0, .int .i64 0, .string ⟨#[]⟩, .bool false] 35)).frozen? ⟨w.heap.size, 1, none⟩ = false := by simp [go_sem]
  have z2 : ((w.alloc (.cells #[.int .i64 0, .string ⟨#[]⟩, .int .i64 0, .int .i64 0, .bool false, .int .i64 0, .int .i64 0, .string ⟨#[]⟩, .bool false] 35)).alloc (.cells #[.int .i64 0, .string ⟨#[]⟩, .int .i64 0, .int .i64 0, .bool false, .int .i64 0, .int .i64 0, .string ⟨#[]⟩, .bool false] 35)).cell? ⟨w.heap.size, 2, none⟩ = some (.int .i64 0) := by simp [go_sem]
  have zf2 : ((w.alloc (.cells #[.int .i64 0, .string ⟨#[]⟩, .int .i64 0, .int .i64 0, .bool false, .int .i64 0, .int .i64 0, .string ⟨#[]⟩, .bool false] 35)).alloc (.cells #[.int .i64 0, .string ⟨#[]⟩, .int .i64 0, .int .i64 0, .bool false, .int .i64 0, .int .i64 0, .string ⟨#[]⟩, .bool false] 35)).frozen? ⟨w.heap.size, 2, none⟩ = false := by simp [go_sem]
  have z3 : ((w.alloc (.cells #[.int .i64 0, .string ⟨#[]⟩, .int .i64 0, .int .i64 0, .bool false, .int .i64 0, .int .i64 0, .string ⟨#[]⟩, .bool false] 35)).alloc (.cells #[.int .i64 0, .string ⟨#[]⟩, .int .i64 0, .int .i64 0, .bool false, .int .i64 0, .int .i64 0, .string ⟨#[]⟩, .bool false] 35)).cell? ⟨w.heap.size, 3, none⟩ = some (.int .i64 0) := by simp [go_sem]
  have zf3 : ((w.alloc (.cells #[.int .i64 0, .string ⟨#[]⟩, .int .i64 0, .int .i64 0, .bool false, .int .i64 0, .int .i64 0, .string ⟨#[]⟩, .bool false] 35)).alloc (.cells #[.int .i64 0, .string ⟨#[]⟩, .int .i64 0, .int .i64 0, .bool false, .int .i64 0, .int .i64 0, .string ⟨#[]⟩, .bool false] 35)).frozen? ⟨w.heap.size, 3, none⟩ = false := by simp [go_sem]
  have z4 : ((w.alloc (.cells #[.int .i64 0, .string ⟨#[]⟩, .int .i64 0, .int .i64 0, .bool false, .int .i64 0, .int .i64 0, .string ⟨#[]⟩, .bool false] 35)).alloc (.cells #[.int .i64 0, .string ⟨#[]⟩, .int .i64 0, .int .i64 0, .bool false, .int .i64 0, .int .i64 0, .string ⟨#[]⟩, .bool false] 35)).cell? ⟨w.heap.size, 4, none⟩ = some (.bool false) := by simp [go_sem]
  have zf4 : ((w.alloc (.cells #[.int .i64 0, .string ⟨#[]⟩, .int .i64 0, .int .i64 0, .bool false, .int .i64 0, .int .i64 0, .string ⟨#[]⟩, .bool false] 35)).alloc (.cells #[.int .i64 0, .string ⟨#[]⟩, .int .i64 0, .int .i64 0, .bool false, .int .i64 0, .int .i64 0, .string ⟨#[]⟩, .bool false] 35)).frozen? ⟨w.heap.size, 4, none⟩ = false := by simp [go_sem]
  have z5 : ((w.alloc (.cells #[.int .i64 0, .string ⟨#[]⟩, .int .i64 0, .int .i64 0, .bool false, .int .i64 0, .int .i64 0, .string ⟨#[]⟩, .bool false] 35)).alloc (.cells #[.int .i64 0, .string ⟨#[]⟩, .int .i64 0, .int .i64 0, .bool false, .int .i64 0, .int .i64 0, .string ⟨#[]⟩, .bool false] 35)).cell? ⟨w.heap.size, 5, none⟩ = some (.int .i64 0) := by simp [go_sem]
  have zf5 : ((w.alloc (.cells #[.int .i64 0, .string ⟨#[]⟩, .int .i64 0, .int .i64 0, .bool false, .int .i64 0, .int .i64 0, .string ⟨#[]⟩, .bool false] 35)).alloc (.cells #[.int .i64 0, .string ⟨#[]⟩, .int .i64 0, .int .i64 0, .bool false, .int .i64 0, .int .i64 0, .string ⟨#[]⟩, .bool false] 35)).frozen? ⟨w.heap.size, 5, none⟩ = false := by simp [go_sem]
  have z6 : ((w.alloc (.cells #[.int .i64 0, .string ⟨#[]⟩, .int .i64 0, .int .i64 0, .bool false, .int .i64 0, .int .i64 0, .string ⟨#[]⟩, .bool false] 35)).alloc (.cells #[.int .i64 0, .string ⟨#[]⟩, .int .i64 0, .int .i64 0, .bool false, .int .i64 0, .int .i64 0, .string ⟨#[]⟩, .bool false] 35)).cell? ⟨w.heap.size, 6, none⟩ = some (.int .i64 0) := by simp [go_sem]
  have zf6 : ((w.alloc (.cells #[.int .i64 0, .string ⟨#[]⟩, .int .i64 0, .int .i64 0, .bool false, .int .i64 0, .int .i64 0, .string ⟨#[]⟩, .bool false] 35)).alloc (.cells #[.int .i64 0, .string ⟨#[]⟩, .int .i64 0, .int .i64 0, .bool false, .int .i64 0, .int .i64 0, .string ⟨#[]⟩, .bool false] 35)).frozen? ⟨w.heap.size, 6, none⟩ = false := by simp [go_sem]
  have z7 : ((w.alloc (.cells #[.int .i64 0, .string ⟨#[]⟩, .int .i64 0, .int .i64 0, .bool false, .int .i64 0, .int .i64 0, .string ⟨#[]⟩, .bool false] 35)).alloc (.cells #[.int .i64 0, .string ⟨#[]⟩, .int .i64 0, .int .i64 0, .bool false, .int .i64 0, .int .i64 0, .string ⟨#[]⟩, .bool false] 35)).cell? ⟨w.heap.size, 7, none⟩ = some (.string ⟨#[]⟩) := by simp [go_sem]
  have zf7 : ((w.alloc (.cells #[.int .i64 0, .string ⟨#[]⟩, .int .i64 0, .int .i64 0, .bool false, .int .i64 0, .int .i64 0, .string ⟨#[]⟩, .bool false] 35)).alloc (.cells #[.int .i64 0, .string ⟨#[]⟩, .int .i64 0, .int .i64 0, .bool false, .int .i64 0, .int .i64 0, .string ⟨#[]⟩, .bool false] 35)).frozen? ⟨w.heap.size, 7, none⟩ = false := by simp [go_sem]
  have z8 : ((w.alloc (.cells #[.int .i64 0, .string ⟨#[]⟩, .int .i64 0, .int .i64 0, .bool false, .int .i64 0, .int .i64 0, .string ⟨#[]⟩, .bool false] 35)).alloc (.cells #[.int .i64 0, .string ⟨#[]⟩, .int .i64 0, .int .i64 0, .bool false, .int .i64 0, .int .i64 0, .string ⟨#[]⟩, .bool false] 35)).cell? ⟨w.heap.size, 8, none⟩ = some (.bool false) := by simp [go_sem]
  have zf8 : ((w.alloc (.cells #[.int .i64 0, .string ⟨#[]⟩, .int .i64 0, .int .i64 0, .bool false, .int .i64 0, .int .i64 0, .string ⟨#[]⟩, .bool false] 35)).alloc (.cells #[.int .i64 0, .string ⟨#[]⟩, .int .i64 0, .int .i64 0, .bool false, .int .i64 0, .int .i64 0, .string ⟨#[]⟩, .bool false] 35)).frozen? ⟨w.heap.size, 8, none⟩ = false := by simp [go_sem]
  have zz : w.heap.size < ((w.alloc (.cells #[.int .i64 0, .string ⟨#[]⟩, .int .i64 0, .int .i64 0, .bool false, .int .i64 0, .int .i64 0, .string ⟨#[]⟩, .bool false] 35)).alloc (.cells #[.int .i64 0, .string ⟨#[]⟩, .int .i64 0, .int .i64 0, .bool false, .int .i64 0, .int .i64 0, .string ⟨#[]⟩, .bool false] 35)).heap.size := by simp <;> omega
  have k0 : ((w.alloc (.cells #[.int .i64 0, .string ⟨#[]⟩, .int .i64 0, .int .i64 0, .bool false, .int .i64 0, .int .i64 0, .string ⟨#[]⟩, .bool false] 35)).alloc (.cells #[.int .i64 0, .string ⟨#[]⟩, .int .i64 0, .int .i64 0, .bool false, .int .i64 0, .int .i64 0, .string ⟨#[]⟩, .bool false] 35)).cell? ⟨w.heap.size + 1, 0, none⟩ = some (.int .i64 0) := by simp [go_sem]
  have kf0 : ((w.alloc (.cells #[.int .i64 0, .string ⟨#[]⟩, .int .i64 0, .int .i64 0, .bool false, .int .i64 0, .int .i64 0, .string ⟨#[]⟩, .bool false] 35)).alloc (.cells #[.int .i64 0, .string ⟨#[]⟩, .int .i64 0, .int .i64 0, .bool false, .int .i64 0, .int .i64 0, .string ⟨#[]⟩, .bool false] 35)).frozen? ⟨w.heap.size + 1, 0, none⟩ = false := by simp [go_sem]
  have k1 : ((w.alloc (.cells #[.int .i64 0, .string ⟨#[]⟩, .int .i64 0, .int .i64 0, .bool false, .int .i64 0, .int .i64 0, .string ⟨#[]⟩, .bool false] 35)).alloc (.cells #[.int .i64 0, .string ⟨#[]⟩, .int .i64 0, .int .i64 0, .bool false, .int .i64 0, .int .i64 0, .string ⟨#[]⟩, .bool false] 35)).cell? ⟨w.heap.size + 1, 1, none⟩ = some (.string ⟨#[]⟩) := by simp [go_sem]
  have kf1 : ((w.alloc (.cells #[.int .i64 0, .string ⟨#[]⟩, .int .i64 0, .int .i64 0, .bool false, .int .i64 0, .int .i64 0, .string ⟨#[]⟩, .bool false] 35)).alloc (.cells #[.int .i64 0, .string ⟨#[]⟩, .int .i64 0, .int .i64 0, .bool false, .int .i64 0, .int .i64 0, .string ⟨#[]⟩, .bool false] 35)).frozen? ⟨w.heap.size + 1, 1, none⟩ = false := by simp [go_sem]
  have k2 : ((w.alloc (.cells #[.int .i64 0, .string ⟨#[]⟩, .int .i64 0, .int .i64 0, .bool false, .int .i64 0, .int .i64 0, .string ⟨#[]⟩, .bool false] 35)).alloc (.cells #[.int .i64 0, .string ⟨#[]⟩, .int .i64 0, .int .i64 0, .bool false, .int .i64 0, .int .i64 0, .string ⟨#[]⟩, .bool false] 35)).cell? ⟨w.heap.size + 1, 2, none⟩ = some (.int .i64 0) := by simp [go_sem]
  have kf2 : ((w.alloc (.cells #[.int .i64 0, .string ⟨#[]⟩, .int .i64 0, .int .i64 0, .bool false, .int .i64 0, .int .i64 0, .string ⟨#[]⟩, .bool false] 35)).alloc (.cells #[.int .i64 0, .string ⟨#[]⟩, .int .i64 0, .int .i64 0, .bool false, .int .i64 0, .int .i64 0, .string ⟨#[]⟩, .bool false] 35)).frozen? ⟨w.heap.size + 1, 2, none⟩ = false := by simp [go_sem]
  have k3 : ((w.alloc (.cells #[.int .i64 0, .string ⟨#[]⟩, .int .i64 0, .int .i64 0, .bool false, .int .i64 0, .int .i64 0, .string ⟨#[]⟩, .bool false] 35)).alloc (.cells #[.int .i64 0, .string ⟨#[]⟩, .int .i64 0, .int .i64 0, .bool false, .int .i64 0, .int .i64 0, .string ⟨#[]⟩, .bool false] 35)).cell? ⟨w.heap.size + 1, 3, none⟩ = some (.int .i64 0) := by simp [go_sem]
  have kf3 : ((w.alloc (.cells #[.int .i64 0, .string ⟨#[]⟩, .int .i64 0, .int .i64 0, .bool false, .int .i64 0, .int .i64 0, .string ⟨#[]⟩, .bool false] 35)).alloc (.cells #[.int .i64 0, .string ⟨#[]⟩, .int .i64 0, .int .i64 0, .bool false, .int .i64 0, .int .i64 0, .string ⟨#[]⟩, .bool false] 35)).frozen? ⟨w.heap.size + 1, 3, none⟩ = false := by simp [go_sem]
  have k4 : ((w.alloc (.cells #[.int .i64 0, .string ⟨#[]⟩, .int .i64 0, .int .i64 0, .bool false, .int .i64 0, .int .i64 0, .string ⟨#[]⟩, .bool false] 35)).alloc (.cells #[.int .i64 0, .string ⟨#[]⟩, .int .i64 0, .int .i64 0, .bool false, .int .i64 0, .int .i64 0, .string ⟨#[]⟩, .bool false] 35)).cell? ⟨w.heap.size + 1, 4, none⟩ = some (.bool false) := by simp [go_sem]
  have kf4 : ((w.alloc (.cells #[.int .i64 0, .string ⟨#[]⟩, .int .i64 0, .int .i64 0, .bool false, .int .i64 0, .int .i64 0, .string ⟨#[]⟩, .bool false] 35)).alloc (.cells #[.int .i64 0, .string ⟨#[]⟩, .int .i64 0, .int .i64 0, .bool false, .int .i64 0, .int .i64 0, .string ⟨#[]⟩, .bool false] 35)).frozen? ⟨w.heap.size + 1, 4, none⟩ = false := by simp [go_sem]
  have k5 : ((w.alloc (.cells #[.int .i64 0, .string ⟨#[]⟩, .int .i64 0, .int .i64 0, .bool false, .int .i64 0, .int .i64 0, .string ⟨#[]⟩, .bool false] 35)).alloc (.cells #[.int .i64 0, .string ⟨#[]⟩, .int .i64 0, .int .i64 0, .bool false, .int .i64 0, .int .i64 0, .string ⟨#[]⟩, .bool false] 35)).cell? ⟨w.heap.size + 1, 5, none⟩ = some (.int .i64 0) := by simp [go_sem]
  have kf5 : ((w.alloc (.cells #[.int .i64 0, .string ⟨#[]⟩, .int .i64 0, .int .i64 0, .bool false, .int .i64 0, .int .i64 0, .string ⟨#[]⟩, .bool false] 35)).alloc (.cells #[.int .i64 0, .string ⟨#[]⟩, .int .i64 0, .int .i64 0, .bool false, .int .i64 0, .int .i64 0, .string ⟨#[]⟩, .bool false] 35)).frozen? ⟨w.heap.size + 1, 5, none⟩ = false := by simp [go_sem]
  have k6 : ((w.alloc (.cells #[.int .i64 0, .string ⟨#[]⟩, .int .i64 0, .int .i64 0, .bool false, .int .i64 0, .int .i64 0, .string ⟨#[]⟩, .bool false] 35)).alloc (.cells #[.int .i64 0, .string ⟨#[]⟩, .int .i64 0, .int .i64 0, .bool false, .int .i64 0, .int .i64 0, .string ⟨#[]⟩, .bool false] 35)).cell? ⟨w.heap.size + 1, 6, none⟩ = some (.int .i64 0) := by simp [go_sem]
  have kf6 : ((w.alloc (.cells #[.int .i64 0, .string ⟨#[]⟩, .int .i64 0, .int .i64 0, .bool false, .int .i64 0, .int .i64 0, .string ⟨#[]⟩, .bool false] 35)).alloc (.cells #[.int .i64 0, .string ⟨#[]⟩, .int .i64 0, .int .i64 0, .bool false, .int .i64 0, .int .i64 0, .string ⟨#[]⟩, .bool false] 35)).frozen? ⟨w.heap.size + 1, 6, none⟩ = false := by simp [go_sem]
  have k7 : ((w.alloc (.cells #[.int .i64 0, .string ⟨#[]⟩, .int .i64 0, .int .i64 0, .bool false, .int .i64 0, .int .i64 0, .string ⟨#[]⟩, .bool false] 35)).alloc (.cells #[.int .i64 0, .string ⟨#[]⟩, .int .i64 0, .int .i64 0, .bool false, .int .i64 0, .int .i64 0, .string ⟨#[]⟩, .bool false] 35)).cell? ⟨w.heap.size + 1, 7, none⟩ = some (.string ⟨#[]⟩) := by simp [go_sem]
  have kf7 : ((w.alloc (.cells #[.int .i64 0, .string ⟨#[]⟩, .int .i64 0, .int .i64 0, .bool false, .int .i64 0, .int .i64 0, .string ⟨#[]⟩, .bool false] 35)).alloc (.cells #[.int .i64 0, .string ⟨#[]⟩, .int .i64 0, .int .i64 0, .bool false, .int .i64 0, .int .i64 0, .string ⟨#[]⟩, .bool false] 35)).frozen? ⟨w.heap.size + 1, 7, none⟩ = false := by simp [go_sem]
  have k8 : ((w.alloc (.cells #[.int .i64 0, .string ⟨#[]⟩, .int .i64 0, .int .i64 0, .bool false, .int .i64 0, .int .i64 0, .string ⟨#[]⟩, .bool false] 35)).alloc (.cells #[.int .i64 0, .string ⟨#[]⟩, .int .i64 0, .int .i64 0, .bool false, .int .i64 0, .int .i64 0, .string ⟨#[]⟩, .bool false] 35)).cell? ⟨w.heap.size + 1, 8, none⟩ = some (.bool false) := by simp [go_sem]
  have kf8 : ((w.alloc (.cells #[.int .i64 0, .string ⟨#[]⟩, .int .i64 0, .int .i64 0, .bool false, .int .i64 0, .int .i64 0, .string ⟨#[]⟩, .bool false] 35)).alloc (.cells #[.int .i64 0, .string ⟨#[]⟩, .int .i64 0, .int .i64 0, .bool false, .int .i64 0, .int .i64 0, .string ⟨#[]⟩, .bool false] 35)).frozen? ⟨w.heap.size + 1, 8, none⟩ = false := by simp [go_sem]
  have kz : w.heap.size + 1 < ((w.alloc (.cells #[.int .i64 0, .string ⟨#[]⟩, .int .i64 0, .int .i64 0, .bool false, .int .i64 0, .int .i64 0, .string ⟨#[]⟩, .bool false] 35)).alloc (.cells #[.int .i64 0, .string ⟨#[]⟩, .int .i64 0, .int .i64 0, .bool false, .int .i64 0, .int .i64 0, .string ⟨#[]⟩, .bool false] 35)).heap.size := by simp <;> omega
  have nz : some w.heap.size ≠ (some Q : Option Nat) := fun e => by injection e with e; omega
  have nk : some (w.heap.size + 1) ≠ (some Q : Option Nat) := fun e => by injection e with e; omega
  have NQ : Hid (Q ≠ w.heap.size + 1) := by show _ ≠ _; omega
  have NG : Hid (B ≠ [] → g ≠ w.heap.size + 1) := fun hb => by have := hG hb; omega
  have NZ : Hid (Q ≠ w.heap.size) := by show _ ≠ _; omega
  have NGZ : Hid (B ≠ [] → g ≠ w.heap.size) := fun hb => by have := hG hb; omega
  clear hQ hG
  generalize ((w.alloc (.cells #[.int .i64 0, .string ⟨#[]⟩, .int .i64 0, .int .i64 0, .bool false, .int .i64 0, .int .i64 0, .string ⟨#[]⟩, .bool false] 35)).alloc (.cells #[.int .i64 0, .string ⟨#[]⟩, .int .i64 0, .int .i64 0, .bool false, .int .i64 0, .int .i64 0, .string ⟨#[]⟩, .bool false] 35)) = W0 at *
  go_wp2_with fail
  refine (rn 31 _ HB.out HST.out H1.out HR.out).mono ?_
  rintro e w1 ⟨rfl, ⟨s1, hB, hrd, hR⟩, hg⟩
  replace zf0 := (own_cell hg zz nz 0).2.trans zf0
  replace z0 := (own_cell hg zz nz 0).1.trans z0
  replace zf1 := (own_cell hg zz nz 1).2.trans zf1
  replace z1 := (own_cell hg zz nz 1).1.trans z1
  replace zf2 := (own_cell hg zz nz 2).2.trans zf2
  replace z2 := (own_cell hg zz nz 2).1.trans z2
  replace zf3 := (own_cell hg zz nz 3).2.trans zf3
  replace z3 := (own_cell hg zz nz 3).1.trans z3
  replace zf4 := (own_cell hg zz nz 4).2.trans zf4
  replace z4 := (own_cell hg zz nz 4).1.trans z4
  replace zf5 := (own_cell hg zz nz 5).2.trans zf5
  replace z5 := (own_cell hg zz nz 5).1.trans z5
  replace zf6 := (own_cell hg zz nz 6).2.trans zf6
  replace z6 := (own_cell hg zz nz 6).1.trans z6
  replace zf7 := (own_cell hg zz nz 7).2.trans zf7
  replace z7 := (own_cell hg zz nz 7).1.trans z7
  replace zf8 := (own_cell hg zz nz 8).2.trans zf8
  replace z8 := (own_cell hg zz nz 8).1.trans z8
  replace zz := Nat.lt_of_lt_of_le zz hg.size
  replace kf0 := (own_cell hg kz nk 0).2.trans kf0
  replace k0 := (own_cell hg kz nk 0).1.trans k0
  replace kf1 := (own_cell hg kz nk 1).2.trans kf1
  replace k1 := (own_cell hg kz nk 1).1.trans k1
  replace kf2 := (own_cell hg kz nk 2).2.trans kf2
  replace k2 := (own_cell hg kz nk 2).1.trans k2
  replace kf3 := (own_cell hg kz nk 3).2.trans kf3
  replace k3 := (own_cell hg kz nk 3).1.trans k3
  replace kf4 := (own_cell hg kz nk 4).2.trans kf4
  replace k4 := (own_cell hg kz nk 4).1.trans k4
  replace kf5 := (own_cell hg kz nk 5).2.trans kf5
  replace k5 := (own_cell hg kz nk 5).1.trans k5
  replace kf6 := (own_cell hg kz nk 6).2.trans kf6
  replace k6 := (own_cell hg kz nk 6).1.trans k6
  replace kf7 := (own_cell hg kz nk 7).2.trans kf7
  replace k7 := (own_cell hg kz nk 7).1.trans k7
  replace kf8 := (own_cell hg kz nk 8).2.trans kf8
  replace k8 := (own_cell hg kz nk 8).1.trans k8
  replace kz := Nat.lt_of_lt_of_le kz hg.size
  replace HB := Lib.hid hB
  replace HST := Lib.hid hrd
  replace HR := Lib.hid hR
  replace HG := Lib.hid (HG.out.trans hg)
  clear hB hrd hR hg H1
  go_upto_region 3 with fail
  replace z0 : (w1.setCell ⟨w.heap.size + 1, 0, none⟩ (.int .i64 n1)).cell? ⟨w.heap.size, 0, none⟩ = some (.int .i64 0) := by simp [go_sem, z0]
  replace zf0 : (w1.setCell ⟨w.heap.size + 1, 0, none⟩ (.int .i64 n1)).frozen? ⟨w.heap.size, 0, none⟩ = false := by simp [go_sem, zf0]
  replace z1 : (w1.setCell ⟨w.heap.size + 1, 0, none⟩ (.int .i64 n1)).cell? ⟨w.heap.size, 1, none⟩ = some (.string ⟨#[]⟩) := by simp [go_sem, z1]
  replace zf1 : (w1.setCell ⟨w.heap.size + 1, 0, none⟩ (.int .i64 n1)).frozen? ⟨w.heap.size, 1, none⟩ = false := by simp [go_sem, zf1]
  replace z2 : (w1.setCell ⟨w.heap.size + 1, 0, none⟩ (.int .i64 n1)).cell? ⟨w.heap.size, 2, none⟩ = some (.int .i64 0) := by simp [go_sem, z2]
  replace zf2 : (w1.setCell ⟨w.heap.size + 1, 0, none⟩ (.int .i64 n1)).frozen? ⟨w.heap.size, 2, none⟩ = false := by simp [go_sem, zf2]
  replace z3 : (w1.setCell ⟨w.heap.size + 1, 0, none⟩ (.int .i64 n1)).cell? ⟨w.heap.size, 3, none⟩ = some (.int .i64 0) := by simp [go_sem, z3]
  replace zf3 : (w1.setCell ⟨w.heap.size + 1, 0, none⟩ (.int .i64 n1)).frozen? ⟨w.heap.size, 3, none⟩ = false := by simp [go_sem, zf3]
  replace z4 : (w1.setCell ⟨w.heap.size + 1, 0, none⟩ (.int .i64 n1)).cell? ⟨w.heap.size, 4, none⟩ = some (.bool false) := by simp [go_sem, z4]
  replace zf4 : (w1.setCell ⟨w.heap.size + 1, 0, none⟩ (.int .i64 n1)).frozen? ⟨w.heap.size, 4, none⟩ = false := by simp [go_sem, zf4]
  replace z5 : (w1.setCell ⟨w.heap.size + 1, 0, none⟩ (.int .i64 n1)).cell? ⟨w.heap.size, 5, none⟩ = some (.int .i64 0) := by simp [go_sem, z5]
  replace zf5 : (w1.setCell ⟨w.heap.size + 1, 0, none⟩ (.int .i64 n1)).frozen? ⟨w.heap.size, 5, none⟩ = false := by simp [go_sem, zf5]
  replace z6 : (w1.setCell ⟨w.heap.size + 1, 0, none⟩ (.int .i64 n1)).cell? ⟨w.heap.size, 6, none⟩ = some (.int .i64 0) := by simp [go_sem, z6]
  replace zf6 : (w1.setCell ⟨w.heap.size + 1, 0, none⟩ (.int .i64 n1)).frozen? ⟨w.heap.size, 6, none⟩ = false := by simp [go_sem, zf6]
  replace z7 : (w1.setCell ⟨w.heap.size + 1, 0, none⟩ (.int .i64 n1)).cell? ⟨w.heap.size, 7, none⟩ = some (.string ⟨#[]⟩) := by simp [go_sem, z7]
  replace zf7 : (w1.setCell ⟨w.heap.size + 1, 0, none⟩ (.int .i64 n1)).frozen? ⟨w.heap.size, 7, none⟩ = false := by simp [go_sem, zf7]
  replace z8 : (w1.setCell ⟨w.heap.size + 1, 0, none⟩ (.int .i64 n1)).cell? ⟨w.heap.size, 8, none⟩ = some (.bool false) := by simp [go_sem, z8]
  replace zf8 : (w1.setCell ⟨w.heap.size + 1, 0, none⟩ (.int .i64 n1)).frozen? ⟨w.heap.size, 8, none⟩ = false := by simp [go_sem, zf8]
  replace zz : w.heap.size < (w1.setCell ⟨w.heap.size + 1, 0, none⟩ (.int .i64 n1)).heap.size := by simp <;> omega
  replace k0 : (w1.setCell ⟨w.heap.size + 1, 0, none⟩ (.int .i64 n1)).cell? ⟨w.heap.size + 1, 0, none⟩ = some (.int .i64 n1) := by simp [go_sem, k0]
  replace kf0 : (w1.setCell ⟨w.heap.size + 1, 0, none⟩ (.int .i64 n1)).frozen? ⟨w.heap.size + 1, 0, none⟩ = false := by simp [go_sem, kf0]
  replace k1 : (w1.setCell ⟨w.heap.size + 1, 0, none⟩ (.int .i64 n1)).cell? ⟨w.heap.size + 1, 1, none⟩ = some (.string ⟨#[]⟩) := by simp [go_sem, k1]
  replace kf1 : (w1.setCell ⟨w.heap.size + 1, 0, none⟩ (.int .i64 n1)).frozen? ⟨w.heap.size + 1, 1, none⟩ = false := by simp [go_sem, kf1]
  replace k2 : (w1.setCell ⟨w.heap.size + 1, 0, none⟩ (.int .i64 n1)).cell? ⟨w.heap.size + 1, 2, none⟩ = some (.int .i64 0) := by simp [go_sem, k2]
  replace kf2 : (w1.setCell ⟨w.heap.size + 1, 0, none⟩ (.int .i64 n1)).frozen? ⟨w.heap.size + 1, 2, none⟩ = false := by simp [go_sem, kf2]
  replace k3 : (w1.setCell ⟨w.heap.size + 1, 0, none⟩ (.int .i64 n1)).cell? ⟨w.heap.size + 1, 3, none⟩ = some (.int .i64 0) := by simp [go_sem, k3]
  replace kf3 : (w1.setCell ⟨w.heap.size + 1, 0, none⟩ (.int .i64 n1)).frozen? ⟨w.heap.size + 1, 3, none⟩ = false := by simp [go_sem, kf3]
  replace k4 : (w1.setCell ⟨w.heap.size + 1, 0, none⟩ (.int .i64 n1)).cell? ⟨w.heap.size + 1, 4, none⟩ = some (.bool false) := by simp [go_sem, k4]
  replace kf4 : (w1.setCell ⟨w.heap.size + 1, 0, none⟩ (.int .i64 n1)).frozen? ⟨w.heap.size + 1, 4, none⟩ = false := by simp [go_sem, kf4]
  replace k5 : (w1.setCell ⟨w.heap.size + 1, 0, none⟩ (.int .i64 n1)).cell? ⟨w.heap.size + 1, 5, none⟩ = some (.int .i64 0) := by simp [go_sem, k5]
  replace kf5 : (w1.setCell ⟨w.heap.size + 1, 0, none⟩ (.int .i64 n1)).frozen? ⟨w.heap.size + 1, 5, none⟩ = false := by simp [go_sem, kf5]
  replace k6 : (w1.setCell ⟨w.heap.size + 1, 0, none⟩ (.int .i64 n1)).cell? ⟨w.heap.size + 1, 6, none⟩ = some (.int .i64 0) := by simp [go_sem, k6]
  replace kf6 : (w1.setCell ⟨w.heap.size + 1, 0, none⟩ (.int .i64 n1)).frozen? ⟨w.heap.size + 1, 6, none⟩ = false := by simp [go_sem, kf6]
  replace k7 : (w1.setCell ⟨w.heap.size + 1, 0, none⟩ (.int .i64 n1)).cell? ⟨w.heap.size + 1, 7, none⟩ = some (.string ⟨#[]⟩) := by simp [go_sem, k7]
  replace kf7 : (w1.setCell ⟨w.heap.size + 1, 0, none⟩ (.int .i64 n1)).frozen? ⟨w.heap.size + 1, 7, none⟩ = false := by simp [go_sem, kf7]
  replace k8 : (w1.setCell ⟨w.heap.size + 1, 0, none⟩ (.int .i64 n1)).cell? ⟨w.heap.size + 1, 8, none⟩ = some (.bool false) := by simp [go_sem, k8]
  replace kf8 : (w1.setCell ⟨w.heap.size + 1, 0, none⟩ (.int .i64 n1)).frozen? ⟨w.heap.size + 1, 8, none⟩ = false := by simp [go_sem, kf8]
  replace kz : w.heap.size + 1 < (w1.setCell ⟨w.heap.size + 1, 0, none⟩ (.int .i64 n1)).heap.size := by simp <;> omega
  replace HR : Hid (RefAt (w1.setCell ⟨w.heap.size + 1, 0, none⟩ (.int .i64 n1)) Q g s1) := (HR.out.setOwn NQ.out (by rw [HB.out]; exact NG.out) _)
  replace HG : Hid (w.grownBy (w1.setCell ⟨w.heap.size + 1, 0, none⟩ (.int .i64 n1)) (some Q)) := (grown_own HG.out (by simp) _)
  generalize (w1.setCell ⟨w.heap.size + 1, 0, none⟩ (.int .i64 n1)) = Vw1 at *
  go_wp2_with fail
  refine (rt 6 _ HB.out HST.out H2.out HR.out).mono ?_
  rintro e w2 ⟨rfl, ⟨s2, hB, hrd, hR⟩, hg⟩
  replace zf0 := (own_cell hg zz nz 0).2.trans zf0
  replace z0 := (own_cell hg zz nz 0).1.trans z0
  replace zf1 := (own_cell hg zz nz 1).2.trans zf1
  replace z1 := (own_cell hg zz nz 1).1.trans z1
  replace zf2 := (own_cell hg zz nz 2).2.trans zf2
  replace z2 := (own_cell hg zz nz 2).1.trans z2
  replace zf3 := (own_cell hg zz nz 3).2.trans zf3
  replace z3 := (own_cell hg zz nz 3).1.trans z3
  replace zf4 := (own_cell hg zz nz 4).2.trans zf4
  replace z4 := (own_cell hg zz nz 4).1.trans z4
  replace zf5 := (own_cell hg zz nz 5).2.trans zf5
  replace z5 := (own_cell hg zz nz 5).1.trans z5
  replace zf6 := (own_cell hg zz nz 6).2.trans zf6
  replace z6 := (own_cell hg zz nz 6).1.trans z6
  replace zf7 := (own_cell hg zz nz 7).2.trans zf7
  replace z7 := (own_cell hg zz nz 7).1.trans z7
  replace zf8 := (own_cell hg zz nz 8).2.trans zf8
  replace z8 := (own_cell hg zz nz 8).1.trans z8
  replace zz := Nat.lt_of_lt_of_le zz hg.size
  replace kf0 := (own_cell hg kz nk 0).2.trans kf0
  replace k0 := (own_cell hg kz nk 0).1.trans k0
  replace kf1 := (own_cell hg kz nk 1).2.trans kf1
  replace k1 := (own_cell hg kz nk 1).1.trans k1
  replace kf2 := (own_cell hg kz nk 2).2.trans kf2
  replace k2 := (own_cell hg kz nk 2).1.trans k2
  replace kf3 := (own_cell hg kz nk 3).2.trans kf3
  replace k3 := (own_cell hg kz nk 3).1.trans k3
  replace kf4 := (own_cell hg kz nk 4).2.trans kf4
  replace k4 := (own_cell hg kz nk 4).1.trans k4
  replace kf5 := (own_cell hg kz nk 5).2.trans kf5
  replace k5 := (own_cell hg kz nk 5).1.trans k5
  replace kf6 := (own_cell hg kz nk 6).2.trans kf6
  replace k6 := (own_cell hg kz nk 6).1.trans k6
  replace kf7 := (own_cell hg kz nk 7).2.trans kf7
  replace k7 := (own_cell hg kz nk 7).1.trans k7
  replace kf8 := (own_cell hg kz nk 8).2.trans kf8
  replace k8 := (own_cell hg kz nk 8).1.trans k8
  replace kz := Nat.lt_of_lt_of_le kz hg.size
  replace HB := Lib.hid hB
  replace HST := Lib.hid hrd
  replace HR := Lib.hid hR
  replace HG := Lib.hid (HG.out.trans hg)
  clear hB hrd hR hg H2
  go_upto_region 4 with fail
  replace z0 : (w2.setCell ⟨w.heap.size + 1, 1, none⟩ (.string ⟨t2.toArray⟩)).cell? ⟨w.heap.size, 0, none⟩ = some (.int .i64 0) := by simp [go_sem, z0]
  replace zf0 : (w2.setCell ⟨w.heap.size + 1, 1, none⟩ (.string ⟨t2.toArray⟩)).frozen? ⟨w.heap.size, 0, none⟩ = false := by simp [go_sem, zf0]
  replace z1 : (w2.setCell ⟨w.heap.size + 1, 1, none⟩ (.string ⟨t2.toArray⟩)).cell? ⟨w.heap.size, 1, none⟩ = some (.string ⟨#[]⟩) := by simp [go_sem, z1]
  replace zf1 : (w2.setCell ⟨w.heap.size + 1, 1, none⟩ (.string ⟨t2.toArray⟩)).frozen? ⟨w.heap.size, 1, none⟩ = false := by simp [go_sem, zf1]
  replace z2 : (w2.setCell ⟨w.heap.size + 1, 1, none⟩ (.string ⟨t2.toArray⟩)).cell? ⟨w.heap.size, 2, none⟩ = some (.int .i64 0) := by simp [go_sem, z2]
  replace zf2 : (w2.setCell ⟨w.heap.size + 1, 1, none⟩ (.string ⟨t2.toArray⟩)).frozen? ⟨w.heap.size, 2, none⟩ = false := by simp [go_sem, zf2]
  replace z3 : (w2.setCell ⟨w.heap.size + 1, 1, none⟩ (.string ⟨t2.toArray⟩)).cell? ⟨w.heap.size, 3, none⟩ = some (.int .i64 0) := by simp [go_sem, z3]
  replace zf3 : (w2.setCell ⟨w.heap.size + 1, 1, none⟩ (.string ⟨t2.toArray⟩)).frozen? ⟨w.heap.size, 3, none⟩ = false := by simp [go_sem, zf3]
  replace z4 : (w2.setCell ⟨w.heap.size + 1, 1, none⟩ (.string ⟨t2.toArray⟩)).cell? ⟨w.heap.size, 4, none⟩ = some (.bool false) := by simp [go_sem, z4]
  replace zf4 : (w2.setCell ⟨w.heap.size + 1, 1, none⟩ (.string ⟨t2.toArray⟩)).frozen? ⟨w.heap.size, 4, none⟩ = false := by simp [go_sem, zf4]
  replace z5 : (w2.setCell ⟨w.heap.size + 1, 1, none⟩ (.string ⟨t2.toArray⟩)).cell? ⟨w.heap.size, 5, none⟩ = some (.int .i64 0) := by simp [go_sem, z5]
  replace zf5 : (w2.setCell ⟨w.heap.size + 1, 1, none⟩ (.string ⟨t2.toArray⟩)).frozen? ⟨w.heap.size, 5, none⟩ = false := by simp [go_sem, zf5]
  replace z6 : (w2.setCell ⟨w.heap.size + 1, 1, none⟩ (.string ⟨t2.toArray⟩)).cell? ⟨w.heap.size, 6, none⟩ = some (.int .i64 0) := by simp [go_sem, z6]
  replace zf6 : (w2.setCell ⟨w.heap.size + 1, 1, none⟩ (.string ⟨t2.toArray⟩)).frozen? ⟨w.heap.size, 6, none⟩ = false := by simp [go_sem, zf6]
  replace z7 : (w2.setCell ⟨w.heap.size + 1, 1, none⟩ (.string ⟨t2.toArray⟩)).cell? ⟨w.heap.size, 7, none⟩ = some (.string ⟨#[]⟩) := by simp [go_sem, z7]
  replace zf7 : (w2.setCell ⟨w.heap.size + 1, 1, none⟩ (.string ⟨t2.toArray⟩)).frozen? ⟨w.heap.size, 7, none⟩ = false := by simp [go_sem, zf7]
  replace z8 : (w2.setCell ⟨w.heap.size + 1, 1, none⟩ (.string ⟨t2.toArray⟩)).cell? ⟨w.heap.size, 8, none⟩ = some (.bool false) := by simp [go_sem, z8]
  replace zf8 : (w2.setCell ⟨w.heap.size + 1, 1, none⟩ (.string ⟨t2.toArray⟩)).frozen? ⟨w.heap.size, 8, none⟩ = false := by simp [go_sem, zf8]
  replace zz : w.heap.size < (w2.setCell ⟨w.heap.size + 1, 1, none⟩ (.string ⟨t2.toArray⟩)).heap.size := by simp <;> omega
  replace k0 : (w2.setCell ⟨w.heap.size + 1, 1, none⟩ (.string ⟨t2.toArray⟩)).cell? ⟨w.heap.size + 1, 0, none⟩ = some (.int .i64 n1) := by simp [go_sem, k0]
  replace kf0 : (w2.setCell ⟨w.heap.size + 1, 1, none⟩ (.string ⟨t2.toArray⟩)).frozen? ⟨w.heap.size + 1, 0, none⟩ = false := by simp [go_sem, kf0]
  replace k1 : (w2.setCell ⟨w.heap.size + 1, 1, none⟩ (.string ⟨t2.toArray⟩)).cell? ⟨w.heap.size + 1, 1, none⟩ = some (.string ⟨t2.toArray⟩) := by simp [go_sem, k1]
  replace kf1 : (w2.setCell ⟨w.heap.size + 1, 1, none⟩ (.string ⟨t2.toArray⟩)).frozen? ⟨w.heap.size + 1, 1, none⟩ = false := by simp [go_sem, kf1]
  replace k2 : (w2.setCell ⟨w.heap.size + 1, 1, none⟩ (.string ⟨t2.toArray⟩)).cell? ⟨w.heap.size + 1, 2, none⟩ = some (.int .i64 0) := by simp [go_sem, k2]
  replace kf2 : (w2.setCell ⟨w.heap.size + 1, 1, none⟩ (.string ⟨t2.toArray⟩)).frozen? ⟨w.heap.size + 1, 2, none⟩ = false := by simp [go_sem, kf2]
  replace k3 : (w2.setCell ⟨w.heap.size + 1, 1, none⟩ (.string ⟨t2.toArray⟩)).cell? ⟨w.heap.size + 1, 3, none⟩ = some (.int .i64 0) := by simp [go_sem, k3]
  replace kf3 : (w2.setCell ⟨w.heap.size + 1, 1, none⟩ (.string ⟨t2.toArray⟩)).frozen? ⟨w.heap.size + 1, 3, none⟩ = false := by simp [go_sem, kf3]
  replace k4 : (w2.setCell ⟨w.heap.size + 1, 1, none⟩ (.string ⟨t2.toArray⟩)).cell? ⟨w.heap.size + 1, 4, none⟩ = some (.bool false) := by simp [go_sem, k4]
  replace kf4 : (w2.setCell ⟨w.heap.size + 1, 1, none⟩ (.string ⟨t2.toArray⟩)).frozen? ⟨w.heap.size + 1, 4, none⟩ = false := by simp [go_sem, kf4]
  replace k5 : (w2.setCell ⟨w.heap.size + 1, 1, none⟩ (.string ⟨t2.toArray⟩)).cell? ⟨w.heap.size + 1, 5, none⟩ = some (.int .i64 0) := by simp [go_sem, k5]
  replace kf5 : (w2.setCell ⟨w.heap.size + 1, 1, none⟩ (.string ⟨t2.toArray⟩)).frozen? ⟨w.heap.size + 1, 5, none⟩ = false := by simp [go_sem, kf5]
  replace k6 : (w2.setCell ⟨w.heap.size + 1, 1, none⟩ (.string ⟨t2.toArray⟩)).cell? ⟨w.heap.size + 1, 6, none⟩ = some (.int .i64 0) := by simp [go_sem, k6]
  replace kf6 : (w2.setCell ⟨w.heap.size + 1, 1, none⟩ (.string ⟨t2.toArray⟩)).frozen? ⟨w.heap.size + 1, 6, none⟩ = false := by simp [go_sem, kf6]
  replace k7 : (w2.setCell ⟨w.heap.size + 1, 1, none⟩ (.string ⟨t2.toArray⟩)).cell? ⟨w.heap.size + 1, 7, none⟩ = some (.string ⟨#[]⟩) := by simp [go_sem, k7]
  replace kf7 : (w2.setCell ⟨w.heap.size + 1, 1, none⟩ (.string ⟨t2.toArray⟩)).frozen? ⟨w.heap.size + 1, 7, none⟩ = false := by simp [go_sem, kf7]
  replace k8 : (w2.setCell ⟨w.heap.size + 1, 1, none⟩ (.string ⟨t2.toArray⟩)).cell? ⟨w.heap.size + 1, 8, none⟩ = some (.bool false) := by simp [go_sem, k8]
  replace kf8 : (w2.setCell ⟨w.heap.size + 1, 1, none⟩ (.string ⟨t2.toArray⟩)).frozen? ⟨w.heap.size + 1, 8, none⟩ = false := by simp [go_sem, kf8]
  replace kz : w.heap.size + 1 < (w2.setCell ⟨w.heap.size + 1, 1, none⟩ (.string ⟨t2.toArray⟩)).heap.size := by simp <;> omega
  replace HR : Hid (RefAt (w2.setCell ⟨w.heap.size + 1, 1, none⟩ (.string ⟨t2.toArray⟩)) Q g s2) := (HR.out.setOwn NQ.out (by rw [HB.out]; exact NG.out) _)
  replace HG : Hid (w.grownBy (w2.setCell ⟨w.heap.size + 1, 1, none⟩ (.string ⟨t2.toArray⟩)) (some Q)) := (grown_own HG.out (by simp) _)
  generalize (w2.setCell ⟨w.heap.size + 1, 1, none⟩ (.string ⟨t2.toArray⟩)) = Vw2 at *
  go_wp2_with fail
  refine (rn 1048576 _ HB.out HST.out H3.out HR.out).mono ?_
  rintro e w3 ⟨rfl, ⟨s3, hB, hrd, hR⟩, hg⟩
  replace zf0 := (own_cell hg zz nz 0).2.trans zf0
  replace z0 := (own_cell hg zz nz 0).1.trans z0
  replace zf1 := (own_cell hg zz nz 1).2.trans zf1
  replace z1 := (own_cell hg zz nz 1).1.trans z1
  replace zf2 := (own_cell hg zz nz 2).2.trans zf2
  replace z2 := (own_cell hg zz nz 2).1.trans z2
  replace zf3 := (own_cell hg zz nz 3).2.trans zf3
  replace z3 := (own_cell hg zz nz 3).1.trans z3
  replace zf4 := (own_cell hg zz nz 4).2.trans zf4
  replace z4 := (own_cell hg zz nz 4).1.trans z4
  replace zf5 := (own_cell hg zz nz 5).2.trans zf5
  replace z5 := (own_cell hg zz nz 5).1.trans z5
  replace zf6 := (own_cell hg zz nz 6).2.trans zf6
  replace z6 := (own_cell hg zz nz 6).1.trans z6
  replace zf7 := (own_cell hg zz nz 7).2.trans zf7
  replace z7 := (own_cell hg zz nz 7).1.trans z7
  replace zf8 := (own_cell hg zz nz 8).2.trans zf8
  replace z8 := (own_cell hg zz nz 8).1.trans z8
  replace zz := Nat.lt_of_lt_of_le zz hg.size
  replace kf0 := (own_cell hg kz nk 0).2.trans kf0
  replace k0 := (own_cell hg kz nk 0).1.trans k0
  replace kf1 := (own_cell hg kz nk 1).2.trans kf1
  replace k1 := (own_cell hg kz nk 1).1.trans k1
  replace kf2 := (own_cell hg kz nk 2).2.trans kf2
  replace k2 := (own_cell hg kz nk 2).1.trans k2
  replace kf3 := (own_cell hg kz nk 3).2.trans kf3
  replace k3 := (own_cell hg kz nk 3).1.trans k3
  replace kf4 := (own_cell hg kz nk 4).2.trans kf4
  replace k4 := (own_cell hg kz nk 4).1.trans k4
  replace kf5 := (own_cell hg kz nk 5).2.trans kf5
  replace k5 := (own_cell hg kz nk 5).1.trans k5
  replace kf6 := (own_cell hg kz nk 6).2.trans kf6
  replace k6 := (own_cell hg kz nk 6).1.trans k6
  replace kf7 := (own_cell hg kz nk 7).2.trans kf7
  replace k7 := (own_cell hg kz nk 7).1.trans k7
  replace kf8 := (own_cell hg kz nk 8).2.trans kf8
  replace k8 := (own_cell hg kz nk 8).1.trans k8
  replace kz := Nat.lt_of_lt_of_le kz hg.size
  replace HB := Lib.hid hB
  replace HST := Lib.hid hrd
  replace HR := Lib.hid hR
  replace HG := Lib.hid (HG.out.trans hg)
  clear hB hrd hR hg H3
  go_upto_region 5 with fail
  replace z0 : (w3.setCell ⟨w.heap.size + 1, 2, none⟩ (.int .i64 n3)).cell? ⟨w.heap.size, 0, none⟩ = some (.int .i64 0) := by simp [go_sem, z0]
  replace zf0 : (w3.setCell ⟨w.heap.size + 1, 2, none⟩ (.int .i64 n3)).frozen? ⟨w.heap.size, 0, none⟩ = false := by simp [go_sem, zf0]
  replace z1 : (w3.setCell ⟨w.heap.size + 1, 2, none⟩ (.int .i64 n3)).cell? ⟨w.heap.size, 1, none⟩ = some (.string ⟨#[]⟩) := by simp [go_sem, z1]
  replace zf1 : (w3.setCell ⟨w.heap.size + 1, 2, none⟩ (.int .i64 n3)).frozen? ⟨w.heap.size, 1, none⟩ = false := by simp [go_sem, zf1]
  replace z2 : (w3.setCell ⟨w.heap.size + 1, 2, none⟩ (.int .i64 n3)).cell? ⟨w.heap.size, 2, none⟩ = some (.int .i64 0) := by simp [go_sem, z2]
  replace zf2 : (w3.setCell ⟨w.heap.size + 1, 2, none⟩ (.int .i64 n3)).frozen? ⟨w.heap.size, 2, none⟩ = false := by simp [go_sem, zf2]
  replace z3 : (w3.setCell ⟨w.heap.size + 1, 2, none⟩ (.int .i64 n3)).cell? ⟨w.heap.size, 3, none⟩ = some (.int .i64 0) := by simp [go_sem, z3]
  replace zf3 : (w3.setCell ⟨w.heap.size + 1, 2, none⟩ (.int .i64 n3)).frozen? ⟨w.heap.size, 3, none⟩ = false := by simp [go_sem, zf3]
  replace z4 : (w3.setCell ⟨w.heap.size + 1, 2, none⟩ (.int .i64 n3)).cell? ⟨w.heap.size, 4, none⟩ = some (.bool false) := by simp [go_sem, z4]
  replace zf4 : (w3.setCell ⟨w.heap.size + 1, 2, none⟩ (.int .i64 n3)).frozen? ⟨w.heap.size, 4, none⟩ = false := by simp [go_sem, zf4]
  replace z5 : (w3.setCell ⟨w.heap.size + 1, 2, none⟩ (.int .i64 n3)).cell? ⟨w.heap.size, 5, none⟩ = some (.int .i64 0) := by simp [go_sem, z5]
  replace zf5 : (w3.setCell ⟨w.heap.size + 1, 2, none⟩ (.int .i64 n3)).frozen? ⟨w.heap.size, 5, none⟩ = false := by simp [go_sem, zf5]
  replace z6 : (w3.setCell ⟨w.heap.size + 1, 2, none⟩ (.int .i64 n3)).cell? ⟨w.heap.size, 6, none⟩ = some (.int .i64 0) := by simp [go_sem, z6]
  replace zf6 : (w3.setCell ⟨w.heap.size + 1, 2, none⟩ (.int .i64 n3)).frozen? ⟨w.heap.size, 6, none⟩ = false := by simp [go_sem, zf6]
  replace z7 : (w3.setCell ⟨w.heap.size + 1, 2, none⟩ (.int .i64 n3)).cell? ⟨w.heap.size, 7, none⟩ = some (.string ⟨#[]⟩) := by simp [go_sem, z7]
  replace zf7 : (w3.setCell ⟨w.heap.size + 1, 2, none⟩ (.int .i64 n3)).frozen? ⟨w.heap.size, 7, none⟩ = false := by simp [go_sem, zf7]
  replace z8 : (w3.setCell ⟨w.heap.size + 1, 2, none⟩ (.int .i64 n3)).cell? ⟨w.heap.size, 8, none⟩ = some (.bool false) := by simp [go_sem, z8]
  replace zf8 : (w3.setCell ⟨w.heap.size + 1, 2, none⟩ (.int .i64 n3)).frozen? ⟨w.heap.size, 8, none⟩ = false := by simp [go_sem, zf8]
  replace zz : w.heap.size < (w3.setCell ⟨w.heap.size + 1, 2, none⟩ (.int .i64 n3)).heap.size := by simp <;> omega
  replace k0 : (w3.setCell ⟨w.heap.size + 1, 2, none⟩ (.int .i64 n3)).cell? ⟨w.heap.size + 1, 0, none⟩ = some (.int .i64 n1) := by simp [go_sem, k0]
  replace kf0 : (w3.setCell ⟨w.heap.size + 1, 2, none⟩ (.int .i64 n3)).frozen? ⟨w.heap.size + 1, 0, none⟩ = false := by simp [go_sem, kf0]
  replace k1 : (w3.setCell ⟨w.heap.size + 1, 2, none⟩ (.int .i64 n3)).cell? ⟨w.heap.size + 1, 1, none⟩ = some (.string ⟨t2.toArray⟩) := by simp [go_sem, k1]
  replace kf1 : (w3.setCell ⟨w.heap.size + 1, 2, none⟩ (.int .i64 n3)).frozen? ⟨w.heap.size + 1, 1, none⟩ = false := by simp [go_sem, kf1]
  replace k2 : (w3.setCell ⟨w.heap.size + 1, 2, none⟩ (.int .i64 n3)).cell? ⟨w.heap.size + 1, 2, none⟩ = some (.int .i64 n3) := by simp [go_sem, k2]
  replace kf2 : (w3.setCell ⟨w.heap.size + 1, 2, none⟩ (.int .i64 n3)).frozen? ⟨w.heap.size + 1, 2, none⟩ = false := by simp [go_sem, kf2]
  replace k3 : (w3.setCell ⟨w.heap.size + 1, 2, none⟩ (.int .i64 n3)).cell? ⟨w.heap.size + 1, 3, none⟩ = some (.int .i64 0) := by simp [go_sem, k3]
  replace kf3 : (w3.setCell ⟨w.heap.size + 1, 2, none⟩ (.int .i64 n3)).frozen? ⟨w.heap.size + 1, 3, none⟩ = false := by simp [go_sem, kf3]
  replace k4 : (w3.setCell ⟨w.heap.size + 1, 2, none⟩ (.int .i64 n3)).cell? ⟨w.heap.size + 1, 4, none⟩ = some (.bool false) := by simp [go_sem, k4]
  replace kf4 : (w3.setCell ⟨w.heap.size + 1, 2, none⟩ (.int .i64 n3)).frozen? ⟨w.heap.size + 1, 4, none⟩ = false := by simp [go_sem, kf4]
  replace k5 : (w3.setCell ⟨w.heap.size + 1, 2, none⟩ (.int .i64 n3)).cell? ⟨w.heap.size + 1, 5, none⟩ = some (.int .i64 0) := by simp [go_sem, k5]
  replace kf5 : (w3.setCell ⟨w.heap.size + 1, 2, none⟩ (.int .i64 n3)).frozen? ⟨w.heap.size + 1, 5, none⟩ = false := by simp [go_sem, kf5]
  replace k6 : (w3.setCell ⟨w.heap.size + 1, 2, none⟩ (.int .i64 n3)).cell? ⟨w.heap.size + 1, 6, none⟩ = some (.int .i64 0) := by simp [go_sem, k6]
  replace kf6 : (w3.setCell ⟨w.heap.size + 1, 2, none⟩ (.int .i64 n3)).frozen? ⟨w.heap.size + 1, 6, none⟩ = false := by simp [go_sem, kf6]
  replace k7 : (w3.setCell ⟨w.heap.size + 1, 2, none⟩ (.int .i64 n3)).cell? ⟨w.heap.size + 1, 7, none⟩ = some (.string ⟨#[]⟩) := by simp [go_sem, k7]
  replace kf7 : (w3.setCell ⟨w.heap.size + 1, 2, none⟩ (.int .i64 n3)).frozen? ⟨w.heap.size + 1, 7, none⟩ = false := by simp [go_sem, kf7]
  replace k8 : (w3.setCell ⟨w.heap.size + 1, 2, none⟩ (.int .i64 n3)).cell? ⟨w.heap.size + 1, 8, none⟩ = some (.bool false) := by simp [go_sem, k8]
  replace kf8 : (w3.setCell ⟨w.heap.size + 1, 2, none⟩ (.int .i64 n3)).frozen? ⟨w.heap.size + 1, 8, none⟩ = false := by simp [go_sem, kf8]
  replace kz : w.heap.size + 1 < (w3.setCell ⟨w.heap.size + 1, 2, none⟩ (.int .i64 n3)).heap.size := by simp <;> omega
  replace HR : Hid (RefAt (w3.setCell ⟨w.heap.size + 1, 2, none⟩ (.int .i64 n3)) Q g s3) := (HR.out.setOwn NQ.out (by rw [HB.out]; exact NG.out) _)
  replace HG : Hid (w.grownBy (w3.setCell ⟨w.heap.size + 1, 2, none⟩ (.int .i64 n3)) (some Q)) := (grown_own HG.out (by simp) _)
  generalize (w3.setCell ⟨w.heap.size + 1, 2, none⟩ (.int .i64 n3)) = Vw3 at *
  go_wp2_with fail
  refine (rn 1048576 _ HB.out HST.out H4.out HR.out).mono ?_
  rintro e w4 ⟨rfl, ⟨s4, hB, hrd, hR⟩, hg⟩
  replace zf0 := (own_cell hg zz nz 0).2.trans zf0
  replace z0 := (own_cell hg zz nz 0).1.trans z0
  replace zf1 := (own_cell hg zz nz 1).2.trans zf1
  replace z1 := (own_cell hg zz nz 1).1.trans z1
  replace zf2 := (own_cell hg zz nz 2).2.trans zf2
  replace z2 := (own_cell hg zz nz 2).1.trans z2
  replace zf3 := (own_cell hg zz nz 3).2.trans zf3
  replace z3 := (own_cell hg zz nz 3).1.trans z3
  replace zf4 := (own_cell hg zz nz 4).2.trans zf4
  replace z4 := (own_cell hg zz nz 4).1.trans z4
  replace zf5 := (own_cell hg zz nz 5).2.trans zf5
  replace z5 := (own_cell hg zz nz 5).1.trans z5
  replace zf6 := (own_cell hg zz nz 6).2.trans zf6
  replace z6 := (own_cell hg zz nz 6).1.trans z6
  replace zf7 := (own_cell hg zz nz 7).2.trans zf7
  replace z7 := (own_cell hg zz nz 7).1.trans z7
  replace zf8 := (own_cell hg zz nz 8).2.trans zf8
  replace z8 := (own_cell hg zz nz 8).1.trans z8
  replace zz := Nat.lt_of_lt_of_le zz hg.size
  replace kf0 := (own_cell hg kz nk 0).2.trans kf0
  replace k0 := (own_cell hg kz nk 0).1.trans k0
  replace kf1 := (own_cell hg kz nk 1).2.trans kf1
  replace k1 := (own_cell hg kz nk 1).1.trans k1
  replace kf2 := (own_cell hg kz nk 2).2.trans kf2
  replace k2 := (own_cell hg kz nk 2).1.trans k2
  replace kf3 := (own_cell hg kz nk 3).2.trans kf3
  replace k3 := (own_cell hg kz nk 3).1.trans k3
  replace kf4 := (own_cell hg kz nk 4).2.trans kf4
  replace k4 := (own_cell hg kz nk 4).1.trans k4
  replace kf5 := (own_cell hg kz nk 5).2.trans kf5
  replace k5 := (own_cell hg kz nk 5).1.trans k5
  replace kf6 := (own_cell hg kz nk 6).2.trans kf6
  replace k6 := (own_cell hg kz nk 6).1.trans k6
  replace kf7 := (own_cell hg kz nk 7).2.trans kf7
  replace k7 := (own_cell hg kz nk 7).1.trans k7
  replace kf8 := (own_cell hg kz nk 8).2.trans kf8
  replace k8 := (own_cell hg kz nk 8).1.trans k8
  replace kz := Nat.lt_of_lt_of_le kz hg.size
  replace HB := Lib.hid hB
  replace HST := Lib.hid hrd
  replace HR := Lib.hid hR
  replace HG := Lib.hid (HG.out.trans hg)
  clear hB hrd hR hg H4
  go_upto_region 6 with fail
  replace z0 : (w4.setCell ⟨w.heap.size + 1, 3, none⟩ (.int .i64 n4)).cell? ⟨w.heap.size, 0, none⟩ = some (.int .i64 0) := by simp [go_sem, z0]
  replace zf0 : (w4.setCell ⟨w.heap.size + 1, 3, none⟩ (.int .i64 n4)).frozen? ⟨w.heap.size, 0, none⟩ = false := by simp [go_sem, zf0]
  replace z1 : (w4.setCell ⟨w.heap.size + 1, 3, none⟩ (.int .i64 n4)).cell? ⟨w.heap.size, 1, none⟩ = some (.string ⟨#[]⟩) := by simp [go_sem, z1]
  replace zf1 : (w4.setCell ⟨w.heap.size + 1, 3, none⟩ (.int .i64 n4)).frozen? ⟨w.heap.size, 1, none⟩ = false := by simp [go_sem, zf1]
  replace z2 : (w4.setCell ⟨w.heap.size + 1, 3, none⟩ (.int .i64 n4)).cell? ⟨w.heap.size, 2, none⟩ = some (.int .i64 0) := by simp [go_sem, z2]
  replace zf2 : (w4.setCell ⟨w.heap.size + 1, 3, none⟩ (.int .i64 n4)).frozen? ⟨w.heap.size, 2, none⟩ = false := by simp [go_sem, zf2]
  replace z3 : (w4.setCell ⟨w.heap.size + 1, 3, none⟩ (.int .i64 n4)).cell? ⟨w.heap.size, 3, none⟩ = some (.int .i64 0) := by simp [go_sem, z3]
  replace zf3 : (w4.setCell ⟨w.heap.size + 1, 3, none⟩ (.int .i64 n4)).frozen? ⟨w.heap.size, 3, none⟩ = false := by simp [go_sem, zf3]
  replace z4 : (w4.setCell ⟨w.heap.size + 1, 3, none⟩ (.int .i64 n4)).cell? ⟨w.heap.size, 4, none⟩ = some (.bool false) := by simp [go_sem, z4]
  replace zf4 : (w4.setCell ⟨w.heap.size + 1, 3, none⟩ (.int .i64 n4)).frozen? ⟨w.heap.size, 4, none⟩ = false := by simp [go_sem, zf4]
  replace z5 : (w4.setCell ⟨w.heap.size + 1, 3, none⟩ (.int .i64 n4)).cell? ⟨w.heap.size, 5, none⟩ = some (.int .i64 0) := by simp [go_sem, z5]
  replace zf5 : (w4.setCell ⟨w.heap.size + 1, 3, none⟩ (.int .i64 n4)).frozen? ⟨w.heap.size, 5, none⟩ = false := by simp [go_sem, zf5]
  replace z6 : (w4.setCell ⟨w.heap.size + 1, 3, none⟩ (.int .i64 n4)).cell? ⟨w.heap.size, 6, none⟩ = some (.int .i64 0) := by simp [go_sem, z6]
  replace zf6 : (w4.setCell ⟨w.heap.size + 1, 3, none⟩ (.int .i64 n4)).frozen? ⟨w.heap.size, 6, none⟩ = false := by simp [go_sem, zf6]
  replace z7 : (w4.setCell ⟨w.heap.size + 1, 3, none⟩ (.int .i64 n4)).cell? ⟨w.heap.size, 7, none⟩ = some (.string ⟨#[]⟩) := by simp [go_sem, z7]
  replace zf7 : (w4.setCell ⟨w.heap.size + 1, 3, none⟩ (.int .i64 n4)).frozen? ⟨w.heap.size, 7, none⟩ = false := by simp [go_sem, zf7]
  replace z8 : (w4.setCell ⟨w.heap.size + 1, 3, none⟩ (.int .i64 n4)).cell? ⟨w.heap.size, 8, none⟩ = some (.bool false) := by simp [go_sem, z8]
  replace zf8 : (w4.setCell ⟨w.heap.size + 1, 3, none⟩ (.int .i64 n4)).frozen? ⟨w.heap.size, 8, none⟩ = false := by simp [go_sem, zf8]
  replace zz : w.heap.size < (w4.setCell ⟨w.heap.size + 1, 3, none⟩ (.int .i64 n4)).heap.size := by simp <;> omega
  replace k0 : (w4.setCell ⟨w.heap.size + 1, 3, none⟩ (.int .i64 n4)).cell? ⟨w.heap.size + 1, 0, none⟩ = some (.int .i64 n1) := by simp [go_sem, k0]
  replace kf0 : (w4.setCell ⟨w.heap.size + 1, 3, none⟩ (.int .i64 n4)).frozen? ⟨w.heap.size + 1, 0, none⟩ = false := by simp [go_sem, kf0]
  replace k1 : (w4.setCell ⟨w.heap.size + 1, 3, none⟩ (.int .i64 n4)).cell? ⟨w.heap.size + 1, 1, none⟩ = some (.string ⟨t2.toArray⟩) := by simp [go_sem, k1]
  replace kf1 : (w4.setCell ⟨w.heap.size + 1, 3, none⟩ (.int .i64 n4)).frozen? ⟨w.heap.size + 1, 1, none⟩ = false := by simp [go_sem, kf1]
  replace k2 : (w4.setCell ⟨w.heap.size + 1, 3, none⟩ (.int .i64 n4)).cell? ⟨w.heap.size + 1, 2, none⟩ = some (.int .i64 n3) := by simp [go_sem, k2]
  replace kf2 : (w4.setCell ⟨w.heap.size + 1, 3, none⟩ (.int .i64 n4)).frozen? ⟨w.heap.size + 1, 2, none⟩ = false := by simp [go_sem, kf2]
  replace k3 : (w4.setCell ⟨w.heap.size + 1, 3, none⟩ (.int .i64 n4)).cell? ⟨w.heap.size + 1, 3, none⟩ = some (.int .i64 n4) := by simp [go_sem, k3]
  replace kf3 : (w4.setCell ⟨w.heap.size + 1, 3, none⟩ (.int .i64 n4)).frozen? ⟨w.heap.size + 1, 3, none⟩ = false := by simp [go_sem, kf3]
  replace k4 : (w4.setCell ⟨w.heap.size + 1, 3, none⟩ (.int .i64 n4)).cell? ⟨w.heap.size + 1, 4, none⟩ = some (.bool false) := by simp [go_sem, k4]
  replace kf4 : (w4.setCell ⟨w.heap.size + 1, 3, none⟩ (.int .i64 n4)).frozen? ⟨w.heap.size + 1, 4, none⟩ = false := by simp [go_sem, kf4]
  replace k5 : (w4.setCell ⟨w.heap.size + 1, 3, none⟩ (.int .i64 n4)).cell? ⟨w.heap.size + 1, 5, none⟩ = some (.int .i64 0) := by simp [go_sem, k5]
  replace kf5 : (w4.setCell ⟨w.heap.size + 1, 3, none⟩ (.int .i64 n4)).frozen? ⟨w.heap.size + 1, 5, none⟩ = false := by simp [go_sem, kf5]
  replace k6 : (w4.setCell ⟨w.heap.size + 1, 3, none⟩ (.int .i64 n4)).cell? ⟨w.heap.size + 1, 6, none⟩ = some (.int .i64 0) := by simp [go_sem, k6]
  replace kf6 : (w4.setCell ⟨w.heap.size + 1, 3, none⟩ (.int .i64 n4)).frozen? ⟨w.heap.size + 1, 6, none⟩ = false := by simp [go_sem, kf6]
  replace k7 : (w4.setCell ⟨w.heap.size + 1, 3, none⟩ (.int .i64 n4)).cell? ⟨w.heap.size + 1, 7, none⟩ = some (.string ⟨#[]⟩) := by simp [go_sem, k7]
  replace kf7 : (w4.setCell ⟨w.heap.size + 1, 3, none⟩ (.int .i64 n4)).frozen? ⟨w.heap.size + 1, 7, none⟩ = false := by simp [go_sem, kf7]
  replace k8 : (w4.setCell ⟨w.heap.size + 1, 3, none⟩ (.int .i64 n4)).cell? ⟨w.heap.size + 1, 8, none⟩ = some (.bool false) := by simp [go_sem, k8]
  replace kf8 : (w4.setCell ⟨w.heap.size + 1, 3, none⟩ (.int .i64 n4)).frozen? ⟨w.heap.size + 1, 8, none⟩ = false := by simp [go_sem, kf8]
  replace kz : w.heap.size + 1 < (w4.setCell ⟨w.heap.size + 1, 3, none⟩ (.int .i64 n4)).heap.size := by simp <;> omega
  replace HR : Hid (RefAt (w4.setCell ⟨w.heap.size + 1, 3, none⟩ (.int .i64 n4)) Q g s4) := (HR.out.setOwn NQ.out (by rw [HB.out]; exact NG.out) _)
  replace HG : Hid (w.grownBy (w4.setCell ⟨w.heap.size + 1, 3, none⟩ (.int .i64 n4)) (some Q)) := (grown_own HG.out (by simp) _)
  generalize (w4.setCell ⟨w.heap.size + 1, 3, none⟩ (.int .i64 n4)) = Vw4 at *
  go_wp2_with fail
  refine (rn 2 _ HB.out HST.out H5.out HR.out).mono ?_
  rintro e w5 ⟨rfl, ⟨s5, hB, hrd, hR⟩, hg⟩
  replace zf0 := (own_cell hg zz nz 0).2.trans zf0
  replace z0 := (own_cell hg zz nz 0).1.trans z0
  replace zf1 := (own_cell hg zz nz 1).2.trans zf1
  replace z1 := (own_cell hg zz nz 1).1.trans z1
  replace zf2 := (own_cell hg zz nz 2).2.trans zf2
  replace z2 := (own_cell hg zz nz 2).1.trans z2
  replace zf3 := (own_cell hg zz nz 3).2.trans zf3
  replace z3 := (own_cell hg zz nz 3).1.trans z3
  replace zf4 := (own_cell hg zz nz 4).2.trans zf4
  replace z4 := (own_cell hg zz nz 4).1.trans z4
  replace zf5 := (own_cell hg zz nz 5).2.trans zf5
  replace z5 := (own_cell hg zz nz 5).1.trans z5
  replace zf6 := (own_cell hg zz nz 6).2.trans zf6
  replace z6 := (own_cell hg zz nz 6).1.trans z6
  replace zf7 := (own_cell hg zz nz 7).2.trans zf7
  replace z7 := (own_cell hg zz nz 7).1.trans z7
  replace zf8 := (own_cell hg zz nz 8).2.trans zf8
  replace z8 := (own_cell hg zz nz 8).1.trans z8
  replace zz := Nat.lt_of_lt_of_le zz hg.size
  replace kf0 := (own_cell hg kz nk 0).2.trans kf0
  replace k0 := (own_cell hg kz nk 0).1.trans k0
  replace kf1 := (own_cell hg kz nk 1).2.trans kf1
  replace k1 := (own_cell hg kz nk 1).1.trans k1
  replace kf2 := (own_cell hg kz nk 2).2.trans kf2
  replace k2 := (own_cell hg kz nk 2).1.trans k2
  replace kf3 := (own_cell hg kz nk 3).2.trans kf3
  replace k3 := (own_cell hg kz nk 3).1.trans k3
  replace kf4 := (own_cell hg kz nk 4).2.trans kf4
  replace k4 := (own_cell hg kz nk 4).1.trans k4
  replace kf5 := (own_cell hg kz nk 5).2.trans kf5
  replace k5 := (own_cell hg kz nk 5).1.trans k5
  replace kf6 := (own_cell hg kz nk 6).2.trans kf6
  replace k6 := (own_cell hg kz nk 6).1.trans k6
  replace kf7 := (own_cell hg kz nk 7).2.trans kf7
  replace k7 := (own_cell hg kz nk 7).1.trans k7
  replace kf8 := (own_cell hg kz nk 8).2.trans kf8
  replace k8 := (own_cell hg kz nk 8).1.trans k8
  replace kz := Nat.lt_of_lt_of_le kz hg.size
  replace HB := Lib.hid hB
  replace HST := Lib.hid hrd
  replace HR := Lib.hid hR
  replace HG := Lib.hid (HG.out.trans hg)
  clear hB hrd hR hg H5
  go_upto_region 9 with fail
  replace z0 : ((w5.setCell ⟨w.heap.size + 1, 4, none⟩ (.bool true)).setCell ⟨w.heap.size + 1, 8, none⟩ (.bool false)).cell? ⟨w.heap.size, 0, none⟩ = some (.int .i64 0) := by simp [go_sem, z0]
  replace zf0 : ((w5.setCell ⟨w.heap.size + 1, 4, none⟩ (.bool true)).setCell ⟨w.heap.size + 1, 8, none⟩ (.bool false)).frozen? ⟨w.heap.size, 0, none⟩ = false := by simp [go_sem, zf0]
  replace z1 : ((w5.setCell ⟨w.heap.size + 1, 4, none⟩ (.bool true)).setCell ⟨w.heap.size + 1, 8, none⟩ (.bool false)).cell? ⟨w.heap.size, 1, none⟩ = some (.string ⟨#[]⟩) := by simp [go_sem, z1]
  replace zf1 : ((w5.setCell ⟨w.heap.size + 1, 4, none⟩ (.bool true)).setCell ⟨w.heap.size + 1, 8, none⟩ (.bool false)).frozen? ⟨w.heap.size, 1, none⟩ = false := by simp [go_sem, zf1]
  replace z2 : ((w5.setCell ⟨w.heap.size + 1, 4, none⟩ (.bool true)).setCell ⟨w.heap.size + 1, 8, none⟩ (.bool false)).cell? ⟨w.heap.size, 2, none⟩ = some (.int .i64 0) := by simp [go_sem, z2]
  replace zf2 : ((w5.setCell ⟨w.heap.size + 1, 4, none⟩ (.bool true)).setCell ⟨w.heap.size + 1, 8, none⟩ (.bool false)).frozen? ⟨w.heap.size, 2, none⟩ = false := by simp [go_sem, zf2]
  replace z3 : ((w5.setCell ⟨w.heap.size + 1, 4, none⟩ (.bool true)).setCell ⟨w.heap.size + 1, 8, none⟩ (.bool false)).cell? ⟨w.heap.size, 3, none⟩ = some (.int .i64 0) := by simp [go_sem, z3]
  replace zf3 : ((w5.setCell ⟨w.heap.size + 1, 4, none⟩ (.bool true)).setCell ⟨w.heap.size + 1, 8, none⟩ (.bool false)).frozen? ⟨w.heap.size, 3, none⟩ = false := by simp [go_sem, zf3]
  replace z4 : ((w5.setCell ⟨w.heap.size + 1, 4, none⟩ (.bool true)).setCell ⟨w.heap.size + 1, 8, none⟩ (.bool false)).cell? ⟨w.heap.size, 4, none⟩ = some (.bool false) := by simp [go_sem, z4]
  replace zf4 : ((w5.setCell ⟨w.heap.size + 1, 4, none⟩ (.bool true)).setCell ⟨w.heap.size + 1, 8, none⟩ (.bool false)).frozen? ⟨w.heap.size, 4, none⟩ = false := by simp [go_sem, zf4]
  replace z5 : ((w5.setCell ⟨w.heap.size + 1, 4, none⟩ (.bool true)).setCell ⟨w.heap.size + 1, 8, none⟩ (.bool false)).cell? ⟨w.heap.size, 5, none⟩ = some (.int .i64 0) := by simp [go_sem, z5]
  replace zf5 : ((w5.setCell ⟨w.heap.size + 1, 4, none⟩ (.bool true)).setCell ⟨w.heap.size + 1, 8, none⟩ (.bool false)).frozen? ⟨w.heap.size, 5, none⟩ = false := by simp [go_sem, zf5]
  replace z6 : ((w5.setCell ⟨w.heap.size + 1, 4, none⟩ (.bool true)).setCell ⟨w.heap.size + 1, 8, none⟩ (.bool false)).cell? ⟨w.heap.size, 6, none⟩ = some (.int .i64 0) := by simp [go_sem, z6]
  replace zf6 : ((w5.setCell ⟨w.heap.size + 1, 4, none⟩ (.bool true)).setCell ⟨w.heap.size + 1, 8, none⟩ (.bool false)).frozen? ⟨w.heap.size, 6, none⟩ = false := by simp [go_sem, zf6]
  replace z7 : ((w5.setCell ⟨w.heap.size + 1, 4, none⟩ (.bool true)).setCell ⟨w.heap.size + 1, 8, none⟩ (.bool false)).cell? ⟨w.heap.size, 7, none⟩ = some (.string ⟨#[]⟩) := by simp [go_sem, z7]
  replace zf7 : ((w5.setCell ⟨w.heap.size + 1, 4, none⟩ (.bool true)).setCell ⟨w.heap.size + 1, 8, none⟩ (.bool false)).frozen? ⟨w.heap.size, 7, none⟩ = false := by simp [go_sem, zf7]
  replace z8 : ((w5.setCell ⟨w.heap.size + 1, 4, none⟩ (.bool true)).setCell ⟨w.heap.size + 1, 8, none⟩ (.bool false)).cell? ⟨w.heap.size, 8, none⟩ = some (.bool false) := by simp [go_sem, z8]
  replace zf8 : ((w5.setCell ⟨w.heap.size + 1, 4, none⟩ (.bool true)).setCell ⟨w.heap.size + 1, 8, none⟩ (.bool false)).frozen? ⟨w.heap.size, 8, none⟩ = false := by simp [go_sem, zf8]
  replace zz : w.heap.size < ((w5.setCell ⟨w.heap.size + 1, 4, none⟩ (.bool true)).setCell ⟨w.heap.size + 1, 8, none⟩ (.bool false)).heap.size := by simp <;> omega
  replace k0 : ((w5.setCell ⟨w.heap.size + 1, 4, none⟩ (.bool true)).setCell ⟨w.heap.size + 1, 8, none⟩ (.bool false)).cell? ⟨w.heap.size + 1, 0, none⟩ = some (.int .i64 n1) := by simp [go_sem, k0]
  replace kf0 : ((w5.setCell ⟨w.heap.size + 1, 4, none⟩ (.bool true)).setCell ⟨w.heap.size + 1, 8, none⟩ (.bool false)).frozen? ⟨w.heap.size + 1, 0, none⟩ = false := by simp [go_sem, kf0]
  replace k1 : ((w5.setCell ⟨w.heap.size + 1, 4, none⟩ (.bool true)).setCell ⟨w.heap.size + 1, 8, none⟩ (.bool false)).cell? ⟨w.heap.size + 1, 1, none⟩ = some (.string ⟨t2.toArray⟩) := by simp [go_sem, k1]
  replace kf1 : ((w5.setCell ⟨w.heap.size + 1, 4, none⟩ (.bool true)).setCell ⟨w.heap.size + 1, 8, none⟩ (.bool false)).frozen? ⟨w.heap.size + 1, 1, none⟩ = false := by simp [go_sem, kf1]
  replace k2 : ((w5.setCell ⟨w.heap.size + 1, 4, none⟩ (.bool true)).setCell ⟨w.heap.size + 1, 8, none⟩ (.bool false)).cell? ⟨w.heap.size + 1, 2, none⟩ = some (.int .i64 n3) := by simp [go_sem, k2]
  replace kf2 : ((w5.setCell ⟨w.heap.size + 1, 4, none⟩ (.bool true)).setCell ⟨w.heap.size + 1, 8, none⟩ (.bool false)).frozen? ⟨w.heap.size + 1, 2, none⟩ = false := by simp [go_sem, kf2]
  replace k3 : ((w5.setCell ⟨w.heap.size + 1, 4, none⟩ (.bool true)).setCell ⟨w.heap.size + 1, 8, none⟩ (.bool false)).cell? ⟨w.heap.size + 1, 3, none⟩ = some (.int .i64 n4) := by simp [go_sem, k3]
  replace kf3 : ((w5.setCell ⟨w.heap.size + 1, 4, none⟩ (.bool true)).setCell ⟨w.heap.size + 1, 8, none⟩ (.bool false)).frozen? ⟨w.heap.size + 1, 3, none⟩ = false := by simp [go_sem, kf3]
  replace k4 : ((w5.setCell ⟨w.heap.size + 1, 4, none⟩ (.bool true)).setCell ⟨w.heap.size + 1, 8, none⟩ (.bool false)).cell? ⟨w.heap.size + 1, 4, none⟩ = some (.bool true) := by simp [go_sem, k4]
  replace kf4 : ((w5.setCell ⟨w.heap.size + 1, 4, none⟩ (.bool true)).setCell ⟨w.heap.size + 1, 8, none⟩ (.bool false)).frozen? ⟨w.heap.size + 1, 4, none⟩ = false := by simp [go_sem, kf4]
  replace k5 : ((w5.setCell ⟨w.heap.size + 1, 4, none⟩ (.bool true)).setCell ⟨w.heap.size + 1, 8, none⟩ (.bool false)).cell? ⟨w.heap.size + 1, 5, none⟩ = some (.int .i64 0) := by simp [go_sem, k5]
  replace kf5 : ((w5.setCell ⟨w.heap.size + 1, 4, none⟩ (.bool true)).setCell ⟨w.heap.size + 1, 8, none⟩ (.bool false)).frozen? ⟨w.heap.size + 1, 5, none⟩ = false := by simp [go_sem, kf5]
  replace k6 : ((w5.setCell ⟨w.heap.size + 1, 4, none⟩ (.bool true)).setCell ⟨w.heap.size + 1, 8, none⟩ (.bool false)).cell? ⟨w.heap.size + 1, 6, none⟩ = some (.int .i64 0) := by simp [go_sem, k6]
  replace kf6 : ((w5.setCell ⟨w.heap.size + 1, 4, none⟩ (.bool true)).setCell ⟨w.heap.size + 1, 8, none⟩ (.bool false)).frozen? ⟨w.heap.size + 1, 6, none⟩ = false := by simp [go_sem, kf6]
  replace k7 : ((w5.setCell ⟨w.heap.size + 1, 4, none⟩ (.bool true)).setCell ⟨w.heap.size + 1, 8, none⟩ (.bool false)).cell? ⟨w.heap.size + 1, 7, none⟩ = some (.string ⟨#[]⟩) := by simp [go_sem, k7]
  replace kf7 : ((w5.setCell ⟨w.heap.size + 1, 4, none⟩ (.bool true)).setCell ⟨w.heap.size + 1, 8, none⟩ (.bool false)).frozen? ⟨w.heap.size + 1, 7, none⟩ = false := by simp [go_sem, kf7]
  replace k8 : ((w5.setCell ⟨w.heap.size + 1, 4, none⟩ (.bool true)).setCell ⟨w.heap.size + 1, 8, none⟩ (.bool false)).cell? ⟨w.heap.size + 1, 8, none⟩ = some (.bool false) := by simp [go_sem, k8]
  replace kf8 : ((w5.setCell ⟨w.heap.size + 1, 4, none⟩ (.bool true)).setCell ⟨w.heap.size + 1, 8, none⟩ (.bool false)).frozen? ⟨w.heap.size + 1, 8, none⟩ = false := by simp [go_sem, kf8]
  replace kz : w.heap.size + 1 < ((w5.setCell ⟨w.heap.size + 1, 4, none⟩ (.bool true)).setCell ⟨w.heap.size + 1, 8, none⟩ (.bool false)).heap.size := by simp <;> omega
  replace HR : Hid (RefAt ((w5.setCell ⟨w.heap.size + 1, 4, none⟩ (.bool true)).setCell ⟨w.heap.size + 1, 8, none⟩ (.bool false)) Q g s5) := ((HR.out.setOwn NQ.out (by rw [HB.out]; exact NG.out) _).setOwn NQ.out (by rw [HB.out]; exact NG.out) _)
  replace HG : Hid (w.grownBy ((w5.setCell ⟨w.heap.size + 1, 4, none⟩ (.bool true)).setCell ⟨w.heap.size + 1, 8, none⟩ (.bool false)) (some Q)) := (grown_own (grown_own HG.out (by simp) _) (by simp) _)
  generalize ((w5.setCell ⟨w.heap.size + 1, 4, none⟩ (.bool true)).setCell ⟨w.heap.size + 1, 8, none⟩ (.bool false)) = Vw5 at *
  have c2 := HR.out.c2
  have hbad : s5.bad = r5.2 := congrArg Prod.snd HST.out
  rw [hbad] at c2
  have HBD := Lib.hid hbad
  clear hbad
  by_cases hz : r5.2 = 0
  · rw [decide_eq_true hz] at HOK
    rw [hz] at c2
    go_wp2_with fail
    refine (HRR.out _).mono ?_
    rintro e w9 ⟨rfl, hb⟩
    replace z0 := (hb.cell (p := ⟨w.heap.size, 0, none⟩) zz).trans z0
    replace zf0 := (hb.frozen (p := ⟨w.heap.size, 0, none⟩) zz).trans zf0
    replace z1 := (hb.cell (p := ⟨w.heap.size, 1, none⟩) zz).trans z1
    replace zf1 := (hb.frozen (p := ⟨w.heap.size, 1, none⟩) zz).trans zf1
    replace z2 := (hb.cell (p := ⟨w.heap.size, 2, none⟩) zz).trans z2
    replace zf2 := (hb.frozen (p := ⟨w.heap.size, 2, none⟩) zz).trans zf2
    replace z3 := (hb.cell (p := ⟨w.heap.size, 3, none⟩) zz).trans z3
    replace zf3 := (hb.frozen (p := ⟨w.heap.size, 3, none⟩) zz).trans zf3
    replace z4 := (hb.cell (p := ⟨w.heap.size, 4, none⟩) zz).trans z4
    replace zf4 := (hb.frozen (p := ⟨w.heap.size, 4, none⟩) zz).trans zf4
    replace z5 := (hb.cell (p := ⟨w.heap.size, 5, none⟩) zz).trans z5
    replace zf5 := (hb.frozen (p := ⟨w.heap.size, 5, none⟩) zz).trans zf5
    replace z6 := (hb.cell (p := ⟨w.heap.size, 6, none⟩) zz).trans z6
    replace zf6 := (hb.frozen (p := ⟨w.heap.size, 6, none⟩) zz).trans zf6
    replace z7 := (hb.cell (p := ⟨w.heap.size, 7, none⟩) zz).trans z7
    replace zf7 := (hb.frozen (p := ⟨w.heap.size, 7, none⟩) zz).trans zf7
    replace z8 := (hb.cell (p := ⟨w.heap.size, 8, none⟩) zz).trans z8
    replace zf8 := (hb.frozen (p := ⟨w.heap.size, 8, none⟩) zz).trans zf8
    replace zz := Nat.lt_of_lt_of_le zz hb.size
    replace k0 := (hb.cell (p := ⟨w.heap.size + 1, 0, none⟩) kz).trans k0
    replace kf0 := (hb.frozen (p := ⟨w.heap.size + 1, 0, none⟩) kz).trans kf0
    replace k1 := (hb.cell (p := ⟨w.heap.size + 1, 1, none⟩) kz).trans k1
    replace kf1 := (hb.frozen (p := ⟨w.heap.size + 1, 1, none⟩) kz).trans kf1
    replace k2 := (hb.cell (p := ⟨w.heap.size + 1, 2, none⟩) kz).trans k2
    replace kf2 := (hb.frozen (p := ⟨w.heap.size + 1, 2, none⟩) kz).trans kf2
    replace k3 := (hb.cell (p := ⟨w.heap.size + 1, 3, none⟩) kz).trans k3
    replace kf3 := (hb.frozen (p := ⟨w.heap.size + 1, 3, none⟩) kz).trans kf3
    replace k4 := (hb.cell (p := ⟨w.heap.size + 1, 4, none⟩) kz).trans k4
    replace kf4 := (hb.frozen (p := ⟨w.heap.size + 1, 4, none⟩) kz).trans kf4
    replace k5 := (hb.cell (p := ⟨w.heap.size + 1, 5, none⟩) kz).trans k5
    replace kf5 := (hb.frozen (p := ⟨w.heap.size + 1, 5, none⟩) kz).trans kf5
    replace k6 := (hb.cell (p := ⟨w.heap.size + 1, 6, none⟩) kz).trans k6
    replace kf6 := (hb.frozen (p := ⟨w.heap.size + 1, 6, none⟩) kz).trans kf6
    replace k7 := (hb.cell (p := ⟨w.heap.size + 1, 7, none⟩) kz).trans k7
    replace kf7 := (hb.frozen (p := ⟨w.heap.size + 1, 7, none⟩) kz).trans kf7
    replace k8 := (hb.cell (p := ⟨w.heap.size + 1, 8, none⟩) kz).trans k8
    replace kf8 := (hb.frozen (p := ⟨w.heap.size + 1, 8, none⟩) kz).trans kf8
    replace kz := Nat.lt_of_lt_of_le kz hb.size
    replace HR := Lib.hid (HR.out.keep hb)
    replace HG := Lib.hid (grown_below HG.out hb)
    clear hb c2
    cases R
    · skip
      go_wp2
      refine bodyPost_ret (v := .tuple #[.agg #[.int .i64 0, .string ⟨#[]⟩, .int .i64 0, .int .i64 0, .bool false, .int .i64 0, .int .i64 0, .string ⟨#[]⟩, .bool false], .bool false]) ?_ rfl ?_
      · simp [results, Try.results27, go_sem, z0, z1, z2, z3, z4, z5, z6, z7, z8]
      · rw [HOK.out]
        exact ⟨rfl, ⟨s5, HB.out, HST.out, by repeat (first | with_reducible exact HR.out | with_reducible refine RefAt.setOwn ?_ (by exact NZ.out) (by rw [HB.out]; exact NGZ.out) _)⟩, by repeat (first | with_reducible exact HG.out | with_reducible refine grown_own ?_ (by simp) _)⟩
    · skip
      go_wp2
      refine bodyPost_ret (v := .tuple #[.agg #[.int .i64 n1, .string ⟨t2.toArray⟩, .int .i64 n3, .int .i64 n4, .bool true, .int .i64 0, .int .i64 0, .string ⟨#[]⟩, .bool false], .bool true]) ?_ rfl ?_
      · simp [results, Try.results27, go_sem, z0, z1, z2, z3, z4, z5, z6, z7, z8]
      · rw [HOK.out]
        exact ⟨rfl, ⟨s5, HB.out, HST.out, by repeat (first | with_reducible exact HR.out | with_reducible refine RefAt.setOwn ?_ (by exact NZ.out) (by rw [HB.out]; exact NGZ.out) _)⟩, by repeat (first | with_reducible exact HG.out | with_reducible refine grown_own ?_ (by simp) _)⟩
  · rw [decide_eq_false hz, Bool.false_and] at HOK
    have hz' : ((r5.2 : Int) != 0) = true := by simpa using hz
    clear hz
    go_wp2
    refine bodyPost_ret (v := .tuple #[.agg #[.int .i64 0, .string ⟨#[]⟩, .int .i64 0, .int .i64 0, .bool false, .int .i64 0, .int .i64 0, .string ⟨#[]⟩, .bool false], .bool false]) ?_ rfl ?_
    · simp [results, Try.results27, go_sem, z0, z1, z2, z3, z4, z5, z6, z7, z8]
    · rw [HOK.out]
      exact ⟨rfl, ⟨s5, HB.out, HST.out, by repeat (first | with_reducible exact HR.out | with_reducible refine RefAt.setOwn ?_ (by exact NZ.out) (by rw [HB.out]; exact NGZ.out) _)⟩, by repeat (first | with_reducible exact HG.out | with_reducible refine grown_own ?_ (by simp) _)⟩
set_option maxRecDepth 100000 in
set_option maxHeartbeats 8000000 in
theorem refTake_1 {Q g : Nat} {s : Rf} (w : World) (h : RefAt w Q g s) {n1 n3 n4 : Int} {t2 : List UInt8} {r1 r2 r3 r4 r5 : Rd} {n6 n7 : Int} {r6 r7 : Rd} (h1 : numF s.rd 31 = (n1, r1)) (h2 : textF r1 6 = (t2, r2)) (h3 : numF r2 1048576 = (n3, r3)) (h4 : numF r3 1048576 = (n4, r4)) (h5 : numF r4 2 = (1, r5)) (h6 : numF r5 2000 = (n6, r6)) (h7 : numF r6 2000 = (n7, r7)) (b6 : 0 ≤ n6) (b6' : n6 ≤ 2000) (b7 : 0 ≤ n7) (b7' : n7 ≤ 2000) (ok : Bool) (hok : ok = (decide (r7.2 = 0) && rightI ⟨n1, ⟨⟨t2.toArray⟩, n3, n4⟩, false, n6 - 1000, n7 - 1000, ⟨#[]⟩, false⟩)) :
    Calls Try.prog 27 #[.pointer (some ⟨Q, 0, none⟩)] w (RefRet (TakeV ok (.agg #[.int .i64 n1, .string ⟨t2.toArray⟩, .int .i64 n3, .int .i64 n4, .bool false, .int .i64 (n6 - 1000), .int .i64 (n7 - 1000), .string ⟨#[]⟩, .bool false]) (.agg #[.int .i64 0, .string ⟨#[]⟩, .int .i64 0, .int .i64 0, .bool false, .int .i64 0, .int .i64 0, .string ⟨#[]⟩, .bool false])) Q g s.B r7 w) := by
  have HOK := Lib.hid hok
  have HRR := Lib.hid (refRight_any ⟨n1, ⟨⟨t2.toArray⟩, n3, n4⟩, false, n6 - 1000, n7 - 1000, ⟨#[]⟩, false⟩)
  generalize rightI ⟨n1, ⟨⟨t2.toArray⟩, n3, n4⟩, false, n6 - 1000, n7 - 1000, ⟨#[]⟩, false⟩ = R at *
  unfold refV at HRR
  simp only at HRR
  clear hok
  have hQ := h.lt
  have hG := h.glt
  have H1 := Lib.hid h1
  have H2 := Lib.hid h2
  have H3 := Lib.hid h3
  have H4 := Lib.hid h4
  have H5 := Lib.hid h5
  have H6 := Lib.hid h6
  have H7 := Lib.hid h7
  clear h1 h2 h3 h4 h5 h6 h7
  obtain ⟨B, hB⟩ : ∃ B, s.B = B := ⟨_, rfl⟩
  obtain ⟨st, hst⟩ : ∃ st, s.rd = st := ⟨_, rfl⟩
  rw [hst] at H1
  rw [hB] at hG
  have HB := Lib.hid hB
  have HST := Lib.hid hst
  rw [hB]
  clear hB hst
  have HR := Lib.hid ((h.keep ((Below.refl _ _).alloc (Nat.le_refl _) (.cells #[.int .i64 0, .string ⟨#[]⟩, .int .i64 0, .int .i64 0, .bool false, .int .i64 0, .int .i64 0, .string ⟨#[]⟩, .bool false] 35))).keep ((Below.refl _ _).alloc (Nat.le_refl _) (.cells #[.int .i64 0, .string ⟨#[]⟩, .int .i64 0, .int .i64 0, .bool false, .int .i64 0, .int .i64 0, .string ⟨#[]⟩, .bool false] 35)))
  have HG : Hid (w.grownBy ((w.alloc (.cells #[.int .i64 0, .string ⟨#[]⟩, .int .i64 0, .int .i64 0, .bool false, .int .i64 0, .int .i64 0, .string ⟨#[]⟩, .bool false] 35)).alloc (.cells #[.int .i64 0, .string ⟨#[]⟩, .int .i64 0, .int .i64 0, .bool false, .int .i64 0, .int .i64 0, .string ⟨#[]⟩, .bool false] 35)) (some Q)) := grown_more (grown_alloc w _ _) _
  clear h
  go_enter Try.func27, Try.ntmps27
  go_upto_region 2 with fail
  have z0 : ((w.alloc (.cells #[.int .i64 0, .string ⟨#[]⟩, .int .i64 0, .int .i64 0, .bool false, .int .i64 0, .int .i64 0, .string ⟨#[]⟩, .bool false] 35)).alloc (.cells #[.int .i64 0, .string ⟨#[]⟩, .int .i64 0, .int .i64 0, .bool false, .int .i64 0, .int .i64 0, .string ⟨#[]⟩, .bool false] 35)).cell? ⟨w.heap.size, 0, none⟩ = some (.int .i64 0) := by simp [go_sem]
  have zf0 : ((w.alloc (.cells #[.int .i64 0, .string ⟨#[]⟩, .int .i64 0, .int .i64 0, .bool false, .int .i64 0, .int .i64 0, .string ⟨#[]⟩, .bool false] 35)).alloc (.cells #[.int .i64 0, .string ⟨#[]⟩, .int .i64 0, .int .i64 0, .bool false, .int .i64 0, .int .i64 0, .string ⟨#[]⟩, .bool false] 35)).frozen? ⟨w.heap.size, 0, none⟩ = false := by simp [go_sem]
  have z1 : ((w.alloc (.cells #[.int .i64 0, .string ⟨#[]⟩, .int .i64 0, .int .i64 0, .bool false, .int .i64 0, .int .i64 0, .string ⟨#[]⟩, .bool false] 35)).alloc (.cells #[.int .i64 0, .string ⟨#[]⟩, .int .i64 0, .int .i64 0, .bool false, .int .i64 0, .int .i64 0, .string ⟨#[]⟩, .bool false] 35)).cell? ⟨w.heap.size, 1, none⟩ = some (.string ⟨#[]⟩) := by simp [go_sem]
  have zf1 : ((w.alloc (.cells #[.int .i64 0, .string ⟨#[]⟩, .int .i64 0, .int .i64 0, .bool false, .int .i64 0, .int .i64 0, .string ⟨#[]⟩, .bool false] 35)).alloc (.cells #[.int .i64 0, .string ⟨#[]⟩, .int .i64 0, .int .i64 0, .bool false, .int .i64 0, .int .i64 0, .string ⟨#[]⟩, .bool false] 35)).frozen? ⟨w.heap.size, 1, none⟩ = false := by simp [go_sem]
  have z2 : ((w.alloc (.cells #[.int .i64 0, .string ⟨#[]⟩, .int .i64 0, .int .i64 0, .bool false, .int .i64 0, .int .i64 0, .string ⟨#[]⟩, .bool false] 35)).alloc (.cells #[.int .i64 0, .string ⟨#[]⟩, .int .i64 0, .int .i64 0, .bool false, .int .i64 0, .int .i64 0, .string ⟨#[]⟩, .bool false] 35)).cell? ⟨w.heap.size, 2, none⟩ = some (.int .i64 0) := by simp [go_sem]
  have zf2 : ((w.alloc (.cells #[.int .i64 0, .string ⟨#[]⟩, .int .i64 0, .int .i64 0, .bool false, .int .i64 0, .int .i64 0, .string ⟨#[]⟩, .bool false] 35)).alloc (.cells #[.int .i64 0, .string ⟨#[]⟩, .int .i64 0, .int .i64 0, .bool false, .int .i64 0, .int .i64 0, .string ⟨#[]⟩, .bool false] 35)).frozen? ⟨w.heap.size, 2, none⟩ = false := by simp [go_sem]
  have z3 : ((w.alloc (.cells #[.int .i64 0, .string ⟨#[]⟩, .int .i64 0, .int .i64 0, .bool false, .int .i64 0, .int .i64 0, .string ⟨#[]⟩, .bool false] 35)).alloc (.cells #[.int .i64 0, .string ⟨#[]⟩, .int .i64 0, .int .i64 0, .bool false, .int .i64 0, .int .i64 0, .string ⟨#[]⟩, .bool false] 35)).cell? ⟨w.heap.size, 3, none⟩ = some (.int .i64 0) := by simp [go_sem]
  have zf3 : ((w.alloc (.cells #[.int .i64 0, .string ⟨#[]⟩, .int .i64 0, .int .i64 0, .bool false, .int .i64 0, .int .i64 0, .string ⟨#[]⟩, .bool false] 35)).alloc (.cells #[.int .i64 0, .string ⟨#[]⟩, .int .i64 0, .int .i64 0, .bool false, .int .i64 0, .int .i64 0, .string ⟨#[]⟩, .bool false] 35)).frozen? ⟨w.heap.size, 3, none⟩ = false := by simp [go_sem]
  have z4 : ((w.alloc (.cells #[.int .i64 0, .string ⟨#[]⟩, .int .i64 0, .int .i64 0, .bool false, .int .i64 0, .int .i64 0, .string ⟨#[]⟩, .bool false] 35)).alloc (.cells #[.int .i64 0, .string ⟨#[]⟩, .int .i64 0, .int .i64 0, .bool false, .int .i64 0, .int .i64 0, .string ⟨#[]⟩, .bool false] 35)).cell? ⟨w.heap.size, 4, none⟩ = some (.bool false) := by simp [go_sem]
  have zf4 : ((w.alloc (.cells #[.int .i64 0, .string ⟨#[]⟩, .int .i64 0, .int .i64 0, .bool false, .int .i64 0, .int .i64 0, .string ⟨#[]⟩, .bool false] 35)).alloc (.cells #[.int .i64 0, .string ⟨#[]⟩, .int .i64 0, .int .i64 0, .bool false, .int .i64 0, .int .i64 0, .string ⟨#[]⟩, .bool false] 35)).frozen? ⟨w.heap.size, 4, none⟩ = false := by simp [go_sem]
  have z5 : ((w.alloc (.cells #[.int .i64 0, .string ⟨#[]⟩, .int .i64 0, .int .i64 0, .bool false, .int .i64 0, .int .i64 0, .string ⟨#[]⟩, .bool false] 35)).alloc (.cells #[.int .i64 0, .string ⟨#[]⟩, .int .i64 0, .int .i64 0, .bool false, .int .i64 0, .int .i64 0, .string ⟨#[]⟩, .bool false] 35)).cell? ⟨w.heap.size, 5, none⟩ = some (.int .i64 0) := by simp [go_sem]
  have zf5 : ((w.alloc (.cells #[.int .i64 0, .string ⟨#[]⟩, .int .i64 0, .int .i64 0, .bool false, .int .i64 0, .int .i64 0, .string ⟨#[]⟩, .bool false] 35)).alloc (.cells #[.int .i64 0, .string ⟨#[]⟩, .int .i64 0, .int .i64 0, .bool false, .int .i64 0, .int .i64 0, .string ⟨#[]⟩, .bool false] 35)).frozen? ⟨w.heap.size, 5, none⟩ = false := by simp [go_sem]
  have z6 : ((w.alloc (.cells #[.int .i64 0, .string ⟨#[]⟩, .int .i64 0, .int .i64 0, .bool false, .int .i64 0, .int .i64 0, .string ⟨#[]⟩, .bool false] 35)).alloc (.cells #[.int .i64 0, .string ⟨#[]⟩, .int .i64 0, .int .i64 0, .bool false, .int .i64 0, .int .i64 0, .string ⟨#[]⟩, .bool false] 35)).cell? ⟨w.heap.size, 6, none⟩ = some (.int .i64 0) := by simp [go_sem]
  have zf6 : ((w.alloc (.cells #[.int .i64 0, .string ⟨#[]⟩, .int .i64 0, .int .i64 0, .bool false, .int .i64 0, .int .i64 0, .string ⟨#[]⟩, .bool false] 35)).alloc (.cells #[.int .i64 0, .string ⟨#[]⟩, .int .i64 0, .int .i64 0, .bool false, .int .i64 0, .int .i64 0, .string ⟨#[]⟩, .bool false] 35)).frozen? ⟨w.heap.size, 6, none⟩ = false := by simp [go_sem]
  have z7 : ((w.alloc (.cells #[.int .i64 0, .string ⟨#[]⟩, .int .i64 0, .int .i64 0, .bool false, .int .i64 0, .int .i64 0, .string ⟨#[]⟩, .bool false] 35)).alloc (.cells #[.int .i64 0, .string ⟨#[]⟩, .int .i64 0, .int .i64 0, .bool false, .int .i64 0, .int .i64 0, .string ⟨#[]⟩, .bool false] 35)).cell? ⟨w.heap.size, 7, none⟩ = some (.string ⟨#[]⟩) := by simp [go_sem]
  have zf7 : ((w.alloc (.cells #[.int .i64 0, .string ⟨#[]⟩, .int .i64 0, .int .i64 0, .bool false, .int .i64 0, .int .i64 0, .string ⟨#[]⟩, .bool false] 35)).alloc (.cells #[.int .i64 0, .string ⟨#[]⟩, .int .i64 0, .int .i64 0, .bool false, .int .i64 0, .int .i64 0, .string ⟨#[]⟩, .bool false] 35)).frozen? ⟨w.heap.size, 7, none⟩ = false := by simp [go_sem]
  have z8 : ((w.alloc (.cells #[.int .i64 0, .string ⟨#[]⟩, .int .i64 0, .int .i64 0, .bool false, .int .i64 0, .int .i64 0, .string ⟨#[]⟩, .bool false] 35)).alloc (.cells #[.int .i64 0, .string ⟨#[]⟩, .int .i64 0, .int .i64 0, .bool false, .int .i64 0, .int .i64 0, .string ⟨#[]⟩, .bool false] 35)).cell? ⟨w.heap.size, 8, none⟩ = some (.bool false) := by simp [go_sem]
  have zf8 : ((w.alloc (.cells #[.int .i64 0, .string ⟨#[]⟩, .int .i64 0, .int .i64 0, .bool false, .int .i64 0, .int .i64 0, .string ⟨#[]⟩, .bool false] 35)).alloc (.cells #[.int .i64 0, .string ⟨#[]⟩, .int .i64 0, .int .i64 0, .bool false, .int .i64 0, .int .i64 0, .string ⟨#[]⟩, .bool false] 35)).frozen? ⟨w.heap.size, 8, none⟩ = false := by simp [go_sem]
  have zz : w.heap.size < ((w.alloc (.cells #[.int .i64 0, .string ⟨#[]⟩, .int .i64 0, .int .i64 0, .bool false, .int .i64 0, .int .i64 0, .string ⟨#[]⟩, .bool false] 35)).alloc (.cells #[.int .i64 0, .string ⟨#[]⟩, .int .i64 0, .int .i64 0, .bool false, .int .i64 0, .int .i64 0, .string ⟨#[]⟩, .bool false] 35)).heap.size := by simp <;> omega
  have k0 : ((w.alloc (.cells #[.int .i64 0, .string ⟨#[]⟩, .int .i64 0, .int .i64 0, .bool false, .int .i64 0, .int .i64 0, .string ⟨#[]⟩, .bool false] 35)).alloc (.cells #[.int .i64 0, .string ⟨#[]⟩, .int .i64 0, .int .i64 0, .bool false, .int .i64 0, .int .i64 0, .string ⟨#[]⟩, .bool false] 35)).cell? ⟨w.heap.size + 1, 0, none⟩ = some (.int .i64 0) := by simp [go_sem]
  have kf0 : ((w.alloc (.cells #[.int .i64 0, .string ⟨#[]⟩, .int .i64 0, .int .i64 0, .bool false, .int .i64 0, .int .i64 0, .string ⟨#[]⟩, .bool false] 35)).alloc (.cells #[.int .i64 0, .string ⟨#[]⟩, .int .i64 0, .int .i64 0, .bool false, .int .i64 0, .int .i64 0, .string ⟨#[]⟩, .bool false] 35)).frozen? ⟨w.heap.size + 1, 0, none⟩ = false := by simp [go_sem]
  have k1 : ((w.alloc (.cells #[.int .i64 0, .string ⟨#[]⟩, .int .i64 0, .int .i64 0, .bool false, .int .i64 0, .int .i64 0, .string ⟨#[]⟩, .bool false] 35)).alloc (.cells #[.int .i64 0, .string ⟨#[]⟩, .int .i64 0, .int .i64 0, .bool false, .int .i64 0, .int .i64 0, .string ⟨#[]⟩, .bool false] 35)).cell? ⟨w.heap.size + 1, 1, none⟩ = some (.string ⟨#[]⟩) := by simp [go_sem]
  have kf1 : ((w.alloc (.cells #[.int .i64 0, .string ⟨#[]⟩, .int .i64 0, .int .i64 0, .bool false, .int .i64 0, .int .i64 0, .string ⟨#[]⟩, .bool false] 35)).alloc (.cells #[.int .i64 0, .string ⟨#[]⟩, .int .i64 0, .int .i64 0, .bool false, .int .i64 0, .int .i64 0, .string ⟨#[]⟩, .bool false] 35)).frozen? ⟨w.heap.size + 1, 1, none⟩ = false := by simp [go_sem]
  have k2 : ((w.alloc (.cells #[.int .i64 0, .string ⟨#[]⟩, .int .i64 0, .int .i64 0, .bool false, .int .i64 0, .int .i64 0, .string ⟨#[]⟩, .bool false] 35)).alloc (.cells #[.int .i64 0, .string ⟨#[]⟩, .int .i64 0, .int .i64 0, .bool false, .int .i64 0, .int .i64 0, .string ⟨#[]⟩, .bool false] 35)).cell? ⟨w.heap.size + 1, 2, none⟩ = some (.int .i64 0) := by simp [go_sem]
  have kf2 : ((w.alloc (.cells #[.int .i64 0, .string ⟨#[]⟩, .int .i64 0, .int .i64 0, .bool false, .int .i64 0, .int .i64 0, .string ⟨#[]⟩, .bool false] 35)).alloc (.cells #[.int .i64 0, .string ⟨#[]⟩, .int .i64 0, .int .i64 0, .bool false, .int .i64 0, .int .i64 0, .string ⟨#[]⟩, .bool false] 35)).frozen? ⟨w.heap.size + 1, 2, none⟩ = false := by simp [go_sem]
  have k3 : ((w.alloc (.cells #[.int .i64 0, .string ⟨#[]⟩, .int .i64 0, .int .i64 0, .bool false, .int .i64 0, .int .i64 0, .string ⟨#[]⟩, .bool false] 35)).alloc (.cells #[.int .i64 0, .string ⟨#[]⟩, .int .i64 0, .int .i64 0, .bool false, .int .i64 0, .int .i64 0, .string ⟨#[]⟩, .bool false] 35)).cell? ⟨w.heap.size + 1, 3, none⟩ = some (.int .i64 0) := by simp [go_sem]
  have kf3 : ((w.alloc (.cells #[.int .i64 0, .string ⟨#[]⟩, .int .i64 0, .int .i64 0, .bool false, .int .i64 0, .int .i64 0, .string ⟨#[]⟩, .bool false] 35)).alloc (.cells #[.int .i64 0, .string ⟨#[]⟩, .int .i64 0, .int .i64 0, .bool false, .int .i64 0, .int .i64 0, .string ⟨#[]⟩, .bool false] 35)).frozen? ⟨w.heap.size + 1, 3, none⟩ = false := by simp [go_sem]
  have k4 : ((w.alloc (.cells #[.int .i64 0, .string ⟨#[]⟩, .int .i64 0, .int .i64 0, .bool false, .int .i64 0, .int .i64 0, .string ⟨#[]⟩, .bool false] 35)).alloc (.cells #[.int .i64 0, .string ⟨#[]⟩, .int .i64 0, .int .i64 0, .bool false, .int .i64 0, .int .i64 0, .string ⟨#[]⟩, .bool false] 35)).cell? ⟨w.heap.size + 1, 4, none⟩ = some (.bool false) := by simp [go_sem]
  have kf4 : ((w.alloc (.cells #[.int .i64 0, .string ⟨#[]⟩, .int .i64 0, .int .i64 0, .bool false, .int .i64 0, .int .i64 0, .string ⟨#[]⟩, .bool false] 35)).alloc (.cells #[.int .i64 0, .string ⟨#[]⟩, .int .i64 0, .int .i64 0, .bool false, .int .i64 0, .int .i64 0, .string ⟨#[]⟩, .bool false] 35)).frozen? ⟨w.heap.size + 1, 4, none⟩ = false := by simp [go_sem]
  have k5 : ((w.alloc (.cells #[.int .i64 0, .string ⟨#[]⟩, .int .i64 0, .int .i64 0, .bool false, .int .i64 0, .int .i64 0, .string ⟨#[]⟩, .bool false] 35)).alloc (.cells #[.int .i64 0, .string ⟨#[]⟩, .int .i64 0, .int .i64 0, .bool false, .int .i64 0, .int .i64 0, .string ⟨#[]⟩, .bool false] 35)).cell? ⟨w.heap.size + 1, 5, none⟩ = some (.int .i64 0) := by simp [go_sem]
  have kf5 : ((w.alloc (.cells #[.int .i64 0, .string ⟨#[]⟩, .int .i64 0, .int .i64 0, .bool false, .int .i64 0, .int .i64 0, .string ⟨#[]⟩, .bool false] 35)).alloc (.cells #[.int .i64 0, .string ⟨#[]⟩, .int .i64 0, .int .i64 0, .bool false, .int .i64 0, .int .i64 0, .string ⟨#[]⟩, .bool false] 35)).frozen? ⟨w.heap.size + 1, 5, none⟩ = false := by simp [go_sem]
  have k6 : ((w.alloc (.cells #[.int .i64 0, .string ⟨#[]⟩, .int .i64 0, .int .i64 0, .bool false, .int .i64 0, .int .i64 0, .string ⟨#[]⟩, .bool false] 35)).alloc (.cells #[.int .i64 0, .string ⟨#[]⟩, .int .i64 0, .int .i64 0, .bool false, .int .i64 0, .int .i64 0, .string ⟨#[]⟩, .bool false] 35)).cell? ⟨w.heap.size + 1, 6, none⟩ = some (.int .i64 0) := by simp [go_sem]
  have kf6 : ((w.alloc (.cells #[.int .i64 0, .string ⟨#[]⟩, .int .i64 0, .int .i64 0, .bool false, .int .i64 0, .int .i64 0, .string ⟨#[]⟩, .bool false] 35)).alloc (.cells #[.int .i64 0, .string ⟨#[]⟩, .int .i64 0, .int .i64 0, .bool false, .int .i64 0, .int .i64 0, .string ⟨#[]⟩, .bool false] 35)).frozen? ⟨w.heap.size + 1, 6, none⟩ = false := by simp [go_sem]
  have k7 : ((w.alloc (.cells #[.int .i64 0, .string ⟨#[]⟩, .int .i64 0, .int .i64 0, .bool false, .int .i64 0, .int .i64 0, .string ⟨#[]⟩, .bool false] 35)).alloc (.cells #[.int .i64 0, .string ⟨#[]⟩, .int .i64 0, .int .i64 0, .bool false, .int .i64 0, .int .i64 0, .string ⟨#[]⟩, .bool false] 35)).cell? ⟨w.heap.size + 1, 7, none⟩ = some (.string ⟨#[]⟩) := by simp [go_sem]
  have kf7 : ((w.alloc (.cells #[.int .i64 0, .string ⟨#[]⟩, .int .i64 0, .int .i64 0, .bool false, .int .i64 0, .int .i64 0, .string ⟨#[]⟩, .bool false] 35)).alloc (.cells #[.int .i64 0, .string ⟨#[]⟩, .int .i64 0, .int .i64 0, .bool false, .int .i64 0, .int .i64 0, .string ⟨#[]⟩, .bool false] 35)).frozen? ⟨w.heap.size + 1, 7, none⟩ = false := by simp [go_sem]
  have k8 : ((w.alloc (.cells #[.int .i64 0, .string ⟨#[]⟩, .int .i64 0, .int .i64 0, .bool false, .int .i64 0, .int .i64 0, .string ⟨#[]⟩, .bool false] 35)).alloc (.cells #[.int .i64 0, .string ⟨#[]⟩, .int .i64 0, .int .i64 0, .bool false, .int .i64 0, .int .i64 0, .string ⟨#[]⟩, .bool false] 35)).cell? ⟨w.heap.size + 1, 8, none⟩ = some (.bool false) := by simp [go_sem]
  have kf8 : ((w.alloc (.cells #[.int .i64 0, .string ⟨#[]⟩, .int .i64 0, .int .i64 0, .bool false, .int .i64 0, .int .i64 0, .string ⟨#[]⟩, .bool false] 35)).alloc (.cells #[.int .i64 0, .string ⟨#[]⟩, .int .i64 0, .int .i64 0, .bool false, .int .i64 0, .int .i64 0, .string ⟨#[]⟩, .bool false] 35)).frozen? ⟨w.heap.size + 1, 8, none⟩ = false := by simp [go_sem]
  have kz : w.heap.size + 1 < ((w.alloc (.cells #[.int .i64 0, .string ⟨#[]⟩, .int .i64 0, .int .i64 0, .bool false, .int .i64 0, .int .i64 0, .string ⟨#[]⟩, .bool false] 35)).alloc (.cells #[.int .i64 0, .string ⟨#[]⟩, .int .i64 0, .int .i64 0, .bool false, .int .i64 0, .int .i64 0, .string ⟨#[]⟩, .bool false] 35)).heap.size := by simp <;> omega
  have nz : some w.heap.size ≠ (some Q : Option Nat) := fun e => by injection e with e; omega
  have nk : some (w.heap.size + 1) ≠ (some Q : Option Nat) := fun e => by injection e with e; omega
  have NQ : Hid (Q ≠ w.heap.size + 1) := by show _ ≠ _; omega
  have NG : Hid (B ≠ [] → g ≠ w.heap.size + 1) := fun hb => by have := hG hb; omega
  have NZ : Hid (Q ≠ w.heap.size) := by show _ ≠ _; omega
  have NGZ : Hid (B ≠ [] → g ≠ w.heap.size) := fun hb => by have := hG hb; omega
  clear hQ hG
  generalize ((w.alloc (.cells #[.int .i64 0, .string ⟨#[]⟩, .int .i64 0, .int .i64 0, .bool false, .int .i64 0, .int .i64 0, .string ⟨#[]⟩, .bool false] 35)).alloc (.cells #[.int .i64 0, .string ⟨#[]⟩, .int .i64 0, .int .i64 0, .bool false, .int .i64 0, .int .i64 0, .string ⟨#[]⟩, .bool false] 35)) = W0 at *
  go_wp2_with fail
  refine (rn 31 _ HB.out HST.out H1.out HR.out).mono ?_
  rintro e w1 ⟨rfl, ⟨s1, hB, hrd, hR⟩, hg⟩
  replace zf0 := (own_cell hg zz nz 0).2.trans zf0
  replace z0 := (own_cell hg zz nz 0).1.trans z0
  replace zf1 := (own_cell hg zz nz 1).2.trans zf1
  replace z1 := (own_cell hg zz nz 1).1.trans z1
  replace zf2 := (own_cell hg zz nz 2).2.trans zf2
  replace z2 := (own_cell hg zz nz 2).1.trans z2
  replace zf3 := (own_cell hg zz nz 3).2.trans zf3
  replace z3 := (own_cell hg zz nz 3).1.trans z3
  replace zf4 := (own_cell hg zz nz 4).2.trans zf4
  replace z4 := (own_cell hg zz nz 4).1.trans z4
  replace zf5 := (own_cell hg zz nz 5).2.trans zf5
  replace z5 := (own_cell hg zz nz 5).1.trans z5
  replace zf6 := (own_cell hg zz nz 6).2.trans zf6
  replace z6 := (own_cell hg zz nz 6).1.trans z6
  replace zf7 := (own_cell hg zz nz 7).2.trans zf7
  replace z7 := (own_cell hg zz nz 7).1.trans z7
  replace zf8 := (own_cell hg zz nz 8).2.trans zf8
  replace z8 := (own_cell hg zz nz 8).1.trans z8
  replace zz := Nat.lt_of_lt_of_le zz hg.size
  replace kf0 := (own_cell hg kz nk 0).2.trans kf0
  replace k0 := (own_cell hg kz nk 0).1.trans k0
  replace kf1 := (own_cell hg kz nk 1).2.trans kf1
  replace k1 := (own_cell hg kz nk 1).1.trans k1
  replace kf2 := (own_cell hg kz nk 2).2.trans kf2
  replace k2 := (own_cell hg kz nk 2).1.trans k2
  replace kf3 := (own_cell hg kz nk 3).2.trans kf3
  replace k3 := (own_cell hg kz nk 3).1.trans k3
  replace kf4 := (own_cell hg kz nk 4).2.trans kf4
  replace k4 := (own_cell hg kz nk 4).1.trans k4
  replace kf5 := (own_cell hg kz nk 5).2.trans kf5
  replace k5 := (own_cell hg kz nk 5).1.trans k5
  replace kf6 := (own_cell hg kz nk 6).2.trans kf6
  replace k6 := (own_cell hg kz nk 6).1.trans k6
  replace kf7 := (own_cell hg kz nk 7).2.trans kf7
  replace k7 := (own_cell hg kz nk 7).1.trans k7
  replace kf8 := (own_cell hg kz nk 8).2.trans kf8
  replace k8 := (own_cell hg kz nk 8).1.trans k8
  replace kz := Nat.lt_of_lt_of_le kz hg.size
  replace HB := Lib.hid hB
  replace HST := Lib.hid hrd
  replace HR := Lib.hid hR
  replace HG := Lib.hid (HG.out.trans hg)
  clear hB hrd hR hg H1
  go_upto_region 3 with fail
  replace z0 : (w1.setCell ⟨w.heap.size + 1, 0, none⟩ (.int .i64 n1)).cell? ⟨w.heap.size, 0, none⟩ = some (.int .i64 0) := by simp [go_sem, z0]
  replace zf0 : (w1.setCell ⟨w.heap.size + 1, 0, none⟩ (.int .i64 n1)).frozen? ⟨w.heap.size, 0, none⟩ = false := by simp [go_sem, zf0]
  replace z1 : (w1.setCell ⟨w.heap.size + 1, 0, none⟩ (.int .i64 n1)).cell? ⟨w.heap.size, 1, none⟩ = some (.string ⟨#[]⟩) := by simp [go_sem, z1]
  replace zf1 : (w1.setCell ⟨w.heap.size + 1, 0, none⟩ (.int .i64 n1)).frozen? ⟨w.heap.size, 1, none⟩ = false := by simp [go_sem, zf1]
  replace z2 : (w1.setCell ⟨w.heap.size + 1, 0, none⟩ (.int .i64 n1)).cell? ⟨w.heap.size, 2, none⟩ = some (.int .i64 0) := by simp [go_sem, z2]
  replace zf2 : (w1.setCell ⟨w.heap.size + 1, 0, none⟩ (.int .i64 n1)).frozen? ⟨w.heap.size, 2, none⟩ = false := by simp [go_sem, zf2]
  replace z3 : (w1.setCell ⟨w.heap.size + 1, 0, none⟩ (.int .i64 n1)).cell? ⟨w.heap.size, 3, none⟩ = some (.int .i64 0) := by simp [go_sem, z3]
  replace zf3 : (w1.setCell ⟨w.heap.size + 1, 0, none⟩ (.int .i64 n1)).frozen? ⟨w.heap.size, 3, none⟩ = false := by simp [go_sem, zf3]
  replace z4 : (w1.setCell ⟨w.heap.size + 1, 0, none⟩ (.int .i64 n1)).cell? ⟨w.heap.size, 4, none⟩ = some (.bool false) := by simp [go_sem, z4]
  replace zf4 : (w1.setCell ⟨w.heap.size + 1, 0, none⟩ (.int .i64 n1)).frozen? ⟨w.heap.size, 4, none⟩ = false := by simp [go_sem, zf4]
  replace z5 : (w1.setCell ⟨w.heap.size + 1, 0, none⟩ (.int .i64 n1)).cell? ⟨w.heap.size, 5, none⟩ = some (.int .i64 0) := by simp [go_sem, z5]
  replace zf5 : (w1.setCell ⟨w.heap.size + 1, 0, none⟩ (.int .i64 n1)).frozen? ⟨w.heap.size, 5, none⟩ = false := by simp [go_sem, zf5]
  replace z6 : (w1.setCell ⟨w.heap.size + 1, 0, none⟩ (.int .i64 n1)).cell? ⟨w.heap.size, 6, none⟩ = some (.int .i64 0) := by simp [go_sem, z6]
  replace zf6 : (w1.setCell ⟨w.heap.size + 1, 0, none⟩ (.int .i64 n1)).frozen? ⟨w.heap.size, 6, none⟩ = false := by simp [go_sem, zf6]
  replace z7 : (w1.setCell ⟨w.heap.size + 1, 0, none⟩ (.int .i64 n1)).cell? ⟨w.heap.size, 7, none⟩ = some (.string ⟨#[]⟩) := by simp [go_sem, z7]
  replace zf7 : (w1.setCell ⟨w.heap.size + 1, 0, none⟩ (.int .i64 n1)).frozen? ⟨w.heap.size, 7, none⟩ = false := by simp [go_sem, zf7]
  replace z8 : (w1.setCell ⟨w.heap.size + 1, 0, none⟩ (.int .i64 n1)).cell? ⟨w.heap.size, 8, none⟩ = some (.bool false) := by simp [go_sem, z8]
  replace zf8 : (w1.setCell ⟨w.heap.size + 1, 0, none⟩ (.int .i64 n1)).frozen? ⟨w.heap.size, 8, none⟩ = false := by simp [go_sem, zf8]
  replace zz : w.heap.size < (w1.setCell ⟨w.heap.size + 1, 0, none⟩ (.int .i64 n1)).heap.size := by simp <;> omega
  replace k0 : (w1.setCell ⟨w.heap.size + 1, 0, none⟩ (.int .i64 n1)).cell? ⟨w.heap.size + 1, 0, none⟩ = some (.int .i64 n1) := by simp [go_sem, k0]
  replace kf0 : (w1.setCell ⟨w.heap.size + 1, 0, none⟩ (.int .i64 n1)).frozen? ⟨w.heap.size + 1, 0, none⟩ = false := by simp [go_sem, kf0]
  replace k1 : (w1.setCell ⟨w.heap.size + 1, 0, none⟩ (.int .i64 n1)).cell? ⟨w.heap.size + 1, 1, none⟩ = some (.string ⟨#[]⟩) := by simp [go_sem, k1]
  replace kf1 : (w1.setCell ⟨w.heap.size + 1, 0, none⟩ (.int .i64 n1)).frozen? ⟨w.heap.size + 1, 1, none⟩ = false := by simp [go_sem, kf1]
  replace k2 : (w1.setCell ⟨w.heap.size + 1, 0, none⟩ (.int .i64 n1)).cell? ⟨w.heap.size + 1, 2, none⟩ = some (.int .i64 0) := by simp [go_sem, k2]
  replace kf2 : (w1.setCell ⟨w.heap.size + 1, 0, none⟩ (.int .i64 n1)).frozen? ⟨w.heap.size + 1, 2, none⟩ = false := by simp [go_sem, kf2]
  replace k3 : (w1.setCell ⟨w.heap.size + 1, 0, none⟩ (.int .i64 n1)).cell? ⟨w.heap.size + 1, 3, none⟩ = some (.int .i64 0) := by simp [go_sem, k3]
  replace kf3 : (w1.setCell ⟨w.heap.size + 1, 0, none⟩ (.int .i64 n1)).frozen? ⟨w.heap.size + 1, 3, none⟩ = false := by simp [go_sem, kf3]
  replace k4 : (w1.setCell ⟨w.heap.size + 1, 0, none⟩ (.int .i64 n1)).cell? ⟨w.heap.size + 1, 4, none⟩ = some (.bool false) := by simp [go_sem, k4]
  replace kf4 : (w1.setCell ⟨w.heap.size + 1, 0, none⟩ (.int .i64 n1)).frozen? ⟨w.heap.size + 1, 4, none⟩ = false := by simp [go_sem, kf4]
  replace k5 : (w1.setCell ⟨w.heap.size + 1, 0, none⟩ (.int .i64 n1)).cell? ⟨w.heap.size + 1, 5, none⟩ = some (.int .i64 0) := by simp [go_sem, k5]
  replace kf5 : (w1.setCell ⟨w.heap.size + 1, 0, none⟩ (.int .i64 n1)).frozen? ⟨w.heap.size + 1, 5, none⟩ = false := by simp [go_sem, kf5]
  replace k6 : (w1.setCell ⟨w.heap.size + 1, 0, none⟩ (.int .i64 n1)).cell? ⟨w.heap.size + 1, 6, none⟩ = some (.int .i64 0) := by simp [go_sem, k6]
  replace kf6 : (w1.setCell ⟨w.heap.size + 1, 0, none⟩ (.int .i64 n1)).frozen? ⟨w.heap.size + 1, 6, none⟩ = false := by simp [go_sem, kf6]
  replace k7 : (w1.setCell ⟨w.heap.size + 1, 0, none⟩ (.int .i64 n1)).cell? ⟨w.heap.size + 1, 7, none⟩ = some (.string ⟨#[]⟩) := by simp [go_sem, k7]
  replace kf7 : (w1.setCell ⟨w.heap.size + 1, 0, none⟩ (.int .i64 n1)).frozen? ⟨w.heap.size + 1, 7, none⟩ = false := by simp [go_sem, kf7]
  replace k8 : (w1.setCell ⟨w.heap.size + 1, 0, none⟩ (.int .i64 n1)).cell? ⟨w.heap.size + 1, 8, none⟩ = some (.bool false) := by simp [go_sem, k8]
  replace kf8 : (w1.setCell ⟨w.heap.size + 1, 0, none⟩ (.int .i64 n1)).frozen? ⟨w.heap.size + 1, 8, none⟩ = false := by simp [go_sem, kf8]
  replace kz : w.heap.size + 1 < (w1.setCell ⟨w.heap.size + 1, 0, none⟩ (.int .i64 n1)).heap.size := by simp <;> omega
  replace HR : Hid (RefAt (w1.setCell ⟨w.heap.size + 1, 0, none⟩ (.int .i64 n1)) Q g s1) := (HR.out.setOwn NQ.out (by rw [HB.out]; exact NG.out) _)
  replace HG : Hid (w.grownBy (w1.setCell ⟨w.heap.size + 1, 0, none⟩ (.int .i64 n1)) (some Q)) := (grown_own HG.out (by simp) _)
  generalize (w1.setCell ⟨w.heap.size + 1, 0, none⟩ (.int .i64 n1)) = Vw1 at *
  go_wp2_with fail
  refine (rt 6 _ HB.out HST.out H2.out HR.out).mono ?_
  rintro e w2 ⟨rfl, ⟨s2, hB, hrd, hR⟩, hg⟩
  replace zf0 := (own_cell hg zz nz 0).2.trans zf0
  replace z0 := (own_cell hg zz nz 0).1.trans z0
  replace zf1 := (own_cell hg zz nz 1).2.trans zf1
  replace z1 := (own_cell hg zz nz 1).1.trans z1
  replace zf2 := (own_cell hg zz nz 2).2.trans zf2
  replace z2 := (own_cell hg zz nz 2).1.trans z2
  replace zf3 := (own_cell hg zz nz 3).2.trans zf3
  replace z3 := (own_cell hg zz nz 3).1.trans z3
  replace zf4 := (own_cell hg zz nz 4).2.trans zf4
  replace z4 := (own_cell hg zz nz 4).1.trans z4
  replace zf5 := (own_cell hg zz nz 5).2.trans zf5
  replace z5 := (own_cell hg zz nz 5).1.trans z5
  replace zf6 := (own_cell hg zz nz 6).2.trans zf6
  replace z6 := (own_cell hg zz nz 6).1.trans z6
  replace zf7 := (own_cell hg zz nz 7).2.trans zf7
  replace z7 := (own_cell hg zz nz 7).1.trans z7
  replace zf8 := (own_cell hg zz nz 8).2.trans zf8
  replace z8 := (own_cell hg zz nz 8).1.trans z8
  replace zz := Nat.lt_of_lt_of_le zz hg.size
  replace kf0 := (own_cell hg kz nk 0).2.trans kf0
  replace k0 := (own_cell hg kz nk 0).1.trans k0
  replace kf1 := (own_cell hg kz nk 1).2.trans kf1
  replace k1 := (own_cell hg kz nk 1).1.trans k1
  replace kf2 := (own_cell hg kz nk 2).2.trans kf2
  replace k2 := (own_cell hg kz nk 2).1.trans k2
  replace kf3 := (own_cell hg kz nk 3).2.trans kf3
  replace k3 := (own_cell hg kz nk 3).1.trans k3
  replace kf4 := (own_cell hg kz nk 4).2.trans kf4
  replace k4 := (own_cell hg kz nk 4).1.trans k4
  replace kf5 := (own_cell hg kz nk 5).2.trans kf5
  replace k5 := (own_cell hg kz nk 5).1.trans k5
  replace kf6 := (own_cell hg kz nk 6).2.trans kf6
  replace k6 := (own_cell hg kz nk 6).1.trans k6
  replace kf7 := (own_cell hg kz nk 7).2.trans kf7
  replace k7 := (own_cell hg kz nk 7).1.trans k7
  replace kf8 := (own_cell hg kz nk 8).2.trans kf8
  replace k8 := (own_cell hg kz nk 8).1.trans k8
  replace kz := Nat.lt_of_lt_of_le kz hg.size
  replace HB := Lib.hid hB
  replace HST := Lib.hid hrd
  replace HR := Lib.hid hR
  replace HG := Lib.hid (HG.out.trans hg)
  clear hB hrd hR hg H2
  go_upto_region 4 with fail
  replace z0 : (w2.setCell ⟨w.heap.size + 1, 1, none⟩ (.string ⟨t2.toArray⟩)).cell? ⟨w.heap.size, 0, none⟩ = some (.int .i64 0) := by simp [go_sem, z0]
  replace zf0 : (w2.setCell ⟨w.heap.size + 1, 1, none⟩ (.string ⟨t2.toArray⟩)).frozen? ⟨w.heap.size, 0, none⟩ = false := by simp [go_sem, zf0]
  replace z1 : (w2.setCell ⟨w.heap.size + 1, 1, none⟩ (.string ⟨t2.toArray⟩)).cell? ⟨w.heap.size, 1, none⟩ = some (.string ⟨#[]⟩) := by simp [go_sem, z1]
  replace zf1 : (w2.setCell ⟨w.heap.size + 1, 1, none⟩ (.string ⟨t2.toArray⟩)).frozen? ⟨w.heap.size, 1, none⟩ = false := by simp [go_sem, zf1]
  replace z2 : (w2.setCell ⟨w.heap.size + 1, 1, none⟩ (.string ⟨t2.toArray⟩)).cell? ⟨w.heap.size, 2, none⟩ = some (.int .i64 0) := by simp [go_sem, z2]
  replace zf2 : (w2.setCell ⟨w.heap.size + 1, 1, none⟩ (.string ⟨t2.toArray⟩)).frozen? ⟨w.heap.size, 2, none⟩ = false := by simp [go_sem, zf2]
  replace z3 : (w2.setCell ⟨w.heap.size + 1, 1, none⟩ (.string ⟨t2.toArray⟩)).cell? ⟨w.heap.size, 3, none⟩ = some (.int .i64 0) := by simp [go_sem, z3]
  replace zf3 : (w2.setCell ⟨w.heap.size + 1, 1, none⟩ (.string ⟨t2.toArray⟩)).frozen? ⟨w.heap.size, 3, none⟩ = false := by simp [go_sem, zf3]
  replace z4 : (w2.setCell ⟨w.heap.size + 1, 1, none⟩ (.string ⟨t2.toArray⟩)).cell? ⟨w.heap.size, 4, none⟩ = some (.bool false) := by simp [go_sem, z4]
  replace zf4 : (w2.setCell ⟨w.heap.size + 1, 1, none⟩ (.string ⟨t2.toArray⟩)).frozen? ⟨w.heap.size, 4, none⟩ = false := by simp [go_sem, zf4]
  replace z5 : (w2.setCell ⟨w.heap.size + 1, 1, none⟩ (.string ⟨t2.toArray⟩)).cell? ⟨w.heap.size, 5, none⟩ = some (.int .i64 0) := by simp [go_sem, z5]
  replace zf5 : (w2.setCell ⟨w.heap.size + 1, 1, none⟩ (.string ⟨t2.toArray⟩)).frozen? ⟨w.heap.size, 5, none⟩ = false := by simp [go_sem, zf5]
  replace z6 : (w2.setCell ⟨w.heap.size + 1, 1, none⟩ (.string ⟨t2.toArray⟩)).cell? ⟨w.heap.size, 6, none⟩ = some (.int .i64 0) := by simp [go_sem, z6]
  replace zf6 : (w2.setCell ⟨w.heap.size + 1, 1, none⟩ (.string ⟨t2.toArray⟩)).frozen? ⟨w.heap.size, 6, none⟩ = false := by simp [go_sem, zf6]
  replace z7 : (w2.setCell ⟨w.heap.size + 1, 1, none⟩ (.string ⟨t2.toArray⟩)).cell? ⟨w.heap.size, 7, none⟩ = some (.string ⟨#[]⟩) := by simp [go_sem, z7]
  replace zf7 : (w2.setCell ⟨w.heap.size + 1, 1, none⟩ (.string ⟨t2.toArray⟩)).frozen? ⟨w.heap.size, 7, none⟩ = false := by simp [go_sem, zf7]
  replace z8 : (w2.setCell ⟨w.heap.size + 1, 1, none⟩ (.string ⟨t2.toArray⟩)).cell? ⟨w.heap.size, 8, none⟩ = some (.bool false) := by simp [go_sem, z8]
  replace zf8 : (w2.setCell ⟨w.heap.size + 1, 1, none⟩ (.string ⟨t2.toArray⟩)).frozen? ⟨w.heap.size, 8, none⟩ = false := by simp [go_sem, zf8]
  replace zz : w.heap.size < (w2.setCell ⟨w.heap.size + 1, 1, none⟩ (.string ⟨t2.toArray⟩)).heap.size := by simp <;> omega
  replace k0 : (w2.setCell ⟨w.heap.size + 1, 1, none⟩ (.string ⟨t2.toArray⟩)).cell? ⟨w.heap.size + 1, 0, none⟩ = some (.int .i64 n1) := by simp [go_sem, k0]
  replace kf0 : (w2.setCell ⟨w.heap.size + 1, 1, none⟩ (.string ⟨t2.toArray⟩)).frozen? ⟨w.heap.size + 1, 0, none⟩ = false := by simp [go_sem, kf0]
  replace k1 : (w2.setCell ⟨w.heap.size + 1, 1, none⟩ (.string ⟨t2.toArray⟩)).cell? ⟨w.heap.size + 1, 1, none⟩ = some (.string ⟨t2.toArray⟩) := by simp [go_sem, k1]
  replace kf1 : (w2.setCell ⟨w.heap.size + 1, 1, none⟩ (.string ⟨t2.toArray⟩)).frozen? ⟨w.heap.size + 1, 1, none⟩ = false := by simp [go_sem, kf1]
  replace k2 : (w2.setCell ⟨w.heap.size + 1, 1, none⟩ (.string ⟨t2.toArray⟩)).cell? ⟨w.heap.size + 1, 2, none⟩ = some (.int .i64 0) := by simp [go_sem, k2]
  replace kf2 : (w2.setCell ⟨w.heap.size + 1, 1, none⟩ (.string ⟨t2.toArray⟩)).frozen? ⟨w.heap.size + 1, 2, none⟩ = false := by simp [go_sem, kf2]
  replace k3 : (w2.setCell ⟨w.heap.size + 1, 1, none⟩ (.string ⟨t2.toArray⟩)).cell? ⟨w.heap.size + 1, 3, none⟩ = some (.int .i64 0) := by simp [go_sem, k3]
  replace kf3 : (w2.setCell ⟨w.heap.size + 1, 1, none⟩ (.string ⟨t2.toArray⟩)).frozen? ⟨w.heap.size + 1, 3, none⟩ = false := by simp [go_sem, kf3]
  replace k4 : (w2.setCell ⟨w.heap.size + 1, 1, none⟩ (.string ⟨t2.toArray⟩)).cell? ⟨w.heap.size + 1, 4, none⟩ = some (.bool false) := by simp [go_sem, k4]
  replace kf4 : (w2.setCell ⟨w.heap.size + 1, 1, none⟩ (.string ⟨t2.toArray⟩)).frozen? ⟨w.heap.size + 1, 4, none⟩ = false := by simp [go_sem, kf4]
  replace k5 : (w2.setCell ⟨w.heap.size + 1, 1, none⟩ (.string ⟨t2.toArray⟩)).cell? ⟨w.heap.size + 1, 5, none⟩ = some (.int .i64 0) := by simp [go_sem, k5]
  replace kf5 : (w2.setCell ⟨w.heap.size + 1, 1, none⟩ (.string ⟨t2.toArray⟩)).frozen? ⟨w.heap.size + 1, 5, none⟩ = false := by simp [go_sem, kf5]
  replace k6 : (w2.setCell ⟨w.heap.size + 1, 1, none⟩ (.string ⟨t2.toArray⟩)).cell? ⟨w.heap.size + 1, 6, none⟩ = some (.int .i64 0) := by simp [go_sem, k6]
  replace kf6 : (w2.setCell ⟨w.heap.size + 1, 1, none⟩ (.string ⟨t2.toArray⟩)).frozen? ⟨w.heap.size + 1, 6, none⟩ = false := by simp [go_sem, kf6]
  replace k7 : (w2.setCell ⟨w.heap.size + 1, 1, none⟩ (.string ⟨t2.toArray⟩)).cell? ⟨w.heap.size + 1, 7, none⟩ = some (.string ⟨#[]⟩) := by simp [go_sem, k7]
  replace kf7 : (w2.setCell ⟨w.heap.size + 1, 1, none⟩ (.string ⟨t2.toArray⟩)).frozen? ⟨w.heap.size + 1, 7, none⟩ = false := by simp [go_sem, kf7]
  replace k8 : (w2.setCell ⟨w.heap.size + 1, 1, none⟩ (.string ⟨t2.toArray⟩)).cell? ⟨w.heap.size + 1, 8, none⟩ = some (.bool false) := by simp [go_sem, k8]
  replace kf8 : (w2.setCell ⟨w.heap.size + 1, 1, none⟩ (.string ⟨t2.toArray⟩)).frozen? ⟨w.heap.size + 1, 8, none⟩ = false := by simp [go_sem, kf8]
  replace kz : w.heap.size + 1 < (w2.setCell ⟨w.heap.size + 1, 1, none⟩ (.string ⟨t2.toArray⟩)).heap.size := by simp <;> omega
  replace HR : Hid (RefAt (w2.setCell ⟨w.heap.size + 1, 1, none⟩ (.string ⟨t2.toArray⟩)) Q g s2) := (HR.out.setOwn NQ.out (by rw [HB.out]; exact NG.out) _)
  replace HG : Hid (w.grownBy (w2.setCell ⟨w.heap.size + 1, 1, none⟩ (.string ⟨t2.toArray⟩)) (some Q)) := (grown_own HG.out (by simp) _)
  generalize (w2.setCell ⟨w.heap.size + 1, 1, none⟩ (.string ⟨t2.toArray⟩)) = Vw2 at *
  go_wp2_with fail
  refine (rn 1048576 _ HB.out HST.out H3.out HR.out).mono ?_
  rintro e w3 ⟨rfl, ⟨s3, hB, hrd, hR⟩, hg⟩
  replace zf0 := (own_cell hg zz nz 0).2.trans zf0
  replace z0 := (own_cell hg zz nz 0).1.trans z0
  replace zf1 := (own_cell hg zz nz 1).2.trans zf1
  replace z1 := (own_cell hg zz nz 1).1.trans z1
  replace zf2 := (own_cell hg zz nz 2).2.trans zf2
  replace z2 := (own_cell hg zz nz 2).1.trans z2
  replace zf3 := (own_cell hg zz nz 3).2.trans zf3
  replace z3 := (own_cell hg zz nz 3).1.trans z3
  replace zf4 := (own_cell hg zz nz 4).2.trans zf4
  replace z4 := (own_cell hg zz nz 4).1.trans z4
  replace zf5 := (own_cell hg zz nz 5).2.trans zf5
  replace z5 := (own_cell hg zz nz 5).1.trans z5
  replace zf6 := (own_cell hg zz nz 6).2.trans zf6
  replace z6 := (own_cell hg zz nz 6).1.trans z6
  replace zf7 := (own_cell hg zz nz 7).2.trans zf7
  replace z7 := (own_cell hg zz nz 7).1.trans z7
  replace zf8 := (own_cell hg zz nz 8).2.trans zf8
  replace z8 := (own_cell hg zz nz 8).1.trans z8
  replace zz := Nat.lt_of_lt_of_le zz hg.size
  replace kf0 := (own_cell hg kz nk 0).2.trans kf0
  replace k0 := (own_cell hg kz nk 0).1.trans k0
  replace kf1 := (own_cell hg kz nk 1).2.trans kf1
  replace k1 := (own_cell hg kz nk 1).1.trans k1
  replace kf2 := (own_cell hg kz nk 2).2.trans kf2
  replace k2 := (own_cell hg kz nk 2).1.trans k2
  replace kf3 := (own_cell hg kz nk 3).2.trans kf3
  replace k3 := (own_cell hg kz nk 3).1.trans k3
  replace kf4 := (own_cell hg kz nk 4).2.trans kf4
  replace k4 := (own_cell hg kz nk 4).1.trans k4
  replace kf5 := (own_cell hg kz nk 5).2.trans kf5
  replace k5 := (own_cell hg kz nk 5).1.trans k5
  replace kf6 := (own_cell hg kz nk 6).2.trans kf6
  replace k6 := (own_cell hg kz nk 6).1.trans k6
  replace kf7 := (own_cell hg kz nk 7).2.trans kf7
  replace k7 := (own_cell hg kz nk 7).1.trans k7
  replace kf8 := (own_cell hg kz nk 8).2.trans kf8
  replace k8 := (own_cell hg kz nk 8).1.trans k8
  replace kz := Nat.lt_of_lt_of_le kz hg.size
  replace HB := Lib.hid hB
  replace HST := Lib.hid hrd
  replace HR := Lib.hid hR
  replace HG := Lib.hid (HG.out.trans hg)
  clear hB hrd hR hg H3
  go_upto_region 5 with fail
  replace z0 : (w3.setCell ⟨w.heap.size + 1, 2, none⟩ (.int .i64 n3)).cell? ⟨w.heap.size, 0, none⟩ = some (.int .i64 0) := by simp [go_sem, z0]
  replace zf0 : (w3.setCell ⟨w.heap.size + 1, 2, none⟩ (.int .i64 n3)).frozen? ⟨w.heap.size, 0, none⟩ = false := by simp [go_sem, zf0]
  replace z1 : (w3.setCell ⟨w.heap.size + 1, 2, none⟩ (.int .i64 n3)).cell? ⟨w.heap.size, 1, none⟩ = some (.string ⟨#[]⟩) := by simp [go_sem, z1]
  replace zf1 : (w3.setCell ⟨w.heap.size + 1, 2, none⟩ (.int .i64 n3)).frozen? ⟨w.heap.size, 1, none⟩ = false := by simp [go_sem, zf1]
  replace z2 : (w3.setCell ⟨w.heap.size + 1, 2, none⟩ (.int .i64 n3)).cell? ⟨w.heap.size, 2, none⟩ = some (.int .i64 0) := by simp [go_sem, z2]
  replace zf2 : (w3.setCell ⟨w.heap.size + 1, 2, none⟩ (.int .i64 n3)).frozen? ⟨w.heap.size, 2, none⟩ = false := by simp [go_sem, zf2]
  replace z3 : (w3.setCell ⟨w.heap.size + 1, 2, none⟩ (.int .i64 n3)).cell? ⟨w.heap.size, 3, none⟩ = some (.int .i64 0) := by simp [go_sem, z3]
  replace zf3 : (w3.setCell ⟨w.heap.size + 1, 2, none⟩ (.int .i64 n3)).frozen? ⟨w.heap.size, 3, none⟩ = false := by simp [go_sem, zf3]
  replace z4 : (w3.setCell ⟨w.heap.size + 1, 2, none⟩ (.int .i64 n3)).cell? ⟨w.heap.size, 4, none⟩ = some (.bool false) := by simp [go_sem, z4]
  replace zf4 : (w3.setCell ⟨w.heap.size + 1, 2, none⟩ (.int .i64 n3)).frozen? ⟨w.heap.size, 4, none⟩ = false := by simp [go_sem, zf4]
  replace z5 : (w3.setCell ⟨w.heap.size + 1, 2, none⟩ (.int .i64 n3)).cell? ⟨w.heap.size, 5, none⟩ = some (.int .i64 0) := by simp [go_sem, z5]
  replace zf5 : (w3.setCell ⟨w.heap.size + 1, 2, none⟩ (.int .i64 n3)).frozen? ⟨w.heap.size, 5, none⟩ = false := by simp [go_sem, zf5]
  replace z6 : (w3.setCell ⟨w.heap.size + 1, 2, none⟩ (.int .i64 n3)).cell? ⟨w.heap.size, 6, none⟩ = some (.int .i64 0) := by simp [go_sem, z6]
  replace zf6 : (w3.setCell ⟨w.heap.size + 1, 2, none⟩ (.int .i64 n3)).frozen? ⟨w.heap.size, 6, none⟩ = false := by simp [go_sem, zf6]
  replace z7 : (w3.setCell ⟨w.heap.size + 1, 2, none⟩ (.int .i64 n3)).cell? ⟨w.heap.size, 7, none⟩ = some (.string ⟨#[]⟩) := by simp [go_sem, z7]
  replace zf7 : (w3.setCell ⟨w.heap.size + 1, 2, none⟩ (.int .i64 n3)).frozen? ⟨w.heap.size, 7, none⟩ = false := by simp [go_sem, zf7]
  replace z8 : (w3.setCell ⟨w.heap.size + 1, 2, none⟩ (.int .i64 n3)).cell? ⟨w.heap.size, 8, none⟩ = some (.bool false) := by simp [go_sem, z8]
  replace zf8 : (w3.setCell ⟨w.heap.size + 1, 2, none⟩ (.int .i64 n3)).frozen? ⟨w.heap.size, 8, none⟩ = false := by simp [go_sem, zf8]
  replace zz : w.heap.size < (w3.setCell ⟨w.heap.size + 1, 2, none⟩ (.int .i64 n3)).heap.size := by simp <;> omega
  replace k0 : (w3.setCell ⟨w.heap.size + 1, 2, none⟩ (.int .i64 n3)).cell? ⟨w.heap.size + 1, 0, none⟩ = some (.int .i64 n1) := by simp [go_sem, k0]
  replace kf0 : (w3.setCell ⟨w.heap.size + 1, 2, none⟩ (.int .i64 n3)).frozen? ⟨w.heap.size + 1, 0, none⟩ = false := by simp [go_sem, kf0]
  replace k1 : (w3.setCell ⟨w.heap.size + 1, 2, none⟩ (.int .i64 n3)).cell? ⟨w.heap.size + 1, 1, none⟩ = some (.string ⟨t2.toArray⟩) := by simp [go_sem, k1]
  replace kf1 : (w3.setCell ⟨w.heap.size + 1, 2, none⟩ (.int .i64 n3)).frozen? ⟨w.heap.size + 1, 1, none⟩ = false := by simp [go_sem, kf1]
  replace k2 : (w3.setCell ⟨w.heap.size + 1, 2, none⟩ (.int .i64 n3)).cell? ⟨w.heap.size + 1, 2, none⟩ = some (.int .i64 n3) := by simp [go_sem, k2]
  replace kf2 : (w3.setCell ⟨w.heap.size + 1, 2, none⟩ (.int .i64 n3)).frozen? ⟨w.heap.size + 1, 2, none⟩ = false := by simp [go_sem, kf2]
  replace k3 : (w3.setCell ⟨w.heap.size + 1, 2, none⟩ (.int .i64 n3)).cell? ⟨w.heap.size + 1, 3, none⟩ = some (.int .i64 0) := by simp [go_sem, k3]
  replace kf3 : (w3.setCell ⟨w.heap.size + 1, 2, none⟩ (.int .i64 n3)).frozen? ⟨w.heap.size + 1, 3, none⟩ = false := by simp [go_sem, kf3]
  replace k4 : (w3.setCell ⟨w.heap.size + 1, 2, none⟩ (.int .i64 n3)).cell? ⟨w.heap.size + 1, 4, none⟩ = some (.bool false) := by simp [go_sem, k4]
  replace kf4 : (w3.setCell ⟨w.heap.size + 1, 2, none⟩ (.int .i64 n3)).frozen? ⟨w.heap.size + 1, 4, none⟩ = false := by simp [go_sem, kf4]
  replace k5 : (w3.setCell ⟨w.heap.size + 1, 2, none⟩ (.int .i64 n3)).cell? ⟨w.heap.size + 1, 5, none⟩ = some (.int .i64 0) := by simp [go_sem, k5]
  replace kf5 : (w3.setCell ⟨w.heap.size + 1, 2, none⟩ (.int .i64 n3)).frozen? ⟨w.heap.size + 1, 5, none⟩ = false := by simp [go_sem, kf5]
  replace k6 : (w3.setCell ⟨w.heap.size + 1, 2, none⟩ (.int .i64 n3)).cell? ⟨w.heap.size + 1, 6, none⟩ = some (.int .i64 0) := by simp [go_sem, k6]
  replace kf6 : (w3.setCell ⟨w.heap.size + 1, 2, none⟩ (.int .i64 n3)).frozen? ⟨w.heap.size + 1, 6, none⟩ = false := by simp [go_sem, kf6]
  replace k7 : (w3.setCell ⟨w.heap.size + 1, 2, none⟩ (.int .i64 n3)).cell? ⟨w.heap.size + 1, 7, none⟩ = some (.string ⟨#[]⟩) := by simp [go_sem, k7]
  replace kf7 : (w3.setCell ⟨w.heap.size + 1, 2, none⟩ (.int .i64 n3)).frozen? ⟨w.heap.size + 1, 7, none⟩ = false := by simp [go_sem, kf7]
  replace k8 : (w3.setCell ⟨w.heap.size + 1, 2, none⟩ (.int .i64 n3)).cell? ⟨w.heap.size + 1, 8, none⟩ = some (.bool false) := by simp [go_sem, k8]
  replace kf8 : (w3.setCell ⟨w.heap.size + 1, 2, none⟩ (.int .i64 n3)).frozen? ⟨w.heap.size + 1, 8, none⟩ = false := by simp [go_sem, kf8]
  replace kz : w.heap.size + 1 < (w3.setCell ⟨w.heap.size + 1, 2, none⟩ (.int .i64 n3)).heap.size := by simp <;> omega
  replace HR : Hid (RefAt (w3.setCell ⟨w.heap.size + 1, 2, none⟩ (.int .i64 n3)) Q g s3) := (HR.out.setOwn NQ.out (by rw [HB.out]; exact NG.out) _)
  replace HG : Hid (w.grownBy (w3.setCell ⟨w.heap.size + 1, 2, none⟩ (.int .i64 n3)) (some Q)) := (grown_own HG.out (by simp) _)
  generalize (w3.setCell ⟨w.heap.size + 1, 2, none⟩ (.int .i64 n3)) = Vw3 at *
  go_wp2_with fail
  refine (rn 1048576 _ HB.out HST.out H4.out HR.out).mono ?_
  rintro e w4 ⟨rfl, ⟨s4, hB, hrd, hR⟩, hg⟩
  replace zf0 := (own_cell hg zz nz 0).2.trans zf0
  replace z0 := (own_cell hg zz nz 0).1.trans z0
  replace zf1 := (own_cell hg zz nz 1).2.trans zf1
  replace z1 := (own_cell hg zz nz 1).1.trans z1
  replace zf2 := (own_cell hg zz nz 2).2.trans zf2
  replace z2 := (own_cell hg zz nz 2).1.trans z2
  replace zf3 := (own_cell hg zz nz 3).2.trans zf3
  replace z3 := (own_cell hg zz nz 3).1.trans z3
  replace zf4 := (own_cell hg zz nz 4).2.trans zf4
  replace z4 := (own_cell hg zz nz 4).1.trans z4
  replace zf5 := (own_cell hg zz nz 5).2.trans zf5
  replace z5 := (own_cell hg zz nz 5).1.trans z5
  replace zf6 := (own_cell hg zz nz 6).2.trans zf6
  replace z6 := (own_cell hg zz nz 6).1.trans z6
  replace zf7 := (own_cell hg zz nz 7).2.trans zf7
  replace z7 := (own_cell hg zz nz 7).1.trans z7
  replace zf8 := (own_cell hg zz nz 8).2.trans zf8
  replace z8 := (own_cell hg zz nz 8).1.trans z8
  replace zz := Nat.lt_of_lt_of_le zz hg.size
  replace kf0 := (own_cell hg kz nk 0).2.trans kf0
  replace k0 := (own_cell hg kz nk 0).1.trans k0
  replace kf1 := (own_cell hg kz nk 1).2.trans kf1
  replace k1 := (own_cell hg kz nk 1).1.trans k1
  replace kf2 := (own_cell hg kz nk 2).2.trans kf2
  replace k2 := (own_cell hg kz nk 2).1.trans k2
  replace kf3 := (own_cell hg kz nk 3).2.trans kf3
  replace k3 := (own_cell hg kz nk 3).1.trans k3
  replace kf4 := (own_cell hg kz nk 4).2.trans kf4
  replace k4 := (own_cell hg kz nk 4).1.trans k4
  replace kf5 := (own_cell hg kz nk 5).2.trans kf5
  replace k5 := (own_cell hg kz nk 5).1.trans k5
  replace kf6 := (own_cell hg kz nk 6).2.trans kf6
  replace k6 := (own_cell hg kz nk 6).1.trans k6
  replace kf7 := (own_cell hg kz nk 7).2.trans kf7
  replace k7 := (own_cell hg kz nk 7).1.trans k7
  replace kf8 := (own_cell hg kz nk 8).2.trans kf8
  replace k8 := (own_cell hg kz nk 8).1.trans k8
  replace kz := Nat.lt_of_lt_of_le kz hg.size
  replace HB := Lib.hid hB
  replace HST := Lib.hid hrd
  replace HR := Lib.hid hR
  replace HG := Lib.hid (HG.out.trans hg)
  clear hB hrd hR hg H4
  go_upto_region 6 with fail
  replace z0 : (w4.setCell ⟨w.heap.size + 1, 3, none⟩ (.int .i64 n4)).cell? ⟨w.heap.size, 0, none⟩ = some (.int .i64 0) := by simp [go_sem, z0]
  replace zf0 : (w4.setCell ⟨w.heap.size + 1, 3, none⟩ (.int .i64 n4)).frozen? ⟨w.heap.size, 0, none⟩ = false := by simp [go_sem, zf0]
  replace z1 : (w4.setCell ⟨w.heap.size + 1, 3, none⟩ (.int .i64 n4)).cell? ⟨w.heap.size, 1, none⟩ = some (.string ⟨#[]⟩) := by simp [go_sem, z1]
  replace zf1 : (w4.setCell ⟨w.heap.size + 1, 3, none⟩ (.int .i64 n4)).frozen? ⟨w.heap.size, 1, none⟩ = false := by simp [go_sem, zf1]
  replace z2 : (w4.setCell ⟨w.heap.size + 1, 3, none⟩ (.int .i64 n4)).cell? ⟨w.heap.size, 2, none⟩ = some (.int .i64 0) := by simp [go_sem, z2]
  replace zf2 : (w4.setCell ⟨w.heap.size + 1, 3, none⟩ (.int .i64 n4)).frozen? ⟨w.heap.size, 2, none⟩ = false := by simp [go_sem, zf2]
  replace z3 : (w4.setCell ⟨w.heap.size + 1, 3, none⟩ (.int .i64 n4)).cell? ⟨w.heap.size, 3, none⟩ = some (.int .i64 0) := by simp [go_sem, z3]
  replace zf3 : (w4.setCell ⟨w.heap.size + 1, 3, none⟩ (.int .i64 n4)).frozen? ⟨w.heap.size, 3, none⟩ = false := by simp [go_sem, zf3]
  replace z4 : (w4.setCell ⟨w.heap.size + 1, 3, none⟩ (.int .i64 n4)).cell? ⟨w.heap.size, 4, none⟩ = some (.bool false) := by simp [go_sem, z4]
  replace zf4 : (w4.setCell ⟨w.heap.size + 1, 3, none⟩ (.int .i64 n4)).frozen? ⟨w.heap.size, 4, none⟩ = false := by simp [go_sem, zf4]
  replace z5 : (w4.setCell ⟨w.heap.size + 1, 3, none⟩ (.int .i64 n4)).cell? ⟨w.heap.size, 5, none⟩ = some (.int .i64 0) := by simp [go_sem, z5]
  replace zf5 : (w4.setCell ⟨w.heap.size + 1, 3, none⟩ (.int .i64 n4)).frozen? ⟨w.heap.size, 5, none⟩ = false := by simp [go_sem, zf5]
  replace z6 : (w4.setCell ⟨w.heap.size + 1, 3, none⟩ (.int .i64 n4)).cell? ⟨w.heap.size, 6, none⟩ = some (.int .i64 0) := by simp [go_sem, z6]
  replace zf6 : (w4.setCell ⟨w.heap.size + 1, 3, none⟩ (.int .i64 n4)).frozen? ⟨w.heap.size, 6, none⟩ = false := by simp [go_sem, zf6]
  replace z7 : (w4.setCell ⟨w.heap.size + 1, 3, none⟩ (.int .i64 n4)).cell? ⟨w.heap.size, 7, none⟩ = some (.string ⟨#[]⟩) := by simp [go_sem, z7]
  replace zf7 : (w4.setCell ⟨w.heap.size + 1, 3, none⟩ (.int .i64 n4)).frozen? ⟨w.heap.size, 7, none⟩ = false := by simp [go_sem, zf7]
  replace z8 : (w4.setCell ⟨w.heap.size + 1, 3, none⟩ (.int .i64 n4)).cell? ⟨w.heap.size, 8, none⟩ = some (.bool false) := by simp [go_sem, z8]
  replace zf8 : (w4.setCell ⟨w.heap.size + 1, 3, none⟩ (.int .i64 n4)).frozen? ⟨w.heap.size, 8, none⟩ = false := by simp [go_sem, zf8]
  replace zz : w.heap.size < (w4.setCell ⟨w.heap.size + 1, 3, none⟩ (.int .i64 n4)).heap.size := by simp <;> omega
  replace k0 : (w4.setCell ⟨w.heap.size + 1, 3, none⟩ (.int .i64 n4)).cell? ⟨w.heap.size + 1, 0, none⟩ = some (.int .i64 n1) := by simp [go_sem, k0]
  replace kf0 : (w4.setCell ⟨w.heap.size + 1, 3, none⟩ (.int .i64 n4)).frozen? ⟨w.heap.size + 1, 0, none⟩ = false := by simp [go_sem, kf0]
  replace k1 : (w4.setCell ⟨w.heap.size + 1, 3, none⟩ (.int .i64 n4)).cell? ⟨w.heap.size + 1, 1, none⟩ = some (.string ⟨t2.toArray⟩) := by simp [go_sem, k1]
  replace kf1 : (w4.setCell ⟨w.heap.size + 1, 3, none⟩ (.int .i64 n4)).frozen? ⟨w.heap.size + 1, 1, none⟩ = false := by simp [go_sem, kf1]
  replace k2 : (w4.setCell ⟨w.heap.size + 1, 3, none⟩ (.int .i64 n4)).cell? ⟨w.heap.size + 1, 2, none⟩ = some (.int .i64 n3) := by simp [go_sem, k2]
  replace kf2 : (w4.setCell ⟨w.heap.size + 1, 3, none⟩ (.int .i64 n4)).frozen? ⟨w.heap.size + 1, 2, none⟩ = false := by simp [go_sem, kf2]
  replace k3 : (w4.setCell ⟨w.heap.size + 1, 3, none⟩ (.int .i64 n4)).cell? ⟨w.heap.size + 1, 3, none⟩ = some (.int .i64 n4) := by simp [go_sem, k3]
  replace kf3 : (w4.setCell ⟨w.heap.size + 1, 3, none⟩ (.int .i64 n4)).frozen? ⟨w.heap.size + 1, 3, none⟩ = false := by simp [go_sem, kf3]
  replace k4 : (w4.setCell ⟨w.heap.size + 1, 3, none⟩ (.int .i64 n4)).cell? ⟨w.heap.size + 1, 4, none⟩ = some (.bool false) := by simp [go_sem, k4]
  replace kf4 : (w4.setCell ⟨w.heap.size + 1, 3, none⟩ (.int .i64 n4)).frozen? ⟨w.heap.size + 1, 4, none⟩ = false := by simp [go_sem, kf4]
  replace k5 : (w4.setCell ⟨w.heap.size + 1, 3, none⟩ (.int .i64 n4)).cell? ⟨w.heap.size + 1, 5, none⟩ = some (.int .i64 0) := by simp [go_sem, k5]
  replace kf5 : (w4.setCell ⟨w.heap.size + 1, 3, none⟩ (.int .i64 n4)).frozen? ⟨w.heap.size + 1, 5, none⟩ = false := by simp [go_sem, kf5]
  replace k6 : (w4.setCell ⟨w.heap.size + 1, 3, none⟩ (.int .i64 n4)).cell? ⟨w.heap.size + 1, 6, none⟩ = some (.int .i64 0) := by simp [go_sem, k6]
  replace kf6 : (w4.setCell ⟨w.heap.size + 1, 3, none⟩ (.int .i64 n4)).frozen? ⟨w.heap.size + 1, 6, none⟩ = false := by simp [go_sem, kf6]
  replace k7 : (w4.setCell ⟨w.heap.size + 1, 3, none⟩ (.int .i64 n4)).cell? ⟨w.heap.size + 1, 7, none⟩ = some (.string ⟨#[]⟩) := by simp [go_sem, k7]
  replace kf7 : (w4.setCell ⟨w.heap.size + 1, 3, none⟩ (.int .i64 n4)).frozen? ⟨w.heap.size + 1, 7, none⟩ = false := by simp [go_sem, kf7]
  replace k8 : (w4.setCell ⟨w.heap.size + 1, 3, none⟩ (.int .i64 n4)).cell? ⟨w.heap.size + 1, 8, none⟩ = some (.bool false) := by simp [go_sem, k8]
  replace kf8 : (w4.setCell ⟨w.heap.size + 1, 3, none⟩ (.int .i64 n4)).frozen? ⟨w.heap.size + 1, 8, none⟩ = false := by simp [go_sem, kf8]
  replace kz : w.heap.size + 1 < (w4.setCell ⟨w.heap.size + 1, 3, none⟩ (.int .i64 n4)).heap.size := by simp <;> omega
  replace HR : Hid (RefAt (w4.setCell ⟨w.heap.size + 1, 3, none⟩ (.int .i64 n4)) Q g s4) := (HR.out.setOwn NQ.out (by rw [HB.out]; exact NG.out) _)
  replace HG : Hid (w.grownBy (w4.setCell ⟨w.heap.size + 1, 3, none⟩ (.int .i64 n4)) (some Q)) := (grown_own HG.out (by simp) _)
  generalize (w4.setCell ⟨w.heap.size + 1, 3, none⟩ (.int .i64 n4)) = Vw4 at *
  go_wp2_with fail
  refine (rn 2 _ HB.out HST.out H5.out HR.out).mono ?_
  rintro e w5 ⟨rfl, ⟨s5, hB, hrd, hR⟩, hg⟩
  replace zf0 := (own_cell hg zz nz 0).2.trans zf0
  replace z0 := (own_cell hg zz nz 0).1.trans z0
  replace zf1 := (own_cell hg zz nz 1).2.trans zf1
  replace z1 := (own_cell hg zz nz 1).1.trans z1
  replace zf2 := (own_cell hg zz nz 2).2.trans zf2
  replace z2 := (own_cell hg zz nz 2).1.trans z2
  replace zf3 := (own_cell hg zz nz 3).2.trans zf3
  replace z3 := (own_cell hg zz nz 3).1.trans z3
  replace zf4 := (own_cell hg zz nz 4).2.trans zf4
  replace z4 := (own_cell hg zz nz 4).1.trans z4
  replace zf5 := (own_cell hg zz nz 5).2.trans zf5
  replace z5 := (own_cell hg zz nz 5).1.trans z5
  replace zf6 := (own_cell hg zz nz 6).2.trans zf6
  replace z6 := (own_cell hg zz nz 6).1.trans z6
  replace zf7 := (own_cell hg zz nz 7).2.trans zf7
  replace z7 := (own_cell hg zz nz 7).1.trans z7
  replace zf8 := (own_cell hg zz nz 8).2.trans zf8
  replace z8 := (own_cell hg zz nz 8).1.trans z8
  replace zz := Nat.lt_of_lt_of_le zz hg.size
  replace kf0 := (own_cell hg kz nk 0).2.trans kf0
  replace k0 := (own_cell hg kz nk 0).1.trans k0
  replace kf1 := (own_cell hg kz nk 1).2.trans kf1
  replace k1 := (own_cell hg kz nk 1).1.trans k1
  replace kf2 := (own_cell hg kz nk 2).2.trans kf2
  replace k2 := (own_cell hg kz nk 2).1.trans k2
  replace kf3 := (own_cell hg kz nk 3).2.trans kf3
  replace k3 := (own_cell hg kz nk 3).1.trans k3
  replace kf4 := (own_cell hg kz nk 4).2.trans kf4
  replace k4 := (own_cell hg kz nk 4).1.trans k4
  replace kf5 := (own_cell hg kz nk 5).2.trans kf5
  replace k5 := (own_cell hg kz nk 5).1.trans k5
  replace kf6 := (own_cell hg kz nk 6).2.trans kf6
  replace k6 := (own_cell hg kz nk 6).1.trans k6
  replace kf7 := (own_cell hg kz nk 7).2.trans kf7
  replace k7 := (own_cell hg kz nk 7).1.trans k7
  replace kf8 := (own_cell hg kz nk 8).2.trans kf8
  replace k8 := (own_cell hg kz nk 8).1.trans k8
  replace kz := Nat.lt_of_lt_of_le kz hg.size
  replace HB := Lib.hid hB
  replace HST := Lib.hid hrd
  replace HR := Lib.hid hR
  replace HG := Lib.hid (HG.out.trans hg)
  clear hB hrd hR hg H5
  go_upto_region 9 with fail
  replace z0 : ((w5.setCell ⟨w.heap.size + 1, 4, none⟩ (.bool false)).setCell ⟨w.heap.size + 1, 8, none⟩ (.bool false)).cell? ⟨w.heap.size, 0, none⟩ = some (.int .i64 0) := by simp [go_sem, z0]
  replace zf0 : ((w5.setCell ⟨w.heap.size + 1, 4, none⟩ (.bool false)).setCell ⟨w.heap.size + 1, 8, none⟩ (.bool false)).frozen? ⟨w.heap.size, 0, none⟩ = false := by simp [go_sem, zf0]
  replace z1 : ((w5.setCell ⟨w.heap.size + 1, 4, none⟩ (.bool false)).setCell ⟨w.heap.size + 1, 8, none⟩ (.bool false)).cell? ⟨w.heap.size, 1, none⟩ = some (.string ⟨#[]⟩) := by simp [go_sem, z1]
  replace zf1 : ((w5.setCell ⟨w.heap.size + 1, 4, none⟩ (.bool false)).setCell ⟨w.heap.size + 1, 8, none⟩ (.bool false)).frozen? ⟨w.heap.size, 1, none⟩ = false := by simp [go_sem, zf1]
  replace z2 : ((w5.setCell ⟨w.heap.size + 1, 4, none⟩ (.bool false)).setCell ⟨w.heap.size + 1, 8, none⟩ (.bool false)).cell? ⟨w.heap.size, 2, none⟩ = some (.int .i64 0) := by simp [go_sem, z2]
  replace zf2 : ((w5.setCell ⟨w.heap.size + 1, 4, none⟩ (.bool false)).setCell ⟨w.heap.size + 1, 8, none⟩ (.bool false)).frozen? ⟨w.heap.size, 2, none⟩ = false := by simp [go_sem, zf2]
  replace z3 : ((w5.setCell ⟨w.heap.size + 1, 4, none⟩ (.bool false)).setCell ⟨w.heap.size + 1, 8, none⟩ (.bool false)).cell? ⟨w.heap.size, 3, none⟩ = some (.int .i64 0) := by simp [go_sem, z3]
  replace zf3 : ((w5.setCell ⟨w.heap.size + 1, 4, none⟩ (.bool false)).setCell ⟨w.heap.size + 1, 8, none⟩ (.bool false)).frozen? ⟨w.heap.size, 3, none⟩ = false := by simp [go_sem, zf3]
  replace z4 : ((w5.setCell ⟨w.heap.size + 1, 4, none⟩ (.bool false)).setCell ⟨w.heap.size + 1, 8, none⟩ (.bool false)).cell? ⟨w.heap.size, 4, none⟩ = some (.bool false) := by simp [go_sem, z4]
  replace zf4 : ((w5.setCell ⟨w.heap.size + 1, 4, none⟩ (.bool false)).setCell ⟨w.heap.size + 1, 8, none⟩ (.bool false)).frozen? ⟨w.heap.size, 4, none⟩ = false := by simp [go_sem, zf4]
  replace z5 : ((w5.setCell ⟨w.heap.size + 1, 4, none⟩ (.bool false)).setCell ⟨w.heap.size + 1, 8, none⟩ (.bool false)).cell? ⟨w.heap.size, 5, none⟩ = some (.int .i64 0) := by simp [go_sem, z5]
  replace zf5 : ((w5.setCell ⟨w.heap.size + 1, 4, none⟩ (.bool false)).setCell ⟨w.heap.size + 1, 8, none⟩ (.bool false)).frozen? ⟨w.heap.size, 5, none⟩ = false := by simp [go_sem, zf5]
  replace z6 : ((w5.setCell ⟨w.heap.size + 1, 4, none⟩ (.bool false)).setCell ⟨w.heap.size + 1, 8, none⟩ (.bool false)).cell? ⟨w.heap.size, 6, none⟩ = some (.int .i64 0) := by simp [go_sem, z6]
  replace zf6 : ((w5.setCell ⟨w.heap.size + 1, 4, none⟩ (.bool false)).setCell ⟨w.heap.size + 1, 8, none⟩ (.bool false)).frozen? ⟨w.heap.size, 6, none⟩ = false := by simp [go_sem, zf6]
  replace z7 : ((w5.setCell ⟨w.heap.size + 1, 4, none⟩ (.bool false)).setCell ⟨w.heap.size + 1, 8, none⟩ (.bool false)).cell? ⟨w.heap.size, 7, none⟩ = some (.string ⟨#[]⟩) := by simp [go_sem, z7]
  replace zf7 : ((w5.setCell ⟨w.heap.size + 1, 4, none⟩ (.bool false)).setCell ⟨w.heap.size + 1, 8, none⟩ (.bool false)).frozen? ⟨w.heap.size, 7, none⟩ = false := by simp [go_sem, zf7]
  replace z8 : ((w5.setCell ⟨w.heap.size + 1, 4, none⟩ (.bool false)).setCell ⟨w.heap.size + 1, 8, none⟩ (.bool false)).cell? ⟨w.heap.size, 8, none⟩ = some (.bool false) := by simp [go_sem, z8]
  replace zf8 : ((w5.setCell ⟨w.heap.size + 1, 4, none⟩ (.bool false)).setCell ⟨w.heap.size + 1, 8, none⟩ (.bool false)).frozen? ⟨w.heap.size, 8, none⟩ = false := by simp [go_sem, zf8]
  replace zz : w.heap.size < ((w5.setCell ⟨w.heap.size + 1, 4, none⟩ (.bool false)).setCell ⟨w.heap.size + 1, 8, none⟩ (.bool false)).heap.size := by simp <;> omega
  replace k0 : ((w5.setCell ⟨w.heap.size + 1, 4, none⟩ (.bool false)).setCell ⟨w.heap.size + 1, 8, none⟩ (.bool false)).cell? ⟨w.heap.size + 1, 0, none⟩ = some (.int .i64 n1) := by simp [go_sem, k0]
  replace kf0 : ((w5.setCell ⟨w.heap.size + 1, 4, none⟩ (.bool false)).setCell ⟨w.heap.size + 1, 8, none⟩ (.bool false)).frozen? ⟨w.heap.size + 1, 0, none⟩ = false := by simp [go_sem, kf0]
  replace k1 : ((w5.setCell ⟨w.heap.size + 1, 4, none⟩ (.bool false)).setCell ⟨w.heap.size + 1, 8, none⟩ (.bool false)).cell? ⟨w.heap.size + 1, 1, none⟩ = some (.string ⟨t2.toArray⟩) := by simp [go_sem, k1]
  replace kf1 : ((w5.setCell ⟨w.heap.size + 1, 4, none⟩ (.bool false)).setCell ⟨w.heap.size + 1, 8, none⟩ (.bool false)).frozen? ⟨w.heap.size + 1, 1, none⟩ = false := by simp [go_sem, kf1]
  replace k2 : ((w5.setCell ⟨w.heap.size + 1, 4, none⟩ (.bool false)).setCell ⟨w.heap.size + 1, 8, none⟩ (.bool false)).cell? ⟨w.heap.size + 1, 2, none⟩ = some (.int .i64 n3) := by simp [go_sem, k2]
  replace kf2 : ((w5.setCell ⟨w.heap.size + 1, 4, none⟩ (.bool false)).setCell ⟨w.heap.size + 1, 8, none⟩ (.bool false)).frozen? ⟨w.heap.size + 1, 2, none⟩ = false := by simp [go_sem, kf2]
  replace k3 : ((w5.setCell ⟨w.heap.size + 1, 4, none⟩ (.bool false)).setCell ⟨w.heap.size + 1, 8, none⟩ (.bool false)).cell? ⟨w.heap.size + 1, 3, none⟩ = some (.int .i64 n4) := by simp [go_sem, k3]
  replace kf3 : ((w5.setCell ⟨w.heap.size + 1, 4, none⟩ (.bool false)).setCell ⟨w.heap.size + 1, 8, none⟩ (.bool false)).frozen? ⟨w.heap.size + 1, 3, none⟩ = false := by simp [go_sem, kf3]
  replace k4 : ((w5.setCell ⟨w.heap.size + 1, 4, none⟩ (.bool false)).setCell ⟨w.heap.size + 1, 8, none⟩ (.bool false)).cell? ⟨w.heap.size + 1, 4, none⟩ = some (.bool false) := by simp [go_sem, k4]
  replace kf4 : ((w5.setCell ⟨w.heap.size + 1, 4, none⟩ (.bool false)).setCell ⟨w.heap.size + 1, 8, none⟩ (.bool false)).frozen? ⟨w.heap.size + 1, 4, none⟩ = false := by simp [go_sem, kf4]
  replace k5 : ((w5.setCell ⟨w.heap.size + 1, 4, none⟩ (.bool false)).setCell ⟨w.heap.size + 1, 8, none⟩ (.bool false)).cell? ⟨w.heap.size + 1, 5, none⟩ = some (.int .i64 0) := by simp [go_sem, k5]
  replace kf5 : ((w5.setCell ⟨w.heap.size + 1, 4, none⟩ (.bool false)).setCell ⟨w.heap.size + 1, 8, none⟩ (.bool false)).frozen? ⟨w.heap.size + 1, 5, none⟩ = false := by simp [go_sem, kf5]
  replace k6 : ((w5.setCell ⟨w.heap.size + 1, 4, none⟩ (.bool false)).setCell ⟨w.heap.size + 1, 8, none⟩ (.bool false)).cell? ⟨w.heap.size + 1, 6, none⟩ = some (.int .i64 0) := by simp [go_sem, k6]
  replace kf6 : ((w5.setCell ⟨w.heap.size + 1, 4, none⟩ (.bool false)).setCell ⟨w.heap.size + 1, 8, none⟩ (.bool false)).frozen? ⟨w.heap.size + 1, 6, none⟩ = false := by simp [go_sem, kf6]
  replace k7 : ((w5.setCell ⟨w.heap.size + 1, 4, none⟩ (.bool false)).setCell ⟨w.heap.size + 1, 8, none⟩ (.bool false)).cell? ⟨w.heap.size + 1, 7, none⟩ = some (.string ⟨#[]⟩) := by simp [go_sem, k7]
  replace kf7 : ((w5.setCell ⟨w.heap.size + 1, 4, none⟩ (.bool false)).setCell ⟨w.heap.size + 1, 8, none⟩ (.bool false)).frozen? ⟨w.heap.size + 1, 7, none⟩ = false := by simp [go_sem, kf7]
  replace k8 : ((w5.setCell ⟨w.heap.size + 1, 4, none⟩ (.bool false)).setCell ⟨w.heap.size + 1, 8, none⟩ (.bool false)).cell? ⟨w.heap.size + 1, 8, none⟩ = some (.bool false) := by simp [go_sem, k8]
  replace kf8 : ((w5.setCell ⟨w.heap.size + 1, 4, none⟩ (.bool false)).setCell ⟨w.heap.size + 1, 8, none⟩ (.bool false)).frozen? ⟨w.heap.size + 1, 8, none⟩ = false := by simp [go_sem, kf8]
  replace kz : w.heap.size + 1 < ((w5.setCell ⟨w.heap.size + 1, 4, none⟩ (.bool false)).setCell ⟨w.heap.size + 1, 8, none⟩ (.bool false)).heap.size := by simp <;> omega
  replace HR : Hid (RefAt ((w5.setCell ⟨w.heap.size + 1, 4, none⟩ (.bool false)).setCell ⟨w.heap.size + 1, 8, none⟩ (.bool false)) Q g s5) := ((HR.out.setOwn NQ.out (by rw [HB.out]; exact NG.out) _).setOwn NQ.out (by rw [HB.out]; exact NG.out) _)
  replace HG : Hid (w.grownBy ((w5.setCell ⟨w.heap.size + 1, 4, none⟩ (.bool false)).setCell ⟨w.heap.size + 1, 8, none⟩ (.bool false)) (some Q)) := (grown_own (grown_own HG.out (by simp) _) (by simp) _)
  generalize ((w5.setCell ⟨w.heap.size + 1, 4, none⟩ (.bool false)).setCell ⟨w.heap.size + 1, 8, none⟩ (.bool false)) = Vw5 at *
  go_wp2_with fail
  refine (rn 2000 _ HB.out HST.out H6.out HR.out).mono ?_
  rintro e w6 ⟨rfl, ⟨s6, hB, hrd, hR⟩, hg⟩
  replace zf0 := (own_cell hg zz nz 0).2.trans zf0
  replace z0 := (own_cell hg zz nz 0).1.trans z0
  replace zf1 := (own_cell hg zz nz 1).2.trans zf1
  replace z1 := (own_cell hg zz nz 1).1.trans z1
  replace zf2 := (own_cell hg zz nz 2).2.trans zf2
  replace z2 := (own_cell hg zz nz 2).1.trans z2
  replace zf3 := (own_cell hg zz nz 3).2.trans zf3
  replace z3 := (own_cell hg zz nz 3).1.trans z3
  replace zf4 := (own_cell hg zz nz 4).2.trans zf4
  replace z4 := (own_cell hg zz nz 4).1.trans z4
  replace zf5 := (own_cell hg zz nz 5).2.trans zf5
  replace z5 := (own_cell hg zz nz 5).1.trans z5
  replace zf6 := (own_cell hg zz nz 6).2.trans zf6
  replace z6 := (own_cell hg zz nz 6).1.trans z6
  replace zf7 := (own_cell hg zz nz 7).2.trans zf7
  replace z7 := (own_cell hg zz nz 7).1.trans z7
  replace zf8 := (own_cell hg zz nz 8).2.trans zf8
  replace z8 := (own_cell hg zz nz 8).1.trans z8
  replace zz := Nat.lt_of_lt_of_le zz hg.size
  replace kf0 := (own_cell hg kz nk 0).2.trans kf0
  replace k0 := (own_cell hg kz nk 0).1.trans k0
  replace kf1 := (own_cell hg kz nk 1).2.trans kf1
  replace k1 := (own_cell hg kz nk 1).1.trans k1
  replace kf2 := (own_cell hg kz nk 2).2.trans kf2
  replace k2 := (own_cell hg kz nk 2).1.trans k2
  replace kf3 := (own_cell hg kz nk 3).2.trans kf3
  replace k3 := (own_cell hg kz nk 3).1.trans k3
  replace kf4 := (own_cell hg kz nk 4).2.trans kf4
  replace k4 := (own_cell hg kz nk 4).1.trans k4
  replace kf5 := (own_cell hg kz nk 5).2.trans kf5
  replace k5 := (own_cell hg kz nk 5).1.trans k5
  replace kf6 := (own_cell hg kz nk 6).2.trans kf6
  replace k6 := (own_cell hg kz nk 6).1.trans k6
  replace kf7 := (own_cell hg kz nk 7).2.trans kf7
  replace k7 := (own_cell hg kz nk 7).1.trans k7
  replace kf8 := (own_cell hg kz nk 8).2.trans kf8
  replace k8 := (own_cell hg kz nk 8).1.trans k8
  replace kz := Nat.lt_of_lt_of_le kz hg.size
  replace HB := Lib.hid hB
  replace HST := Lib.hid hrd
  replace HR := Lib.hid hR
  replace HG := Lib.hid (HG.out.trans hg)
  clear hB hrd hR hg H6
  go_upto_region 11 with fail
  replace z0 : (w6.setCell ⟨w.heap.size + 1, 5, none⟩ (.int .i64 (n6 - 1000))).cell? ⟨w.heap.size, 0, none⟩ = some (.int .i64 0) := by simp [go_sem, z0]
  replace zf0 : (w6.setCell ⟨w.heap.size + 1, 5, none⟩ (.int .i64 (n6 - 1000))).frozen? ⟨w.heap.size, 0, none⟩ = false := by simp [go_sem, zf0]
  replace z1 : (w6.setCell ⟨w.heap.size + 1, 5, none⟩ (.int .i64 (n6 - 1000))).cell? ⟨w.heap.size, 1, none⟩ = some (.string ⟨#[]⟩) := by simp [go_sem, z1]
  replace zf1 : (w6.setCell ⟨w.heap.size + 1, 5, none⟩ (.int .i64 (n6 - 1000))).frozen? ⟨w.heap.size, 1, none⟩ = false := by simp [go_sem, zf1]
  replace z2 : (w6.setCell ⟨w.heap.size + 1, 5, none⟩ (.int .i64 (n6 - 1000))).cell? ⟨w.heap.size, 2, none⟩ = some (.int .i64 0) := by simp [go_sem, z2]
  replace zf2 : (w6.setCell ⟨w.heap.size + 1, 5, none⟩ (.int .i64 (n6 - 1000))).frozen? ⟨w.heap.size, 2, none⟩ = false := by simp [go_sem, zf2]
  replace z3 : (w6.setCell ⟨w.heap.size + 1, 5, none⟩ (.int .i64 (n6 - 1000))).cell? ⟨w.heap.size, 3, none⟩ = some (.int .i64 0) := by simp [go_sem, z3]
  replace zf3 : (w6.setCell ⟨w.heap.size + 1, 5, none⟩ (.int .i64 (n6 - 1000))).frozen? ⟨w.heap.size, 3, none⟩ = false := by simp [go_sem, zf3]
  replace z4 : (w6.setCell ⟨w.heap.size + 1, 5, none⟩ (.int .i64 (n6 - 1000))).cell? ⟨w.heap.size, 4, none⟩ = some (.bool false) := by simp [go_sem, z4]
  replace zf4 : (w6.setCell ⟨w.heap.size + 1, 5, none⟩ (.int .i64 (n6 - 1000))).frozen? ⟨w.heap.size, 4, none⟩ = false := by simp [go_sem, zf4]
  replace z5 : (w6.setCell ⟨w.heap.size + 1, 5, none⟩ (.int .i64 (n6 - 1000))).cell? ⟨w.heap.size, 5, none⟩ = some (.int .i64 0) := by simp [go_sem, z5]
  replace zf5 : (w6.setCell ⟨w.heap.size + 1, 5, none⟩ (.int .i64 (n6 - 1000))).frozen? ⟨w.heap.size, 5, none⟩ = false := by simp [go_sem, zf5]
  replace z6 : (w6.setCell ⟨w.heap.size + 1, 5, none⟩ (.int .i64 (n6 - 1000))).cell? ⟨w.heap.size, 6, none⟩ = some (.int .i64 0) := by simp [go_sem, z6]
  replace zf6 : (w6.setCell ⟨w.heap.size + 1, 5, none⟩ (.int .i64 (n6 - 1000))).frozen? ⟨w.heap.size, 6, none⟩ = false := by simp [go_sem, zf6]
  replace z7 : (w6.setCell ⟨w.heap.size + 1, 5, none⟩ (.int .i64 (n6 - 1000))).cell? ⟨w.heap.size, 7, none⟩ = some (.string ⟨#[]⟩) := by simp [go_sem, z7]
  replace zf7 : (w6.setCell ⟨w.heap.size + 1, 5, none⟩ (.int .i64 (n6 - 1000))).frozen? ⟨w.heap.size, 7, none⟩ = false := by simp [go_sem, zf7]
  replace z8 : (w6.setCell ⟨w.heap.size + 1, 5, none⟩ (.int .i64 (n6 - 1000))).cell? ⟨w.heap.size, 8, none⟩ = some (.bool false) := by simp [go_sem, z8]
  replace zf8 : (w6.setCell ⟨w.heap.size + 1, 5, none⟩ (.int .i64 (n6 - 1000))).frozen? ⟨w.heap.size, 8, none⟩ = false := by simp [go_sem, zf8]
  replace zz : w.heap.size < (w6.setCell ⟨w.heap.size + 1, 5, none⟩ (.int .i64 (n6 - 1000))).heap.size := by simp <;> omega
  replace k0 : (w6.setCell ⟨w.heap.size + 1, 5, none⟩ (.int .i64 (n6 - 1000))).cell? ⟨w.heap.size + 1, 0, none⟩ = some (.int .i64 n1) := by simp [go_sem, k0]
  replace kf0 : (w6.setCell ⟨w.heap.size + 1, 5, none⟩ (.int .i64 (n6 - 1000))).frozen? ⟨w.heap.size + 1, 0, none⟩ = false := by simp [go_sem, kf0]
  replace k1 : (w6.setCell ⟨w.heap.size + 1, 5, none⟩ (.int .i64 (n6 - 1000))).cell? ⟨w.heap.size + 1, 1, none⟩ = some (.string ⟨t2.toArray⟩) := by simp [go_sem, k1]
  replace kf1 : (w6.setCell ⟨w.heap.size + 1, 5, none⟩ (.int .i64 (n6 - 1000))).frozen? ⟨w.heap.size + 1, 1, none⟩ = false := by simp [go_sem, kf1]
  replace k2 : (w6.setCell ⟨w.heap.size + 1, 5, none⟩ (.int .i64 (n6 - 1000))).cell? ⟨w.heap.size + 1, 2, none⟩ = some (.int .i64 n3) := by simp [go_sem, k2]
  replace kf2 : (w6.setCell ⟨w.heap.size + 1, 5, none⟩ (.int .i64 (n6 - 1000))).frozen? ⟨w.heap.size + 1, 2, none⟩ = false := by simp [go_sem, kf2]
  replace k3 : (w6.setCell ⟨w.heap.size + 1, 5, none⟩ (.int .i64 (n6 - 1000))).cell? ⟨w.heap.size + 1, 3, none⟩ = some (.int .i64 n4) := by simp [go_sem, k3]
  replace kf3 : (w6.setCell ⟨w.heap.size + 1, 5, none⟩ (.int .i64 (n6 - 1000))).frozen? ⟨w.heap.size + 1, 3, none⟩ = false := by simp [go_sem, kf3]
  replace k4 : (w6.setCell ⟨w.heap.size + 1, 5, none⟩ (.int .i64 (n6 - 1000))).cell? ⟨w.heap.size + 1, 4, none⟩ = some (.bool false) := by simp [go_sem, k4]
  replace kf4 : (w6.setCell ⟨w.heap.size + 1, 5, none⟩ (.int .i64 (n6 - 1000))).frozen? ⟨w.heap.size + 1, 4, none⟩ = false := by simp [go_sem, kf4]
  replace k5 : (w6.setCell ⟨w.heap.size + 1, 5, none⟩ (.int .i64 (n6 - 1000))).cell? ⟨w.heap.size + 1, 5, none⟩ = some (.int .i64 (n6 - 1000)) := by simp [go_sem, k5]
  replace kf5 : (w6.setCell ⟨w.heap.size + 1, 5, none⟩ (.int .i64 (n6 - 1000))).frozen? ⟨w.heap.size + 1, 5, none⟩ = false := by simp [go_sem, kf5]
  replace k6 : (w6.setCell ⟨w.heap.size + 1, 5, none⟩ (.int .i64 (n6 - 1000))).cell? ⟨w.heap.size + 1, 6, none⟩ = some (.int .i64 0) := by simp [go_sem, k6]
  replace kf6 : (w6.setCell ⟨w.heap.size + 1, 5, none⟩ (.int .i64 (n6 - 1000))).frozen? ⟨w.heap.size + 1, 6, none⟩ = false := by simp [go_sem, kf6]
  replace k7 : (w6.setCell ⟨w.heap.size + 1, 5, none⟩ (.int .i64 (n6 - 1000))).cell? ⟨w.heap.size + 1, 7, none⟩ = some (.string ⟨#[]⟩) := by simp [go_sem, k7]
  replace kf7 : (w6.setCell ⟨w.heap.size + 1, 5, none⟩ (.int .i64 (n6 - 1000))).frozen? ⟨w.heap.size + 1, 7, none⟩ = false := by simp [go_sem, kf7]
  replace k8 : (w6.setCell ⟨w.heap.size + 1, 5, none⟩ (.int .i64 (n6 - 1000))).cell? ⟨w.heap.size + 1, 8, none⟩ = some (.bool false) := by simp [go_sem, k8]
  replace kf8 : (w6.setCell ⟨w.heap.size + 1, 5, none⟩ (.int .i64 (n6 - 1000))).frozen? ⟨w.heap.size + 1, 8, none⟩ = false := by simp [go_sem, kf8]
  replace kz : w.heap.size + 1 < (w6.setCell ⟨w.heap.size + 1, 5, none⟩ (.int .i64 (n6 - 1000))).heap.size := by simp <;> omega
  replace HR : Hid (RefAt (w6.setCell ⟨w.heap.size + 1, 5, none⟩ (.int .i64 (n6 - 1000))) Q g s6) := (HR.out.setOwn NQ.out (by rw [HB.out]; exact NG.out) _)
  replace HG : Hid (w.grownBy (w6.setCell ⟨w.heap.size + 1, 5, none⟩ (.int .i64 (n6 - 1000))) (some Q)) := (grown_own HG.out (by simp) _)
  generalize (w6.setCell ⟨w.heap.size + 1, 5, none⟩ (.int .i64 (n6 - 1000))) = Vw6 at *
  go_wp2_with fail
  refine (rn 2000 _ HB.out HST.out H7.out HR.out).mono ?_
  rintro e w7 ⟨rfl, ⟨s7, hB, hrd, hR⟩, hg⟩
  replace zf0 := (own_cell hg zz nz 0).2.trans zf0
  replace z0 := (own_cell hg zz nz 0).1.trans z0
  replace zf1 := (own_cell hg zz nz 1).2.trans zf1
  replace z1 := (own_cell hg zz nz 1).1.trans z1
  replace zf2 := (own_cell hg zz nz 2).2.trans zf2
  replace z2 := (own_cell hg zz nz 2).1.trans z2
  replace zf3 := (own_cell hg zz nz 3).2.trans zf3
  replace z3 := (own_cell hg zz nz 3).1.trans z3
  replace zf4 := (own_cell hg zz nz 4).2.trans zf4
  replace z4 := (own_cell hg zz nz 4).1.trans z4
  replace zf5 := (own_cell hg zz nz 5).2.trans zf5
  replace z5 := (own_cell hg zz nz 5).1.trans z5
  replace zf6 := (own_cell hg zz nz 6).2.trans zf6
  replace z6 := (own_cell hg zz nz 6).1.trans z6
  replace zf7 := (own_cell hg zz nz 7).2.trans zf7
  replace z7 := (own_cell hg zz nz 7).1.trans z7
  replace zf8 := (own_cell hg zz nz 8).2.trans zf8
  replace z8 := (own_cell hg zz nz 8).1.trans z8
  replace zz := Nat.lt_of_lt_of_le zz hg.size
  replace kf0 := (own_cell hg kz nk 0).2.trans kf0
  replace k0 := (own_cell hg kz nk 0).1.trans k0
  replace kf1 := (own_cell hg kz nk 1).2.trans kf1
  replace k1 := (own_cell hg kz nk 1).1.trans k1
  replace kf2 := (own_cell hg kz nk 2).2.trans kf2
  replace k2 := (own_cell hg kz nk 2).1.trans k2
  replace kf3 := (own_cell hg kz nk 3).2.trans kf3
  replace k3 := (own_cell hg kz nk 3).1.trans k3
  replace kf4 := (own_cell hg kz nk 4).2.trans kf4
  replace k4 := (own_cell hg kz nk 4).1.trans k4
  replace kf5 := (own_cell hg kz nk 5).2.trans kf5
  replace k5 := (own_cell hg kz nk 5).1.trans k5
  replace kf6 := (own_cell hg kz nk 6).2.trans kf6
  replace k6 := (own_cell hg kz nk 6).1.trans k6
  replace kf7 := (own_cell hg kz nk 7).2.trans kf7
  replace k7 := (own_cell hg kz nk 7).1.trans k7
  replace kf8 := (own_cell hg kz nk 8).2.trans kf8
  replace k8 := (own_cell hg kz nk 8).1.trans k8
  replace kz := Nat.lt_of_lt_of_le kz hg.size
  replace HB := Lib.hid hB
  replace HST := Lib.hid hrd
  replace HR := Lib.hid hR
  replace HG := Lib.hid (HG.out.trans hg)
  clear hB hrd hR hg H7
  go_upto_region 12 with fail
  replace z0 : (w7.setCell ⟨w.heap.size + 1, 6, none⟩ (.int .i64 (n7 - 1000))).cell? ⟨w.heap.size, 0, none⟩ = some (.int .i64 0) := by simp [go_sem, z0]
  replace zf0 : (w7.setCell ⟨w.heap.size + 1, 6, none⟩ (.int .i64 (n7 - 1000))).frozen? ⟨w.heap.size, 0, none⟩ = false := by simp [go_sem, zf0]
  replace z1 : (w7.setCell ⟨w.heap.size + 1, 6, none⟩ (.int .i64 (n7 - 1000))).cell? ⟨w.heap.size, 1, none⟩ = some (.string ⟨#[]⟩) := by simp [go_sem, z1]
  replace zf1 : (w7.setCell ⟨w.heap.size + 1, 6, none⟩ (.int .i64 (n7 - 1000))).frozen? ⟨w.heap.size, 1, none⟩ = false := by simp [go_sem, zf1]
  replace z2 : (w7.setCell ⟨w.heap.size + 1, 6, none⟩ (.int .i64 (n7 - 1000))).cell? ⟨w.heap.size, 2, none⟩ = some (.int .i64 0) := by simp [go_sem, z2]
  replace zf2 : (w7.setCell ⟨w.heap.size + 1, 6, none⟩ (.int .i64 (n7 - 1000))).frozen? ⟨w.heap.size, 2, none⟩ = false := by simp [go_sem, zf2]
  replace z3 : (w7.setCell ⟨w.heap.size + 1, 6, none⟩ (.int .i64 (n7 - 1000))).cell? ⟨w.heap.size, 3, none⟩ = some (.int .i64 0) := by simp [go_sem, z3]
  replace zf3 : (w7.setCell ⟨w.heap.size + 1, 6, none⟩ (.int .i64 (n7 - 1000))).frozen? ⟨w.heap.size, 3, none⟩ = false := by simp [go_sem, zf3]
  replace z4 : (w7.setCell ⟨w.heap.size + 1, 6, none⟩ (.int .i64 (n7 - 1000))).cell? ⟨w.heap.size, 4, none⟩ = some (.bool false) := by simp [go_sem, z4]
  replace zf4 : (w7.setCell ⟨w.heap.size + 1, 6, none⟩ (.int .i64 (n7 - 1000))).frozen? ⟨w.heap.size, 4, none⟩ = false := by simp [go_sem, zf4]
  replace z5 : (w7.setCell ⟨w.heap.size + 1, 6, none⟩ (.int .i64 (n7 - 1000))).cell? ⟨w.heap.size, 5, none⟩ = some (.int .i64 0) := by simp [go_sem, z5]
  replace zf5 : (w7.setCell ⟨w.heap.size + 1, 6, none⟩ (.int .i64 (n7 - 1000))).frozen? ⟨w.heap.size, 5, none⟩ = false := by simp [go_sem, zf5]
  replace z6 : (w7.setCell ⟨w.heap.size + 1, 6, none⟩ (.int .i64 (n7 - 1000))).cell? ⟨w.heap.size, 6, none⟩ = some (.int .i64 0) := by simp [go_sem, z6]
  replace zf6 : (w7.setCell ⟨w.heap.size + 1, 6, none⟩ (.int .i64 (n7 - 1000))).frozen? ⟨w.heap.size, 6, none⟩ = false := by simp [go_sem, zf6]
  replace z7 : (w7.setCell ⟨w.heap.size + 1, 6, none⟩ (.int .i64 (n7 - 1000))).cell? ⟨w.heap.size, 7, none⟩ = some (.string ⟨#[]⟩) := by simp [go_sem, z7]
  replace zf7 : (w7.setCell ⟨w.heap.size + 1, 6, none⟩ (.int .i64 (n7 - 1000))).frozen? ⟨w.heap.size, 7, none⟩ = false := by simp [go_sem, zf7]
  replace z8 : (w7.setCell ⟨w.heap.size + 1, 6, none⟩ (.int .i64 (n7 - 1000))).cell? ⟨w.heap.size, 8, none⟩ = some (.bool false) := by simp [go_sem, z8]
  replace zf8 : (w7.setCell ⟨w.heap.size + 1, 6, none⟩ (.int .i64 (n7 - 1000))).frozen? ⟨w.heap.size, 8, none⟩ = false := by simp [go_sem, zf8]
  replace zz : w.heap.size < (w7.setCell ⟨w.heap.size + 1, 6, none⟩ (.int .i64 (n7 - 1000))).heap.size := by simp <;> omega
  replace k0 : (w7.setCell ⟨w.heap.size + 1, 6, none⟩ (.int .i64 (n7 - 1000))).cell? ⟨w.heap.size + 1, 0, none⟩ = some (.int .i64 n1) := by simp [go_sem, k0]
  replace kf0 : (w7.setCell ⟨w.heap.size + 1, 6, none⟩ (.int .i64 (n7 - 1000))).frozen? ⟨w.heap.size + 1, 0, none⟩ = false := by simp [go_sem, kf0]
  replace k1 : (w7.setCell ⟨w.heap.size + 1, 6, none⟩ (.int .i64 (n7 - 1000))).cell? ⟨w.heap.size + 1, 1, none⟩ = some (.string ⟨t2.toArray⟩) := by simp [go_sem, k1]
  replace kf1 : (w7.setCell ⟨w.heap.size + 1, 6, none⟩ (.int .i64 (n7 - 1000))).frozen? ⟨w.heap.size + 1, 1, none⟩ = false := by simp [go_sem, kf1]
  replace k2 : (w7.setCell ⟨w.heap.size + 1, 6, none⟩ (.int .i64 (n7 - 1000))).cell? ⟨w.heap.size + 1, 2, none⟩ = some (.int .i64 n3) := by simp [go_sem, k2]
  replace kf2 : (w7.setCell ⟨w.heap.size + 1, 6, none⟩ (.int .i64 (n7 - 1000))).frozen? ⟨w.heap.size + 1, 2, none⟩ = false := by simp [go_sem, kf2]
  replace k3 : (w7.setCell ⟨w.heap.size + 1, 6, none⟩ (.int .i64 (n7 - 1000))).cell? ⟨w.heap.size + 1, 3, none⟩ = some (.int .i64 n4) := by simp [go_sem, k3]
  replace kf3 : (w7.setCell ⟨w.heap.size + 1, 6, none⟩ (.int .i64 (n7 - 1000))).frozen? ⟨w.heap.size + 1, 3, none⟩ = false := by simp [go_sem, kf3]
  replace k4 : (w7.setCell ⟨w.heap.size + 1, 6, none⟩ (.int .i64 (n7 - 1000))).cell? ⟨w.heap.size + 1, 4, none⟩ = some (.bool false) := by simp [go_sem, k4]
  replace kf4 : (w7.setCell ⟨w.heap.size + 1, 6, none⟩ (.int .i64 (n7 - 1000))).frozen? ⟨w.heap.size + 1, 4, none⟩ = false := by simp [go_sem, kf4]
  replace k5 : (w7.setCell ⟨w.heap.size + 1, 6, none⟩ (.int .i64 (n7 - 1000))).cell? ⟨w.heap.size + 1, 5, none⟩ = some (.int .i64 (n6 - 1000)) := by simp [go_sem, k5]
  replace kf5 : (w7.setCell ⟨w.heap.size + 1, 6, none⟩ (.int .i64 (n7 - 1000))).frozen? ⟨w.heap.size + 1, 5, none⟩ = false := by simp [go_sem, kf5]
  replace k6 : (w7.setCell ⟨w.heap.size + 1, 6, none⟩ (.int .i64 (n7 - 1000))).cell? ⟨w.heap.size + 1, 6, none⟩ = some (.int .i64 (n7 - 1000)) := by simp [go_sem, k6]
  replace kf6 : (w7.setCell ⟨w.heap.size + 1, 6, none⟩ (.int .i64 (n7 - 1000))).frozen? ⟨w.heap.size + 1, 6, none⟩ = false := by simp [go_sem, kf6]
  replace k7 : (w7.setCell ⟨w.heap.size + 1, 6, none⟩ (.int .i64 (n7 - 1000))).cell? ⟨w.heap.size + 1, 7, none⟩ = some (.string ⟨#[]⟩) := by simp [go_sem, k7]
  replace kf7 : (w7.setCell ⟨w.heap.size + 1, 6, none⟩ (.int .i64 (n7 - 1000))).frozen? ⟨w.heap.size + 1, 7, none⟩ = false := by simp [go_sem, kf7]
  replace k8 : (w7.setCell ⟨w.heap.size + 1, 6, none⟩ (.int .i64 (n7 - 1000))).cell? ⟨w.heap.size + 1, 8, none⟩ = some (.bool false) := by simp [go_sem, k8]
  replace kf8 : (w7.setCell ⟨w.heap.size + 1, 6, none⟩ (.int .i64 (n7 - 1000))).frozen? ⟨w.heap.size + 1, 8, none⟩ = false := by simp [go_sem, kf8]
  replace kz : w.heap.size + 1 < (w7.setCell ⟨w.heap.size + 1, 6, none⟩ (.int .i64 (n7 - 1000))).heap.size := by simp <;> omega
  replace HR : Hid (RefAt (w7.setCell ⟨w.heap.size + 1, 6, none⟩ (.int .i64 (n7 - 1000))) Q g s7) := (HR.out.setOwn NQ.out (by rw [HB.out]; exact NG.out) _)
  replace HG : Hid (w.grownBy (w7.setCell ⟨w.heap.size + 1, 6, none⟩ (.int .i64 (n7 - 1000))) (some Q)) := (grown_own HG.out (by simp) _)
  generalize (w7.setCell ⟨w.heap.size + 1, 6, none⟩ (.int .i64 (n7 - 1000))) = Vw7 at *
  have c2 := HR.out.c2
  have hbad : s7.bad = r7.2 := congrArg Prod.snd HST.out
  rw [hbad] at c2
  have HBD := Lib.hid hbad
  clear hbad
  by_cases hz : r7.2 = 0
  · rw [decide_eq_true hz] at HOK
    rw [hz] at c2
    go_wp2_with fail
    refine (HRR.out _).mono ?_
    rintro e w9 ⟨rfl, hb⟩
    replace z0 := (hb.cell (p := ⟨w.heap.size, 0, none⟩) zz).trans z0
    replace zf0 := (hb.frozen (p := ⟨w.heap.size, 0, none⟩) zz).trans zf0
    replace z1 := (hb.cell (p := ⟨w.heap.size, 1, none⟩) zz).trans z1
    replace zf1 := (hb.frozen (p := ⟨w.heap.size, 1, none⟩) zz).trans zf1
    replace z2 := (hb.cell (p := ⟨w.heap.size, 2, none⟩) zz).trans z2
    replace zf2 := (hb.frozen (p := ⟨w.heap.size, 2, none⟩) zz).trans zf2
    replace z3 := (hb.cell (p := ⟨w.heap.size, 3, none⟩) zz).trans z3
    replace zf3 := (hb.frozen (p := ⟨w.heap.size, 3, none⟩) zz).trans zf3
    replace z4 := (hb.cell (p := ⟨w.heap.size, 4, none⟩) zz).trans z4
    replace zf4 := (hb.frozen (p := ⟨w.heap.size, 4, none⟩) zz).trans zf4
    replace z5 := (hb.cell (p := ⟨w.heap.size, 5, none⟩) zz).trans z5
    replace zf5 := (hb.frozen (p := ⟨w.heap.size, 5, none⟩) zz).trans zf5
    replace z6 := (hb.cell (p := ⟨w.heap.size, 6, none⟩) zz).trans z6
    replace zf6 := (hb.frozen (p := ⟨w.heap.size, 6, none⟩) zz).trans zf6
    replace z7 := (hb.cell (p := ⟨w.heap.size, 7, none⟩) zz).trans z7
    replace zf7 := (hb.frozen (p := ⟨w.heap.size, 7, none⟩) zz).trans zf7
    replace z8 := (hb.cell (p := ⟨w.heap.size, 8, none⟩) zz).trans z8
    replace zf8 := (hb.frozen (p := ⟨w.heap.size, 8, none⟩) zz).trans zf8
    replace zz := Nat.lt_of_lt_of_le zz hb.size
    replace k0 := (hb.cell (p := ⟨w.heap.size + 1, 0, none⟩) kz).trans k0
    replace kf0 := (hb.frozen (p := ⟨w.heap.size + 1, 0, none⟩) kz).trans kf0
    replace k1 := (hb.cell (p := ⟨w.heap.size + 1, 1, none⟩) kz).trans k1
    replace kf1 := (hb.frozen (p := ⟨w.heap.size + 1, 1, none⟩) kz).trans kf1
    replace k2 := (hb.cell (p := ⟨w.heap.size + 1, 2, none⟩) kz).trans k2
    replace kf2 := (hb.frozen (p := ⟨w.heap.size + 1, 2, none⟩) kz).trans kf2
    replace k3 := (hb.cell (p := ⟨w.heap.size + 1, 3, none⟩) kz).trans k3
    replace kf3 := (hb.frozen (p := ⟨w.heap.size + 1, 3, none⟩) kz).trans kf3
    replace k4 := (hb.cell (p := ⟨w.heap.size + 1, 4, none⟩) kz).trans k4
    replace kf4 := (hb.frozen (p := ⟨w.heap.size + 1, 4, none⟩) kz).trans kf4
    replace k5 := (hb.cell (p := ⟨w.heap.size + 1, 5, none⟩) kz).trans k5
    replace kf5 := (hb.frozen (p := ⟨w.heap.size + 1, 5, none⟩) kz).trans kf5
    replace k6 := (hb.cell (p := ⟨w.heap.size + 1, 6, none⟩) kz).trans k6
    replace kf6 := (hb.frozen (p := ⟨w.heap.size + 1, 6, none⟩) kz).trans kf6
    replace k7 := (hb.cell (p := ⟨w.heap.size + 1, 7, none⟩) kz).trans k7
    replace kf7 := (hb.frozen (p := ⟨w.heap.size + 1, 7, none⟩) kz).trans kf7
    replace k8 := (hb.cell (p := ⟨w.heap.size + 1, 8, none⟩) kz).trans k8
    replace kf8 := (hb.frozen (p := ⟨w.heap.size + 1, 8, none⟩) kz).trans kf8
    replace kz := Nat.lt_of_lt_of_le kz hb.size
    replace HR := Lib.hid (HR.out.keep hb)
    replace HG := Lib.hid (grown_below HG.out hb)
    clear hb c2
    cases R
    · skip
      go_wp2
      refine bodyPost_ret (v := .tuple #[.agg #[.int .i64 0, .string ⟨#[]⟩, .int .i64 0, .int .i64 0, .bool false, .int .i64 0, .int .i64 0, .string ⟨#[]⟩, .bool false], .bool false]) ?_ rfl ?_
      · simp [results, Try.results27, go_sem, z0, z1, z2, z3, z4, z5, z6, z7, z8]
      · rw [HOK.out]
        exact ⟨rfl, ⟨s7, HB.out, HST.out, by repeat (first | with_reducible exact HR.out | with_reducible refine RefAt.setOwn ?_ (by exact NZ.out) (by rw [HB.out]; exact NGZ.out) _)⟩, by repeat (first | with_reducible exact HG.out | with_reducible refine grown_own ?_ (by simp) _)⟩
    · skip
      go_wp2
      refine bodyPost_ret (v := .tuple #[.agg #[.int .i64 n1, .string ⟨t2.toArray⟩, .int .i64 n3, .int .i64 n4, .bool false, .int .i64 (n6 - 1000), .int .i64 (n7 - 1000), .string ⟨#[]⟩, .bool false], .bool true]) ?_ rfl ?_
      · simp [results, Try.results27, go_sem, z0, z1, z2, z3, z4, z5, z6, z7, z8]
      · rw [HOK.out]
        exact ⟨rfl, ⟨s7, HB.out, HST.out, by repeat (first | with_reducible exact HR.out | with_reducible refine RefAt.setOwn ?_ (by exact NZ.out) (by rw [HB.out]; exact NGZ.out) _)⟩, by repeat (first | with_reducible exact HG.out | with_reducible refine grown_own ?_ (by simp) _)⟩
  · rw [decide_eq_false hz, Bool.false_and] at HOK
    have hz' : ((r7.2 : Int) != 0) = true := by simpa using hz
    clear hz
    go_wp2
    refine bodyPost_ret (v := .tuple #[.agg #[.int .i64 0, .string ⟨#[]⟩, .int .i64 0, .int .i64 0, .bool false, .int .i64 0, .int .i64 0, .string ⟨#[]⟩, .bool false], .bool false]) ?_ rfl ?_
    · simp [results, Try.results27, go_sem, z0, z1, z2, z3, z4, z5, z6, z7, z8]
    · rw [HOK.out]
      exact ⟨rfl, ⟨s7, HB.out, HST.out, by repeat (first | with_reducible exact HR.out | with_reducible refine RefAt.setOwn ?_ (by exact NZ.out) (by rw [HB.out]; exact NGZ.out) _)⟩, by repeat (first | with_reducible exact HG.out | with_reducible refine grown_own ?_ (by simp) _)⟩
set_option maxRecDepth 100000 in
set_option maxHeartbeats 8000000 in
theorem refTake_2 {Q g : Nat} {s : Rf} (w : World) (h : RefAt w Q g s) {n1 n3 n4 : Int} {t2 : List UInt8} {r1 r2 r3 r4 r5 : Rd} {n6 n7 : Int} {r6 r7 : Rd} {t8 : List UInt8} {r8 : Rd} (h1 : numF s.rd 31 = (n1, r1)) (h2 : textF r1 6 = (t2, r2)) (h3 : numF r2 1048576 = (n3, r3)) (h4 : numF r3 1048576 = (n4, r4)) (h5 : numF r4 2 = (2, r5)) (h6 : numF r5 2000 = (n6, r6)) (h7 : numF r6 2000 = (n7, r7)) (b6 : 0 ≤ n6) (b6' : n6 ≤ 2000) (b7 : 0 ≤ n7) (b7' : n7 ≤ 2000) (h8 : textF r7 16 = (t8, r8)) (ok : Bool) (hok : ok = (decide (r8.2 = 0) && rightI ⟨n1, ⟨⟨t2.toArray⟩, n3, n4⟩, false, n6 - 1000, n7 - 1000, ⟨t8.toArray⟩, true⟩)) :
    Calls Try.prog 27 #[.pointer (some ⟨Q, 0, none⟩)] w (RefRet (TakeV ok (.agg #[.int .i64 n1, .string ⟨t2.toArray⟩, .int .i64 n3, .int .i64 n4, .bool false, .int .i64 (n6 - 1000), .int .i64 (n7 - 1000), .string ⟨t8.toArray⟩, .bool true]) (.agg #[.int .i64 0, .string ⟨#[]⟩, .int .i64 0, .int .i64 0, .bool false, .int .i64 0, .int .i64 0, .string ⟨#[]⟩, .bool false])) Q g s.B r8 w) := by
  have HOK := Lib.hid hok
  have HRR := Lib.hid (refRight_any ⟨n1, ⟨⟨t2.toArray⟩, n3, n4⟩, false, n6 - 1000, n7 - 1000, ⟨t8.toArray⟩, true⟩)
  generalize rightI ⟨n1, ⟨⟨t2.toArray⟩, n3, n4⟩, false, n6 - 1000, n7 - 1000, ⟨t8.toArray⟩, true⟩ = R at *
  unfold refV at HRR
  simp only at HRR
  clear hok
  have hQ := h.lt
  have hG := h.glt
  have H1 := Lib.hid h1
  have H2 := Lib.hid h2
  have H3 := Lib.hid h3
  have H4 := Lib.hid h4
  have H5 := Lib.hid h5
  have H6 := Lib.hid h6
  have H7 := Lib.hid h7
  have H8 := Lib.hid h8
  clear h1 h2 h3 h4 h5 h6 h7 h8
  obtain ⟨B, hB⟩ : ∃ B, s.B = B := ⟨_, rfl⟩
  obtain ⟨st, hst⟩ : ∃ st, s.rd = st := ⟨_, rfl⟩
  rw [hst] at H1
  rw [hB] at hG
  have HB := Lib.hid hB
  have HST := Lib.hid hst
  rw [hB]
  clear hB hst
  have HR := Lib.hid ((h.keep ((Below.refl _ _).alloc (Nat.le_refl _) (.cells #[.int .i64 0, .string ⟨#[]⟩, .int .i64 0, .int .i64 0, .bool false, .int .i64 0, .int .i64 0, .string ⟨#[]⟩, .bool false] 35))).keep ((Below.refl _ _).alloc (Nat.le_refl _) (.cells #[.int .i64 0, .string ⟨#[]⟩, .int .i64 0, .int .i64 0, .bool false, .int .i64 0, .int .i64 0, .string ⟨#[]⟩, .bool false] 35)))
  have HG : Hid (w.grownBy ((w.alloc (.cells #[.int .i64 0, .string ⟨#[]⟩, .int .i64 0, .int .i64 0, .bool false, .int .i64 0, .int .i64 0, .string ⟨#[]⟩, .bool false] 35)).alloc (.cells #[.int .i64 0, .string ⟨#[]⟩, .int .i64 0, .int .i64 0, .bool false, .int .i64 0, .int .i64 0, .string ⟨#[]⟩, .bool false] 35)) (some Q)) := grown_more (grown_alloc w _ _) _
  clear h
  go_enter Try.func27, Try.ntmps27
  go_upto_region 2 with fail
  have z0 : ((w.alloc (.cells #[.int .i64 0, .string ⟨#[]⟩, .int .i64 0, .int .i64 0, .bool false, .int .i64 0, .int .i64 0, .string ⟨#[]⟩, .bool false] 35)).alloc (.cells #[.int .i64 0, .string ⟨#[]⟩, .int .i64 0, .int .i64 0, .bool false, .int .i64 0, .int .i64 0, .string ⟨#[]⟩, .bool false] 35)).cell? ⟨w.heap.size, 0, none⟩ = some (.int .i64 0) := by simp [go_sem]
  have zf0 : ((w.alloc (.cells #[.int .i64 0, .string ⟨#[]⟩, .int .i64 0, .int .i64 0, .bool false, .int .i64 0, .int .i64 0, .string ⟨#[]⟩, .bool false] 35)).alloc (.cells #[.int .i64 0, .string ⟨#[]⟩, .int .i64 0, .int .i64 0, .bool false, .int .i64 0, .int .i64 0, .string ⟨#[]⟩, .bool false] 35)).frozen? ⟨w.heap.size, 0, none⟩ = false := by simp [go_sem]
  have z1 : ((w.alloc (.cells #[.int .i64 0, .string ⟨#[]⟩, .int .i64 0, .int .i64 0, .bool false, .int .i64 0, .int .i64 0, .string ⟨#[]⟩, .bool false] 35)).alloc (.cells #[.int .i64 0, .string ⟨#[]⟩, .int .i64 0, .int .i64 0, .bool false, .int .i64 0, .int .i64 0, .string ⟨#[]⟩, .bool false] 35)).cell? ⟨w.heap.size, 1, none⟩ = some (.string ⟨#[]⟩) := by simp [go_sem]
  have zf1 : ((w.alloc (.cells #[.int .i64 0, .string ⟨#[]⟩, .int .i64 0, .int .i64 0, .bool false, .int .i64 0, .int .i64 0, .string ⟨#[]⟩, .bool false] 35)).alloc (.cells #[.int .i64 0, .string ⟨#[]⟩, .int .i64 0, .int .i64 0, .bool false, .int .i64 0, .int .i64 0, .string ⟨#[]⟩, .bool false] 35)).frozen? ⟨w.heap.size, 1, none⟩ = false := by simp [go_sem]
  have z2 : ((w.alloc (.cells #[.int .i64 0, .string ⟨#[]⟩, .int .i64 0, .int .i64 0, .bool false, .int .i64 0, .int .i64 0, .string ⟨#[]⟩, .bool false] 35)).alloc (.cells #[.int .i64 0, .string ⟨#[]⟩, .int .i64 0, .int .i64 0, .bool false, .int .i64 0, .int .i64 0, .string ⟨#[]⟩, .bool false] 35)).cell? ⟨w.heap.size, 2, none⟩ = some (.int .i64 0) := by simp [go_sem]
  have zf2 : ((w.alloc (.cells #[.int .i64 0, .string ⟨#[]⟩, .int .i64 0, .int .i64 0, .bool false, .int .i64 0, .int .i64 0, .string ⟨#[]⟩, .bool false] 35)).alloc (.cells #[.int .i64 0, .string ⟨#[]⟩, .int .i64 0, .int .i64 0, .bool false, .int .i64 0, .int .i64 0, .string ⟨#[]⟩, .bool false] 35)).frozen? ⟨w.heap.size, 2, none⟩ = false := by simp [go_sem]
  have z3 : ((w.alloc (.cells #[.int .i64 0, .string ⟨#[]⟩, .int .i64 0, .int .i64 0, .bool false, .int .i64 0, .int .i64 0, .string ⟨#[]⟩, .bool false] 35)).alloc (.cells #[.int .i64 0, .string ⟨#[]⟩, .int .i64 0, .int .i64 0, .bool false, .int .i64 0, .int .i64 0, .string ⟨#[]⟩, .bool false] 35)).cell? ⟨w.heap.size, 3, none⟩ = some (.int .i64 0) := by simp [go_sem]
  have zf3 : ((w.alloc (.cells #[.int .i64 0, .string ⟨#[]⟩, .int .i64 0, .int .i64 0, .bool false, .int .i64 0, .int .i64 0, .string ⟨#[]⟩, .bool false] 35)).alloc (.cells #[.int .i64 0, .string ⟨#[]⟩, .int .i64 0, .int .i64 0, .bool false, .int .i64 0, .int .i64 0, .string ⟨#[]⟩, .bool false] 35)).frozen? ⟨w.heap.size, 3, none⟩ = false := by simp [go_sem]
  have z4 : ((w.alloc (.cells #[.int .i64 0, .string ⟨#[]⟩, .int .i64 0, .int .i64 0, .bool false, .int .i64 0, .int .i64 0, .string ⟨#[]⟩, .bool false] 35)).alloc (.cells #[.int .i64 0, .string ⟨#[]⟩, .int .i64 0, .int .i64 0, .bool false, .int .i64 0, .int .i64 0, .string ⟨#[]⟩, .bool false] 35)).cell? ⟨w.heap.size, 4, none⟩ = some (.bool false) := by simp [go_sem]
  have zf4 : ((w.alloc (.cells #[.int .i64 0, .string ⟨#[]⟩, .int .i64 0, .int .i64 0, .bool false, .int .i64 0, .int .i64 0, .string ⟨#[]⟩, .bool false] 35)).alloc (.cells #[.int .i64 0, .string ⟨#[]⟩, .int .i64 0, .int .i64 0, .bool false, .int .i64 0, .int .i64 0, .string ⟨#[]⟩, .bool false] 35)).frozen? ⟨w.heap.size, 4, none⟩ = false := by simp [go_sem]
  have z5 : ((w.alloc (.cells #[.int .i64 0, .string ⟨#[]⟩, .int .i64 0, .int .i64 0, .bool false, .int .i64 0, .int .i64 0, .string ⟨#[]⟩, .bool false] 35)).alloc (.cells #[.int .i64 0, .string ⟨#[]⟩, .int .i64 0, .int .i64 0, .bool false, .int .i64 0, .int .i64 0, .string ⟨#[]⟩, .bool false] 35)).cell? ⟨w.heap.size, 5, none⟩ = some (.int .i64 0) := by simp [go_sem]
  have zf5 : ((w.alloc (.cells #[.int .i64 0, .string ⟨#[]⟩, .int .i64 0, .int .i64 0, .bool false, .int .i64 0, .int .i64 0, .string ⟨#[]⟩, .bool false] 35)).alloc (.cells #[.int .i64 0, .string ⟨#[]⟩, .int .i64 0, .int .i64 0, .bool false, .int .i64 0, .int .i64 0, .string ⟨#[]⟩, .bool false] 35)).frozen? ⟨w.heap.size, 5, none⟩ = false := by simp [go_sem]
  have z6 : ((w.alloc (.cells #[.int .i64 0, .string ⟨#[]⟩, .int .i64 0, .int .i64 0, .bool false, .int .i64 0, .int .i64 0, .string ⟨#[]⟩, .bool false] 35)).alloc (.cells #[.int .i64 0, .string ⟨#[]⟩, .int .i64 0, .int .i64 0, .bool false, .int .i64 0, .int .i64 0, .string ⟨#[]⟩, .bool false] 35)).cell? ⟨w.heap.size, 6, none⟩ = some (.int .i64 0) := by simp [go_sem]
  have zf6 : ((w.alloc (.cells #[.int .i64 0, .string ⟨#[]⟩, .int .i64 0, .int .i64 0, .bool false, .int .i64 0, .int .i64 0, .string ⟨#[]⟩, .bool false] 35)).alloc (.cells #[.int .i64 0, .string ⟨#[]⟩, .int .i64 0, .int .i64 0, .bool false, .int .i64 0, .int .i64 0, .string ⟨#[]⟩, .bool false] 35)).frozen? ⟨w.heap.size, 6, none⟩ = false := by simp [go_sem]
  have z7 : ((w.alloc (.cells #[.int .i64 0, .string ⟨#[]⟩, .int .i64 0, .int .i64 0, .bool false, .int .i64 0, .int .i64 0, .string ⟨#[]⟩, .bool false] 35)).alloc (.cells #[.int .i64 0, .string ⟨#[]⟩, .int .i64 0, .int .i64 0, .bool false, .int .i64 0, .int .i64 0, .string ⟨#[]⟩, .bool false] 35)).cell? ⟨w.heap.size, 7, none⟩ = some (.string ⟨#[]⟩) := by simp [go_sem]
  have zf7 : ((w.alloc (.cells #[.int .i64 0, .string ⟨#[]⟩, .int .i64 0, .int .i64 0, .bool false, .int .i64 0, .int .i64 0, .string ⟨#[]⟩, .bool false] 35)).alloc (.cells #[.int .i64 0, .string ⟨#[]⟩, .int .i64 0, .int .i64 0, .bool false, .int .i64 0, .int .i64 0, .string ⟨#[]⟩, .bool false] 35)).frozen? ⟨w.heap.size, 7, none⟩ = false := by simp [go_sem]
  have z8 : ((w.alloc (.cells #[.int .i64 0, .string ⟨#[]⟩, .int .i64 0, .int .i64 0, .bool false, .int .i64 0, .int .i64 0, .string ⟨#[]⟩, .bool false] 35)).alloc (.cells #[.int .i64 0, .string ⟨#[]⟩, .int .i64 0, .int .i64 0, .bool false, .int .i64 0, .int .i64 0, .string ⟨#[]⟩, .bool false] 35)).cell? ⟨w.heap.size, 8, none⟩ = some (.bool false) := by simp [go_sem]
  have zf8 : ((w.alloc (.cells #[.int .i64 0, .string ⟨#[]⟩, .int .i64 0, .int .i64 0, .bool false, .int .i64 0, .int .i64 0, .string ⟨#[]⟩, .bool false] 35)).alloc (.cells #[.int .i64 0, .string ⟨#[]⟩, .int .i64 0, .int .i64 0, .bool false, .int .i64 0, .int .i64 0, .string ⟨#[]⟩, .bool false] 35)).frozen? ⟨w.heap.size, 8, none⟩ = false := by simp [go_sem]
  have zz : w.heap.size < ((w.alloc (.cells #[.int .i64 0, .string ⟨#[]⟩, .int .i64 0, .int .i64 0, .bool false, .int .i64 0, .int .i64 0, .string ⟨#[]⟩, .bool false] 35)).alloc (.cells #[.int .i64 0, .string ⟨#[]⟩, .int .i64 0, .int .i64 0, .bool false, .int .i64 0, .int .i64 0, .string ⟨#[]⟩, .bool false] 35)).heap.size := by simp <;> omega
  have k0 : ((w.alloc (.cells #[.int .i64 0, .string ⟨#[]⟩, .int .i64 0, .int .i64 0, .bool false, .int .i64 0, .int .i64 0, .string ⟨#[]⟩, .bool false] 35)).alloc (.cells #[.int .i64 0, .string ⟨#[]⟩, .int .i64 0, .int .i64 0, .bool false, .int .i64 0, .int .i64 0, .string ⟨#[]⟩, .bool false] 35)).cell? ⟨w.heap.size + 1, 0, none⟩ = some (.int .i64 0) := by simp [go_sem]
  have kf0 : ((w.alloc (.cells #[.int .i64 0, .string ⟨#[]⟩, .int .i64 0, .int .i64 0, .bool false, .int .i64 0, .int .i64 0, .string ⟨#[]⟩, .bool false] 35)).alloc (.cells #[.int .i64 0, .string ⟨#[]⟩, .int .i64 0, .int .i64 0, .bool false, .int .i64 0, .int .i64 0, .string ⟨#[]⟩, .bool false] 35)).frozen? ⟨w.heap.size + 1, 0, none⟩ = false := by simp [go_sem]
  have k1 : ((w.alloc (.cells #[.int .i64 0, .string ⟨#[]⟩, .int .i64 0, .int .i64 0, .bool false, .int .i64 0, .int .i64 0, .string ⟨#[]⟩, .bool false] 35)).alloc (.cells #[.int .i64 0, .string ⟨#[]⟩, .int .i64 0, .int .i64 0, .bool false, .int .i64 0, .int .i64 0, .string ⟨#[]⟩, .bool false] 35)).cell? ⟨w.heap.size + 1, 1, none⟩ = some (.string ⟨#[]⟩) := by simp [go_sem]
  have kf1 : ((w.alloc (.cells #[.int .i64 0, .string ⟨#[]⟩, .int .i64 0, .int .i64 0, .bool false, .int .i64 0, .int .i64 0, .string ⟨#[]⟩, .bool false] 35)).alloc (.cells #[.int .i64 0, .string ⟨#[]⟩, .int .i64 0, .int .i64 0, .bool false, .int .i64 0, .int .i64 0, .string ⟨#[]⟩, .bool false] 35)).frozen? ⟨w.heap.size + 1, 1, none⟩ = false := by simp [go_sem]
  have k2 : ((w.alloc (.cells #[.int .i64 0, .string ⟨#[]⟩, .int .i64 0, .int .i64 0, .bool false, .int .i64 0, .int .i64 0, .string ⟨#[]⟩, .bool false] 35)).alloc (.cells #[.int .i64 0, .string ⟨#[]⟩, .int .i64 0, .int .i64 0, .bool false, .int .i64 0, .int .i64 0, .string ⟨#[]⟩, .bool false] 35)).cell? ⟨w.heap.size + 1, 2, none⟩ = some (.int .i64 0) := by simp [go_sem]
  have kf2 : ((w.alloc (.cells #[.int .i64 0, .string ⟨#[]⟩, .int .i64 0, .int .i64 0, .bool false, .int .i64 0, .int .i64 0, .string ⟨#[]⟩, .bool false] 35)).alloc (.cells #[.int .i64 0, .string ⟨#[]⟩, .int .i64 0, .int .i64 0, .bool false, .int .i64 0, .int .i64 0, .string ⟨#[]⟩, .bool false] 35)).frozen? ⟨w.heap.size + 1, 2, none⟩ = false := by simp [go_sem]
  have k3 : ((w.alloc (.cells #[.int .i64 0, .string ⟨#[]⟩, .int .i64 0, .int .i64 0, .bool false, .int .i64 0, .int .i64 0, .string ⟨#[]⟩, .bool false] 35)).alloc (.cells #[.int .i64 0, .string ⟨#[]⟩, .int .i64 0, .int .i64 0, .bool false, .int .i64 0, .int .i64 0, .string ⟨#[]⟩, .bool false] 35)).cell? ⟨w.heap.size + 1, 3, none⟩ = some (.int .i64 0) := by simp [go_sem]
  have kf3 : ((w.alloc (.cells #[.int .i64 0, .string ⟨#[]⟩, .int .i64 0, .int .i64 0, .bool false, .int .i64 0, .int .i64 0, .string ⟨#[]⟩, .bool false] 35)).alloc (.cells #[.int .i64 0, .string ⟨#[]⟩, .int .i64 0, .int .i64 0, .bool false, .int .i64 0, .int .i64 0, .string ⟨#[]⟩, .bool false] 35)).frozen? ⟨w.heap.size + 1, 3, none⟩ = false := by simp [go_sem]
  have k4 : ((w.alloc (.cells #[.int .i64 0, .string ⟨#[]⟩, .int .i64 0, .int .i64 0, .bool false, .int .i64 0, .int .i64 0, .string ⟨#[]⟩, .bool false] 35)).alloc (.cells #[.int .i64 0, .string ⟨#[]⟩, .int .i64 0, .int .i64 0, .bool false, .int .i64 0, .int .i64 0, .string ⟨#[]⟩, .bool false] 35)).cell? ⟨w.heap.size + 1, 4, none⟩ = some (.bool false) := by simp [go_sem]
  have kf4 : ((w.alloc (.cells #[.int .i64 0, .string ⟨#[]⟩, .int .i64 0, .int .i64 0, .bool false, .int .i64 0, .int .i64 0, .string ⟨#[]⟩, .bool false] 35)).alloc (.cells #[.int .i64 0, .string ⟨#[]⟩, .int .i64 0, .int .i64 0, .bool false, .int .i64 0, .int .i64 0, .string ⟨#[]⟩, .bool false] 35)).frozen? ⟨w.heap.size + 1, 4, none⟩ = false := by simp [go_sem]
  have k5 : ((w.alloc (.cells #[.int .i64 0, .string ⟨#[]⟩, .int .i64 0, .int .i64 0, .bool false, .int .i64 0, .int .i64 0, .string ⟨#[]⟩, .bool false] 35)).alloc (.cells #[.int .i64 0, .string ⟨#[]⟩, .int .i64 0, .int .i64 0, .bool false, .int .i64 0, .int .i64 0, .string ⟨#[]⟩, .bool false] 35)).cell? ⟨w.heap.size + 1, 5, none⟩ = some (.int .i64 0) := by simp [go_sem]
  have kf5 : ((w.alloc (.cells #[.int .i64 0, .string ⟨#[]⟩, .int .i64 0, .int .i64 0, .bool false, .int .i64 0, .int .i64 0, .string ⟨#[]⟩, .bool false] 35)).alloc (.cells #[.int .i64 0, .string ⟨#[]⟩, .int .i64 0, .int .i64 0, .bool false, .int .i64 0, .int .i64 0, .string ⟨#[]⟩, .bool false] 35)).frozen? ⟨w.heap.size + 1, 5, none⟩ = false := by simp [go_sem]
  have k6 : ((w.alloc (.cells #[.int .i64 0, .string ⟨#[]⟩, .int .i64 0, .int .i64 0, .bool false, .int .i64 0, .int .i64 0, .string ⟨#[]⟩, .bool false] 35)).alloc (.cells #[.int .i64 0, .string ⟨#[]⟩, .int .i64 0, .int .i64 0, .bool false, .int .i64 0, .int .i64 0, .string ⟨#[]⟩, .bool false] 35)).cell? ⟨w.heap.size + 1, 6, none⟩ = some (.int .i64 0) := by simp [go_sem]
  have kf6 : ((w.alloc (.cells #[.int .i64 0, .string ⟨#[]⟩, .int .i64 0, .int .i64 0, .bool false, .int .i64 0, .int .i64 0, .string ⟨#[]⟩, .bool false] 35)).alloc (.cells #[.int .i64 0, .string ⟨#[]⟩, .int .i64 0, .int .i64 0, .bool false, .int .i64 0, .int .i64 0, .string ⟨#[]⟩, .bool false] 35)).frozen? ⟨w.heap.size + 1, 6, none⟩ = false := by simp [go_sem]
  have k7 : ((w.alloc (.cells #[.int .i64 0, .string ⟨#[]⟩, .int .i64 0, .int .i64 0, .bool false, .int .i64 0, .int .i64 0, .string ⟨#[]⟩, .bool false] 35)).alloc (.cells #[.int .i64 0, .string ⟨#[]⟩, .int .i64 0, .int .i64 0, .bool false, .int .i64 0, .int .i64 0, .string ⟨#[]⟩, .bool false] 35)).cell? ⟨w.heap.size + 1, 7, none⟩ = some (.string ⟨#[]⟩) := by simp [go_sem]
  have kf7 : ((w.alloc (.cells #[.int .i64 0, .string ⟨#[]⟩, .int .i64 0, .int .i64 0, .bool false, .int .i64 0, .int .i64 0, .string ⟨#[]⟩, .bool false] 35)).alloc (.cells #[.int .i64 0, .string ⟨#[]⟩, .int .i64 0, .int .i64 0, .bool false, .int .i64 0, .int .i64 0, .string ⟨#[]⟩, .bool false] 35)).frozen? ⟨w.heap.size + 1, 7, none⟩ = false := by simp [go_sem]
  have k8 : ((w.alloc (.cells #[.int .i64 0, .string ⟨#[]⟩, .int .i64 0, .int .i64 0, .bool false, .int .i64 0, .int .i64 0, .string ⟨#[]⟩, .bool false] 35)).alloc (.cells #[.int .i64 0, .string ⟨#[]⟩, .int .i64 0, .int .i64 0, .bool false, .int .i64 0, .int .i64 0, .string ⟨#[]⟩, .bool false] 35)).cell? ⟨w.heap.size + 1, 8, none⟩ = some (.bool false) := by simp [go_sem]
  have kf8 : ((w.alloc (.cells #[.int .i64 0, .string ⟨#[]⟩, .int .i64 0, .int .i64 0, .bool false, .int .i64 0, .int .i64 0, .string ⟨#[]⟩, .bool false] 35)).alloc (.cells #[.int .i64 0, .string ⟨#[]⟩, .int .i64 0, .int .i64 0, .bool false, .int .i64 0, .int .i64 0, .string ⟨#[]⟩, .bool false] 35)).frozen? ⟨w.heap.size + 1, 8, none⟩ = false := by simp [go_sem]
  have kz : w.heap.size + 1 < ((w.alloc (.cells #[.int .i64 0, .string ⟨#[]⟩, .int .i64 0, .int .i64 0, .bool false, .int .i64 0, .int .i64 0, .string ⟨#[]⟩, .bool false] 35)).alloc (.cells #[.int .i64 0, .string ⟨#[]⟩, .int .i64 0, .int .i64 0, .bool false, .int .i64 0, .int .i64 0, .string ⟨#[]⟩, .bool false] 35)).heap.size := by simp <;> omega
  have nz : some w.heap.size ≠ (some Q : Option Nat) := fun e => by injection e with e; omega
  have nk : some (w.heap.size + 1) ≠ (some Q : Option Nat) := fun e => by injection e with e; omega
  have NQ : Hid (Q ≠ w.heap.size + 1) := by show _ ≠ _; omega
  have NG : Hid (B ≠ [] → g ≠ w.heap.size + 1) := fun hb => by have := hG hb; omega
  have NZ : Hid (Q ≠ w.heap.size) := by show _ ≠ _; omega
  have NGZ : Hid (B ≠ [] → g ≠ w.heap.size) := fun hb => by have := hG hb; omega
  clear hQ hG
  generalize ((w.alloc (.cells #[.int .i64 0, .string ⟨#[]⟩, .int .i64 0, .int .i64 0, .bool false, .int .i64 0, .int .i64 0, .string ⟨#[]⟩, .bool false] 35)).alloc (.cells #[.int .i64 0, .string ⟨#[]⟩, .int .i64 0, .int .i64 0, .bool false, .int .i64 0, .int .i64 0, .string ⟨#[]⟩, .bool false] 35)) = W0 at *
  go_wp2_with fail
  refine (rn 31 _ HB.out HST.out H1.out HR.out).mono ?_
  rintro e w1 ⟨rfl, ⟨s1, hB, hrd, hR⟩, hg⟩
  replace zf0 := (own_cell hg zz nz 0).2.trans zf0
  replace z0 := (own_cell hg zz nz 0).1.trans z0
  replace zf1 := (own_cell hg zz nz 1).2.trans zf1
  replace z1 := (own_cell hg zz nz 1).1.trans z1
  replace zf2 := (own_cell hg zz nz 2).2.trans zf2
  replace z2 := (own_cell hg zz nz 2).1.trans z2
  replace zf3 := (own_cell hg zz nz 3).2.trans zf3
  replace z3 := (own_cell hg zz nz 3).1.trans z3
  replace zf4 := (own_cell hg zz nz 4).2.trans zf4
  replace z4 := (own_cell hg zz nz 4).1.trans z4
  replace zf5 := (own_cell hg zz nz 5).2.trans zf5
  replace z5 := (own_cell hg zz nz 5).1.trans z5
  replace zf6 := (own_cell hg zz nz 6).2.trans zf6
  replace z6 := (own_cell hg zz nz 6).1.trans z6
  replace zf7 := (own_cell hg zz nz 7).2.trans zf7
  replace z7 := (own_cell hg zz nz 7).1.trans z7
  replace zf8 := (own_cell hg zz nz 8).2.trans zf8
  replace z8 := (own_cell hg zz nz 8).1.trans z8
  replace zz := Nat.lt_of_lt_of_le zz hg.size
  replace kf0 := (own_cell hg kz nk 0).2.trans kf0
  replace k0 := (own_cell hg kz nk 0).1.trans k0
  replace kf1 := (own_cell hg kz nk 1).2.trans kf1
  replace k1 := (own_cell hg kz nk 1).1.trans k1
  replace kf2 := (own_cell hg kz nk 2).2.trans kf2
  replace k2 := (own_cell hg kz nk 2).1.trans k2
  replace kf3 := (own_cell hg kz nk 3).2.trans kf3
  replace k3 := (own_cell hg kz nk 3).1.trans k3
  replace kf4 := (own_cell hg kz nk 4).2.trans kf4
  replace k4 := (own_cell hg kz nk 4).1.trans k4
  replace kf5 := (own_cell hg kz nk 5).2.trans kf5
  replace k5 := (own_cell hg kz nk 5).1.trans k5
  replace kf6 := (own_cell hg kz nk 6).2.trans kf6
  replace k6 := (own_cell hg kz nk 6).1.trans k6
  replace kf7 := (own_cell hg kz nk 7).2.trans kf7
  replace k7 := (own_cell hg kz nk 7).1.trans k7
  replace kf8 := (own_cell hg kz nk 8).2.trans kf8
  replace k8 := (own_cell hg kz nk 8).1.trans k8
  replace kz := Nat.lt_of_lt_of_le kz hg.size
  replace HB := Lib.hid hB
  replace HST := Lib.hid hrd
  replace HR := Lib.hid hR
  replace HG := Lib.hid (HG.out.trans hg)
  clear hB hrd hR hg H1
  go_upto_region 3 with fail
  replace z0 : (w1.setCell ⟨w.heap.size + 1, 0, none⟩ (.int .i64 n1)).cell? ⟨w.heap.size, 0, none⟩ = some (.int .i64 0) := by simp [go_sem, z0]
  replace zf0 : (w1.setCell ⟨w.heap.size + 1, 0, none⟩ (.int .i64 n1)).frozen? ⟨w.heap.size, 0, none⟩ = false := by simp [go_sem, zf0]
  replace z1 : (w1.setCell ⟨w.heap.size + 1, 0, none⟩ (.int .i64 n1)).cell? ⟨w.heap.size, 1, none⟩ = some (.string ⟨#[]⟩) := by simp [go_sem, z1]
  replace zf1 : (w1.setCell ⟨w.heap.size + 1, 0, none⟩ (.int .i64 n1)).frozen? ⟨w.heap.size, 1, none⟩ = false := by simp [go_sem, zf1]
  replace z2 : (w1.setCell ⟨w.heap.size + 1, 0, none⟩ (.int .i64 n1)).cell? ⟨w.heap.size, 2, none⟩ = some (.int .i64 0) := by simp [go_sem, z2]
  replace zf2 : (w1.setCell ⟨w.heap.size + 1, 0, none⟩ (.int .i64 n1)).frozen? ⟨w.heap.size, 2, none⟩ = false := by simp [go_sem, zf2]
  replace z3 : (w1.setCell ⟨w.heap.size + 1, 0, none⟩ (.int .i64 n1)).cell? ⟨w.heap.size, 3, none⟩ = some (.int .i64 0) := by simp [go_sem, z3]
  replace zf3 : (w1.setCell ⟨w.heap.size + 1, 0, none⟩ (.int .i64 n1)).frozen? ⟨w.heap.size, 3, none⟩ = false := by simp [go_sem, zf3]
  replace z4 : (w1.setCell ⟨w.heap.size + 1, 0, none⟩ (.int .i64 n1)).cell? ⟨w.heap.size, 4, none⟩ = some (.bool false) := by simp [go_sem, z4]
  replace zf4 : (w1.setCell ⟨w.heap.size + 1, 0, none⟩ (.int .i64 n1)).frozen? ⟨w.heap.size, 4, none⟩ = false := by simp [go_sem, zf4]
  replace z5 : (w1.setCell ⟨w.heap.size + 1, 0, none⟩ (.int .i64 n1)).cell? ⟨w.heap.size, 5, none⟩ = some (.int .i64 0) := by simp [go_sem, z5]
  replace zf5 : (w1.setCell ⟨w.heap.size + 1, 0, none⟩ (.int .i64 n1)).frozen? ⟨w.heap.size, 5, none⟩ = false := by simp [go_sem, zf5]
  replace z6 : (w1.setCell ⟨w.heap.size + 1, 0, none⟩ (.int .i64 n1)).cell? ⟨w.heap.size, 6, none⟩ = some (.int .i64 0) := by simp [go_sem, z6]
  replace zf6 : (w1.setCell ⟨w.heap.size + 1, 0, none⟩ (.int .i64 n1)).frozen? ⟨w.heap.size, 6, none⟩ = false := by simp [go_sem, zf6]
  replace z7 : (w1.setCell ⟨w.heap.size + 1, 0, none⟩ (.int .i64 n1)).cell? ⟨w.heap.size, 7, none⟩ = some (.string ⟨#[]⟩) := by simp [go_sem, z7]
  replace zf7 : (w1.setCell ⟨w.heap.size + 1, 0, none⟩ (.int .i64 n1)).frozen? ⟨w.heap.size, 7, none⟩ = false := by simp [go_sem, zf7]
  replace z8 : (w1.setCell ⟨w.heap.size + 1, 0, none⟩ (.int .i64 n1)).cell? ⟨w.heap.size, 8, none⟩ = some (.bool false) := by simp [go_sem, z8]
  replace zf8 : (w1.setCell ⟨w.heap.size + 1, 0, none⟩ (.int .i64 n1)).frozen? ⟨w.heap.size, 8, none⟩ = false := by simp [go_sem, zf8]
  replace zz : w.heap.size < (w1.setCell ⟨w.heap.size + 1, 0, none⟩ (.int .i64 n1)).heap.size := by simp <;> omega
  replace k0 : (w1.setCell ⟨w.heap.size + 1, 0, none⟩ (.int .i64 n1)).cell? ⟨w.heap.size + 1, 0, none⟩ = some (.int .i64 n1) := by simp [go_sem, k0]
  replace kf0 : (w1.setCell ⟨w.heap.size + 1, 0, none⟩ (.int .i64 n1)).frozen? ⟨w.heap.size + 1, 0, none⟩ = false := by simp [go_sem, kf0]
  replace k1 : (w1.setCell ⟨w.heap.size + 1, 0, none⟩ (.int .i64 n1)).cell? ⟨w.heap.size + 1, 1, none⟩ = some (.string ⟨#[]⟩) := by simp [go_sem, k1]
  replace kf1 : (w1.setCell ⟨w.heap.size + 1, 0, none⟩ (.int .i64 n1)).frozen? ⟨w.heap.size + 1, 1, none⟩ = false := by simp [go_sem, kf1]
  replace k2 : (w1.setCell ⟨w.heap.size + 1, 0, none⟩ (.int .i64 n1)).cell? ⟨w.heap.size + 1, 2, none⟩ = some (.int .i64 0) := by simp [go_sem, k2]
  replace kf2 : (w1.setCell ⟨w.heap.size + 1, 0, none⟩ (.int .i64 n1)).frozen? ⟨w.heap.size + 1, 2, none⟩ = false := by simp [go_sem, kf2]
  replace k3 : (w1.setCell ⟨w.heap.size + 1, 0, none⟩ (.int .i64 n1)).cell? ⟨w.heap.size + 1, 3, none⟩ = some (.int .i64 0) := by simp [go_sem, k3]
  replace kf3 : (w1.setCell ⟨w.heap.size + 1, 0, none⟩ (.int .i64 n1)).frozen? ⟨w.heap.size + 1, 3, none⟩ = false := by simp [go_sem, kf3]
  replace k4 : (w1.setCell ⟨w.heap.size + 1, 0, none⟩ (.int .i64 n1)).cell? ⟨w.heap.size + 1, 4, none⟩ = some (.bool false) := by simp [go_sem, k4]
  replace kf4 : (w1.setCell ⟨w.heap.size + 1, 0, none⟩ (.int .i64 n1)).frozen? ⟨w.heap.size + 1, 4, none⟩ = false := by simp [go_sem, kf4]
  replace k5 : (w1.setCell ⟨w.heap.size + 1, 0, none⟩ (.int .i64 n1)).cell? ⟨w.heap.size + 1, 5, none⟩ = some (.int .i64 0) := by simp [go_sem, k5]
  replace kf5 : (w1.setCell ⟨w.heap.size + 1, 0, none⟩ (.int .i64 n1)).frozen? ⟨w.heap.size + 1, 5, none⟩ = false := by simp [go_sem, kf5]
  replace k6 : (w1.setCell ⟨w.heap.size + 1, 0, none⟩ (.int .i64 n1)).cell? ⟨w.heap.size + 1, 6, none⟩ = some (.int .i64 0) := by simp [go_sem, k6]
  replace kf6 : (w1.setCell ⟨w.heap.size + 1, 0, none⟩ (.int .i64 n1)).frozen? ⟨w.heap.size + 1, 6, none⟩ = false := by simp [go_sem, kf6]
  replace k7 : (w1.setCell ⟨w.heap.size + 1, 0, none⟩ (.int .i64 n1)).cell? ⟨w.heap.size + 1, 7, none⟩ = some (.string ⟨#[]⟩) := by simp [go_sem, k7]
  replace kf7 : (w1.setCell ⟨w.heap.size + 1, 0, none⟩ (.int .i64 n1)).frozen? ⟨w.heap.size + 1, 7, none⟩ = false := by simp [go_sem, kf7]
  replace k8 : (w1.setCell ⟨w.heap.size + 1, 0, none⟩ (.int .i64 n1)).cell? ⟨w.heap.size + 1, 8, none⟩ = some (.bool false) := by simp [go_sem, k8]
  replace kf8 : (w1.setCell ⟨w.heap.size + 1, 0, none⟩ (.int .i64 n1)).frozen? ⟨w.heap.size + 1, 8, none⟩ = false := by simp [go_sem, kf8]
  replace kz : w.heap.size + 1 < (w1.setCell ⟨w.heap.size + 1, 0, none⟩ (.int .i64 n1)).heap.size := by simp <;> omega
  replace HR : Hid (RefAt (w1.setCell ⟨w.heap.size + 1, 0, none⟩ (.int .i64 n1)) Q g s1) := (HR.out.setOwn NQ.out (by rw [HB.out]; exact NG.out) _)
  replace HG : Hid (w.grownBy (w1.setCell ⟨w.heap.size + 1, 0, none⟩ (.int .i64 n1)) (some Q)) := (grown_own HG.out (by simp) _)
  generalize (w1.setCell ⟨w.heap.size + 1, 0, none⟩ (.int .i64 n1)) = Vw1 at *
  go_wp2_with fail
  refine (rt 6 _ HB.out HST.out H2.out HR.out).mono ?_
  rintro e w2 ⟨rfl, ⟨s2, hB, hrd, hR⟩, hg⟩
  replace zf0 := (own_cell hg zz nz 0).2.trans zf0
  replace z0 := (own_cell hg zz nz 0).1.trans z0
  replace zf1 := (own_cell hg zz nz 1).2.trans zf1
  replace z1 := (own_cell hg zz nz 1).1.trans z1
  replace zf2 := (own_cell hg zz nz 2).2.trans zf2
  replace z2 := (own_cell hg zz nz 2).1.trans z2
  replace zf3 := (own_cell hg zz nz 3).2.trans zf3
  replace z3 := (own_cell hg zz nz 3).1.trans z3
  replace zf4 := (own_cell hg zz nz 4).2.trans zf4
  replace z4 := (own_cell hg zz nz 4).1.trans z4
  replace zf5 := (own_cell hg zz nz 5).2.trans zf5
  replace z5 := (own_cell hg zz nz 5).1.trans z5
  replace zf6 := (own_cell hg zz nz 6).2.trans zf6
  replace z6 := (own_cell hg zz nz 6).1.trans z6
  replace zf7 := (own_cell hg zz nz 7).2.trans zf7
  replace z7 := (own_cell hg zz nz 7).1.trans z7
  replace zf8 := (own_cell hg zz nz 8).2.trans zf8
  replace z8 := (own_cell hg zz nz 8).1.trans z8
  replace zz := Nat.lt_of_lt_of_le zz hg.size
  replace kf0 := (own_cell hg kz nk 0).2.trans kf0
  replace k0 := (own_cell hg kz nk 0).1.trans k0
  replace kf1 := (own_cell hg kz nk 1).2.trans kf1
  replace k1 := (own_cell hg kz nk 1).1.trans k1
  replace kf2 := (own_cell hg kz nk 2).2.trans kf2
  replace k2 := (own_cell hg kz nk 2).1.trans k2
  replace kf3 := (own_cell hg kz nk 3).2.trans kf3
  replace k3 := (own_cell hg kz nk 3).1.trans k3
  replace kf4 := (own_cell hg kz nk 4).2.trans kf4
  replace k4 := (own_cell hg kz nk 4).1.trans k4
  replace kf5 := (own_cell hg kz nk 5).2.trans kf5
  replace k5 := (own_cell hg kz nk 5).1.trans k5
  replace kf6 := (own_cell hg kz nk 6).2.trans kf6
  replace k6 := (own_cell hg kz nk 6).1.trans k6
  replace kf7 := (own_cell hg kz nk 7).2.trans kf7
  replace k7 := (own_cell hg kz nk 7).1.trans k7
  replace kf8 := (own_cell hg kz nk 8).2.trans kf8
  replace k8 := (own_cell hg kz nk 8).1.trans k8
  replace kz := Nat.lt_of_lt_of_le kz hg.size
  replace HB := Lib.hid hB
  replace HST := Lib.hid hrd
  replace HR := Lib.hid hR
  replace HG := Lib.hid (HG.out.trans hg)
  clear hB hrd hR hg H2
  go_upto_region 4 with fail
  replace z0 : (w2.setCell ⟨w.heap.size + 1, 1, none⟩ (.string ⟨t2.toArray⟩)).cell? ⟨w.heap.size, 0, none⟩ = some (.int .i64 0) := by simp [go_sem, z0]
  replace zf0 : (w2.setCell ⟨w.heap.size + 1, 1, none⟩ (.string ⟨t2.toArray⟩)).frozen? ⟨w.heap.size, 0, none⟩ = false := by simp [go_sem, zf0]
  replace z1 : (w2.setCell ⟨w.heap.size + 1, 1, none⟩ (.string ⟨t2.toArray⟩)).cell? ⟨w.heap.size, 1, none⟩ = some (.string ⟨#[]⟩) := by simp [go_sem, z1]
  replace zf1 : (w2.setCell ⟨w.heap.size + 1, 1, none⟩ (.string ⟨t2.toArray⟩)).frozen? ⟨w.heap.size, 1, none⟩ = false := by simp [go_sem, zf1]
  replace z2 : (w2.setCell ⟨w.heap.size + 1, 1, none⟩ (.string ⟨t2.toArray⟩)).cell? ⟨w.heap.size, 2, none⟩ = some (.int .i64 0) := by simp [go_sem, z2]
  replace zf2 : (w2.setCell ⟨w.heap.size + 1, 1, none⟩ (.string ⟨t2.toArray⟩)).frozen? ⟨w.heap.size, 2, none⟩ = false := by simp [go_sem, zf2]
  replace z3 : (w2.setCell ⟨w.heap.size + 1, 1, none⟩ (.string ⟨t2.toArray⟩)).cell? ⟨w.heap.size, 3, none⟩ = some (.int .i64 0) := by simp [go_sem, z3]
  replace zf3 : (w2.setCell ⟨w.heap.size + 1, 1, none⟩ (.string ⟨t2.toArray⟩)).frozen? ⟨w.heap.size, 3, none⟩ = false := by simp [go_sem, zf3]
  replace z4 : (w2.setCell ⟨w.heap.size + 1, 1, none⟩ (.string ⟨t2.toArray⟩)).cell? ⟨w.heap.size, 4, none⟩ = some (.bool false) := by simp [go_sem, z4]
  replace zf4 : (w2.setCell ⟨w.heap.size + 1, 1, none⟩ (.string ⟨t2.toArray⟩)).frozen? ⟨w.heap.size, 4, none⟩ = false := by simp [go_sem, zf4]
  replace z5 : (w2.setCell ⟨w.heap.size + 1, 1, none⟩ (.string ⟨t2.toArray⟩)).cell? ⟨w.heap.size, 5, none⟩ = some (.int .i64 0) := by simp [go_sem, z5]
  replace zf5 : (w2.setCell ⟨w.heap.size + 1, 1, none⟩ (.string ⟨t2.toArray⟩)).frozen? ⟨w.heap.size, 5, none⟩ = false := by simp [go_sem, zf5]
  replace z6 : (w2.setCell ⟨w.heap.size + 1, 1, none⟩ (.string ⟨t2.toArray⟩)).cell? ⟨w.heap.size, 6, none⟩ = some (.int .i64 0) := by simp [go_sem, z6]
  replace zf6 : (w2.setCell ⟨w.heap.size + 1, 1, none⟩ (.string ⟨t2.toArray⟩)).frozen? ⟨w.heap.size, 6, none⟩ = false := by simp [go_sem, zf6]
  replace z7 : (w2.setCell ⟨w.heap.size + 1, 1, none⟩ (.string ⟨t2.toArray⟩)).cell? ⟨w.heap.size, 7, none⟩ = some (.string ⟨#[]⟩) := by simp [go_sem, z7]
  replace zf7 : (w2.setCell ⟨w.heap.size + 1, 1, none⟩ (.string ⟨t2.toArray⟩)).frozen? ⟨w.heap.size, 7, none⟩ = false := by simp [go_sem, zf7]
  replace z8 : (w2.setCell ⟨w.heap.size + 1, 1, none⟩ (.string ⟨t2.toArray⟩)).cell? ⟨w.heap.size, 8, none⟩ = some (.bool false) := by simp [go_sem, z8]
  replace zf8 : (w2.setCell ⟨w.heap.size + 1, 1, none⟩ (.string ⟨t2.toArray⟩)).frozen? ⟨w.heap.size, 8, none⟩ = false := by simp [go_sem, zf8]
  replace zz : w.heap.size < (w2.setCell ⟨w.heap.size + 1, 1, none⟩ (.string ⟨t2.toArray⟩)).heap.size := by simp <;> omega
  replace k0 : (w2.setCell ⟨w.heap.size + 1, 1, none⟩ (.string ⟨t2.toArray⟩)).cell? ⟨w.heap.size + 1, 0, none⟩ = some (.int .i64 n1) := by simp [go_sem, k0]
  replace kf0 : (w2.setCell ⟨w.heap.size + 1, 1, none⟩ (.string ⟨t2.toArray⟩)).frozen? ⟨w.heap.size + 1, 0, none⟩ = false := by simp [go_sem, kf0]
  replace k1 : (w2.setCell ⟨w.heap.size + 1, 1, none⟩ (.string ⟨t2.toArray⟩)).cell? ⟨w.heap.size + 1, 1, none⟩ = some (.string ⟨t2.toArray⟩) := by simp [go_sem, k1]
  replace kf1 : (w2.setCell ⟨w.heap.size + 1, 1, none⟩ (.string ⟨t2.toArray⟩)).frozen? ⟨w.heap.size + 1, 1, none⟩ = false := by simp [go_sem, kf1]
  replace k2 : (w2.setCell ⟨w.heap.size + 1, 1, none⟩ (.string ⟨t2.toArray⟩)).cell? ⟨w.heap.size + 1, 2, none⟩ = some (.int .i64 0) := by simp [go_sem, k2]
  replace kf2 : (w2.setCell ⟨w.heap.size + 1, 1, none⟩ (.string ⟨t2.toArray⟩)).frozen? ⟨w.heap.size + 1, 2, none⟩ = false := by simp [go_sem, kf2]
  replace k3 : (w2.setCell ⟨w.heap.size + 1, 1, none⟩ (.string ⟨t2.toArray⟩)).cell? ⟨w.heap.size + 1, 3, none⟩ = some (.int .i64 0) := by simp [go_sem, k3]
  replace kf3 : (w2.setCell ⟨w.heap.size + 1, 1, none⟩ (.string ⟨t2.toArray⟩)).frozen? ⟨w.heap.size + 1, 3, none⟩ = false := by simp [go_sem, kf3]
  replace k4 : (w2.setCell ⟨w.heap.size + 1, 1, none⟩ (.string ⟨t2.toArray⟩)).cell? ⟨w.heap.size + 1, 4, none⟩ = some (.bool false) := by simp [go_sem, k4]
  replace kf4 : (w2.setCell ⟨w.heap.size + 1, 1, none⟩ (.string ⟨t2.toArray⟩)).frozen? ⟨w.heap.size + 1, 4, none⟩ = false := by simp [go_sem, kf4]
  replace k5 : (w2.setCell ⟨w.heap.size + 1, 1, none⟩ (.string ⟨t2.toArray⟩)).cell? ⟨w.heap.size + 1, 5, none⟩ = some (.int .i64 0) := by simp [go_sem, k5]
  replace kf5 : (w2.setCell ⟨w.heap.size + 1, 1, none⟩ (.string ⟨t2.toArray⟩)).frozen? ⟨w.heap.size + 1, 5, none⟩ = false := by simp [go_sem, kf5]
  replace k6 : (w2.setCell ⟨w.heap.size + 1, 1, none⟩ (.string ⟨t2.toArray⟩)).cell? ⟨w.heap.size + 1, 6, none⟩ = some (.int .i64 0) := by simp [go_sem, k6]
  replace kf6 : (w2.setCell ⟨w.heap.size + 1, 1, none⟩ (.string ⟨t2.toArray⟩)).frozen? ⟨w.heap.size + 1, 6, none⟩ = false := by simp [go_sem, kf6]
  replace k7 : (w2.setCell ⟨w.heap.size + 1, 1, none⟩ (.string ⟨t2.toArray⟩)).cell? ⟨w.heap.size + 1, 7, none⟩ = some (.string ⟨#[]⟩) := by simp [go_sem, k7]
  replace kf7 : (w2.setCell ⟨w.heap.size + 1, 1, none⟩ (.string ⟨t2.toArray⟩)).frozen? ⟨w.heap.size + 1, 7, none⟩ = false := by simp [go_sem, kf7]
  replace k8 : (w2.setCell ⟨w.heap.size + 1, 1, none⟩ (.string ⟨t2.toArray⟩)).cell? ⟨w.heap.size + 1, 8, none⟩ = some (.bool false) := by simp [go_sem, k8]
  replace kf8 : (w2.setCell ⟨w.heap.size + 1, 1, none⟩ (.string ⟨t2.toArray⟩)).frozen? ⟨w.heap.size + 1, 8, none⟩ = false := by simp [go_sem, kf8]
  replace kz : w.heap.size + 1 < (w2.setCell ⟨w.heap.size + 1, 1, none⟩ (.string ⟨t2.toArray⟩)).heap.size := by simp <;> omega
  replace HR : Hid (RefAt (w2.setCell ⟨w.heap.size + 1, 1, none⟩ (.string ⟨t2.toArray⟩)) Q g s2) := (HR.out.setOwn NQ.out (by rw [HB.out]; exact NG.out) _)
  replace HG : Hid (w.grownBy (w2.setCell ⟨w.heap.size + 1, 1, none⟩ (.string ⟨t2.toArray⟩)) (some Q)) := (grown_own HG.out (by simp) _)
  generalize (w2.setCell ⟨w.heap.size + 1, 1, none⟩ (.string ⟨t2.toArray⟩)) = Vw2 at *
  go_wp2_with fail
  refine (rn 1048576 _ HB.out HST.out H3.out HR.out).mono ?_
  rintro e w3 ⟨rfl, ⟨s3, hB, hrd, hR⟩, hg⟩
  replace zf0 := (own_cell hg zz nz 0).2.trans zf0
  replace z0 := (own_cell hg zz nz 0).1.trans z0
  replace zf1 := (own_cell hg zz nz 1).2.trans zf1
  replace z1 := (own_cell hg zz nz 1).1.trans z1
  replace zf2 := (own_cell hg zz nz 2).2.trans zf2
  replace z2 := (own_cell hg zz nz 2).1.trans z2
  replace zf3 := (own_cell hg zz nz 3).2.trans zf3
  replace z3 := (own_cell hg zz nz 3).1.trans z3
  replace zf4 := (own_cell hg zz nz 4).2.trans zf4
  replace z4 := (own_cell hg zz nz 4).1.trans z4
  replace zf5 := (own_cell hg zz nz 5).2.trans zf5
  replace z5 := (own_cell hg zz nz 5).1.trans z5
  replace zf6 := (own_cell hg zz nz 6).2.trans zf6
  replace z6 := (own_cell hg zz nz 6).1.trans z6
  replace zf7 := (own_cell hg zz nz 7).2.trans zf7
  replace z7 := (own_cell hg zz nz 7).1.trans z7
  replace zf8 := (own_cell hg zz nz 8).2.trans zf8
  replace z8 := (own_cell hg zz nz 8).1.trans z8
  replace zz := Nat.lt_of_lt_of_le zz hg.size
  replace kf0 := (own_cell hg kz nk 0).2.trans kf0
  replace k0 := (own_cell hg kz nk 0).1.trans k0
  replace kf1 := (own_cell hg kz nk 1).2.trans kf1
  replace k1 := (own_cell hg kz nk 1).1.trans k1
  replace kf2 := (own_cell hg kz nk 2).2.trans kf2
  replace k2 := (own_cell hg kz nk 2).1.trans k2
  replace kf3 := (own_cell hg kz nk 3).2.trans kf3
  replace k3 := (own_cell hg kz nk 3).1.trans k3
  replace kf4 := (own_cell hg kz nk 4).2.trans kf4
  replace k4 := (own_cell hg kz nk 4).1.trans k4
  replace kf5 := (own_cell hg kz nk 5).2.trans kf5
  replace k5 := (own_cell hg kz nk 5).1.trans k5
  replace kf6 := (own_cell hg kz nk 6).2.trans kf6
  replace k6 := (own_cell hg kz nk 6).1.trans k6
  replace kf7 := (own_cell hg kz nk 7).2.trans kf7
  replace k7 := (own_cell hg kz nk 7).1.trans k7
  replace kf8 := (own_cell hg kz nk 8).2.trans kf8
  replace k8 := (own_cell hg kz nk 8).1.trans k8
  replace kz := Nat.lt_of_lt_of_le kz hg.size
  replace HB := Lib.hid hB
  replace HST := Lib.hid hrd
  replace HR := Lib.hid hR
  replace HG := Lib.hid (HG.out.trans hg)
  clear hB hrd hR hg H3
  go_upto_region 5 with fail
  replace z0 : (w3.setCell ⟨w.heap.size + 1, 2, none⟩ (.int .i64 n3)).cell? ⟨w.heap.size, 0, none⟩ = some (.int .i64 0) := by simp [go_sem, z0]
  replace zf0 : (w3.setCell ⟨w.heap.size + 1, 2, none⟩ (.int .i64 n3)).frozen? ⟨w.heap.size, 0, none⟩ = false := by simp [go_sem, zf0]
  replace z1 : (w3.setCell ⟨w.heap.size + 1, 2, none⟩ (.int .i64 n3)).cell? ⟨w.heap.size, 1, none⟩ = some (.string ⟨#[]⟩) := by simp [go_sem, z1]
  replace zf1 : (w3.setCell ⟨w.heap.size + 1, 2, none⟩ (.int .i64 n3)).frozen? ⟨w.heap.size, 1, none⟩ = false := by simp [go_sem, zf1]
  replace z2 : (w3.setCell ⟨w.heap.size + 1, 2, none⟩ (.int .i64 n3)).cell? ⟨w.heap.size, 2, none⟩ = some (.int .i64 0) := by simp [go_sem, z2]
  replace zf2 : (w3.setCell ⟨w.heap.size + 1, 2, none⟩ (.int .i64 n3)).frozen? ⟨w.heap.size, 2, none⟩ = false := by simp [go_sem, zf2]
  replace z3 : (w3.setCell ⟨w.heap.size + 1, 2, none⟩ (.int .i64 n3)).cell? ⟨w.heap.size, 3, none⟩ = some (.int .i64 0) := by simp [go_sem, z3]
  replace zf3 : (w3.setCell ⟨w.heap.size + 1, 2, none⟩ (.int .i64 n3)).frozen? ⟨w.heap.size, 3, none⟩ = false := by simp [go_sem, zf3]
  replace z4 : (w3.setCell ⟨w.heap.size + 1, 2, none⟩ (.int .i64 n3)).cell? ⟨w.heap.size, 4, none⟩ = some (.bool false) := by simp [go_sem, z4]
  replace zf4 : (w3.setCell ⟨w.heap.size + 1, 2, none⟩ (.int .i64 n3)).frozen? ⟨w.heap.size, 4, none⟩ = false := by simp [go_sem, zf4]
  replace z5 : (w3.setCell ⟨w.heap.size + 1, 2, none⟩ (.int .i64 n3)).cell? ⟨w.heap.size, 5, none⟩ = some (.int .i64 0) := by simp [go_sem, z5]
  replace zf5 : (w3.setCell ⟨w.heap.size + 1, 2, none⟩ (.int .i64 n3)).frozen? ⟨w.heap.size, 5, none⟩ = false := by simp [go_sem, zf5]
  replace z6 : (w3.setCell ⟨w.heap.size + 1, 2, none⟩ (.int .i64 n3)).cell? ⟨w.heap.size, 6, none⟩ = some (.int .i64 0) := by simp [go_sem, z6]
  replace zf6 : (w3.setCell ⟨w.heap.size + 1, 2, none⟩ (.int .i64 n3)).frozen? ⟨w.heap.size, 6, none⟩ = false := by simp [go_sem, zf6]
  replace z7 : (w3.setCell ⟨w.heap.size + 1, 2, none⟩ (.int .i64 n3)).cell? ⟨w.heap.size, 7, none⟩ = some (.string ⟨#[]⟩) := by simp [go_sem, z7]
  replace zf7 : (w3.setCell ⟨w.heap.size + 1, 2, none⟩ (.int .i64 n3)).frozen? ⟨w.heap.size, 7, none⟩ = false := by simp [go_sem, zf7]
  replace z8 : (w3.setCell ⟨w.heap.size + 1, 2, none⟩ (.int .i64 n3)).cell? ⟨w.heap.size, 8, none⟩ = some (.bool false) := by simp [go_sem, z8]
  replace zf8 : (w3.setCell ⟨w.heap.size + 1, 2, none⟩ (.int .i64 n3)).frozen? ⟨w.heap.size, 8, none⟩ = false := by simp [go_sem, zf8]
  replace zz : w.heap.size < (w3.setCell ⟨w.heap.size + 1, 2, none⟩ (.int .i64 n3)).heap.size := by simp <;> omega
  replace k0 : (w3.setCell ⟨w.heap.size + 1, 2, none⟩ (.int .i64 n3)).cell? ⟨w.heap.size + 1, 0, none⟩ = some (.int .i64 n1) := by simp [go_sem, k0]
  replace kf0 : (w3.setCell ⟨w.heap.size + 1, 2, none⟩ (.int .i64 n3)).frozen? ⟨w.heap.size + 1, 0, none⟩ = false := by simp [go_sem, kf0]
  replace k1 : (w3.setCell ⟨w.heap.size + 1, 2, none⟩ (.int .i64 n3)).cell? ⟨w.heap.size + 1, 1, none⟩ = some (.string ⟨t2.toArray⟩) := by simp [go_sem, k1]
  replace kf1 : (w3.setCell ⟨w.heap.size + 1, 2, none⟩ (.int .i64 n3)).frozen? ⟨w.heap.size + 1, 1, none⟩ = false := by simp [go_sem, kf1]
  replace k2 : (w3.setCell ⟨w.heap.size + 1, 2, none⟩ (.int .i64 n3)).cell? ⟨w.heap.size + 1, 2, none⟩ = some (.int .i64 n3) := by simp [go_sem, k2]
  replace kf2 : (w3.setCell ⟨w.heap.size + 1, 2, none⟩ (.int .i64 n3)).frozen? ⟨w.heap.size + 1, 2, none⟩ = false := by simp [go_sem, kf2]
  replace k3 : (w3.setCell ⟨w.heap.size + 1, 2, none⟩ (.int .i64 n3)).cell? ⟨w.heap.size + 1, 3, none⟩ = some (.int .i64 0) := by simp [go_sem, k3]
  replace kf3 : (w3.setCell ⟨w.heap.size + 1, 2, none⟩ (.int .i64 n3)).frozen? ⟨w.heap.size + 1, 3, none⟩ = false := by simp [go_sem, kf3]
  replace k4 : (w3.setCell ⟨w.heap.size + 1, 2, none⟩ (.int .i64 n3)).cell? ⟨w.heap.size + 1, 4, none⟩ = some (.bool false) := by simp [go_sem, k4]
  replace kf4 : (w3.setCell ⟨w.heap.size + 1, 2, none⟩ (.int .i64 n3)).frozen? ⟨w.heap.size + 1, 4, none⟩ = false := by simp [go_sem, kf4]
  replace k5 : (w3.setCell ⟨w.heap.size + 1, 2, none⟩ (.int .i64 n3)).cell? ⟨w.heap.size + 1, 5, none⟩ = some (.int .i64 0) := by simp [go_sem, k5]
  replace kf5 : (w3.setCell ⟨w.heap.size + 1, 2, none⟩ (.int .i64 n3)).frozen? ⟨w.heap.size + 1, 5, none⟩ = false := by simp [go_sem, kf5]
  replace k6 : (w3.setCell ⟨w.heap.size + 1, 2, none⟩ (.int .i64 n3)).cell? ⟨w.heap.size + 1, 6, none⟩ = some (.int .i64 0) := by simp [go_sem, k6]
  replace kf6 : (w3.setCell ⟨w.heap.size + 1, 2, none⟩ (.int .i64 n3)).frozen? ⟨w.heap.size + 1, 6, none⟩ = false := by simp [go_sem, kf6]
  replace k7 : (w3.setCell ⟨w.heap.size + 1, 2, none⟩ (.int .i64 n3)).cell? ⟨w.heap.size + 1, 7, none⟩ = some (.string ⟨#[]⟩) := by simp [go_sem, k7]
  replace kf7 : (w3.setCell ⟨w.heap.size + 1, 2, none⟩ (.int .i64 n3)).frozen? ⟨w.heap.size + 1, 7, none⟩ = false := by simp [go_sem, kf7]
  replace k8 : (w3.setCell ⟨w.heap.size + 1, 2, none⟩ (.int .i64 n3)).cell? ⟨w.heap.size + 1, 8, none⟩ = some (.bool false) := by simp [go_sem, k8]
  replace kf8 : (w3.setCell ⟨w.heap.size + 1, 2, none⟩ (.int .i64 n3)).frozen? ⟨w.heap.size + 1, 8, none⟩ = false := by simp [go_sem, kf8]
  replace kz : w.heap.size + 1 < (w3.setCell ⟨w.heap.size + 1, 2, none⟩ (.int .i64 n3)).heap.size := by simp <;> omega
  replace HR : Hid (RefAt (w3.setCell ⟨w.heap.size + 1, 2, none⟩ (.int .i64 n3)) Q g s3) := (HR.out.setOwn NQ.out (by rw [HB.out]; exact NG.out) _)
  replace HG : Hid (w.grownBy (w3.setCell ⟨w.heap.size + 1, 2, none⟩ (.int .i64 n3)) (some Q)) := (grown_own HG.out (by simp) _)
  generalize (w3.setCell ⟨w.heap.size + 1, 2, none⟩ (.int .i64 n3)) = Vw3 at *
  go_wp2_with fail
  refine (rn 1048576 _ HB.out HST.out H4.out HR.out).mono ?_
  rintro e w4 ⟨rfl, ⟨s4, hB, hrd, hR⟩, hg⟩
  replace zf0 := (own_cell hg zz nz 0).2.trans zf0
  replace z0 := (own_cell hg zz nz 0).1.trans z0
  replace zf1 := (own_cell hg zz nz 1).2.trans zf1
  replace z1 := (own_cell hg zz nz 1).1.trans z1
  replace zf2 := (own_cell hg zz nz 2).2.trans zf2
  replace z2 := (own_cell hg zz nz 2).1.trans z2
  replace zf3 := (own_cell hg zz nz 3).2.trans zf3
  replace z3 := (own_cell hg zz nz 3).1.trans z3
  replace zf4 := (own_cell hg zz nz 4).2.trans zf4
  replace z4 := (own_cell hg zz nz 4).1.trans z4
  replace zf5 := (own_cell hg zz nz 5).2.trans zf5
  replace z5 := (own_cell hg zz nz 5).1.trans z5
  replace zf6 := (own_cell hg zz nz 6).2.trans zf6
  replace z6 := (own_cell hg zz nz 6).1.trans z6
  replace zf7 := (own_cell hg zz nz 7).2.trans zf7
  replace z7 := (own_cell hg zz nz 7).1.trans z7
  replace zf8 := (own_cell hg zz nz 8).2.trans zf8
  replace z8 := (own_cell hg zz nz 8).1.trans z8
  replace zz := Nat.lt_of_lt_of_le zz hg.size
  replace kf0 := (own_cell hg kz nk 0).2.trans kf0
  replace k0 := (own_cell hg kz nk 0).1.trans k0
  replace kf1 := (own_cell hg kz nk 1).2.trans kf1
  replace k1 := (own_cell hg kz nk 1).1.trans k1
  replace kf2 := (own_cell hg kz nk 2).2.trans kf2
  replace k2 := (own_cell hg kz nk 2).1.trans k2
  replace kf3 := (own_cell hg kz nk 3).2.trans kf3
  replace k3 := (own_cell hg kz nk 3).1.trans k3
  replace kf4 := (own_cell hg kz nk 4).2.trans kf4
  replace k4 := (own_cell hg kz nk 4).1.trans k4
  replace kf5 := (own_cell hg kz nk 5).2.trans kf5
  replace k5 := (own_cell hg kz nk 5).1.trans k5
  replace kf6 := (own_cell hg kz nk 6).2.trans kf6
  replace k6 := (own_cell hg kz nk 6).1.trans k6
  replace kf7 := (own_cell hg kz nk 7).2.trans kf7
  replace k7 := (own_cell hg kz nk 7).1.trans k7
  replace kf8 := (own_cell hg kz nk 8).2.trans kf8
  replace k8 := (own_cell hg kz nk 8).1.trans k8
  replace kz := Nat.lt_of_lt_of_le kz hg.size
  replace HB := Lib.hid hB
  replace HST := Lib.hid hrd
  replace HR := Lib.hid hR
  replace HG := Lib.hid (HG.out.trans hg)
  clear hB hrd hR hg H4
  go_upto_region 6 with fail
  replace z0 : (w4.setCell ⟨w.heap.size + 1, 3, none⟩ (.int .i64 n4)).cell? ⟨w.heap.size, 0, none⟩ = some (.int .i64 0) := by simp [go_sem, z0]
  replace zf0 : (w4.setCell ⟨w.heap.size + 1, 3, none⟩ (.int .i64 n4)).frozen? ⟨w.heap.size, 0, none⟩ = false := by simp [go_sem, zf0]
  replace z1 : (w4.setCell ⟨w.heap.size + 1, 3, none⟩ (.int .i64 n4)).cell? ⟨w.heap.size, 1, none⟩ = some (.string ⟨#[]⟩) := by simp [go_sem, z1]
  replace zf1 : (w4.setCell ⟨w.heap.size + 1, 3, none⟩ (.int .i64 n4)).frozen? ⟨w.heap.size, 1, none⟩ = false := by simp [go_sem, zf1]
  replace z2 : (w4.setCell ⟨w.heap.size + 1, 3, none⟩ (.int .i64 n4)).cell? ⟨w.heap.size, 2, none⟩ = some (.int .i64 0) := by simp [go_sem, z2]
  replace zf2 : (w4.setCell ⟨w.heap.size + 1, 3, none⟩ (.int .i64 n4)).frozen? ⟨w.heap.size, 2, none⟩ = false := by simp [go_sem, zf2]
  replace z3 : (w4.setCell ⟨w.heap.size + 1, 3, none⟩ (.int .i64 n4)).cell? ⟨w.heap.size, 3, none⟩ = some (.int .i64 0) := by simp [go_sem, z3]
  replace zf3 : (w4.setCell ⟨w.heap.size + 1, 3, none⟩ (.int .i64 n4)).frozen? ⟨w.heap.size, 3, none⟩ = false := by simp [go_sem, zf3]
  replace z4 : (w4.setCell ⟨w.heap.size + 1, 3, none⟩ (.int .i64 n4)).cell? ⟨w.heap.size, 4, none⟩ = some (.bool false) := by simp [go_sem, z4]
  replace zf4 : (w4.setCell ⟨w.heap.size + 1, 3, none⟩ (.int .i64 n4)).frozen? ⟨w.heap.size, 4, none⟩ = false := by simp [go_sem, zf4]
  replace z5 : (w4.setCell ⟨w.heap.size + 1, 3, none⟩ (.int .i64 n4)).cell? ⟨w.heap.size, 5, none⟩ = some (.int .i64 0) := by simp [go_sem, z5]
  replace zf5 : (w4.setCell ⟨w.heap.size + 1, 3, none⟩ (.int .i64 n4)).frozen? ⟨w.heap.size, 5, none⟩ = false := by simp [go_sem, zf5]
  replace z6 : (w4.setCell ⟨w.heap.size + 1, 3, none⟩ (.int .i64 n4)).cell? ⟨w.heap.size, 6, none⟩ = some (.int .i64 0) := by simp [go_sem, z6]
  replace zf6 : (w4.setCell ⟨w.heap.size + 1, 3, none⟩ (.int .i64 n4)).frozen? ⟨w.heap.size, 6, none⟩ = false := by simp [go_sem, zf6]
  replace z7 : (w4.setCell ⟨w.heap.size + 1, 3, none⟩ (.int .i64 n4)).cell? ⟨w.heap.size, 7, none⟩ = some (.string ⟨#[]⟩) := by simp [go_sem, z7]
  replace zf7 : (w4.setCell ⟨w.heap.size + 1, 3, none⟩ (.int .i64 n4)).frozen? ⟨w.heap.size, 7, none⟩ = false := by simp [go_sem, zf7]
  replace z8 : (w4.setCell ⟨w.heap.size + 1, 3, none⟩ (.int .i64 n4)).cell? ⟨w.heap.size, 8, none⟩ = some (.bool false) := by simp [go_sem, z8]
  replace zf8 : (w4.setCell ⟨w.heap.size + 1, 3, none⟩ (.int .i64 n4)).frozen? ⟨w.heap.size, 8, none⟩ = false := by simp [go_sem, zf8]
  replace zz : w.heap.size < (w4.setCell ⟨w.heap.size + 1, 3, none⟩ (.int .i64 n4)).heap.size := by simp <;> omega
  replace k0 : (w4.setCell ⟨w.heap.size + 1, 3, none⟩ (.int .i64 n4)).cell? ⟨w.heap.size + 1, 0, none⟩ = some (.int .i64 n1) := by simp [go_sem, k0]
  replace kf0 : (w4.setCell ⟨w.heap.size + 1, 3, none⟩ (.int .i64 n4)).frozen? ⟨w.heap.size + 1, 0, none⟩ = false := by simp [go_sem, kf0]
  replace k1 : (w4.setCell ⟨w.heap.size + 1, 3, none⟩ (.int .i64 n4)).cell? ⟨w.heap.size + 1, 1, none⟩ = some (.string ⟨t2.toArray⟩) := by simp [go_sem, k1]
  replace kf1 : (w4.setCell ⟨w.heap.size + 1, 3, none⟩ (.int .i64 n4)).frozen? ⟨w.heap.size + 1, 1, none⟩ = false := by simp [go_sem, kf1]
  replace k2 : (w4.setCell ⟨w.heap.size + 1, 3, none⟩ (.int .i64 n4)).cell? ⟨w.heap.size + 1, 2, none⟩ = some (.int .i64 n3) := by simp [go_sem, k2]
  replace kf2 : (w4.setCell ⟨w.heap.size + 1, 3, none⟩ (.int .i64 n4)).frozen? ⟨w.heap.size + 1, 2, none⟩ = false := by simp [go_sem, kf2]
  replace k3 : (w4.setCell ⟨w.heap.size + 1, 3, none⟩ (.int .i64 n4)).cell? ⟨w.heap.size + 1, 3, none⟩ = some (.int .i64 n4) := by simp [go_sem, k3]
  replace kf3 : (w4.setCell ⟨w.heap.size + 1, 3, none⟩ (.int .i64 n4)).frozen? ⟨w.heap.size + 1, 3, none⟩ = false := by simp [go_sem, kf3]
  replace k4 : (w4.setCell ⟨w.heap.size + 1, 3, none⟩ (.int .i64 n4)).cell? ⟨w.heap.size + 1, 4, none⟩ = some (.bool false) := by simp [go_sem, k4]
  replace kf4 : (w4.setCell ⟨w.heap.size + 1, 3, none⟩ (.int .i64 n4)).frozen? ⟨w.heap.size + 1, 4, none⟩ = false := by simp [go_sem, kf4]
  replace k5 : (w4.setCell ⟨w.heap.size + 1, 3, none⟩ (.int .i64 n4)).cell? ⟨w.heap.size + 1, 5, none⟩ = some (.int .i64 0) := by simp [go_sem, k5]
  replace kf5 : (w4.setCell ⟨w.heap.size + 1, 3, none⟩ (.int .i64 n4)).frozen? ⟨w.heap.size + 1, 5, none⟩ = false := by simp [go_sem, kf5]
  replace k6 : (w4.setCell ⟨w.heap.size + 1, 3, none⟩ (.int .i64 n4)).cell? ⟨w.heap.size + 1, 6, none⟩ = some (.int .i64 0) := by simp [go_sem, k6]
  replace kf6 : (w4.setCell ⟨w.heap.size + 1, 3, none⟩ (.int .i64 n4)).frozen? ⟨w.heap.size + 1, 6, none⟩ = false := by simp [go_sem, kf6]
  replace k7 : (w4.setCell ⟨w.heap.size + 1, 3, none⟩ (.int .i64 n4)).cell? ⟨w.heap.size + 1, 7, none⟩ = some (.string ⟨#[]⟩) := by simp [go_sem, k7]
  replace kf7 : (w4.setCell ⟨w.heap.size + 1, 3, none⟩ (.int .i64 n4)).frozen? ⟨w.heap.size + 1, 7, none⟩ = false := by simp [go_sem, kf7]
  replace k8 : (w4.setCell ⟨w.heap.size + 1, 3, none⟩ (.int .i64 n4)).cell? ⟨w.heap.size + 1, 8, none⟩ = some (.bool false) := by simp [go_sem, k8]
  replace kf8 : (w4.setCell ⟨w.heap.size + 1, 3, none⟩ (.int .i64 n4)).frozen? ⟨w.heap.size + 1, 8, none⟩ = false := by simp [go_sem, kf8]
  replace kz : w.heap.size + 1 < (w4.setCell ⟨w.heap.size + 1, 3, none⟩ (.int .i64 n4)).heap.size := by simp <;> omega
  replace HR : Hid (RefAt (w4.setCell ⟨w.heap.size + 1, 3, none⟩ (.int .i64 n4)) Q g s4) := (HR.out.setOwn NQ.out (by rw [HB.out]; exact NG.out) _)
  replace HG : Hid (w.grownBy (w4.setCell ⟨w.heap.size + 1, 3, none⟩ (.int .i64 n4)) (some Q)) := (grown_own HG.out (by simp) _)
  generalize (w4.setCell ⟨w.heap.size + 1, 3, none⟩ (.int .i64 n4)) = Vw4 at *
  go_wp2_with fail
  refine (rn 2 _ HB.out HST.out H5.out HR.out).mono ?_
  rintro e w5 ⟨rfl, ⟨s5, hB, hrd, hR⟩, hg⟩
  replace zf0 := (own_cell hg zz nz 0).2.trans zf0
  replace z0 := (own_cell hg zz nz 0).1.trans z0
  replace zf1 := (own_cell hg zz nz 1).2.trans zf1
  replace z1 := (own_cell hg zz nz 1).1.trans z1
  replace zf2 := (own_cell hg zz nz 2).2.trans zf2
  replace z2 := (own_cell hg zz nz 2).1.trans z2
  replace zf3 := (own_cell hg zz nz 3).2.trans zf3
  replace z3 := (own_cell hg zz nz 3).1.trans z3
  replace zf4 := (own_cell hg zz nz 4).2.trans zf4
  replace z4 := (own_cell hg zz nz 4).1.trans z4
  replace zf5 := (own_cell hg zz nz 5).2.trans zf5
  replace z5 := (own_cell hg zz nz 5).1.trans z5
  replace zf6 := (own_cell hg zz nz 6).2.trans zf6
  replace z6 := (own_cell hg zz nz 6).1.trans z6
  replace zf7 := (own_cell hg zz nz 7).2.trans zf7
  replace z7 := (own_cell hg zz nz 7).1.trans z7
  replace zf8 := (own_cell hg zz nz 8).2.trans zf8
  replace z8 := (own_cell hg zz nz 8).1.trans z8
  replace zz := Nat.lt_of_lt_of_le zz hg.size
  replace kf0 := (own_cell hg kz nk 0).2.trans kf0
  replace k0 := (own_cell hg kz nk 0).1.trans k0
  replace kf1 := (own_cell hg kz nk 1).2.trans kf1
  replace k1 := (own_cell hg kz nk 1).1.trans k1
  replace kf2 := (own_cell hg kz nk 2).2.trans kf2
  replace k2 := (own_cell hg kz nk 2).1.trans k2
  replace kf3 := (own_cell hg kz nk 3).2.trans kf3
  replace k3 := (own_cell hg kz nk 3).1.trans k3
  replace kf4 := (own_cell hg kz nk 4).2.trans kf4
  replace k4 := (own_cell hg kz nk 4).1.trans k4
  replace kf5 := (own_cell hg kz nk 5).2.trans kf5
  replace k5 := (own_cell hg kz nk 5).1.trans k5
  replace kf6 := (own_cell hg kz nk 6).2.trans kf6
  replace k6 := (own_cell hg kz nk 6).1.trans k6
  replace kf7 := (own_cell hg kz nk 7).2.trans kf7
  replace k7 := (own_cell hg kz nk 7).1.trans k7
  replace kf8 := (own_cell hg kz nk 8).2.trans kf8
  replace k8 := (own_cell hg kz nk 8).1.trans k8
  replace kz := Nat.lt_of_lt_of_le kz hg.size
  replace HB := Lib.hid hB
  replace HST := Lib.hid hrd
  replace HR := Lib.hid hR
  replace HG := Lib.hid (HG.out.trans hg)
  clear hB hrd hR hg H5
  go_upto_region 9 with fail
  replace z0 : ((w5.setCell ⟨w.heap.size + 1, 4, none⟩ (.bool false)).setCell ⟨w.heap.size + 1, 8, none⟩ (.bool true)).cell? ⟨w.heap.size, 0, none⟩ = some (.int .i64 0) := by simp [go_sem, z0]
  replace zf0 : ((w5.setCell ⟨w.heap.size + 1, 4, none⟩ (.bool false)).setCell ⟨w.heap.size + 1, 8, none⟩ (.bool true)).frozen? ⟨w.heap.size, 0, none⟩ = false := by simp [go_sem, zf0]
  replace z1 : ((w5.setCell ⟨w.heap.size + 1, 4, none⟩ (.bool false)).setCell ⟨w.heap.size + 1, 8, none⟩ (.bool true)).cell? ⟨w.heap.size, 1, none⟩ = some (.string ⟨#[]⟩) := by simp [go_sem, z1]
  replace zf1 : ((w5.setCell ⟨w.heap.size + 1, 4, none⟩ (.bool false)).setCell ⟨w.heap.size + 1, 8, none⟩ (.bool true)).frozen? ⟨w.heap.size, 1, none⟩ = false := by simp [go_sem, zf1]
  replace z2 : ((w5.setCell ⟨w.heap.size + 1, 4, none⟩ (.bool false)).setCell ⟨w.heap.size + 1, 8, none⟩ (.bool true)).cell? ⟨w.heap.size, 2, none⟩ = some (.int .i64 0) := by simp [go_sem, z2]
  replace zf2 : ((w5.setCell ⟨w.heap.size + 1, 4, none⟩ (.bool false)).setCell ⟨w.heap.size + 1, 8, none⟩ (.bool true)).frozen? ⟨w.heap.size, 2, none⟩ = false := by simp [go_sem, zf2]
  replace z3 : ((w5.setCell ⟨w.heap.size + 1, 4, none⟩ (.bool false)).setCell ⟨w.heap.size + 1, 8, none⟩ (.bool true)).cell? ⟨w.heap.size, 3, none⟩ = some (.int .i64 0) := by simp [go_sem, z3]
  replace zf3 : ((w5.setCell ⟨w.heap.size + 1, 4, none⟩ (.bool false)).setCell ⟨w.heap.size + 1, 8, none⟩ (.bool true)).frozen? ⟨w.heap.size, 3, none⟩ = false := by simp [go_sem, zf3]
  replace z4 : ((w5.setCell ⟨w.heap.size + 1, 4, none⟩ (.bool false)).setCell ⟨w.heap.size + 1, 8, none⟩ (.bool true)).cell? ⟨w.heap.size, 4, none⟩ = some (.bool false) := by simp [go_sem, z4]
  replace zf4 : ((w5.setCell ⟨w.heap.size + 1, 4, none⟩ (.bool false)).setCell ⟨w.heap.size + 1, 8, none⟩ (.bool true)).frozen? ⟨w.heap.size, 4, none⟩ = false := by simp [go_sem, zf4]
  replace z5 : ((w5.setCell ⟨w.heap.size + 1, 4, none⟩ (.bool false)).setCell ⟨w.heap.size + 1, 8, none⟩ (.bool true)).cell? ⟨w.heap.size, 5, none⟩ = some (.int .i64 0) := by simp [go_sem, z5]
  replace zf5 : ((w5.setCell ⟨w.heap.size + 1, 4, none⟩ (.bool false)).setCell ⟨w.heap.size + 1, 8, none⟩ (.bool true)).frozen? ⟨w.heap.size, 5, none⟩ = false := by simp [go_sem, zf5]
  replace z6 : ((w5.setCell ⟨w.heap.size + 1, 4, none⟩ (.bool false)).setCell ⟨w.heap.size + 1, 8, none⟩ (.bool true)).cell? ⟨w.heap.size, 6, none⟩ = some (.int .i64 0) := by simp [go_sem, z6]
  replace zf6 : ((w5.setCell ⟨w.heap.size + 1, 4, none⟩ (.bool false)).setCell ⟨w.heap.size + 1, 8, none⟩ (.bool true)).frozen? ⟨w.heap.size, 6, none⟩ = false := by simp [go_sem, zf6]
  replace z7 : ((w5.setCell ⟨w.heap.size + 1, 4, none⟩ (.bool false)).setCell ⟨w.heap.size + 1, 8, none⟩ (.bool true)).cell? ⟨w.heap.size, 7, none⟩ = some (.string ⟨#[]⟩) := by simp [go_sem, z7]
  replace zf7 : ((w5.setCell ⟨w.heap.size + 1, 4, none⟩ (.bool false)).setCell ⟨w.heap.size + 1, 8, none⟩ (.bool true)).frozen? ⟨w.heap.size, 7, none⟩ = false := by simp [go_sem, zf7]
  replace z8 : ((w5.setCell ⟨w.heap.size + 1, 4, none⟩ (.bool false)).setCell ⟨w.heap.size + 1, 8, none⟩ (.bool true)).cell? ⟨w.heap.size, 8, none⟩ = some (.bool false) := by simp [go_sem, z8]
  replace zf8 : ((w5.setCell ⟨w.heap.size + 1, 4, none⟩ (.bool false)).setCell ⟨w.heap.size + 1, 8, none⟩ (.bool true)).frozen? ⟨w.heap.size, 8, none⟩ = false := by simp [go_sem, zf8]
  replace zz : w.heap.size < ((w5.setCell ⟨w.heap.size + 1, 4, none⟩ (.bool false)).setCell ⟨w.heap.size + 1, 8, none⟩ (.bool true)).heap.size := by simp <;> omega
  replace k0 : ((w5.setCell ⟨w.heap.size + 1, 4, none⟩ (.bool false)).setCell ⟨w.heap.size + 1, 8, none⟩ (.bool true)).cell? ⟨w.heap.size + 1, 0, none⟩ = some (.int .i64 n1) := by simp [go_sem, k0]
  replace kf0 : ((w5.setCell ⟨w.heap.size + 1, 4, none⟩ (.bool false)).setCell ⟨w.heap.size + 1, 8, none⟩ (.bool true)).frozen? ⟨w.heap.size + 1, 0, none⟩ = false := by simp [go_sem, kf0]
  replace k1 : ((w5.setCell ⟨w.heap.size + 1, 4, none⟩ (.bool false)).setCell ⟨w.heap.size + 1, 8, none⟩ (.bool true)).cell? ⟨w.heap.size + 1, 1, none⟩ = some (.string ⟨t2.toArray⟩) := by simp [go_sem, k1]
  replace kf1 : ((w5.setCell ⟨w.heap.size + 1, 4, none⟩ (.bool false)).setCell ⟨w.heap.size + 1, 8, none⟩ (.bool true)).frozen? ⟨w.heap.size + 1, 1, none⟩ = false := by simp [go_sem, kf1]
  replace k2 : ((w5.setCell ⟨w.heap.size + 1, 4, none⟩ (.bool false)).setCell ⟨w.heap.size + 1, 8, none⟩ (.bool true)).cell? ⟨w.heap.size + 1, 2, none⟩ = some (.int .i64 n3) := by simp [go_sem, k2]
  replace kf2 : ((w5.setCell ⟨w.heap.size + 1, 4, none⟩ (.bool false)).setCell ⟨w.heap.size + 1, 8, none⟩ (.bool true)).frozen? ⟨w.heap.size + 1, 2, none⟩ = false := by simp [go_sem, kf2]
  replace k3 : ((w5.setCell ⟨w.heap.size + 1, 4, none⟩ (.bool false)).setCell ⟨w.heap.size + 1, 8, none⟩ (.bool true)).cell? ⟨w.heap.size + 1, 3, none⟩ = some (.int .i64 n4) := by simp [go_sem, k3]
  replace kf3 : ((w5.setCell ⟨w.heap.size + 1, 4, none⟩ (.bool false)).setCell ⟨w.heap.size + 1, 8, none⟩ (.bool true)).frozen? ⟨w.heap.size + 1, 3, none⟩ = false := by simp [go_sem, kf3]
  replace k4 : ((w5.setCell ⟨w.heap.size + 1, 4, none⟩ (.bool false)).setCell ⟨w.heap.size + 1, 8, none⟩ (.bool true)).cell? ⟨w.heap.size + 1, 4, none⟩ = some (.bool false) := by simp [go_sem, k4]
  replace kf4 : ((w5.setCell ⟨w.heap.size + 1, 4, none⟩ (.bool false)).setCell ⟨w.heap.size + 1, 8, none⟩ (.bool true)).frozen? ⟨w.heap.size + 1, 4, none⟩ = false := by simp [go_sem, kf4]
  replace k5 : ((w5.setCell ⟨w.heap.size + 1, 4, none⟩ (.bool false)).setCell ⟨w.heap.size + 1, 8, none⟩ (.bool true)).cell? ⟨w.heap.size + 1, 5, none⟩ = some (.int .i64 0) := by simp [go_sem, k5]
  replace kf5 : ((w5.setCell ⟨w.heap.size + 1, 4, none⟩ (.bool false)).setCell ⟨w.heap.size + 1, 8, none⟩ (.bool true)).frozen? ⟨w.heap.size + 1, 5, none⟩ = false := by simp [go_sem, kf5]
  replace k6 : ((w5.setCell ⟨w.heap.size + 1, 4, none⟩ (.bool false)).setCell ⟨w.heap.size + 1, 8, none⟩ (.bool true)).cell? ⟨w.heap.size + 1, 6, none⟩ = some (.int .i64 0) := by simp [go_sem, k6]
  replace kf6 : ((w5.setCell ⟨w.heap.size + 1, 4, none⟩ (.bool false)).setCell ⟨w.heap.size + 1, 8, none⟩ (.bool true)).frozen? ⟨w.heap.size + 1, 6, none⟩ = false := by simp [go_sem, kf6]
  replace k7 : ((w5.setCell ⟨w.heap.size + 1, 4, none⟩ (.bool false)).setCell ⟨w.heap.size + 1, 8, none⟩ (.bool true)).cell? ⟨w.heap.size + 1, 7, none⟩ = some (.string ⟨#[]⟩) := by simp [go_sem, k7]
  replace kf7 : ((w5.setCell ⟨w.heap.size + 1, 4, none⟩ (.bool false)).setCell ⟨w.heap.size + 1, 8, none⟩ (.bool true)).frozen? ⟨w.heap.size + 1, 7, none⟩ = false := by simp [go_sem, kf7]
  replace k8 : ((w5.setCell ⟨w.heap.size + 1, 4, none⟩ (.bool false)).setCell ⟨w.heap.size + 1, 8, none⟩ (.bool true)).cell? ⟨w.heap.size + 1, 8, none⟩ = some (.bool true) := by simp [go_sem, k8]
  replace kf8 : ((w5.setCell ⟨w.heap.size + 1, 4, none⟩ (.bool false)).setCell ⟨w.heap.size + 1, 8, none⟩ (.bool true)).frozen? ⟨w.heap.size + 1, 8, none⟩ = false := by simp [go_sem, kf8]
  replace kz : w.heap.size + 1 < ((w5.setCell ⟨w.heap.size + 1, 4, none⟩ (.bool false)).setCell ⟨w.heap.size + 1, 8, none⟩ (.bool true)).heap.size := by simp <;> omega
  replace HR : Hid (RefAt ((w5.setCell ⟨w.heap.size + 1, 4, none⟩ (.bool false)).setCell ⟨w.heap.size + 1, 8, none⟩ (.bool true)) Q g s5) := ((HR.out.setOwn NQ.out (by rw [HB.out]; exact NG.out) _).setOwn NQ.out (by rw [HB.out]; exact NG.out) _)
  replace HG : Hid (w.grownBy ((w5.setCell ⟨w.heap.size + 1, 4, none⟩ (.bool false)).setCell ⟨w.heap.size + 1, 8, none⟩ (.bool true)) (some Q)) := (grown_own (grown_own HG.out (by simp) _) (by simp) _)
  generalize ((w5.setCell ⟨w.heap.size + 1, 4, none⟩ (.bool false)).setCell ⟨w.heap.size + 1, 8, none⟩ (.bool true)) = Vw5 at *
  go_wp2_with fail
  refine (rn 2000 _ HB.out HST.out H6.out HR.out).mono ?_
  rintro e w6 ⟨rfl, ⟨s6, hB, hrd, hR⟩, hg⟩
  replace zf0 := (own_cell hg zz nz 0).2.trans zf0
  replace z0 := (own_cell hg zz nz 0).1.trans z0
  replace zf1 := (own_cell hg zz nz 1).2.trans zf1
  replace z1 := (own_cell hg zz nz 1).1.trans z1
  replace zf2 := (own_cell hg zz nz 2).2.trans zf2
  replace z2 := (own_cell hg zz nz 2).1.trans z2
  replace zf3 := (own_cell hg zz nz 3).2.trans zf3
  replace z3 := (own_cell hg zz nz 3).1.trans z3
  replace zf4 := (own_cell hg zz nz 4).2.trans zf4
  replace z4 := (own_cell hg zz nz 4).1.trans z4
  replace zf5 := (own_cell hg zz nz 5).2.trans zf5
  replace z5 := (own_cell hg zz nz 5).1.trans z5
  replace zf6 := (own_cell hg zz nz 6).2.trans zf6
  replace z6 := (own_cell hg zz nz 6).1.trans z6
  replace zf7 := (own_cell hg zz nz 7).2.trans zf7
  replace z7 := (own_cell hg zz nz 7).1.trans z7
  replace zf8 := (own_cell hg zz nz 8).2.trans zf8
  replace z8 := (own_cell hg zz nz 8).1.trans z8
  replace zz := Nat.lt_of_lt_of_le zz hg.size
  replace kf0 := (own_cell hg kz nk 0).2.trans kf0
  replace k0 := (own_cell hg kz nk 0).1.trans k0
  replace kf1 := (own_cell hg kz nk 1).2.trans kf1
  replace k1 := (own_cell hg kz nk 1).1.trans k1
  replace kf2 := (own_cell hg kz nk 2).2.trans kf2
  replace k2 := (own_cell hg kz nk 2).1.trans k2
  replace kf3 := (own_cell hg kz nk 3).2.trans kf3
  replace k3 := (own_cell hg kz nk 3).1.trans k3
  replace kf4 := (own_cell hg kz nk 4).2.trans kf4
  replace k4 := (own_cell hg kz nk 4).1.trans k4
  replace kf5 := (own_cell hg kz nk 5).2.trans kf5
  replace k5 := (own_cell hg kz nk 5).1.trans k5
  replace kf6 := (own_cell hg kz nk 6).2.trans kf6
  replace k6 := (own_cell hg kz nk 6).1.trans k6
  replace kf7 := (own_cell hg kz nk 7).2.trans kf7
  replace k7 := (own_cell hg kz nk 7).1.trans k7
  replace kf8 := (own_cell hg kz nk 8).2.trans kf8
  replace k8 := (own_cell hg kz nk 8).1.trans k8
  replace kz := Nat.lt_of_lt_of_le kz hg.size
  replace HB := Lib.hid hB
  replace HST := Lib.hid hrd
  replace HR := Lib.hid hR
  replace HG := Lib.hid (HG.out.trans hg)
  clear hB hrd hR hg H6
  go_upto_region 11 with fail
  replace z0 : (w6.setCell ⟨w.heap.size + 1, 5, none⟩ (.int .i64 (n6 - 1000))).cell? ⟨w.heap.size, 0, none⟩ = some (.int .i64 0) := by simp [go_sem, z0]
  replace zf0 : (w6.setCell ⟨w.heap.size + 1, 5, none⟩ (.int .i64 (n6 - 1000))).frozen? ⟨w.heap.size, 0, none⟩ = false := by simp [go_sem, zf0]
  replace z1 : (w6.setCell ⟨w.heap.size + 1, 5, none⟩ (.int .i64 (n6 - 1000))).cell? ⟨w.heap.size, 1, none⟩ = some (.string ⟨#[]⟩) := by simp [go_sem, z1]
  replace zf1 : (w6.setCell ⟨w.heap.size + 1, 5, none⟩ (.int .i64 (n6 - 1000))).frozen? ⟨w.heap.size, 1, none⟩ = false := by simp [go_sem, zf1]
  replace z2 : (w6.setCell ⟨w.heap.size + 1, 5, none⟩ (.int .i64 (n6 - 1000))).cell? ⟨w.heap.size, 2, none⟩ = some (.int .i64 0) := by simp [go_sem, z2]
  replace zf2 : (w6.setCell ⟨w.heap.size + 1, 5, none⟩ (.int .i64 (n6 - 1000))).frozen? ⟨w.heap.size, 2, none⟩ = false := by simp [go_sem, zf2]
  replace z3 : (w6.setCell ⟨w.heap.size + 1, 5, none⟩ (.int .i64 (n6 - 1000))).cell? ⟨w.heap.size, 3, none⟩ = some (.int .i64 0) := by simp [go_sem, z3]
  replace zf3 : (w6.setCell ⟨w.heap.size + 1, 5, none⟩ (.int .i64 (n6 - 1000))).frozen? ⟨w.heap.size, 3, none⟩ = false := by simp [go_sem, zf3]
  replace z4 : (w6.setCell ⟨w.heap.size + 1, 5, none⟩ (.int .i64 (n6 - 1000))).cell? ⟨w.heap.size, 4, none⟩ = some (.bool false) := by simp [go_sem, z4]
  replace zf4 : (w6.setCell ⟨w.heap.size + 1, 5, none⟩ (.int .i64 (n6 - 1000))).frozen? ⟨w.heap.size, 4, none⟩ = false := by simp [go_sem, zf4]
  replace z5 : (w6.setCell ⟨w.heap.size + 1, 5, none⟩ (.int .i64 (n6 - 1000))).cell? ⟨w.heap.size, 5, none⟩ = some (.int .i64 0) := by simp [go_sem, z5]
  replace zf5 : (w6.setCell ⟨w.heap.size + 1, 5, none⟩ (.int .i64 (n6 - 1000))).frozen? ⟨w.heap.size, 5, none⟩ = false := by simp [go_sem, zf5]
  replace z6 : (w6.setCell ⟨w.heap.size + 1, 5, none⟩ (.int .i64 (n6 - 1000))).cell? ⟨w.heap.size, 6, none⟩ = some (.int .i64 0) := by simp [go_sem, z6]
  replace zf6 : (w6.setCell ⟨w.heap.size + 1, 5, none⟩ (.int .i64 (n6 - 1000))).frozen? ⟨w.heap.size, 6, none⟩ = false := by simp [go_sem, zf6]
  replace z7 : (w6.setCell ⟨w.heap.size + 1, 5, none⟩ (.int .i64 (n6 - 1000))).cell? ⟨w.heap.size, 7, none⟩ = some (.string ⟨#[]⟩) := by simp [go_sem, z7]
  replace zf7 : (w6.setCell ⟨w.heap.size + 1, 5, none⟩ (.int .i64 (n6 - 1000))).frozen? ⟨w.heap.size, 7, none⟩ = false := by simp [go_sem, zf7]
  replace z8 : (w6.setCell ⟨w.heap.size + 1, 5, none⟩ (.int .i64 (n6 - 1000))).cell? ⟨w.heap.size, 8, none⟩ = some (.bool false) := by simp [go_sem, z8]
  replace zf8 : (w6.setCell ⟨w.heap.size + 1, 5, none⟩ (.int .i64 (n6 - 1000))).frozen? ⟨w.heap.size, 8, none⟩ = false := by simp [go_sem, zf8]
  replace zz : w.heap.size < (w6.setCell ⟨w.heap.size + 1, 5, none⟩ (.int .i64 (n6 - 1000))).heap.size := by simp <;> omega
  replace k0 : (w6.setCell ⟨w.heap.size + 1, 5, none⟩ (.int .i64 (n6 - 1000))).cell? ⟨w.heap.size + 1, 0, none⟩ = some (.int .i64 n1) := by simp [go_sem, k0]
  replace kf0 : (w6.setCell ⟨w.heap.size + 1, 5, none⟩ (.int .i64 (n6 - 1000))).frozen? ⟨w.heap.size + 1, 0, none⟩ = false := by simp [go_sem, kf0]
  replace k1 : (w6.setCell ⟨w.heap.size + 1, 5, none⟩ (.int .i64 (n6 - 1000))).cell? ⟨w.heap.size + 1, 1, none⟩ = some (.string ⟨t2.toArray⟩) := by simp [go_sem, k1]
  replace kf1 : (w6.setCell ⟨w.heap.size + 1, 5, none⟩ (.int .i64 (n6 - 1000))).frozen? ⟨w.heap.size + 1, 1, none⟩ = false := by simp [go_sem, kf1]
  replace k2 : (w6.setCell ⟨w.heap.size + 1, 5, none⟩ (.int .i64 (n6 - 1000))).cell? ⟨w.heap.size + 1, 2, none⟩ = some (.int .i64 n3) := by simp [go_sem, k2]
  replace kf2 : (w6.setCell ⟨w.heap.size + 1, 5, none⟩ (.int .i64 (n6 - 1000))).frozen? ⟨w.heap.size + 1, 2, none⟩ = false := by simp [go_sem, kf2]
  replace k3 : (w6.setCell ⟨w.heap.size + 1, 5, none⟩ (.int .i64 (n6 - 1000))).cell? ⟨w.heap.size + 1, 3, none⟩ = some (.int .i64 n4) := by simp [go_sem, k3]
  replace kf3 : (w6.setCell ⟨w.heap.size + 1, 5, none⟩ (.int .i64 (n6 - 1000))).frozen? ⟨w.heap.size + 1, 3, none⟩ = false := by simp [go_sem, kf3]
  replace k4 : (w6.setCell ⟨w.heap.size + 1, 5, none⟩ (.int .i64 (n6 - 1000))).cell? ⟨w.heap.size + 1, 4, none⟩ = some (.bool false) := by simp [go_sem, k4]
  replace kf4 : (w6.setCell ⟨w.heap.size + 1, 5, none⟩ (.int .i64 (n6 - 1000))).frozen? ⟨w.heap.size + 1, 4, none⟩ = false := by simp [go_sem, kf4]
  replace k5 : (w6.setCell ⟨w.heap.size + 1, 5, none⟩ (.int .i64 (n6 - 1000))).cell? ⟨w.heap.size + 1, 5, none⟩ = some (.int .i64 (n6 - 1000)) := by simp [go_sem, k5]
  replace kf5 : (w6.setCell ⟨w.heap.size + 1, 5, none⟩ (.int .i64 (n6 - 1000))).frozen? ⟨w.heap.size + 1, 5, none⟩ = false := by simp [go_sem, kf5]
  replace k6 : (w6.setCell ⟨w.heap.size + 1, 5, none⟩ (.int .i64 (n6 - 1000))).cell? ⟨w.heap.size + 1, 6, none⟩ = some (.int .i64 0) := by simp [go_sem, k6]
  replace kf6 : (w6.setCell ⟨w.heap.size + 1, 5, none⟩ (.int .i64 (n6 - 1000))).frozen? ⟨w.heap.size + 1, 6, none⟩ = false := by simp [go_sem, kf6]
  replace k7 : (w6.setCell ⟨w.heap.size + 1, 5, none⟩ (.int .i64 (n6 - 1000))).cell? ⟨w.heap.size + 1, 7, none⟩ = some (.string ⟨#[]⟩) := by simp [go_sem, k7]
  replace kf7 : (w6.setCell ⟨w.heap.size + 1, 5, none⟩ (.int .i64 (n6 - 1000))).frozen? ⟨w.heap.size + 1, 7, none⟩ = false := by simp [go_sem, kf7]
  replace k8 : (w6.setCell ⟨w.heap.size + 1, 5, none⟩ (.int .i64 (n6 - 1000))).cell? ⟨w.heap.size + 1, 8, none⟩ = some (.bool true) := by simp [go_sem, k8]
  replace kf8 : (w6.setCell ⟨w.heap.size + 1, 5, none⟩ (.int .i64 (n6 - 1000))).frozen? ⟨w.heap.size + 1, 8, none⟩ = false := by simp [go_sem, kf8]
  replace kz : w.heap.size + 1 < (w6.setCell ⟨w.heap.size + 1, 5, none⟩ (.int .i64 (n6 - 1000))).heap.size := by simp <;> omega
  replace HR : Hid (RefAt (w6.setCell ⟨w.heap.size + 1, 5, none⟩ (.int .i64 (n6 - 1000))) Q g s6) := (HR.out.setOwn NQ.out (by rw [HB.out]; exact NG.out) _)
  replace HG : Hid (w.grownBy (w6.setCell ⟨w.heap.size + 1, 5, none⟩ (.int .i64 (n6 - 1000))) (some Q)) := (grown_own HG.out (by simp) _)
  generalize (w6.setCell ⟨w.heap.size + 1, 5, none⟩ (.int .i64 (n6 - 1000))) = Vw6 at *
  go_wp2_with fail
  refine (rn 2000 _ HB.out HST.out H7.out HR.out).mono ?_
  rintro e w7 ⟨rfl, ⟨s7, hB, hrd, hR⟩, hg⟩
  replace zf0 := (own_cell hg zz nz 0).2.trans zf0
  replace z0 := (own_cell hg zz nz 0).1.trans z0
  replace zf1 := (own_cell hg zz nz 1).2.trans zf1
  replace z1 := (own_cell hg zz nz 1).1.trans z1
  replace zf2 := (own_cell hg zz nz 2).2.trans zf2
  replace z2 := (own_cell hg zz nz 2).1.trans z2
  replace zf3 := (own_cell hg zz nz 3).2.trans zf3
  replace z3 := (own_cell hg zz nz 3).1.trans z3
  replace zf4 := (own_cell hg zz nz 4).2.trans zf4
  replace z4 := (own_cell hg zz nz 4).1.trans z4
  replace zf5 := (own_cell hg zz nz 5).2.trans zf5
  replace z5 := (own_cell hg zz nz 5).1.trans z5
  replace zf6 := (own_cell hg zz nz 6).2.trans zf6
  replace z6 := (own_cell hg zz nz 6).1.trans z6
  replace zf7 := (own_cell hg zz nz 7).2.trans zf7
  replace z7 := (own_cell hg zz nz 7).1.trans z7
  replace zf8 := (own_cell hg zz nz 8).2.trans zf8
  replace z8 := (own_cell hg zz nz 8).1.trans z8
  replace zz := Nat.lt_of_lt_of_le zz hg.size
  replace kf0 := (own_cell hg kz nk 0).2.trans kf0
  replace k0 := (own_cell hg kz nk 0).1.trans k0
  replace kf1 := (own_cell hg kz nk 1).2.trans kf1
  replace k1 := (own_cell hg kz nk 1).1.trans k1
  replace kf2 := (own_cell hg kz nk 2).2.trans kf2
  replace k2 := (own_cell hg kz nk 2).1.trans k2
  replace kf3 := (own_cell hg kz nk 3).2.trans kf3
  replace k3 := (own_cell hg kz nk 3).1.trans k3
  replace kf4 := (own_cell hg kz nk 4).2.trans kf4
  replace k4 := (own_cell hg kz nk 4).1.trans k4
  replace kf5 := (own_cell hg kz nk 5).2.trans kf5
  replace k5 := (own_cell hg kz nk 5).1.trans k5
  replace kf6 := (own_cell hg kz nk 6).2.trans kf6
  replace k6 := (own_cell hg kz nk 6).1.trans k6
  replace kf7 := (own_cell hg kz nk 7).2.trans kf7
  replace k7 := (own_cell hg kz nk 7).1.trans k7
  replace kf8 := (own_cell hg kz nk 8).2.trans kf8
  replace k8 := (own_cell hg kz nk 8).1.trans k8
  replace kz := Nat.lt_of_lt_of_le kz hg.size
  replace HB := Lib.hid hB
  replace HST := Lib.hid hrd
  replace HR := Lib.hid hR
  replace HG := Lib.hid (HG.out.trans hg)
  clear hB hrd hR hg H7
  go_upto_region 12 with fail
  replace z0 : (w7.setCell ⟨w.heap.size + 1, 6, none⟩ (.int .i64 (n7 - 1000))).cell? ⟨w.heap.size, 0, none⟩ = some (.int .i64 0) := by simp [go_sem, z0]
  replace zf0 : (w7.setCell ⟨w.heap.size + 1, 6, none⟩ (.int .i64 (n7 - 1000))).frozen? ⟨w.heap.size, 0, none⟩ = false := by simp [go_sem, zf0]
  replace z1 : (w7.setCell ⟨w.heap.size + 1, 6, none⟩ (.int .i64 (n7 - 1000))).cell? ⟨w.heap.size, 1, none⟩ = some (.string ⟨#[]⟩) := by simp [go_sem, z1]
  replace zf1 : (w7.setCell ⟨w.heap.size + 1, 6, none⟩ (.int .i64 (n7 - 1000))).frozen? ⟨w.heap.size, 1, none⟩ = false := by simp [go_sem, zf1]
  replace z2 : (w7.setCell ⟨w.heap.size + 1, 6, none⟩ (.int .i64 (n7 - 1000))).cell? ⟨w.heap.size, 2, none⟩ = some (.int .i64 0) := by simp [go_sem, z2]
  replace zf2 : (w7.setCell ⟨w.heap.size + 1, 6, none⟩ (.int .i64 (n7 - 1000))).frozen? ⟨w.heap.size, 2, none⟩ = false := by simp [go_sem, zf2]
  replace z3 : (w7.setCell ⟨w.heap.size + 1, 6, none⟩ (.int .i64 (n7 - 1000))).cell? ⟨w.heap.size, 3, none⟩ = some (.int .i64 0) := by simp [go_sem, z3]
  replace zf3 : (w7.setCell ⟨w.heap.size + 1, 6, none⟩ (.int .i64 (n7 - 1000))).frozen? ⟨w.heap.size, 3, none⟩ = false := by simp [go_sem, zf3]
  replace z4 : (w7.setCell ⟨w.heap.size + 1, 6, none⟩ (.int .i64 (n7 - 1000))).cell? ⟨w.heap.size, 4, none⟩ = some (.bool false) := by simp [go_sem, z4]
  replace zf4 : (w7.setCell ⟨w.heap.size + 1, 6, none⟩ (.int .i64 (n7 - 1000))).frozen? ⟨w.heap.size, 4, none⟩ = false := by simp [go_sem, zf4]
  replace z5 : (w7.setCell ⟨w.heap.size + 1, 6, none⟩ (.int .i64 (n7 - 1000))).cell? ⟨w.heap.size, 5, none⟩ = some (.int .i64 0) := by simp [go_sem, z5]
  replace zf5 : (w7.setCell ⟨w.heap.size + 1, 6, none⟩ (.int .i64 (n7 - 1000))).frozen? ⟨w.heap.size, 5, none⟩ = false := by simp [go_sem, zf5]
  replace z6 : (w7.setCell ⟨w.heap.size + 1, 6, none⟩ (.int .i64 (n7 - 1000))).cell? ⟨w.heap.size, 6, none⟩ = some (.int .i64 0) := by simp [go_sem, z6]
  replace zf6 : (w7.setCell ⟨w.heap.size + 1, 6, none⟩ (.int .i64 (n7 - 1000))).frozen? ⟨w.heap.size, 6, none⟩ = false := by simp [go_sem, zf6]
  replace z7 : (w7.setCell ⟨w.heap.size + 1, 6, none⟩ (.int .i64 (n7 - 1000))).cell? ⟨w.heap.size, 7, none⟩ = some (.string ⟨#[]⟩) := by simp [go_sem, z7]
  replace zf7 : (w7.setCell ⟨w.heap.size + 1, 6, none⟩ (.int .i64 (n7 - 1000))).frozen? ⟨w.heap.size, 7, none⟩ = false := by simp [go_sem, zf7]
  replace z8 : (w7.setCell ⟨w.heap.size + 1, 6, none⟩ (.int .i64 (n7 - 1000))).cell? ⟨w.heap.size, 8, none⟩ = some (.bool false) := by simp [go_sem, z8]
  replace zf8 : (w7.setCell ⟨w.heap.size + 1, 6, none⟩ (.int .i64 (n7 - 1000))).frozen? ⟨w.heap.size, 8, none⟩ = false := by simp [go_sem, zf8]
  replace zz : w.heap.size < (w7.setCell ⟨w.heap.size + 1, 6, none⟩ (.int .i64 (n7 - 1000))).heap.size := by simp <;> omega
  replace k0 : (w7.setCell ⟨w.heap.size + 1, 6, none⟩ (.int .i64 (n7 - 1000))).cell? ⟨w.heap.size + 1, 0, none⟩ = some (.int .i64 n1) := by simp [go_sem, k0]
  replace kf0 : (w7.setCell ⟨w.heap.size + 1, 6, none⟩ (.int .i64 (n7 - 1000))).frozen? ⟨w.heap.size + 1, 0, none⟩ = false := by simp [go_sem, kf0]
  replace k1 : (w7.setCell ⟨w.heap.size + 1, 6, none⟩ (.int .i64 (n7 - 1000))).cell? ⟨w.heap.size + 1, 1, none⟩ = some (.string ⟨t2.toArray⟩) := by simp [go_sem, k1]
  replace kf1 : (w7.setCell ⟨w.heap.size + 1, 6, none⟩ (.int .i64 (n7 - 1000))).frozen? ⟨w.heap.size + 1, 1, none⟩ = false := by simp [go_sem, kf1]
  replace k2 : (w7.setCell ⟨w.heap.size + 1, 6, none⟩ (.int .i64 (n7 - 1000))).cell? ⟨w.heap.size + 1, 2, none⟩ = some (.int .i64 n3) := by simp [go_sem, k2]
  replace kf2 : (w7.setCell ⟨w.heap.size + 1, 6, none⟩ (.int .i64 (n7 - 1000))).frozen? ⟨w.heap.size + 1, 2, none⟩ = false := by simp [go_sem, kf2]
  replace k3 : (w7.setCell ⟨w.heap.size + 1, 6, none⟩ (.int .i64 (n7 - 1000))).cell? ⟨w.heap.size + 1, 3, none⟩ = some (.int .i64 n4) := by simp [go_sem, k3]
  replace kf3 : (w7.setCell ⟨w.heap.size + 1, 6, none⟩ (.int .i64 (n7 - 1000))).frozen? ⟨w.heap.size + 1, 3, none⟩ = false := by simp [go_sem, kf3]
  replace k4 : (w7.setCell ⟨w.heap.size + 1, 6, none⟩ (.int .i64 (n7 - 1000))).cell? ⟨w.heap.size + 1, 4, none⟩ = some (.bool false) := by simp [go_sem, k4]
  replace kf4 : (w7.setCell ⟨w.heap.size + 1, 6, none⟩ (.int .i64 (n7 - 1000))).frozen? ⟨w.heap.size + 1, 4, none⟩ = false := by simp [go_sem, kf4]
  replace k5 : (w7.setCell ⟨w.heap.size + 1, 6, none⟩ (.int .i64 (n7 - 1000))).cell? ⟨w.heap.size + 1, 5, none⟩ = some (.int .i64 (n6 - 1000)) := by simp [go_sem, k5]
  replace kf5 : (w7.setCell ⟨w.heap.size + 1, 6, none⟩ (.int .i64 (n7 - 1000))).frozen? ⟨w.heap.size + 1, 5, none⟩ = false := by simp [go_sem, kf5]
  replace k6 : (w7.setCell ⟨w.heap.size + 1, 6, none⟩ (.int .i64 (n7 - 1000))).cell? ⟨w.heap.size + 1, 6, none⟩ = some (.int .i64 (n7 - 1000)) := by simp [go_sem, k6]
  replace kf6 : (w7.setCell ⟨w.heap.size + 1, 6, none⟩ (.int .i64 (n7 - 1000))).frozen? ⟨w.heap.size + 1, 6, none⟩ = false := by simp [go_sem, kf6]
  replace k7 : (w7.setCell ⟨w.heap.size + 1, 6, none⟩ (.int .i64 (n7 - 1000))).cell? ⟨w.heap.size + 1, 7, none⟩ = some (.string ⟨#[]⟩) := by simp [go_sem, k7]
  replace kf7 : (w7.setCell ⟨w.heap.size + 1, 6, none⟩ (.int .i64 (n7 - 1000))).frozen? ⟨w.heap.size + 1, 7, none⟩ = false := by simp [go_sem, kf7]
  replace k8 : (w7.setCell ⟨w.heap.size + 1, 6, none⟩ (.int .i64 (n7 - 1000))).cell? ⟨w.heap.size + 1, 8, none⟩ = some (.bool true) := by simp [go_sem, k8]
  replace kf8 : (w7.setCell ⟨w.heap.size + 1, 6, none⟩ (.int .i64 (n7 - 1000))).frozen? ⟨w.heap.size + 1, 8, none⟩ = false := by simp [go_sem, kf8]
  replace kz : w.heap.size + 1 < (w7.setCell ⟨w.heap.size + 1, 6, none⟩ (.int .i64 (n7 - 1000))).heap.size := by simp <;> omega
  replace HR : Hid (RefAt (w7.setCell ⟨w.heap.size + 1, 6, none⟩ (.int .i64 (n7 - 1000))) Q g s7) := (HR.out.setOwn NQ.out (by rw [HB.out]; exact NG.out) _)
  replace HG : Hid (w.grownBy (w7.setCell ⟨w.heap.size + 1, 6, none⟩ (.int .i64 (n7 - 1000))) (some Q)) := (grown_own HG.out (by simp) _)
  generalize (w7.setCell ⟨w.heap.size + 1, 6, none⟩ (.int .i64 (n7 - 1000))) = Vw7 at *
  go_wp2_with fail
  refine (rt 16 _ HB.out HST.out H8.out HR.out).mono ?_
  rintro e w8 ⟨rfl, ⟨s8, hB, hrd, hR⟩, hg⟩
  replace zf0 := (own_cell hg zz nz 0).2.trans zf0
  replace z0 := (own_cell hg zz nz 0).1.trans z0
  replace zf1 := (own_cell hg zz nz 1).2.trans zf1
  replace z1 := (own_cell hg zz nz 1).1.trans z1
  replace zf2 := (own_cell hg zz nz 2).2.trans zf2
  replace z2 := (own_cell hg zz nz 2).1.trans z2
  replace zf3 := (own_cell hg zz nz 3).2.trans zf3
  replace z3 := (own_cell hg zz nz 3).1.trans z3
  replace zf4 := (own_cell hg zz nz 4).2.trans zf4
  replace z4 := (own_cell hg zz nz 4).1.trans z4
  replace zf5 := (own_cell hg zz nz 5).2.trans zf5
  replace z5 := (own_cell hg zz nz 5).1.trans z5
  replace zf6 := (own_cell hg zz nz 6).2.trans zf6
  replace z6 := (own_cell hg zz nz 6).1.trans z6
  replace zf7 := (own_cell hg zz nz 7).2.trans zf7
  replace z7 := (own_cell hg zz nz 7).1.trans z7
  replace zf8 := (own_cell hg zz nz 8).2.trans zf8
  replace z8 := (own_cell hg zz nz 8).1.trans z8
  replace zz := Nat.lt_of_lt_of_le zz hg.size
  replace kf0 := (own_cell hg kz nk 0).2.trans kf0
  replace k0 := (own_cell hg kz nk 0).1.trans k0
  replace kf1 := (own_cell hg kz nk 1).2.trans kf1
  replace k1 := (own_cell hg kz nk 1).1.trans k1
  replace kf2 := (own_cell hg kz nk 2).2.trans kf2
  replace k2 := (own_cell hg kz nk 2).1.trans k2
  replace kf3 := (own_cell hg kz nk 3).2.trans kf3
  replace k3 := (own_cell hg kz nk 3).1.trans k3
  replace kf4 := (own_cell hg kz nk 4).2.trans kf4
  replace k4 := (own_cell hg kz nk 4).1.trans k4
  replace kf5 := (own_cell hg kz nk 5).2.trans kf5
  replace k5 := (own_cell hg kz nk 5).1.trans k5
  replace kf6 := (own_cell hg kz nk 6).2.trans kf6
  replace k6 := (own_cell hg kz nk 6).1.trans k6
  replace kf7 := (own_cell hg kz nk 7).2.trans kf7
  replace k7 := (own_cell hg kz nk 7).1.trans k7
  replace kf8 := (own_cell hg kz nk 8).2.trans kf8
  replace k8 := (own_cell hg kz nk 8).1.trans k8
  replace kz := Nat.lt_of_lt_of_le kz hg.size
  replace HB := Lib.hid hB
  replace HST := Lib.hid hrd
  replace HR := Lib.hid hR
  replace HG := Lib.hid (HG.out.trans hg)
  clear hB hrd hR hg H8
  go_upto_region 14 with fail
  replace z0 : (w8.setCell ⟨w.heap.size + 1, 7, none⟩ (.string ⟨t8.toArray⟩)).cell? ⟨w.heap.size, 0, none⟩ = some (.int .i64 0) := by simp [go_sem, z0]
  replace zf0 : (w8.setCell ⟨w.heap.size + 1, 7, none⟩ (.string ⟨t8.toArray⟩)).frozen? ⟨w.heap.size, 0, none⟩ = false := by simp [go_sem, zf0]
  replace z1 : (w8.setCell ⟨w.heap.size + 1, 7, none⟩ (.string ⟨t8.toArray⟩)).cell? ⟨w.heap.size, 1, none⟩ = some (.string ⟨#[]⟩) := by simp [go_sem, z1]
  replace zf1 : (w8.setCell ⟨w.heap.size + 1, 7, none⟩ (.string ⟨t8.toArray⟩)).frozen? ⟨w.heap.size, 1, none⟩ = false := by simp [go_sem, zf1]
  replace z2 : (w8.setCell ⟨w.heap.size + 1, 7, none⟩ (.string ⟨t8.toArray⟩)).cell? ⟨w.heap.size, 2, none⟩ = some (.int .i64 0) := by simp [go_sem, z2]
  replace zf2 : (w8.setCell ⟨w.heap.size + 1, 7, none⟩ (.string ⟨t8.toArray⟩)).frozen? ⟨w.heap.size, 2, none⟩ = false := by simp [go_sem, zf2]
  replace z3 : (w8.setCell ⟨w.heap.size + 1, 7, none⟩ (.string ⟨t8.toArray⟩)).cell? ⟨w.heap.size, 3, none⟩ = some (.int .i64 0) := by simp [go_sem, z3]
  replace zf3 : (w8.setCell ⟨w.heap.size + 1, 7, none⟩ (.string ⟨t8.toArray⟩)).frozen? ⟨w.heap.size, 3, none⟩ = false := by simp [go_sem, zf3]
  replace z4 : (w8.setCell ⟨w.heap.size + 1, 7, none⟩ (.string ⟨t8.toArray⟩)).cell? ⟨w.heap.size, 4, none⟩ = some (.bool false) := by simp [go_sem, z4]
  replace zf4 : (w8.setCell ⟨w.heap.size + 1, 7, none⟩ (.string ⟨t8.toArray⟩)).frozen? ⟨w.heap.size, 4, none⟩ = false := by simp [go_sem, zf4]
  replace z5 : (w8.setCell ⟨w.heap.size + 1, 7, none⟩ (.string ⟨t8.toArray⟩)).cell? ⟨w.heap.size, 5, none⟩ = some (.int .i64 0) := by simp [go_sem, z5]
  replace zf5 : (w8.setCell ⟨w.heap.size + 1, 7, none⟩ (.string ⟨t8.toArray⟩)).frozen? ⟨w.heap.size, 5, none⟩ = false := by simp [go_sem, zf5]
  replace z6 : (w8.setCell ⟨w.heap.size + 1, 7, none⟩ (.string ⟨t8.toArray⟩)).cell? ⟨w.heap.size, 6, none⟩ = some (.int .i64 0) := by simp [go_sem, z6]
  replace zf6 : (w8.setCell ⟨w.heap.size + 1, 7, none⟩ (.string ⟨t8.toArray⟩)).frozen? ⟨w.heap.size, 6, none⟩ = false := by simp [go_sem, zf6]
  replace z7 : (w8.setCell ⟨w.heap.size + 1, 7, none⟩ (.string ⟨t8.toArray⟩)).cell? ⟨w.heap.size, 7, none⟩ = some (.string ⟨#[]⟩) := by simp [go_sem, z7]
  replace zf7 : (w8.setCell ⟨w.heap.size + 1, 7, none⟩ (.string ⟨t8.toArray⟩)).frozen? ⟨w.heap.size, 7, none⟩ = false := by simp [go_sem, zf7]
  replace z8 : (w8.setCell ⟨w.heap.size + 1, 7, none⟩ (.string ⟨t8.toArray⟩)).cell? ⟨w.heap.size, 8, none⟩ = some (.bool false) := by simp [go_sem, z8]
  replace zf8 : (w8.setCell ⟨w.heap.size + 1, 7, none⟩ (.string ⟨t8.toArray⟩)).frozen? ⟨w.heap.size, 8, none⟩ = false := by simp [go_sem, zf8]
  replace zz : w.heap.size < (w8.setCell ⟨w.heap.size + 1, 7, none⟩ (.string ⟨t8.toArray⟩)).heap.size := by simp <;> omega
  replace k0 : (w8.setCell ⟨w.heap.size + 1, 7, none⟩ (.string ⟨t8.toArray⟩)).cell? ⟨w.heap.size + 1, 0, none⟩ = some (.int .i64 n1) := by simp [go_sem, k0]
  replace kf0 : (w8.setCell ⟨w.heap.size + 1, 7, none⟩ (.string ⟨t8.toArray⟩)).frozen? ⟨w.heap.size + 1, 0, none⟩ = false := by simp [go_sem, kf0]
  replace k1 : (w8.setCell ⟨w.heap.size + 1, 7, none⟩ (.string ⟨t8.toArray⟩)).cell? ⟨w.heap.size + 1, 1, none⟩ = some (.string ⟨t2.toArray⟩) := by simp [go_sem, k1]
  replace kf1 : (w8.setCell ⟨w.heap.size + 1, 7, none⟩ (.string ⟨t8.toArray⟩)).frozen? ⟨w.heap.size + 1, 1, none⟩ = false := by simp [go_sem, kf1]
  replace k2 : (w8.setCell ⟨w.heap.size + 1, 7, none⟩ (.string ⟨t8.toArray⟩)).cell? ⟨w.heap.size + 1, 2, none⟩ = some (.int .i64 n3) := by simp [go_sem, k2]
  replace kf2 : (w8.setCell ⟨w.heap.size + 1, 7, none⟩ (.string ⟨t8.toArray⟩)).frozen? ⟨w.heap.size + 1, 2, none⟩ = false := by simp [go_sem, kf2]
  replace k3 : (w8.setCell ⟨w.heap.size + 1, 7, none⟩ (.string ⟨t8.toArray⟩)).cell? ⟨w.heap.size + 1, 3, none⟩ = some (.int .i64 n4) := by simp [go_sem, k3]
  replace kf3 : (w8.setCell ⟨w.heap.size + 1, 7, none⟩ (.string ⟨t8.toArray⟩)).frozen? ⟨w.heap.size + 1, 3, none⟩ = false := by simp [go_sem, kf3]
  replace k4 : (w8.setCell ⟨w.heap.size + 1, 7, none⟩ (.string ⟨t8.toArray⟩)).cell? ⟨w.heap.size + 1, 4, none⟩ = some (.bool false) := by simp [go_sem, k4]
  replace kf4 : (w8.setCell ⟨w.heap.size + 1, 7, none⟩ (.string ⟨t8.toArray⟩)).frozen? ⟨w.heap.size + 1, 4, none⟩ = false := by simp [go_sem, kf4]
  replace k5 : (w8.setCell ⟨w.heap.size + 1, 7, none⟩ (.string ⟨t8.toArray⟩)).cell? ⟨w.heap.size + 1, 5, none⟩ = some (.int .i64 (n6 - 1000)) := by simp [go_sem, k5]
  replace kf5 : (w8.setCell ⟨w.heap.size + 1, 7, none⟩ (.string ⟨t8.toArray⟩)).frozen? ⟨w.heap.size + 1, 5, none⟩ = false := by simp [go_sem, kf5]
  replace k6 : (w8.setCell ⟨w.heap.size + 1, 7, none⟩ (.string ⟨t8.toArray⟩)).cell? ⟨w.heap.size + 1, 6, none⟩ = some (.int .i64 (n7 - 1000)) := by simp [go_sem, k6]
  replace kf6 : (w8.setCell ⟨w.heap.size + 1, 7, none⟩ (.string ⟨t8.toArray⟩)).frozen? ⟨w.heap.size + 1, 6, none⟩ = false := by simp [go_sem, kf6]
  replace k7 : (w8.setCell ⟨w.heap.size + 1, 7, none⟩ (.string ⟨t8.toArray⟩)).cell? ⟨w.heap.size + 1, 7, none⟩ = some (.string ⟨t8.toArray⟩) := by simp [go_sem, k7]
  replace kf7 : (w8.setCell ⟨w.heap.size + 1, 7, none⟩ (.string ⟨t8.toArray⟩)).frozen? ⟨w.heap.size + 1, 7, none⟩ = false := by simp [go_sem, kf7]
  replace k8 : (w8.setCell ⟨w.heap.size + 1, 7, none⟩ (.string ⟨t8.toArray⟩)).cell? ⟨w.heap.size + 1, 8, none⟩ = some (.bool true) := by simp [go_sem, k8]
  replace kf8 : (w8.setCell ⟨w.heap.size + 1, 7, none⟩ (.string ⟨t8.toArray⟩)).frozen? ⟨w.heap.size + 1, 8, none⟩ = false := by simp [go_sem, kf8]
  replace kz : w.heap.size + 1 < (w8.setCell ⟨w.heap.size + 1, 7, none⟩ (.string ⟨t8.toArray⟩)).heap.size := by simp <;> omega
  replace HR : Hid (RefAt (w8.setCell ⟨w.heap.size + 1, 7, none⟩ (.string ⟨t8.toArray⟩)) Q g s8) := (HR.out.setOwn NQ.out (by rw [HB.out]; exact NG.out) _)
  replace HG : Hid (w.grownBy (w8.setCell ⟨w.heap.size + 1, 7, none⟩ (.string ⟨t8.toArray⟩)) (some Q)) := (grown_own HG.out (by simp) _)
  generalize (w8.setCell ⟨w.heap.size + 1, 7, none⟩ (.string ⟨t8.toArray⟩)) = Vw8 at *
  have c2 := HR.out.c2
  have hbad : s8.bad = r8.2 := congrArg Prod.snd HST.out
  rw [hbad] at c2
  have HBD := Lib.hid hbad
  clear hbad
  by_cases hz : r8.2 = 0
  · rw [decide_eq_true hz] at HOK
    rw [hz] at c2
    go_wp2_with fail
    refine (HRR.out _).mono ?_
    rintro e w9 ⟨rfl, hb⟩
    replace z0 := (hb.cell (p := ⟨w.heap.size, 0, none⟩) zz).trans z0
    replace zf0 := (hb.frozen (p := ⟨w.heap.size, 0, none⟩) zz).trans zf0
    replace z1 := (hb.cell (p := ⟨w.heap.size, 1, none⟩) zz).trans z1
    replace zf1 := (hb.frozen (p := ⟨w.heap.size, 1, none⟩) zz).trans zf1
    replace z2 := (hb.cell (p := ⟨w.heap.size, 2, none⟩) zz).trans z2
    replace zf2 := (hb.frozen (p := ⟨w.heap.size, 2, none⟩) zz).trans zf2
    replace z3 := (hb.cell (p := ⟨w.heap.size, 3, none⟩) zz).trans z3
    replace zf3 := (hb.frozen (p := ⟨w.heap.size, 3, none⟩) zz).trans zf3
    replace z4 := (hb.cell (p := ⟨w.heap.size, 4, none⟩) zz).trans z4
    replace zf4 := (hb.frozen (p := ⟨w.heap.size, 4, none⟩) zz).trans zf4
    replace z5 := (hb.cell (p := ⟨w.heap.size, 5, none⟩) zz).trans z5
    replace zf5 := (hb.frozen (p := ⟨w.heap.size, 5, none⟩) zz).trans zf5
    replace z6 := (hb.cell (p := ⟨w.heap.size, 6, none⟩) zz).trans z6
    replace zf6 := (hb.frozen (p := ⟨w.heap.size, 6, none⟩) zz).trans zf6
    replace z7 := (hb.cell (p := ⟨w.heap.size, 7, none⟩) zz).trans z7
    replace zf7 := (hb.frozen (p := ⟨w.heap.size, 7, none⟩) zz).trans zf7
    replace z8 := (hb.cell (p := ⟨w.heap.size, 8, none⟩) zz).trans z8
    replace zf8 := (hb.frozen (p := ⟨w.heap.size, 8, none⟩) zz).trans zf8
    replace zz := Nat.lt_of_lt_of_le zz hb.size
    replace k0 := (hb.cell (p := ⟨w.heap.size + 1, 0, none⟩) kz).trans k0
    replace kf0 := (hb.frozen (p := ⟨w.heap.size + 1, 0, none⟩) kz).trans kf0
    replace k1 := (hb.cell (p := ⟨w.heap.size + 1, 1, none⟩) kz).trans k1
    replace kf1 := (hb.frozen (p := ⟨w.heap.size + 1, 1, none⟩) kz).trans kf1
    replace k2 := (hb.cell (p := ⟨w.heap.size + 1, 2, none⟩) kz).trans k2
    replace kf2 := (hb.frozen (p := ⟨w.heap.size + 1, 2, none⟩) kz).trans kf2
    replace k3 := (hb.cell (p := ⟨w.heap.size + 1, 3, none⟩) kz).trans k3
    replace kf3 := (hb.frozen (p := ⟨w.heap.size + 1, 3, none⟩) kz).trans kf3
    replace k4 := (hb.cell (p := ⟨w.heap.size + 1, 4, none⟩) kz).trans k4
    replace kf4 := (hb.frozen (p := ⟨w.heap.size + 1, 4, none⟩) kz).trans kf4
    replace k5 := (hb.cell (p := ⟨w.heap.size + 1, 5, none⟩) kz).trans k5
    replace kf5 := (hb.frozen (p := ⟨w.heap.size + 1, 5, none⟩) kz).trans kf5
    replace k6 := (hb.cell (p := ⟨w.heap.size + 1, 6, none⟩) kz).trans k6
    replace kf6 := (hb.frozen (p := ⟨w.heap.size + 1, 6, none⟩) kz).trans kf6
    replace k7 := (hb.cell (p := ⟨w.heap.size + 1, 7, none⟩) kz).trans k7
    replace kf7 := (hb.frozen (p := ⟨w.heap.size + 1, 7, none⟩) kz).trans kf7
    replace k8 := (hb.cell (p := ⟨w.heap.size + 1, 8, none⟩) kz).trans k8
    replace kf8 := (hb.frozen (p := ⟨w.heap.size + 1, 8, none⟩) kz).trans kf8
    replace kz := Nat.lt_of_lt_of_le kz hb.size
    replace HR := Lib.hid (HR.out.keep hb)
    replace HG := Lib.hid (grown_below HG.out hb)
    clear hb c2
    cases R
    · skip
      go_wp2
      refine bodyPost_ret (v := .tuple #[.agg #[.int .i64 0, .string ⟨#[]⟩, .int .i64 0, .int .i64 0, .bool false, .int .i64 0, .int .i64 0, .string ⟨#[]⟩, .bool false], .bool false]) ?_ rfl ?_
      · simp [results, Try.results27, go_sem, z0, z1, z2, z3, z4, z5, z6, z7, z8]
      · rw [HOK.out]
        exact ⟨rfl, ⟨s8, HB.out, HST.out, by repeat (first | with_reducible exact HR.out | with_reducible refine RefAt.setOwn ?_ (by exact NZ.out) (by rw [HB.out]; exact NGZ.out) _)⟩, by repeat (first | with_reducible exact HG.out | with_reducible refine grown_own ?_ (by simp) _)⟩
    · skip
      go_wp2
      refine bodyPost_ret (v := .tuple #[.agg #[.int .i64 n1, .string ⟨t2.toArray⟩, .int .i64 n3, .int .i64 n4, .bool false, .int .i64 (n6 - 1000), .int .i64 (n7 - 1000), .string ⟨t8.toArray⟩, .bool true], .bool true]) ?_ rfl ?_
      · simp [results, Try.results27, go_sem, z0, z1, z2, z3, z4, z5, z6, z7, z8]
      · rw [HOK.out]
        exact ⟨rfl, ⟨s8, HB.out, HST.out, by repeat (first | with_reducible exact HR.out | with_reducible refine RefAt.setOwn ?_ (by exact NZ.out) (by rw [HB.out]; exact NGZ.out) _)⟩, by repeat (first | with_reducible exact HG.out | with_reducible refine grown_own ?_ (by simp) _)⟩
  · rw [decide_eq_false hz, Bool.false_and] at HOK
    have hz' : ((r8.2 : Int) != 0) = true := by simpa using hz
    clear hz
    go_wp2
    refine bodyPost_ret (v := .tuple #[.agg #[.int .i64 0, .string ⟨#[]⟩, .int .i64 0, .int .i64 0, .bool false, .int .i64 0, .int .i64 0, .string ⟨#[]⟩, .bool false], .bool false]) ?_ rfl ?_
    · simp [results, Try.results27, go_sem, z0, z1, z2, z3, z4, z5, z6, z7, z8]
    · rw [HOK.out]
      exact ⟨rfl, ⟨s8, HB.out, HST.out, by repeat (first | with_reducible exact HR.out | with_reducible refine RefAt.setOwn ?_ (by exact NZ.out) (by rw [HB.out]; exact NGZ.out) _)⟩, by repeat (first | with_reducible exact HG.out | with_reducible refine grown_own ?_ (by simp) _)⟩
set_option maxHeartbeats 1000000 in
theorem refTake_any {Q g : Nat} {s : Rf} (w : World) (h : RefAt w Q g s) :
    Calls Try.prog 27 #[.pointer (some ⟨Q, 0, none⟩)] w (RefRet (.tuple #[refV (if okI s.rd then rawI s.rd else zeroI), .bool (okI s.rd)]) Q g s.B (tkE s.rd) w) := by
  have b5 : 0 ≤ (tk5 s.rd).1 ∧ ((tk5 s.rd).1 ≤ 2 ∨ (tk5 s.rd).1 = 0) := num_le (tk4 s.rd).2 2
  have b6 : 0 ≤ (tk6 s.rd).1 ∧ ((tk6 s.rd).1 ≤ 2000 ∨ (tk6 s.rd).1 = 0) := num_le (tk5 s.rd).2 2000
  have b7 : 0 ≤ (tk7 s.rd).1 ∧ ((tk7 s.rd).1 ≤ 2000 ∨ (tk7 s.rd).1 = 0) := num_le (tk6 s.rd).2 2000
  have key : ∀ (ok : Bool) (i : Itm), refV (if ok = true then i else zeroI) = if ok = true then refV i else refV zeroI := fun ok i => by cases ok <;> rfl
  rw [key]
  have hz : refV zeroI = .agg #[.int .i64 0, .string ⟨#[]⟩, .int .i64 0, .int .i64 0, .bool false, .int .i64 0, .int .i64 0, .string ⟨#[]⟩, .bool false] := rfl
  rw [hz]
  have h5 : (tk5 s.rd).1 = 0 ∨ (tk5 s.rd).1 = 1 ∨ (tk5 s.rd).1 = 2 := by omega
  rcases h5 with h5 | h5 | h5
  · have e5 : numF (tk4 s.rd).2 2 = (0, (tk5 s.rd).2) := by rw [tk5_eta, h5]
    have eR : rawI s.rd = ⟨(tk1 s.rd).1, ⟨⟨(tk2 s.rd).1.toArray⟩, (tk3 s.rd).1, (tk4 s.rd).1⟩, true, 0, 0, ⟨#[]⟩, false⟩ := by unfold rawI; rw [h5]; simp
    have eE : tkE s.rd = (tk5 s.rd).2 := tkE_0 h5
    have := refTake_0 w h (tk1_eta s.rd) (tk2_eta s.rd) (tk3_eta s.rd) (tk4_eta s.rd) e5 (okI s.rd) (by unfold okI; rw [eE, eR])
    rw [eE, eR]
    exact this
  · have e5 : numF (tk4 s.rd).2 2 = (1, (tk5 s.rd).2) := by rw [tk5_eta, h5]
    have eR : rawI s.rd = ⟨(tk1 s.rd).1, ⟨⟨(tk2 s.rd).1.toArray⟩, (tk3 s.rd).1, (tk4 s.rd).1⟩, false, (tk6 s.rd).1 - 1000, (tk7 s.rd).1 - 1000, ⟨#[]⟩, false⟩ := by unfold rawI; rw [h5]; simp
    have eE : tkE s.rd = (tk7 s.rd).2 := tkE_1 h5
    have := refTake_1 w h (tk1_eta s.rd) (tk2_eta s.rd) (tk3_eta s.rd) (tk4_eta s.rd) e5 (tk6_eta s.rd) (tk7_eta s.rd) b6.1 (by omega) b7.1 (by omega) (okI s.rd) (by unfold okI; rw [eE, eR])
    rw [eE, eR]
    exact this
  · have e5 : numF (tk4 s.rd).2 2 = (2, (tk5 s.rd).2) := by rw [tk5_eta, h5]
    have eS : tkS s.rd = (tk7 s.rd).2 := tkS_2 h5
    have eR : rawI s.rd = ⟨(tk1 s.rd).1, ⟨⟨(tk2 s.rd).1.toArray⟩, (tk3 s.rd).1, (tk4 s.rd).1⟩, false, (tk6 s.rd).1 - 1000, (tk7 s.rd).1 - 1000, ⟨(tk8 s.rd).1.toArray⟩, true⟩ := by unfold rawI; rw [h5]; simp
    have eE : tkE s.rd = (tk8 s.rd).2 := tkE_2 h5
    have e8 : textF (tk7 s.rd).2 16 = ((tk8 s.rd).1, (tk8 s.rd).2) := by rw [← eS]; exact tk8_eta s.rd
    have := refTake_2 w h (tk1_eta s.rd) (tk2_eta s.rd) (tk3_eta s.rd) (tk4_eta s.rd) e5 (tk6_eta s.rd) (tk7_eta s.rd) b6.1 (by omega) b7.1 (by omega) e8 (okI s.rd) (by unfold okI; rw [eE, eR])
    rw [eE, eR]
    exact this
end Go.Proofs.Ytophhjknbanafaa
