/- The document's Same of bytes. -/
import Derived.Test.YtbookbgfipbaoaaGreatDoorH2
import Derived.Test.YtbookbgfipbaoaaGreatDoorH7
import Derived.StillTail
import Derived.Deep.RegionHeld
import Derived.Test.YtbookbgfipbaoaaGreatDoorH3
import Derived.Test.YtbookbgfipbaoaaGreatDoorH4
import Derived.Laws.StructEq
namespace Go.Proofs.YtbookbgfipbaoaaGreatDoor.By
open Go.RowKit

set_option maxRecDepth 100000 in
set_option maxHeartbeats 1000000 in
theorem same_any (A1 A2 : Option Addr) (n1 n2 c1 c2 g1 g2 : Nat) (xs ys : List UInt8) (w : World) (h1 : BytesAt w g1 A1 n1 xs) (h2 : BytesAt w g2 A2 n2 ys) :
    Calls Tryz.prog 13 #[.slice A1 n1 c1, .slice A2 n2 c2] w fun e w' => e = .returned (.bool (decide (xs = ys))) ∧ w = w' := by
  have k1 : (convert 48 9 (.slice A1 n1 c1)).run Tryz.prog w = .ok (.string ⟨xs.toArray⟩) w := run_text c1 h1
  have k2 : (convert 48 9 (.slice A2 n2 c2)).run Tryz.prog w = .ok (.string ⟨ys.toArray⟩) w := run_text c2 h2
  go_enter Tryz.func13, Tryz.ntmps13
  go_wp2
  go_ret
  refine ⟨ret_bool ?_, rfl⟩
  by_cases h : xs = ys <;> simp [h]
end Go.Proofs.YtbookbgfipbaoaaGreatDoor.By

/- item.Newer; the law's own little check of layer 7: 'told'. -/
namespace Go.Proofs.YtbookbgfipbaoaaGreatDoor.By
open Go.RowKit

end Go.Proofs.YtbookbgfipbaoaaGreatDoor.By

/- ItemNewer, walked. -/
namespace Go.Proofs.YtbookbgfipbaoaaGreatDoor.By
open Go.RowKit

set_option maxRecDepth 100000 in
set_option maxHeartbeats 1000000 in
theorem ver_raw (d : ByteArray) (a s : Int) (w : World) : Calls Tryz.prog 155 #[.agg #[.string d, .int .i64 a, .int .i64 s]] w fun e w' => e = .returned (.agg #[.string d, .int .i64 a, .int .i64 s]) ∧ Below w.heap.size w w' := by
  go_enter Tryz.func155, Tryz.ntmps155
  go_wp2
  refine bodyPost_ret (v := .agg #[.string d, .int .i64 a, .int .i64 s]) ?_ rfl ?_
  · simp [results, Tryz.results155, go_sem]
  · exact ⟨rfl, ((Below.refl _ _).alloc (Nat.le_refl _) _).alloc (by simp) _⟩
theorem below_via {B : Nat} {a w W w1 : World} (h : Below B a w) (hb : Below W.heap.size W w1) (hB : B ≤ w.heap.size) (hs : W.os = w.os ∧ W.tape = w.tape ∧ W.output = w.output ∧ W.heap = w.heap) : Below B a w1 := by
  obtain ⟨h1, h2, h3, h4⟩ := hs
  exact ⟨hb.os.trans (h1.trans h.os), hb.tape.trans (h2.trans h.tape), hb.output.trans (h3.trans h.output), Nat.le_trans h.size (by rw [← h4]; exact hb.size), fun k hk => (hb.block k (by rw [h4]; omega)).trans (by rw [h4]; exact h.block k hk)⟩

end Go.Proofs.YtbookbgfipbaoaaGreatDoor.By

/- A region that draws its order and ends in one operation that waits for all others: what the others read need hold only ahead of that one. -/
namespace Go.Proofs.YtbookbgfipbaoaaGreatDoor

section
variable {P : Program} {ops : Array Oper} {Q : Exit → Act → World → Prop} {S : World → Prop} {n : Nat}

end
end Go.Proofs.YtbookbgfipbaoaaGreatDoor

/- One operation of a drawn region taken first: its side conditions are paid by themselves, its value is read off, what it leaves is put in order. -/
namespace Go.Proofs.YtbookbgfipbaoaaGreatDoor

section
variable {P : Program} {ops : Array Oper} {Q : Exit → Act → World → Prop} {S : World → Prop} {md : Region.Mode}
theorem tk (i : Nat) {oi : Oper} {v : Value} {fuel : Nat} {listed : Array Bool} {a a' : Act} {w : World}
    (h : wpAnyH P md ops Q S fuel (listed.setIfInBounds i true) a' w)
    (hi : ops[i]? = some oi := by (simp only [List.getElem?_toArray, List.getElem?_cons_succ, List.getElem?_cons_zero]; rfl))
    (hs : Region.noSelect ops = true := by kernel_rfl) (hf : Region.free md ops listed i = true := by kernel_rfl) (hr : (Region.ready md ops listed).contains i = true := by kernel_rfl)
    (hQ : ∀ c a w, Q (.panic c) (a.put oi.dst v) w → Q (.panic c) a w := by exact fun _ _ _ h => h)
    (hw : Region.wanted oi (yielded ops a.tmps) = true := by exact rfl)
    (hy : ∀ wz, S wz → (execOp a.eval oi).run P wz = .ok (.value v) wz := by (intro wz hSw; (try dsimp only at hSw); go_simp; try (with_reducible rfl)))
    (ha : a.put oi.dst v = a' := by (simp only [Act.put, List.setIfInBounds_toArray, List.set_cons_zero, List.set_cons_succ]; try rfl))
    (hS : S w := by assumption) : wpAnyH P md ops Q S (fuel + 1) listed a w :=
  wpAnyH_take hi hs hf hr hQ (Or.inl ⟨hw, hy⟩) hS (by rw [ha]; exact h)
theorem ac {fuel : Nat} {listed : Array Bool} {a : Act} {w : World} {i : Nat} {o : Oper} {rs : List Nat}
    (h : ∀ K' : Act → World → Prop, Shut (∀ a w, S w → (S w → wpAnyH P md ops Q S fuel (listed.setIfInBounds i true) a w) → K' a w) → if Region.wanted o (yielded ops a.tmps) = true then Oper.wp P o a w K' Q else K' (a.put o.dst undef) w)
    (hs : AllReadyH P md ops Q S fuel listed a w rs) (ho : ops[i]? = some o := by (simp only [List.getElem?_toArray, List.getElem?_cons_succ, List.getElem?_cons_zero]; rfl)) : AllReadyH P md ops Q S fuel listed a w (i :: rs) := AllReadyH.cons ho h hs
end
end Go.Proofs.YtbookbgfipbaoaaGreatDoor

/- Of layer 7's law and the document's answer: a place as the program has it, an item without its text, a place that may be. -/
namespace Go.Proofs.YtbookbgfipbaoaaGreatDoor.By
open Go.RowKit

/-- An item as the document's answer has it. -/
def refV (i : Itm) : Value := .agg #[.int .i64 i.key, .string i.ver.id, .int .i64 i.ver.seq, .int .i64 i.ver.stamp, .bool i.dead, .int .i64 i.x, .int .i64 i.y, .string i.text, .bool i.held]
set_option maxRecDepth 100000 in
set_option maxHeartbeats 1000000 in
theorem lawSpot_any (x y : Int) (w : World) : Calls Tryz.prog 100 #[.agg #[.int .i64 x, .int .i64 y]] w fun e w' => e = .returned (.complex .f64 (fl x) (fl y)) ∧ Below w.heap.size w w' := by
  have hc : ∀ (n : Int) w, (convert 3 163 (.int .i64 n)).run Tryz.prog w = .ok (.float .f64 (fl n)) w := fun n w => run_convert_int_float w 3 163 .i64 .f64 n (by kernel_rfl) Tryz.underlying163
  generalize fl = g at *
  go_enter Tryz.func100, Tryz.ntmps100
  go_wp2
  go_ret
  exact ⟨rfl, (Below.refl _ _).alloc (Nat.le_refl _) _⟩

set_option maxRecDepth 100000 in
set_option maxHeartbeats 1000000 in
theorem to_any (i : Itm) (w : World) : Calls Tryz.prog 101 #[refV i] w fun e w' => e = .returned (itmV i) ∧ Below w.heap.size w w' := by
  obtain ⟨key, ⟨d, a, s⟩, dead, x, y, text, held⟩ := i
  have HS := Lib.hid (lawSpot_any x y)
  have HV := Lib.hid (ver_raw d a s)
  unfold itmV refV
  simp only
  generalize fl x = fx at *
  generalize fl y = fy at *
  have hst := store_complex
  go_enter Tryz.func101, Tryz.ntmps101
  go_wp2_with fail
  have k0 : ((w.alloc (.cells #[.int .i64 key, .string d, .int .i64 a, .int .i64 s, .bool dead, .int .i64 x, .int .i64 y, .string text, .bool held] 75)).alloc (.cells #[.int .i64 0, .string ⟨#[]⟩, .int .i64 0, .int .i64 0, .bool false, .complex .f64 0 0, .string ⟨#[]⟩, .bool false] 114)).cell? ⟨w.heap.size, 0, none⟩ = some (.int .i64 key) := by simp [go_sem]
  have k1 : ((w.alloc (.cells #[.int .i64 key, .string d, .int .i64 a, .int .i64 s, .bool dead, .int .i64 x, .int .i64 y, .string text, .bool held] 75)).alloc (.cells #[.int .i64 0, .string ⟨#[]⟩, .int .i64 0, .int .i64 0, .bool false, .complex .f64 0 0, .string ⟨#[]⟩, .bool false] 114)).cell? ⟨w.heap.size, 1, none⟩ = some (.string d) := by simp [go_sem]
  have k2 : ((w.alloc (.cells #[.int .i64 key, .string d, .int .i64 a, .int .i64 s, .bool dead, .int .i64 x, .int .i64 y, .string text, .bool held] 75)).alloc (.cells #[.int .i64 0, .string ⟨#[]⟩, .int .i64 0, .int .i64 0, .bool false, .complex .f64 0 0, .string ⟨#[]⟩, .bool false] 114)).cell? ⟨w.heap.size, 2, none⟩ = some (.int .i64 a) := by simp [go_sem]
  have k3 : ((w.alloc (.cells #[.int .i64 key, .string d, .int .i64 a, .int .i64 s, .bool dead, .int .i64 x, .int .i64 y, .string text, .bool held] 75)).alloc (.cells #[.int .i64 0, .string ⟨#[]⟩, .int .i64 0, .int .i64 0, .bool false, .complex .f64 0 0, .string ⟨#[]⟩, .bool false] 114)).cell? ⟨w.heap.size, 3, none⟩ = some (.int .i64 s) := by simp [go_sem]
  have k4 : ((w.alloc (.cells #[.int .i64 key, .string d, .int .i64 a, .int .i64 s, .bool dead, .int .i64 x, .int .i64 y, .string text, .bool held] 75)).alloc (.cells #[.int .i64 0, .string ⟨#[]⟩, .int .i64 0, .int .i64 0, .bool false, .complex .f64 0 0, .string ⟨#[]⟩, .bool false] 114)).cell? ⟨w.heap.size, 4, none⟩ = some (.bool dead) := by simp [go_sem]
  have k5 : ((w.alloc (.cells #[.int .i64 key, .string d, .int .i64 a, .int .i64 s, .bool dead, .int .i64 x, .int .i64 y, .string text, .bool held] 75)).alloc (.cells #[.int .i64 0, .string ⟨#[]⟩, .int .i64 0, .int .i64 0, .bool false, .complex .f64 0 0, .string ⟨#[]⟩, .bool false] 114)).cell? ⟨w.heap.size, 5, none⟩ = some (.int .i64 x) := by simp [go_sem]
  have k6 : ((w.alloc (.cells #[.int .i64 key, .string d, .int .i64 a, .int .i64 s, .bool dead, .int .i64 x, .int .i64 y, .string text, .bool held] 75)).alloc (.cells #[.int .i64 0, .string ⟨#[]⟩, .int .i64 0, .int .i64 0, .bool false, .complex .f64 0 0, .string ⟨#[]⟩, .bool false] 114)).cell? ⟨w.heap.size, 6, none⟩ = some (.int .i64 y) := by simp [go_sem]
  have k7 : ((w.alloc (.cells #[.int .i64 key, .string d, .int .i64 a, .int .i64 s, .bool dead, .int .i64 x, .int .i64 y, .string text, .bool held] 75)).alloc (.cells #[.int .i64 0, .string ⟨#[]⟩, .int .i64 0, .int .i64 0, .bool false, .complex .f64 0 0, .string ⟨#[]⟩, .bool false] 114)).cell? ⟨w.heap.size, 7, none⟩ = some (.string text) := by simp [go_sem]
  have k8 : ((w.alloc (.cells #[.int .i64 key, .string d, .int .i64 a, .int .i64 s, .bool dead, .int .i64 x, .int .i64 y, .string text, .bool held] 75)).alloc (.cells #[.int .i64 0, .string ⟨#[]⟩, .int .i64 0, .int .i64 0, .bool false, .complex .f64 0 0, .string ⟨#[]⟩, .bool false] 114)).cell? ⟨w.heap.size, 8, none⟩ = some (.bool held) := by simp [go_sem]
  have z0 : ((w.alloc (.cells #[.int .i64 key, .string d, .int .i64 a, .int .i64 s, .bool dead, .int .i64 x, .int .i64 y, .string text, .bool held] 75)).alloc (.cells #[.int .i64 0, .string ⟨#[]⟩, .int .i64 0, .int .i64 0, .bool false, .complex .f64 0 0, .string ⟨#[]⟩, .bool false] 114)).cell? ⟨w.heap.size + 1, 0, none⟩ = some (.int .i64 0) := by simp [go_sem]
  have y0 : ((w.alloc (.cells #[.int .i64 key, .string d, .int .i64 a, .int .i64 s, .bool dead, .int .i64 x, .int .i64 y, .string text, .bool held] 75)).alloc (.cells #[.int .i64 0, .string ⟨#[]⟩, .int .i64 0, .int .i64 0, .bool false, .complex .f64 0 0, .string ⟨#[]⟩, .bool false] 114)).frozen? ⟨w.heap.size + 1, 0, none⟩ = false := by simp [go_sem]
  have z1 : ((w.alloc (.cells #[.int .i64 key, .string d, .int .i64 a, .int .i64 s, .bool dead, .int .i64 x, .int .i64 y, .string text, .bool held] 75)).alloc (.cells #[.int .i64 0, .string ⟨#[]⟩, .int .i64 0, .int .i64 0, .bool false, .complex .f64 0 0, .string ⟨#[]⟩, .bool false] 114)).cell? ⟨w.heap.size + 1, 1, none⟩ = some (.string ⟨#[]⟩) := by simp [go_sem]
  have y1 : ((w.alloc (.cells #[.int .i64 key, .string d, .int .i64 a, .int .i64 s, .bool dead, .int .i64 x, .int .i64 y, .string text, .bool held] 75)).alloc (.cells #[.int .i64 0, .string ⟨#[]⟩, .int .i64 0, .int .i64 0, .bool false, .complex .f64 0 0, .string ⟨#[]⟩, .bool false] 114)).frozen? ⟨w.heap.size + 1, 1, none⟩ = false := by simp [go_sem]
  have z2 : ((w.alloc (.cells #[.int .i64 key, .string d, .int .i64 a, .int .i64 s, .bool dead, .int .i64 x, .int .i64 y, .string text, .bool held] 75)).alloc (.cells #[.int .i64 0, .string ⟨#[]⟩, .int .i64 0, .int .i64 0, .bool false, .complex .f64 0 0, .string ⟨#[]⟩, .bool false] 114)).cell? ⟨w.heap.size + 1, 2, none⟩ = some (.int .i64 0) := by simp [go_sem]
  have y2 : ((w.alloc (.cells #[.int .i64 key, .string d, .int .i64 a, .int .i64 s, .bool dead, .int .i64 x, .int .i64 y, .string text, .bool held] 75)).alloc (.cells #[.int .i64 0, .string ⟨#[]⟩, .int .i64 0, .int .i64 0, .bool false, .complex .f64 0 0, .string ⟨#[]⟩, .bool false] 114)).frozen? ⟨w.heap.size + 1, 2, none⟩ = false := by simp [go_sem]
  have z3 : ((w.alloc (.cells #[.int .i64 key, .string d, .int .i64 a, .int .i64 s, .bool dead, .int .i64 x, .int .i64 y, .string text, .bool held] 75)).alloc (.cells #[.int .i64 0, .string ⟨#[]⟩, .int .i64 0, .int .i64 0, .bool false, .complex .f64 0 0, .string ⟨#[]⟩, .bool false] 114)).cell? ⟨w.heap.size + 1, 3, none⟩ = some (.int .i64 0) := by simp [go_sem]
  have y3 : ((w.alloc (.cells #[.int .i64 key, .string d, .int .i64 a, .int .i64 s, .bool dead, .int .i64 x, .int .i64 y, .string text, .bool held] 75)).alloc (.cells #[.int .i64 0, .string ⟨#[]⟩, .int .i64 0, .int .i64 0, .bool false, .complex .f64 0 0, .string ⟨#[]⟩, .bool false] 114)).frozen? ⟨w.heap.size + 1, 3, none⟩ = false := by simp [go_sem]
  have z4 : ((w.alloc (.cells #[.int .i64 key, .string d, .int .i64 a, .int .i64 s, .bool dead, .int .i64 x, .int .i64 y, .string text, .bool held] 75)).alloc (.cells #[.int .i64 0, .string ⟨#[]⟩, .int .i64 0, .int .i64 0, .bool false, .complex .f64 0 0, .string ⟨#[]⟩, .bool false] 114)).cell? ⟨w.heap.size + 1, 4, none⟩ = some (.bool false) := by simp [go_sem]
  have y4 : ((w.alloc (.cells #[.int .i64 key, .string d, .int .i64 a, .int .i64 s, .bool dead, .int .i64 x, .int .i64 y, .string text, .bool held] 75)).alloc (.cells #[.int .i64 0, .string ⟨#[]⟩, .int .i64 0, .int .i64 0, .bool false, .complex .f64 0 0, .string ⟨#[]⟩, .bool false] 114)).frozen? ⟨w.heap.size + 1, 4, none⟩ = false := by simp [go_sem]
  have z5 : ((w.alloc (.cells #[.int .i64 key, .string d, .int .i64 a, .int .i64 s, .bool dead, .int .i64 x, .int .i64 y, .string text, .bool held] 75)).alloc (.cells #[.int .i64 0, .string ⟨#[]⟩, .int .i64 0, .int .i64 0, .bool false, .complex .f64 0 0, .string ⟨#[]⟩, .bool false] 114)).cell? ⟨w.heap.size + 1, 5, none⟩ = some (.complex .f64 0 0) := by simp [go_sem]
  have y5 : ((w.alloc (.cells #[.int .i64 key, .string d, .int .i64 a, .int .i64 s, .bool dead, .int .i64 x, .int .i64 y, .string text, .bool held] 75)).alloc (.cells #[.int .i64 0, .string ⟨#[]⟩, .int .i64 0, .int .i64 0, .bool false, .complex .f64 0 0, .string ⟨#[]⟩, .bool false] 114)).frozen? ⟨w.heap.size + 1, 5, none⟩ = false := by simp [go_sem]
  have z6 : ((w.alloc (.cells #[.int .i64 key, .string d, .int .i64 a, .int .i64 s, .bool dead, .int .i64 x, .int .i64 y, .string text, .bool held] 75)).alloc (.cells #[.int .i64 0, .string ⟨#[]⟩, .int .i64 0, .int .i64 0, .bool false, .complex .f64 0 0, .string ⟨#[]⟩, .bool false] 114)).cell? ⟨w.heap.size + 1, 6, none⟩ = some (.string ⟨#[]⟩) := by simp [go_sem]
  have y6 : ((w.alloc (.cells #[.int .i64 key, .string d, .int .i64 a, .int .i64 s, .bool dead, .int .i64 x, .int .i64 y, .string text, .bool held] 75)).alloc (.cells #[.int .i64 0, .string ⟨#[]⟩, .int .i64 0, .int .i64 0, .bool false, .complex .f64 0 0, .string ⟨#[]⟩, .bool false] 114)).frozen? ⟨w.heap.size + 1, 6, none⟩ = false := by simp [go_sem]
  have z7 : ((w.alloc (.cells #[.int .i64 key, .string d, .int .i64 a, .int .i64 s, .bool dead, .int .i64 x, .int .i64 y, .string text, .bool held] 75)).alloc (.cells #[.int .i64 0, .string ⟨#[]⟩, .int .i64 0, .int .i64 0, .bool false, .complex .f64 0 0, .string ⟨#[]⟩, .bool false] 114)).cell? ⟨w.heap.size + 1, 7, none⟩ = some (.bool false) := by simp [go_sem]
  have y7 : ((w.alloc (.cells #[.int .i64 key, .string d, .int .i64 a, .int .i64 s, .bool dead, .int .i64 x, .int .i64 y, .string text, .bool held] 75)).alloc (.cells #[.int .i64 0, .string ⟨#[]⟩, .int .i64 0, .int .i64 0, .bool false, .complex .f64 0 0, .string ⟨#[]⟩, .bool false] 114)).frozen? ⟨w.heap.size + 1, 7, none⟩ = false := by simp [go_sem]
  have hz0 : w.heap.size < ((w.alloc (.cells #[.int .i64 key, .string d, .int .i64 a, .int .i64 s, .bool dead, .int .i64 x, .int .i64 y, .string text, .bool held] 75)).alloc (.cells #[.int .i64 0, .string ⟨#[]⟩, .int .i64 0, .int .i64 0, .bool false, .complex .f64 0 0, .string ⟨#[]⟩, .bool false] 114)).heap.size := by simp <;> omega
  have hz1 : w.heap.size + 1 < ((w.alloc (.cells #[.int .i64 key, .string d, .int .i64 a, .int .i64 s, .bool dead, .int .i64 x, .int .i64 y, .string text, .bool held] 75)).alloc (.cells #[.int .i64 0, .string ⟨#[]⟩, .int .i64 0, .int .i64 0, .bool false, .complex .f64 0 0, .string ⟨#[]⟩, .bool false] 114)).heap.size := by simp
  have HB : Hid (Below w.heap.size w ((w.alloc (.cells #[.int .i64 key, .string d, .int .i64 a, .int .i64 s, .bool dead, .int .i64 x, .int .i64 y, .string text, .bool held] 75)).alloc (.cells #[.int .i64 0, .string ⟨#[]⟩, .int .i64 0, .int .i64 0, .bool false, .complex .f64 0 0, .string ⟨#[]⟩, .bool false] 114))) := ((Below.refl _ _).alloc (Nat.le_refl _) _).alloc (by simp) _
  generalize ((w.alloc (.cells #[.int .i64 key, .string d, .int .i64 a, .int .i64 s, .bool dead, .int .i64 x, .int .i64 y, .string text, .bool held] 75)).alloc (.cells #[.int .i64 0, .string ⟨#[]⟩, .int .i64 0, .int .i64 0, .bool false, .complex .f64 0 0, .string ⟨#[]⟩, .bool false] 114)) = W at *
  refine wp_region_held_drew (S := fun w' => w'.cell? ⟨w.heap.size, 0, none⟩ = some (.int .i64 key) ∧ w'.cell? ⟨w.heap.size, 1, none⟩ = some (.string d) ∧ w'.cell? ⟨w.heap.size, 2, none⟩ = some (.int .i64 a) ∧ w'.cell? ⟨w.heap.size, 3, none⟩ = some (.int .i64 s) ∧ w'.cell? ⟨w.heap.size, 4, none⟩ = some (.bool dead) ∧ w'.cell? ⟨w.heap.size, 5, none⟩ = some (.int .i64 x) ∧ w'.cell? ⟨w.heap.size, 6, none⟩ = some (.int .i64 y) ∧ w'.cell? ⟨w.heap.size, 7, none⟩ = some (.string text) ∧ w'.cell? ⟨w.heap.size, 8, none⟩ = some (.bool held)) (by kernel_rfl) ⟨k0, k1, k2, k3, k4, k5, k6, k7, k8⟩ (fun hHeld => ?_)
  refine tk 0 ?_
  refine tk 1 ?_
  refine tk 2 ?_
  refine tk 3 ?_
  refine tk 5 ?_
  refine tk 6 ?_
  refine tk 7 ?_
  refine tk 8 ?_
  refine tk 10 ?_
  refine tk 11 ?_
  refine tk 12 ?_
  refine tk 13 ?_
  refine wpAnyH_ready (rs := [4]) (by kernel_rfl) (by simp) ?_
  refine ac (fun K hK => ?_) AllReadyH.nil
  go_simp
  go_at_call 155
  refine (HV.out _).mono ?_
  rintro e w1 ⟨rfl, hb⟩
  replace k0 := (hb.cell (p := ⟨w.heap.size, 0, none⟩) hz0).trans k0
  replace k1 := (hb.cell (p := ⟨w.heap.size, 1, none⟩) hz0).trans k1
  replace k2 := (hb.cell (p := ⟨w.heap.size, 2, none⟩) hz0).trans k2
  replace k3 := (hb.cell (p := ⟨w.heap.size, 3, none⟩) hz0).trans k3
  replace k4 := (hb.cell (p := ⟨w.heap.size, 4, none⟩) hz0).trans k4
  replace k5 := (hb.cell (p := ⟨w.heap.size, 5, none⟩) hz0).trans k5
  replace k6 := (hb.cell (p := ⟨w.heap.size, 6, none⟩) hz0).trans k6
  replace k7 := (hb.cell (p := ⟨w.heap.size, 7, none⟩) hz0).trans k7
  replace k8 := (hb.cell (p := ⟨w.heap.size, 8, none⟩) hz0).trans k8
  replace z0 := (hb.cell (p := ⟨w.heap.size + 1, 0, none⟩) hz1).trans z0
  replace y0 := (hb.frozen (p := ⟨w.heap.size + 1, 0, none⟩) hz1).trans y0
  replace z1 := (hb.cell (p := ⟨w.heap.size + 1, 1, none⟩) hz1).trans z1
  replace y1 := (hb.frozen (p := ⟨w.heap.size + 1, 1, none⟩) hz1).trans y1
  replace z2 := (hb.cell (p := ⟨w.heap.size + 1, 2, none⟩) hz1).trans z2
  replace y2 := (hb.frozen (p := ⟨w.heap.size + 1, 2, none⟩) hz1).trans y2
  replace z3 := (hb.cell (p := ⟨w.heap.size + 1, 3, none⟩) hz1).trans z3
  replace y3 := (hb.frozen (p := ⟨w.heap.size + 1, 3, none⟩) hz1).trans y3
  replace z4 := (hb.cell (p := ⟨w.heap.size + 1, 4, none⟩) hz1).trans z4
  replace y4 := (hb.frozen (p := ⟨w.heap.size + 1, 4, none⟩) hz1).trans y4
  replace z5 := (hb.cell (p := ⟨w.heap.size + 1, 5, none⟩) hz1).trans z5
  replace y5 := (hb.frozen (p := ⟨w.heap.size + 1, 5, none⟩) hz1).trans y5
  replace z6 := (hb.cell (p := ⟨w.heap.size + 1, 6, none⟩) hz1).trans z6
  replace y6 := (hb.frozen (p := ⟨w.heap.size + 1, 6, none⟩) hz1).trans y6
  replace z7 := (hb.cell (p := ⟨w.heap.size + 1, 7, none⟩) hz1).trans z7
  replace y7 := (hb.frozen (p := ⟨w.heap.size + 1, 7, none⟩) hz1).trans y7
  replace hz0 := Nat.lt_of_lt_of_le hz0 hb.size
  replace hz1 := Nat.lt_of_lt_of_le hz1 hb.size
  replace HB := Lib.hid (below_via HB.out hb HB.out.size ⟨rfl, rfl, rfl, rfl⟩)
  clear hb
  refine hK.out _ _ ⟨k0, k1, k2, k3, k4, k5, k6, k7, k8⟩ (fun hHeld => ?_)
  clear hK K
  try simp only [Act.put, List.setIfInBounds_toArray, List.set_cons_zero, List.set_cons_succ]
  refine wpAnyH_ready (rs := [9]) (by kernel_rfl) (by simp) ?_
  refine ac (fun K hK => ?_) AllReadyH.nil
  go_simp
  go_at_call 100
  refine (HS.out _).mono ?_
  rintro e w1 ⟨rfl, hb⟩
  replace k0 := (hb.cell (p := ⟨w.heap.size, 0, none⟩) hz0).trans k0
  replace k1 := (hb.cell (p := ⟨w.heap.size, 1, none⟩) hz0).trans k1
  replace k2 := (hb.cell (p := ⟨w.heap.size, 2, none⟩) hz0).trans k2
  replace k3 := (hb.cell (p := ⟨w.heap.size, 3, none⟩) hz0).trans k3
  replace k4 := (hb.cell (p := ⟨w.heap.size, 4, none⟩) hz0).trans k4
  replace k5 := (hb.cell (p := ⟨w.heap.size, 5, none⟩) hz0).trans k5
  replace k6 := (hb.cell (p := ⟨w.heap.size, 6, none⟩) hz0).trans k6
  replace k7 := (hb.cell (p := ⟨w.heap.size, 7, none⟩) hz0).trans k7
  replace k8 := (hb.cell (p := ⟨w.heap.size, 8, none⟩) hz0).trans k8
  replace z0 := (hb.cell (p := ⟨w.heap.size + 1, 0, none⟩) hz1).trans z0
  replace y0 := (hb.frozen (p := ⟨w.heap.size + 1, 0, none⟩) hz1).trans y0
  replace z1 := (hb.cell (p := ⟨w.heap.size + 1, 1, none⟩) hz1).trans z1
  replace y1 := (hb.frozen (p := ⟨w.heap.size + 1, 1, none⟩) hz1).trans y1
  replace z2 := (hb.cell (p := ⟨w.heap.size + 1, 2, none⟩) hz1).trans z2
  replace y2 := (hb.frozen (p := ⟨w.heap.size + 1, 2, none⟩) hz1).trans y2
  replace z3 := (hb.cell (p := ⟨w.heap.size + 1, 3, none⟩) hz1).trans z3
  replace y3 := (hb.frozen (p := ⟨w.heap.size + 1, 3, none⟩) hz1).trans y3
  replace z4 := (hb.cell (p := ⟨w.heap.size + 1, 4, none⟩) hz1).trans z4
  replace y4 := (hb.frozen (p := ⟨w.heap.size + 1, 4, none⟩) hz1).trans y4
  replace z5 := (hb.cell (p := ⟨w.heap.size + 1, 5, none⟩) hz1).trans z5
  replace y5 := (hb.frozen (p := ⟨w.heap.size + 1, 5, none⟩) hz1).trans y5
  replace z6 := (hb.cell (p := ⟨w.heap.size + 1, 6, none⟩) hz1).trans z6
  replace y6 := (hb.frozen (p := ⟨w.heap.size + 1, 6, none⟩) hz1).trans y6
  replace z7 := (hb.cell (p := ⟨w.heap.size + 1, 7, none⟩) hz1).trans z7
  replace y7 := (hb.frozen (p := ⟨w.heap.size + 1, 7, none⟩) hz1).trans y7
  replace hz0 := Nat.lt_of_lt_of_le hz0 hb.size
  replace hz1 := Nat.lt_of_lt_of_le hz1 hb.size
  replace HB := Lib.hid (below_via HB.out hb HB.out.size ⟨rfl, rfl, rfl, rfl⟩)
  clear hb
  refine hK.out _ _ ⟨k0, k1, k2, k3, k4, k5, k6, k7, k8⟩ (fun hHeld => ?_)
  clear hK K
  try simp only [Act.put, List.setIfInBounds_toArray, List.set_cons_zero, List.set_cons_succ]
  refine tk 14 ?_
  refine wpAnyH_ready (rs := [15]) (by kernel_rfl) (by simp) ?_
  refine ac (fun K hK => ?_) AllReadyH.nil
  go_simp
  replace k0 : ((((((((w1.setCell ⟨w.heap.size + 1, 0, none⟩ (.int .i64 key)).setCell ⟨w.heap.size + 1, 1, none⟩ (.string d)).setCell ⟨w.heap.size + 1, 2, none⟩ (.int .i64 a)).setCell ⟨w.heap.size + 1, 3, none⟩ (.int .i64 s)).setCell ⟨w.heap.size + 1, 4, none⟩ (.bool dead)).setCell ⟨w.heap.size + 1, 5, none⟩ (.complex .f64 fx fy)).setCell ⟨w.heap.size + 1, 6, none⟩ (.string text)).setCell ⟨w.heap.size + 1, 7, none⟩ (.bool held)).cell? ⟨w.heap.size, 0, none⟩ = some (.int .i64 key) := by simp [go_sem, k0]
  replace k1 : ((((((((w1.setCell ⟨w.heap.size + 1, 0, none⟩ (.int .i64 key)).setCell ⟨w.heap.size + 1, 1, none⟩ (.string d)).setCell ⟨w.heap.size + 1, 2, none⟩ (.int .i64 a)).setCell ⟨w.heap.size + 1, 3, none⟩ (.int .i64 s)).setCell ⟨w.heap.size + 1, 4, none⟩ (.bool dead)).setCell ⟨w.heap.size + 1, 5, none⟩ (.complex .f64 fx fy)).setCell ⟨w.heap.size + 1, 6, none⟩ (.string text)).setCell ⟨w.heap.size + 1, 7, none⟩ (.bool held)).cell? ⟨w.heap.size, 1, none⟩ = some (.string d) := by simp [go_sem, k1]
  replace k2 : ((((((((w1.setCell ⟨w.heap.size + 1, 0, none⟩ (.int .i64 key)).setCell ⟨w.heap.size + 1, 1, none⟩ (.string d)).setCell ⟨w.heap.size + 1, 2, none⟩ (.int .i64 a)).setCell ⟨w.heap.size + 1, 3, none⟩ (.int .i64 s)).setCell ⟨w.heap.size + 1, 4, none⟩ (.bool dead)).setCell ⟨w.heap.size + 1, 5, none⟩ (.complex .f64 fx fy)).setCell ⟨w.heap.size + 1, 6, none⟩ (.string text)).setCell ⟨w.heap.size + 1, 7, none⟩ (.bool held)).cell? ⟨w.heap.size, 2, none⟩ = some (.int .i64 a) := by simp [go_sem, k2]
  replace k3 : ((((((((w1.setCell ⟨w.heap.size + 1, 0, none⟩ (.int .i64 key)).setCell ⟨w.heap.size + 1, 1, none⟩ (.string d)).setCell ⟨w.heap.size + 1, 2, none⟩ (.int .i64 a)).setCell ⟨w.heap.size + 1, 3, none⟩ (.int .i64 s)).setCell ⟨w.heap.size + 1, 4, none⟩ (.bool dead)).setCell ⟨w.heap.size + 1, 5, none⟩ (.complex .f64 fx fy)).setCell ⟨w.heap.size + 1, 6, none⟩ (.string text)).setCell ⟨w.heap.size + 1, 7, none⟩ (.bool held)).cell? ⟨w.heap.size, 3, none⟩ = some (.int .i64 s) := by simp [go_sem, k3]
  replace k4 : ((((((((w1.setCell ⟨w.heap.size + 1, 0, none⟩ (.int .i64 key)).setCell ⟨w.heap.size + 1, 1, none⟩ (.string d)).setCell ⟨w.heap.size + 1, 2, none⟩ (.int .i64 a)).setCell ⟨w.heap.size + 1, 3, none⟩ (.int .i64 s)).setCell ⟨w.heap.size + 1, 4, none⟩ (.bool dead)).setCell ⟨w.heap.size + 1, 5, none⟩ (.complex .f64 fx fy)).setCell ⟨w.heap.size + 1, 6, none⟩ (.string text)).setCell ⟨w.heap.size + 1, 7, none⟩ (.bool held)).cell? ⟨w.heap.size, 4, none⟩ = some (.bool dead) := by simp [go_sem, k4]
  replace k5 : ((((((((w1.setCell ⟨w.heap.size + 1, 0, none⟩ (.int .i64 key)).setCell ⟨w.heap.size + 1, 1, none⟩ (.string d)).setCell ⟨w.heap.size + 1, 2, none⟩ (.int .i64 a)).setCell ⟨w.heap.size + 1, 3, none⟩ (.int .i64 s)).setCell ⟨w.heap.size + 1, 4, none⟩ (.bool dead)).setCell ⟨w.heap.size + 1, 5, none⟩ (.complex .f64 fx fy)).setCell ⟨w.heap.size + 1, 6, none⟩ (.string text)).setCell ⟨w.heap.size + 1, 7, none⟩ (.bool held)).cell? ⟨w.heap.size, 5, none⟩ = some (.int .i64 x) := by simp [go_sem, k5]
  replace k6 : ((((((((w1.setCell ⟨w.heap.size + 1, 0, none⟩ (.int .i64 key)).setCell ⟨w.heap.size + 1, 1, none⟩ (.string d)).setCell ⟨w.heap.size + 1, 2, none⟩ (.int .i64 a)).setCell ⟨w.heap.size + 1, 3, none⟩ (.int .i64 s)).setCell ⟨w.heap.size + 1, 4, none⟩ (.bool dead)).setCell ⟨w.heap.size + 1, 5, none⟩ (.complex .f64 fx fy)).setCell ⟨w.heap.size + 1, 6, none⟩ (.string text)).setCell ⟨w.heap.size + 1, 7, none⟩ (.bool held)).cell? ⟨w.heap.size, 6, none⟩ = some (.int .i64 y) := by simp [go_sem, k6]
  replace k7 : ((((((((w1.setCell ⟨w.heap.size + 1, 0, none⟩ (.int .i64 key)).setCell ⟨w.heap.size + 1, 1, none⟩ (.string d)).setCell ⟨w.heap.size + 1, 2, none⟩ (.int .i64 a)).setCell ⟨w.heap.size + 1, 3, none⟩ (.int .i64 s)).setCell ⟨w.heap.size + 1, 4, none⟩ (.bool dead)).setCell ⟨w.heap.size + 1, 5, none⟩ (.complex .f64 fx fy)).setCell ⟨w.heap.size + 1, 6, none⟩ (.string text)).setCell ⟨w.heap.size + 1, 7, none⟩ (.bool held)).cell? ⟨w.heap.size, 7, none⟩ = some (.string text) := by simp [go_sem, k7]
  replace k8 : ((((((((w1.setCell ⟨w.heap.size + 1, 0, none⟩ (.int .i64 key)).setCell ⟨w.heap.size + 1, 1, none⟩ (.string d)).setCell ⟨w.heap.size + 1, 2, none⟩ (.int .i64 a)).setCell ⟨w.heap.size + 1, 3, none⟩ (.int .i64 s)).setCell ⟨w.heap.size + 1, 4, none⟩ (.bool dead)).setCell ⟨w.heap.size + 1, 5, none⟩ (.complex .f64 fx fy)).setCell ⟨w.heap.size + 1, 6, none⟩ (.string text)).setCell ⟨w.heap.size + 1, 7, none⟩ (.bool held)).cell? ⟨w.heap.size, 8, none⟩ = some (.bool held) := by simp [go_sem, k8]
  have HB8 : Hid (Below w.heap.size w ((((((((w1.setCell ⟨w.heap.size + 1, 0, none⟩ (.int .i64 key)).setCell ⟨w.heap.size + 1, 1, none⟩ (.string d)).setCell ⟨w.heap.size + 1, 2, none⟩ (.int .i64 a)).setCell ⟨w.heap.size + 1, 3, none⟩ (.int .i64 s)).setCell ⟨w.heap.size + 1, 4, none⟩ (.bool dead)).setCell ⟨w.heap.size + 1, 5, none⟩ (.complex .f64 fx fy)).setCell ⟨w.heap.size + 1, 6, none⟩ (.string text)).setCell ⟨w.heap.size + 1, 7, none⟩ (.bool held))) := ((((((((HB.out.setCell (by simp) _).setCell (by simp) _).setCell (by simp) _).setCell (by simp) _).setCell (by simp) _).setCell (by simp) _).setCell (by simp) _).setCell (by simp) _)
  have u0 : ((((((((w1.setCell ⟨w.heap.size + 1, 0, none⟩ (.int .i64 key)).setCell ⟨w.heap.size + 1, 1, none⟩ (.string d)).setCell ⟨w.heap.size + 1, 2, none⟩ (.int .i64 a)).setCell ⟨w.heap.size + 1, 3, none⟩ (.int .i64 s)).setCell ⟨w.heap.size + 1, 4, none⟩ (.bool dead)).setCell ⟨w.heap.size + 1, 5, none⟩ (.complex .f64 fx fy)).setCell ⟨w.heap.size + 1, 6, none⟩ (.string text)).setCell ⟨w.heap.size + 1, 7, none⟩ (.bool held)).cell? ⟨w.heap.size + 1, 0, none⟩ = some (.int .i64 key) := by simp [go_sem, z0]
  have u1 : ((((((((w1.setCell ⟨w.heap.size + 1, 0, none⟩ (.int .i64 key)).setCell ⟨w.heap.size + 1, 1, none⟩ (.string d)).setCell ⟨w.heap.size + 1, 2, none⟩ (.int .i64 a)).setCell ⟨w.heap.size + 1, 3, none⟩ (.int .i64 s)).setCell ⟨w.heap.size + 1, 4, none⟩ (.bool dead)).setCell ⟨w.heap.size + 1, 5, none⟩ (.complex .f64 fx fy)).setCell ⟨w.heap.size + 1, 6, none⟩ (.string text)).setCell ⟨w.heap.size + 1, 7, none⟩ (.bool held)).cell? ⟨w.heap.size + 1, 1, none⟩ = some (.string d) := by simp [go_sem, z1]
  have u2 : ((((((((w1.setCell ⟨w.heap.size + 1, 0, none⟩ (.int .i64 key)).setCell ⟨w.heap.size + 1, 1, none⟩ (.string d)).setCell ⟨w.heap.size + 1, 2, none⟩ (.int .i64 a)).setCell ⟨w.heap.size + 1, 3, none⟩ (.int .i64 s)).setCell ⟨w.heap.size + 1, 4, none⟩ (.bool dead)).setCell ⟨w.heap.size + 1, 5, none⟩ (.complex .f64 fx fy)).setCell ⟨w.heap.size + 1, 6, none⟩ (.string text)).setCell ⟨w.heap.size + 1, 7, none⟩ (.bool held)).cell? ⟨w.heap.size + 1, 2, none⟩ = some (.int .i64 a) := by simp [go_sem, z2]
  have u3 : ((((((((w1.setCell ⟨w.heap.size + 1, 0, none⟩ (.int .i64 key)).setCell ⟨w.heap.size + 1, 1, none⟩ (.string d)).setCell ⟨w.heap.size + 1, 2, none⟩ (.int .i64 a)).setCell ⟨w.heap.size + 1, 3, none⟩ (.int .i64 s)).setCell ⟨w.heap.size + 1, 4, none⟩ (.bool dead)).setCell ⟨w.heap.size + 1, 5, none⟩ (.complex .f64 fx fy)).setCell ⟨w.heap.size + 1, 6, none⟩ (.string text)).setCell ⟨w.heap.size + 1, 7, none⟩ (.bool held)).cell? ⟨w.heap.size + 1, 3, none⟩ = some (.int .i64 s) := by simp [go_sem, z3]
  have u4 : ((((((((w1.setCell ⟨w.heap.size + 1, 0, none⟩ (.int .i64 key)).setCell ⟨w.heap.size + 1, 1, none⟩ (.string d)).setCell ⟨w.heap.size + 1, 2, none⟩ (.int .i64 a)).setCell ⟨w.heap.size + 1, 3, none⟩ (.int .i64 s)).setCell ⟨w.heap.size + 1, 4, none⟩ (.bool dead)).setCell ⟨w.heap.size + 1, 5, none⟩ (.complex .f64 fx fy)).setCell ⟨w.heap.size + 1, 6, none⟩ (.string text)).setCell ⟨w.heap.size + 1, 7, none⟩ (.bool held)).cell? ⟨w.heap.size + 1, 4, none⟩ = some (.bool dead) := by simp [go_sem, z4]
  have u5 : ((((((((w1.setCell ⟨w.heap.size + 1, 0, none⟩ (.int .i64 key)).setCell ⟨w.heap.size + 1, 1, none⟩ (.string d)).setCell ⟨w.heap.size + 1, 2, none⟩ (.int .i64 a)).setCell ⟨w.heap.size + 1, 3, none⟩ (.int .i64 s)).setCell ⟨w.heap.size + 1, 4, none⟩ (.bool dead)).setCell ⟨w.heap.size + 1, 5, none⟩ (.complex .f64 fx fy)).setCell ⟨w.heap.size + 1, 6, none⟩ (.string text)).setCell ⟨w.heap.size + 1, 7, none⟩ (.bool held)).cell? ⟨w.heap.size + 1, 5, none⟩ = some (.complex .f64 fx fy) := by simp [go_sem, z5]
  have u6 : ((((((((w1.setCell ⟨w.heap.size + 1, 0, none⟩ (.int .i64 key)).setCell ⟨w.heap.size + 1, 1, none⟩ (.string d)).setCell ⟨w.heap.size + 1, 2, none⟩ (.int .i64 a)).setCell ⟨w.heap.size + 1, 3, none⟩ (.int .i64 s)).setCell ⟨w.heap.size + 1, 4, none⟩ (.bool dead)).setCell ⟨w.heap.size + 1, 5, none⟩ (.complex .f64 fx fy)).setCell ⟨w.heap.size + 1, 6, none⟩ (.string text)).setCell ⟨w.heap.size + 1, 7, none⟩ (.bool held)).cell? ⟨w.heap.size + 1, 6, none⟩ = some (.string text) := by simp [go_sem, z6]
  have u7 : ((((((((w1.setCell ⟨w.heap.size + 1, 0, none⟩ (.int .i64 key)).setCell ⟨w.heap.size + 1, 1, none⟩ (.string d)).setCell ⟨w.heap.size + 1, 2, none⟩ (.int .i64 a)).setCell ⟨w.heap.size + 1, 3, none⟩ (.int .i64 s)).setCell ⟨w.heap.size + 1, 4, none⟩ (.bool dead)).setCell ⟨w.heap.size + 1, 5, none⟩ (.complex .f64 fx fy)).setCell ⟨w.heap.size + 1, 6, none⟩ (.string text)).setCell ⟨w.heap.size + 1, 7, none⟩ (.bool held)).cell? ⟨w.heap.size + 1, 7, none⟩ = some (.bool held) := by simp [go_sem, z7]
  clear z0 y0 z1 y1 z2 y2 z3 y3 z4 y4 z5 y5 z6 y6 z7 y7
  clear HB hz0 hz1
  generalize ((((((((w1.setCell ⟨w.heap.size + 1, 0, none⟩ (.int .i64 key)).setCell ⟨w.heap.size + 1, 1, none⟩ (.string d)).setCell ⟨w.heap.size + 1, 2, none⟩ (.int .i64 a)).setCell ⟨w.heap.size + 1, 3, none⟩ (.int .i64 s)).setCell ⟨w.heap.size + 1, 4, none⟩ (.bool dead)).setCell ⟨w.heap.size + 1, 5, none⟩ (.complex .f64 fx fy)).setCell ⟨w.heap.size + 1, 6, none⟩ (.string text)).setCell ⟨w.heap.size + 1, 7, none⟩ (.bool held)) = W9 at *
  refine hK.out _ _ ⟨k0, k1, k2, k3, k4, k5, k6, k7, k8⟩ (fun hHeld => ?_)
  clear hK K
  try simp only [Act.put, List.setIfInBounds_toArray, List.set_cons_zero, List.set_cons_succ]
  refine wpAnyH_done (by kernel_rfl) ?_ _
  go_wp2
  refine bodyPost_ret (v := .agg #[.int .i64 key, .string d, .int .i64 a, .int .i64 s, .bool dead, .complex .f64 fx fy, .string text, .bool held]) ?_ rfl ?_
  · simp [results, Tryz.results101, go_sem, u0, u1, u2, u3, u4, u5, u6, u7]
  · exact ⟨rfl, HB8.out⟩

end Go.Proofs.YtbookbgfipbaoaaGreatDoor.By

/- The document's Fix: an item that may be, out of any. -/
namespace Go.Proofs.YtbookbgfipbaoaaGreatDoor.By
open Go.RowKit

end Go.Proofs.YtbookbgfipbaoaaGreatDoor.By

/- Items: when two are the same, as the program has them and as the document's answer has them; of Fix's and of a stub's. -/
namespace Go.Proofs.YtbookbgfipbaoaaGreatDoor.By
open Go.RowKit

def eqV (a b : Vrs) : Bool := (a.id.toList == b.id.toList) && ((a.seq == b.seq) && (a.stamp == b.stamp))
def eqI (i j : Itm) : Bool := (i.key == j.key) && (eqV i.ver j.ver && ((i.dead == j.dead) && (((i.x == j.x) && (i.y == j.y)) && ((i.text.toList == j.text.toList) && (i.held == j.held)))))
theorem toList_inj {a b : ByteArray} (h : a.toList = b.toList) : a = b := by
  rw [Lib.toList_data, Lib.toList_data] at h
  obtain ⟨⟨x⟩⟩ := a
  obtain ⟨⟨y⟩⟩ := b
  simpa using h
theorem eqV_iff (a b : Vrs) : eqV a b = true ↔ a = b := by
  obtain ⟨a1, a2, a3⟩ := a
  obtain ⟨b1, b2, b3⟩ := b
  simp only [eqV, Bool.and_eq_true, beq_iff_eq, Vrs.mk.injEq]
  exact ⟨fun h => ⟨toList_inj h.1, h.2⟩, fun h => ⟨by rw [h.1], h.2⟩⟩
theorem eqI_iff (i j : Itm) : eqI i j = true ↔ i = j := by
  obtain ⟨i1, i2, i3, i4, i5, i6, i7⟩ := i
  obtain ⟨j1, j2, j3, j4, j5, j6, j7⟩ := j
  simp only [eqI, Bool.and_eq_true, beq_iff_eq, Itm.mk.injEq, eqV_iff]
  exact ⟨fun h => ⟨h.1, h.2.1, h.2.2.1, h.2.2.2.1.1, h.2.2.2.1.2, toList_inj h.2.2.2.2.1, h.2.2.2.2.2⟩, fun h => ⟨h.1, h.2.1, h.2.2.1, ⟨h.2.2.2.1, h.2.2.2.2.1⟩, by rw [h.2.2.2.2.2.1], h.2.2.2.2.2.2⟩⟩
theorem ite_ok (p : Prop) [Decidable p] (a : Bool) (w : World) : (if p then Result.ok (Value.bool a) w else Result.ok (Value.bool false) w) = Result.ok (Value.bool (decide p && a)) w := by
  by_cases h : p <;> simp [h]
theorem ite_no (p : Prop) [Decidable p] (a : Bool) (w : World) : (if p then Result.ok (Value.bool false) w else Result.ok (Value.bool a) w) = Result.ok (Value.bool (decide (¬ p) && a)) w := by
  by_cases h : p <;> simp [h]
theorem run_equalIn_complex {P : Program} (w : World) (d : Nat) (t : TypeId) (k k' : FloatKind) (a b a' b' : Nat) (h : P.underlying t = some (.complex k')) : (Op.equalIn (d + 1) t (.complex k a b) (.complex k a' b')).run P w = .ok (Op.floatEq k a a' && Op.floatEq k b b') w := by
  simp [Op.equalIn, run_underlying h]
theorem floatEq_fl (a b : Int) (ha : a.natAbs < 2 ^ 53) (hb : b.natAbs < 2 ^ 53) : Op.floatEq .f64 (fl a) (fl b) = (a == b) := by
  unfold Op.floatEq
  rw [eql_fl a b ha hb]
  rfl

theorem right_small {i : Itm} (h : rightI i = true) : i.x.natAbs < 2 ^ 53 ∧ i.y.natAbs < 2 ^ 53 := by
  have h1 := whole_bounds (right_bounds h).2.2.2.1
  have : (2 : Nat) ^ 53 = 9007199254740992 := by decide
  omega
end Go.Proofs.YtbookbgfipbaoaaGreatDoor.By

/- near; the document's Whole, Right and Stub; From. -/
namespace Go.Proofs.YtbookbgfipbaoaaGreatDoor.By
open Go.RowKit

set_option maxRecDepth 100000 in
set_option maxHeartbeats 1000000 in
theorem rnear_any (n : Int) (w : World) : Calls Tryz.prog 107 #[.int .i64 n, .int .i64 1000] w fun e w' => e = .returned (.bool (withinF n (-1000) 1000)) ∧ w = w' := by
  have HC := Lib.hid (show withinF n (-1000) 1000 = (decide (-1000 ≤ n) && decide (n ≤ 1000)) from rfl)
  by_cases h1 : -1000 ≤ n
  · rw [decide_eq_true h1] at HC
    go_enter Tryz.func107, Tryz.ntmps107
    go_wp2
    go_ret
    exact ⟨ret_bool (by rw [HC.out]; rfl), rfl⟩
  · rw [decide_eq_false h1] at HC
    have h1' : decide (-1000 ≤ n) = false := by simpa using h1
    go_enter Tryz.func107, Tryz.ntmps107
    go_wp2
    go_ret
    exact ⟨ret_bool (by rw [HC.out]; rfl), rfl⟩
set_option maxRecDepth 100000 in
set_option maxHeartbeats 1000000 in
theorem rwhole_any (x y : Int) (w : World) : Calls Tryz.prog 106 #[.agg #[.int .i64 x, .int .i64 y]] w fun e w' => e = .returned (.bool (wholeF x y)) ∧ Below w.heap.size w w' := by
  have HC := Lib.hid (show wholeF x y = (withinF x (-1000) 1000 && withinF y (-1000) 1000) from rfl)
  have H1 := Lib.hid (rnear_any x)
  have H2 := Lib.hid (rnear_any y)
  generalize withinF x (-1000) 1000 = b1 at *
  generalize withinF y (-1000) 1000 = b2 at *
  go_enter Tryz.func106, Tryz.ntmps106
  go_wp2_with fail
  refine (H1.out _).mono ?_
  rintro e w1 ⟨rfl, rfl⟩
  cases b1
  · go_wp2
    go_ret
    exact ⟨ret_bool (by rw [HC.out]; rfl), (Below.refl _ _).alloc (Nat.le_refl _) _⟩
  · go_wp2_with fail
    refine (H2.out _).mono ?_
    rintro e w1 ⟨rfl, rfl⟩
    go_wp2
    go_ret
    exact ⟨ret_bool (by rw [HC.out]; rfl), (Below.refl _ _).alloc (Nat.le_refl _) _⟩
set_option maxRecDepth 100000 in
set_option maxHeartbeats 4000000 in
theorem refRight_any (i : Itm) (w : World) : Calls Tryz.prog 105 #[refV i] w fun e w' => e = .returned (.bool (rightI i)) ∧ Below w.heap.size w w' := by
  obtain ⟨key, ⟨d, a, s⟩, dead, x, y, text, held⟩ := i
  have HC := Lib.hid (show rightI ⟨key, ⟨d, a, s⟩, dead, x, y, text, held⟩ = (decide (0 ≤ key) && (decide (key < 32) && ((rightL d.data.toList && ((decide (1 ≤ a) && decide (a ≤ 1048576)) && (decide (1 ≤ s) && decide (s ≤ 1048576)))) && (wholeF x y && (decide (text.size ≤ 16) && (!(dead && (!(decide (x = 0) && decide (y = 0)) || held)) && (held || decide (text.size = 0)))))))) from rfl)
  have H1 := Lib.hid (rright_any d)
  have H2 := Lib.hid (rwhole_any x y)
  unfold refV
  simp only
  generalize rightI ⟨key, ⟨d, a, s⟩, dead, x, y, text, held⟩ = R at *
  generalize rightL d.data.toList = b1 at *
  generalize wholeF x y = b2 at *
  have hz0 : ((text.size : Int) == 0) = decide (text.size = 0) := by rw [Bool.eq_iff_iff]; simp only [beq_iff_eq, decide_eq_true_eq]; omega
  have HZ := Lib.hid hz0
  clear hz0
  generalize decide (text.size = 0) = bz at HC HZ
  by_cases k0 : key < 0
  · rw [decide_eq_false (show ¬ 0 ≤ key by omega)] at HC
    go_enter Tryz.func105, Tryz.ntmps105
    go_wp2
    go_ret
    exact ⟨ret_bool (by rw [HC.out]; simp), (Below.refl _ _).alloc (Nat.le_refl _) _⟩
  rw [decide_eq_true (show 0 ≤ key by omega)] at HC
  have k0' : decide (key < 0) = false := by simpa using k0
  by_cases k1 : 31 < key
  · rw [decide_eq_false (show ¬ key < 32 by omega)] at HC
    go_enter Tryz.func105, Tryz.ntmps105
    go_wp2
    go_ret
    exact ⟨ret_bool (by rw [HC.out]; simp), (Below.refl _ _).alloc (Nat.le_refl _) _⟩
  rw [decide_eq_true (show key < 32 by omega)] at HC
  have k1' : decide (31 < key) = false := by simpa using k1
  go_enter Tryz.func105, Tryz.ntmps105
  go_wp2_with fail
  refine (H1.out _).mono ?_
  rintro e w1 ⟨rfl, rfl⟩
  have HB : Hid (Below w.heap.size w (w.alloc (.cells #[.int .i64 key, .string d, .int .i64 a, .int .i64 s, .bool dead, .int .i64 x, .int .i64 y, .string text, .bool held] 75))) := (Below.refl _ _).alloc (Nat.le_refl _) _
  cases b1
  · go_wp2
    go_ret
    exact ⟨ret_bool (by rw [HC.out]; simp), HB.out⟩
  by_cases k2 : a < 1
  · rw [decide_eq_false (show ¬ 1 ≤ a by omega)] at HC
    go_wp2
    go_ret
    exact ⟨ret_bool (by rw [HC.out]; simp), HB.out⟩
  rw [decide_eq_true (show 1 ≤ a by omega)] at HC
  have k2' : decide (a < 1) = false := by simpa using k2
  by_cases k2h : 1048576 < a
  · rw [decide_eq_false (show ¬ a ≤ 1048576 by omega)] at HC
    go_wp2
    go_ret
    exact ⟨ret_bool (by rw [HC.out]; simp), HB.out⟩
  rw [decide_eq_true (show a ≤ 1048576 by omega)] at HC
  have k2h' : decide (1048576 < a) = false := by simpa using k2h
  by_cases k3 : s < 1
  · rw [decide_eq_false (show ¬ 1 ≤ s by omega)] at HC
    go_wp2
    go_ret
    exact ⟨ret_bool (by rw [HC.out]; simp), HB.out⟩
  rw [decide_eq_true (show 1 ≤ s by omega)] at HC
  have k3' : decide (s < 1) = false := by simpa using k3
  by_cases k3h : 1048576 < s
  · rw [decide_eq_false (show ¬ s ≤ 1048576 by omega)] at HC
    go_wp2
    go_ret
    exact ⟨ret_bool (by rw [HC.out]; simp), HB.out⟩
  rw [decide_eq_true (show s ≤ 1048576 by omega)] at HC
  have k3h' : decide (1048576 < s) = false := by simpa using k3h
  go_wp2_with fail
  refine (H2.out _).mono ?_
  rintro e w2 ⟨rfl, hb⟩
  have q4 : w2.cell? ⟨w.heap.size, 4, none⟩ = some (.bool dead) := (hb.cell (by simp)).trans (by simp [go_sem])
  have q5 : w2.cell? ⟨w.heap.size, 5, none⟩ = some (.int .i64 x) := (hb.cell (by simp)).trans (by simp [go_sem])
  have q6 : w2.cell? ⟨w.heap.size, 6, none⟩ = some (.int .i64 y) := (hb.cell (by simp)).trans (by simp [go_sem])
  have q7 : w2.cell? ⟨w.heap.size, 7, none⟩ = some (.string text) := (hb.cell (by simp)).trans (by simp [go_sem])
  have q8 : w2.cell? ⟨w.heap.size, 8, none⟩ = some (.bool held) := (hb.cell (by simp)).trans (by simp [go_sem])
  replace HB := Lib.hid (HB.out.trans (hb.mono (by simp)))
  clear hb H1 H2 k0 k1 k2 k3 k2h k3h k0' k1' k2' k3' k2h' k3h'
  cases b2
  · go_wp2
    go_ret
    exact ⟨ret_bool (by rw [HC.out]; simp), HB.out⟩
  by_cases t16 : 16 < text.size
  · have t16' : (16 : Int) < text.size := by omega
    rw [decide_eq_false (show ¬ text.size ≤ 16 by omega)] at HC
    go_wp2
    go_ret
    exact ⟨ret_bool (by rw [HC.out]; simp), HB.out⟩
  have t16' : decide ((16 : Int) < text.size) = false := by simp; omega
  rw [decide_eq_true (show text.size ≤ 16 by omega)] at HC
  clear t16
  cases dead
  · cases held
    · go_wp2
      go_ret
      exact ⟨ret_bool (by rw [HC.out, HZ.out]; simp), HB.out⟩
    · go_wp2
      go_ret
      exact ⟨ret_bool (by rw [HC.out]; simp), HB.out⟩
  by_cases hx : x = 0
  · subst hx
    by_cases hy : y = 0
    · subst hy
      cases held
      · go_wp2
        go_ret
        exact ⟨ret_bool (by rw [HC.out, HZ.out]; simp), HB.out⟩
      · go_wp2
        go_ret
        exact ⟨ret_bool (by rw [HC.out]; simp), HB.out⟩
    · rw [decide_eq_false hy] at HC
      go_wp2
      go_ret
      exact ⟨ret_bool (by rw [HC.out]; simp), HB.out⟩
  rw [decide_eq_false hx] at HC
  go_wp2
  go_ret
  exact ⟨ret_bool (by rw [HC.out]; simp), HB.out⟩
end Go.Proofs.YtbookbgfipbaoaaGreatDoor.By

/- Rows of items: how they lie; the law's To and From. -/
namespace Go.Proofs.YtbookbgfipbaoaaGreatDoor.By
open Go.RowKit

/-- An item's cells, as the document's answer has it, and as the program does. -/
def cellsI (i : Itm) : List Value := [.int .i64 i.key, .string i.ver.id, .int .i64 i.ver.seq, .int .i64 i.ver.stamp, .bool i.dead, .int .i64 i.x, .int .i64 i.y, .string i.text, .bool i.held]
def cellsP (i : Itm) : List Value := [.int .i64 i.key, .string i.ver.id, .int .i64 i.ver.seq, .int .i64 i.ver.stamp, .bool i.dead, .complex .f64 (fl i.x) (fl i.y), .string i.text, .bool i.held]
def zeroR : Value := .agg #[.int .i64 0, .string ⟨#[]⟩, .int .i64 0, .int .i64 0, .bool false, .int .i64 0, .int .i64 0, .string ⟨#[]⟩, .bool false]
def zeroP : Value := .agg #[.int .i64 0, .string ⟨#[]⟩, .int .i64 0, .int .i64 0, .bool false, .complex .f64 0 0, .string ⟨#[]⟩, .bool false]
theorem cellsI_one (x : Itm) : ∀ u ∈ cellsI x, u.oneCell' = true := by
  intro u hu
  simp only [cellsI, List.mem_cons, List.not_mem_nil, or_false] at hu
  rcases hu with rfl | rfl | rfl | rfl | rfl | rfl | rfl | rfl | rfl <;> rfl
theorem cellsP_one (x : Itm) : ∀ u ∈ cellsP x, u.oneCell' = true := by
  intro u hu
  simp only [cellsP, List.mem_cons, List.not_mem_nil, or_false] at hu
  rcases hu with rfl | rfl | rfl | rfl | rfl | rfl | rfl | rfl <;> rfl
theorem rowI : RowTy cellsI 9 88 zeroR 27 75 := ⟨Tryz.underlying27, by kernel_rfl, rfl, by omega, by omega, fun _ => rfl, cellsI_one⟩
theorem rowP : RowTy cellsP 8 88 zeroP 43 114 := ⟨Tryz.underlying43, by kernel_rfl, rfl, by omega, by omega, fun _ => rfl, cellsP_one⟩
theorem cellsI_at {w : World} {b o : Nat} {z : Itm} (h : ∀ j u, (cellsI z)[j]? = some u → w.cell? ⟨b, o + j, none⟩ = some u) :
    w.cell? ⟨b, o, none⟩ = some (.int .i64 z.key) ∧ w.cell? ⟨b, o + 1, none⟩ = some (.string z.ver.id) ∧ w.cell? ⟨b, o + 2, none⟩ = some (.int .i64 z.ver.seq) ∧ w.cell? ⟨b, o + 3, none⟩ = some (.int .i64 z.ver.stamp) ∧ w.cell? ⟨b, o + 4, none⟩ = some (.bool z.dead) ∧ w.cell? ⟨b, o + 5, none⟩ = some (.int .i64 z.x) ∧ w.cell? ⟨b, o + 6, none⟩ = some (.int .i64 z.y) ∧ w.cell? ⟨b, o + 7, none⟩ = some (.string z.text) ∧ w.cell? ⟨b, o + 8, none⟩ = some (.bool z.held) :=
  ⟨h 0 _ rfl, h 1 _ rfl, h 2 _ rfl, h 3 _ rfl, h 4 _ rfl, h 5 _ rfl, h 6 _ rfl, h 7 _ rfl, h 8 _ rfl⟩
theorem cellsP_at {w : World} {b o : Nat} {z : Itm} (h : ∀ j u, (cellsP z)[j]? = some u → w.cell? ⟨b, o + j, none⟩ = some u) :
    w.cell? ⟨b, o, none⟩ = some (.int .i64 z.key) ∧ w.cell? ⟨b, o + 1, none⟩ = some (.string z.ver.id) ∧ w.cell? ⟨b, o + 2, none⟩ = some (.int .i64 z.ver.seq) ∧ w.cell? ⟨b, o + 3, none⟩ = some (.int .i64 z.ver.stamp) ∧ w.cell? ⟨b, o + 4, none⟩ = some (.bool z.dead) ∧ w.cell? ⟨b, o + 5, none⟩ = some (.complex .f64 (fl z.x) (fl z.y)) ∧ w.cell? ⟨b, o + 6, none⟩ = some (.string z.text) ∧ w.cell? ⟨b, o + 7, none⟩ = some (.bool z.held) :=
  ⟨h 0 _ rfl, h 1 _ rfl, h 2 _ rfl, h 3 _ rfl, h 4 _ rfl, h 5 _ rfl, h 6 _ rfl, h 7 _ rfl⟩
theorem snoc_of {zs : List Itm} {k : Nat} {z : Itm} (h : zs[k]? = some z) : zs.take (k + 1) = zs.take k ++ [z] := by
  rw [List.take_add_one, h]
  rfl
/-- A copy, half way. -/
def CopyRow (cf : Itm → List Value) (d : Nat) (e : TypeId) (w : World) (zs : List Itm) (k : Nat) (Av : Option Addr) (cv : Nat) (wr : World) : Prop :=
  wr.ownsRow w.heap.size e d (.slice Av k cv) k (rowCells cf (zs.take k)) ∧ Below w.heap.size w wr
set_option maxRecDepth 100000 in
set_option maxHeartbeats 4000000 in
theorem rowTo_any (A : Option Addr) (n c : Nat) (zs : List Itm) (B : Nat) (w : World) (hB : B ≤ w.heap.size) (hz : RowAt cellsI 9 w B A n zs) (hn : n ≤ 1073741824) :
    Calls Tryz.prog 32 #[.slice A n c] w (OwnRow cellsP 8 114 zs w) := by
  have hl : zs.length = n := hz.1
  have HL := Lib.hid hl
  have HZ := Lib.hid hz
  clear hl hz
  go_enter Tryz.func32, Tryz.ntmps32
  go_wp2
  go_loopw [3, 4] (fun v i wr => ∃ (k : Nat) (Av : Option Addr) (cv : Nat), k ≤ n ∧ i = .int .i64 k ∧ v = .slice Av k cv ∧ Hid (CopyRow cellsP 8 114 w zs k Av cv wr)) (fun _ i _ => n - (intOf i).toNat)
  case atStart => exact ⟨0, none, 0, by omega, rfl, rfl, rown_nil _ _, Below.refl _ _⟩
  case round =>
    obtain ⟨k, Av, cv, hk, rfl, rfl, HC⟩ := hrel
    obtain ⟨hown, hbel⟩ := HC.out
    have HOw := Lib.hid hown
    have HB := Lib.hid hbel
    clear hown hbel HC
    by_cases hlt : k < n
    · obtain ⟨blk, off, rfl, hbB, z, hzk, hcell⟩ := HZ.out.get hlt
      obtain ⟨e0, e1, e2, e3, e4, e5, e6, e7, e8⟩ := cellsI_at hcell
      replace e0 := ((HB.out.mono hB).cell (p := ⟨blk, off + k * 9, none⟩) hbB).trans e0
      replace e1 := ((HB.out.mono hB).cell (p := ⟨blk, off + k * 9 + 1, none⟩) hbB).trans e1
      replace e2 := ((HB.out.mono hB).cell (p := ⟨blk, off + k * 9 + 2, none⟩) hbB).trans e2
      replace e3 := ((HB.out.mono hB).cell (p := ⟨blk, off + k * 9 + 3, none⟩) hbB).trans e3
      replace e4 := ((HB.out.mono hB).cell (p := ⟨blk, off + k * 9 + 4, none⟩) hbB).trans e4
      replace e5 := ((HB.out.mono hB).cell (p := ⟨blk, off + k * 9 + 5, none⟩) hbB).trans e5
      replace e6 := ((HB.out.mono hB).cell (p := ⟨blk, off + k * 9 + 6, none⟩) hbB).trans e6
      replace e7 := ((HB.out.mono hB).cell (p := ⟨blk, off + k * 9 + 7, none⟩) hbB).trans e7
      replace e8 := ((HB.out.mono hB).cell (p := ⟨blk, off + k * 9 + 8, none⟩) hbB).trans e8
      have HTS := Lib.hid (snoc_of hzk)
      have HX := Lib.hid (to_any z)
      have hi1 : (k : Int) < (n : Int) := by omega
      clear hcell hzk
      obtain ⟨key, ⟨d, a, s⟩, dead, x, y, text, held⟩ := z
      have HCF : Hid (cellsP ⟨key, ⟨d, a, s⟩, dead, x, y, text, held⟩ = [.int .i64 key, .string d, .int .i64 a, .int .i64 s, .bool dead, .complex .f64 (fl x) (fl y), .string text, .bool held]) := rfl
      generalize (⟨key, ⟨d, a, s⟩, dead, x, y, text, held⟩ : Itm) = z0 at HTS HCF
      unfold refV itmV at HX
      simp only at HX e0 e1 e2 e3 e4 e5 e6 e7 e8
      generalize fl x = fx at *
      generalize fl y = fy at *
      go_wp2_with fail
      refine (HX.out _).mono ?_
      rintro e w1 ⟨rfl, hb⟩
      replace HOw := Lib.hid (rown_below HOw.out hb)
      replace HB := Lib.hid (HB.out.trans (hb.mono HB.out.size))
      have hsz := HB.out.size
      clear hb e0 e1 e2 e3 e4 e5 e6 e7 e8
      have HR1 : Hid (RowAt cellsP 8 (w1.alloc (.cells #[.int .i64 key, .string d, .int .i64 a, .int .i64 s, .bool dead, .complex .f64 fx fy, .string text, .bool held] 114)) (w1.heap.size + 1) (some ⟨w1.heap.size, 0, none⟩) 1 [z0]) := one_row rowP (by rw [HCF.out]; exact heap_alloc_new w1 _)
      have HO1 := Lib.hid (HOw.out.alloc (.cells #[.int .i64 key, .string d, .int .i64 a, .int .i64 s, .bool dead, .complex .f64 fx fy, .string text, .bool held] 114))
      go_wp2_with (at_builtin; refine wpList_append_row rowP (B := w.heap.size) (v := .slice Av k cv) (n := k) (zs := zs.take k) (m := 1) (ys := [z0]) rfl _ _ rfl rfl HO1.out rfl HR1.out (by omega) (by simp; omega) ?_; intro A3 c3 w3 hown3 hg3 hat3)
      rw [← HTS.out] at hown3
      have HC3 : Hid (CopyRow cellsP 8 114 w zs (k + 1) A3 c3 w3) := ⟨hown3, (HB.out.alloc hsz _).grown hg3 (Nat.le_trans hsz (by simp)) (fun g e => (HOw.out.lt g e).1)⟩
      clear hown3 hg3 hat3
      go_wp2
      go_roundw
      case rel => exact ⟨k + 1, A3, c3, by omega, by go_num, rfl, HC3⟩
      case measure => simp [intOf]; omega
    · obtain rfl : k = n := by omega
      have HT : Hid (zs.take k = zs) := List.take_of_length_le (by have := HL.out; omega)
      go_wp2
      go_ret
      refine ⟨Av, cv, by rw [HL.out]; rfl, ?_, HB.out⟩
      have := HOw.out
      rw [HT.out] at this
      rw [HL.out]
      exact this
end Go.Proofs.YtbookbgfipbaoaaGreatDoor.By
