/- The document's put, Set and Within of a right Vec; the law's From. -/
import Derived.Test.YtbbcifcdimfdgaaVl
namespace Go.Proofs.Ytbbcifcdimfdgaa
open Go.RowKit

/-- A Vec that may be. -/
def Good (zs : List At) : Prop := Rising zs ∧ ∀ x ∈ zs, okAt x = true
theorem Good.pos {zs : List At} (h : Good zs) : Pos zs := fun x hx => (okAt_pos (h.2 x hx)).1
theorem right_len {l : List UInt8} (h : rightL l = true) : l.length ≤ 6 := ((rightL_iff l).mp h).1.2.1
theorem Good.short {zs : List At} (h : Good zs) : Short zs := fun k => by
  by_cases hk : k < zs.length
  · have h1 := right_len (okAt_pos (h.2 _ (getD_mem hk))).2.2
    have h2 : (zs.getD k atNil).1.size = (zs.getD k atNil).1.data.toList.length := Lib.size_eq _
    omega
  · rw [List.getD_eq_getElem?_getD, List.getElem?_eq_none (by omega)]
    show 0 ≤ _
    omega
theorem okAt_mk {a : ByteArray} {z : Int} (ha : rightL a.data.toList = true) (h1 : 1 ≤ z) (h2 : z ≤ 1048576) : okAt (a, z) = true := okAt_yes ha (by show ¬ z < 1; omega) (by show ¬ 1048576 < z; omega)
theorem Good.nil : Good [] := ⟨List.Pairwise.nil, fun x hx => by simp at hx⟩
theorem Good.join {xs ys : List At} (hx : Good xs) (hy : Good ys) : Good (joinF xs ys) := ⟨rising_join hx.1 hy.1, fun z hz => by
  rcases mem_join xs ys hz with h | h | ⟨u, hu, v, hv, _, rfl⟩
  · exact hx.2 z h
  · exact hy.2 z h
  · have h1 := okAt_pos (hx.2 u hu); have h2 := okAt_pos (hy.2 v hv); exact okAt_mk h1.2.2 (by omega) (by omega)⟩
theorem Good.drop {zs : List At} (h : Good zs) (a : ByteArray) : Good (dropF zs a) := ⟨rising_drop h.1 a, fun x hx => h.2 x (List.mem_filter.mp hx).1⟩
theorem Good.meet {zs : List At} (h : Good zs) (ys : List At) : Good (meetF zs ys) := ⟨rising_meet ys h.1, fun z hz => by
  obtain ⟨x, hx, e1, e2, e3⟩ := mem_meet hz
  have h1 := okAt_pos (h.2 x hx)
  have : z = (z.1, z.2) := rfl
  rw [this]
  exact okAt_mk (by rw [← e1]; exact h1.2.2) e3 (by omega)⟩
theorem good_one {a : ByteArray} {z : Int} (ha : rightL a.data.toList = true) (h1 : 1 ≤ z) (h2 : z ≤ 1048576) : Good [(a, z)] := ⟨rising_one _, fun x hx => by simp at hx; subst hx; exact okAt_mk ha h1 h2⟩
theorem Good.put {zs : List At} (h : Good zs) {a : ByteArray} {z : Int} (ha : rightL a.data.toList = true) (h2 : z ≤ 1048576) : Good (putV zs a z) := by
  unfold putV; split
  · exact h.drop a
  · exact (h.drop a).join (good_one ha (by omega) h2)
theorem good_iff (zs : List At) : rightV zs = true ↔ Good zs := right_iff zs
theorem good_ofF {zs : List At} (h : Good zs) (a : ByteArray) : 0 ≤ ofF zs a ∧ ofF zs a ≤ 1048576 := by
  refine ⟨ofF_nonneg h.pos a, ?_⟩
  by_cases h0 : ofF zs a = 0
  · omega
  · obtain ⟨x, hx, rfl⟩ := ofF_pos h0
    rw [ofF_mem h.1 hx]
    have := okAt_pos (h.2 x hx); omega
theorem Good.ext {xs ys : List At} (hx : Good xs) (hy : Good ys) (h : ∀ a, ofF xs a = ofF ys a) : xs = ys := vec_ext hx.1 hy.1 hx.pos hy.pos h

set_option maxRecDepth 100000 in
set_option maxHeartbeats 2000000 in
theorem put_any (A : Option Addr) (n c : Nat) (zs : List At) (a : ByteArray) (z : Int) (B : Nat) (w : World) (hB : B ≤ w.heap.size) (hz : VecAt w B A n zs) (hn : n ≤ 1000000) (hg : Good zs) :
    Calls Try.prog 42 #[.slice A n c, .string a, .int .i64 z] w (OwnVec w.heap.size 76 (putV zs a z) w) := by
  by_cases h1 : z < 1
  · have HZ := Lib.hid hz
    have HP : Hid (putV zs a z = dropF zs a) := if_pos h1
    rw [HP.out]
    clear hz hg HP
    go_enter Try.func42, Try.ntmps42
    go_wp2_with fail
    refine (rdrop_any A n c zs a B _ hB HZ.out (by omega)).mono ?_
    rintro e w1 ⟨A1, c1, rfl, hc1, ho1, hb1⟩
    go_wp2
    go_ret
    exact ⟨A1, c1, rfl, hc1, ho1, hb1⟩
  · refine (put_loop A n c zs a z B w hB hz hn (by omega) hg.short).mono ?_
    rintro e w1 ⟨r, hr, ho⟩
    rw [← put_is hg.1 hg.pos (by omega) hr]
    exact ho

theorem rof_is (A : Option Addr) (n c : Nat) (zs : List At) (a : ByteArray) (B : Nat) (x : Int) (h : Hid (ofF zs a = x)) (w : World) (hz : VecAt w B A n zs) (hn : n ≤ 1099511627776) :
    Calls Try.prog 60 #[.slice A n c, .string a] w fun e w' => e = .returned (.int .i64 x) ∧ w = w' := by
  rw [← h.out]; exact rof_any A n c zs a B w hz hn

theorem own_empty (w : World) (B : Nat) (e : TypeId) (hB : B ≤ w.heap.size) : (w.alloc (.cells #[] e)).ownsRow B e 2 (.slice (some ⟨w.heap.size, 0, none⟩) 0 0) 0 (atCells []) :=
  ⟨rfl, .inr ⟨w.heap.size, 0, #[], rfl, hB, heap_alloc_new w _, Nat.le_refl _, by unfold maxLen; omega, rfl, rfl⟩⟩

theorem set_put {zs : List At} (h : Good zs) {a : ByteArray} {n : Int} (ha : rightL a.data.toList = true) (h1 : 1 ≤ n) : setF zs a n = putV zs a (max (ofF zs a) (min n 1048576)) := by
  have g := good_ofF h a
  unfold setF
  rw [if_pos ⟨ha, h1⟩]
  refine Good.ext (h.join (good_one ha (by omega) (by omega))) (h.put ha (by omega)) fun b => ?_
  rw [ofF_join h.1 (rising_one _) h.pos (pos_one (by show 1 ≤ min n 1048576; omega)), ofF_put h.1 h.pos]
  by_cases e : b = a
  · subst e; rw [if_pos rfl, ofF, if_pos rfl]; simp only; omega
  · rw [if_neg e, ofF_cons_ne (fun h => e h.symm)]
    have := ofF_nonneg h.pos b
    simp only [ofF]; omega

end Go.Proofs.Ytbbcifcdimfdgaa
