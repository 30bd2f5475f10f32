/- vec.Set and vec.Meet. -/
import Derived.Test.YtcbadocmkgodhaaVf
namespace Go.Proofs.Ytcbadocmkgodhaa
open Go.RowKit

theorem own_base {w : World} {B B' : Nat} {e : TypeId} {v : Value} {n : Nat} {xs : List Value} (h : w.ownsRow B e 2 v n xs) (hB : B' ≤ B) : w.ownsRow B' e 2 v n xs :=
  ⟨h.1, h.2.imp id fun ⟨g, cap, cur, a, b, r⟩ => ⟨g, cap, cur, a, Nat.le_trans hB b, r⟩⟩
theorem OwnVec.lift {B B' : Nat} {ty : TypeId} {zs : List At} {w w1 w' : World} {e : Ending} (h : OwnVec B ty zs w1 e w') (hB : B' ≤ B) (hb : Below w.heap.size w w1) : OwnVec B' ty zs w e w' := by
  obtain ⟨A, c, he, hc, ho, hw⟩ := h
  exact ⟨A, c, he, hc, own_base ho hB, hb.trans (hw.mono hb.size)⟩

/-- zs, where a is n far at least. -/
def setF (zs : List At) (a : ByteArray) (n : Int) : List At := if rightL a.data.toList = true ∧ 1 ≤ n then joinF zs [(a, min n 1048576)] else zs

theorem ownVec_ret {B : Nat} {ty : TypeId} {zs : List At} {w w' : World} {A : Option Addr} {n c : Nat} (hl : zs.length = n) (hc : n ≤ c) (ho : w'.ownsRow B ty 2 (.slice A n c) n (atCells zs)) (hb : Below w.heap.size w w') : OwnVec B ty zs w (.returned (.slice A n c)) w' := by
  subst hl
  exact ⟨A, c, rfl, hc, ho, hb⟩

set_option maxRecDepth 100000 in
set_option maxHeartbeats 2000000 in
theorem set_any (A : Option Addr) (n c : Nat) (zs : List At) (a : ByteArray) (x : Int) (B : Nat) (w : World) (hB : B ≤ w.heap.size) (hz : VecAt w B A n zs) (hnc : n ≤ c) (hn : n ≤ 1073741824) :
    Calls Try.prog 31 #[.slice A n c, .string a, .int .i64 x] w (OwnVec w.heap.size 59 (setF zs a x) w) := by
  have HZ := Lib.hid hz
  clear hz
  cases hr : rightL a.data.toList
  · have HF : Hid (setF zs a x = joinF zs []) := by show _ = _; unfold setF; rw [if_neg (by simp [hr]), joinF_nil]
    have HR := Lib.hid hr
    clear hr
    rw [HF.out]
    go_enter Try.func31, Try.ntmps31
    go_wp2_with fail
    refine (right_is _ false HR _).mono ?_
    rintro e w' ⟨rfl, rfl⟩
    go_wp2_with fail
    refine (join_any A n c zs none 0 0 [] B _ hB HZ.out (VecAt.nil _ _ _) hnc (by omega) hn (by omega)).mono ?_
    rintro e w1 ⟨A1, c1, rfl, hc1, ho1, hb1⟩
    go_wp2
    go_ret
    exact ⟨A1, c1, rfl, hc1, ho1, hb1⟩
  · have HR := Lib.hid hr
    by_cases h1 : x < 1
    · have HF : Hid (setF zs a x = joinF zs []) := by show _ = _; unfold setF; rw [if_neg (by omega), joinF_nil]
      clear hr
      rw [HF.out]
      go_enter Try.func31, Try.ntmps31
      go_wp2_with fail
      refine (right_is _ true HR _).mono ?_
      rintro e w' ⟨rfl, rfl⟩
      go_wp2_with fail
      refine (join_any A n c zs none 0 0 [] B _ hB HZ.out (VecAt.nil _ _ _) hnc (by omega) hn (by omega)).mono ?_
      rintro e w1 ⟨A1, c1, rfl, hc1, ho1, hb1⟩
      go_wp2
      go_ret
      exact ⟨A1, c1, rfl, hc1, ho1, hb1⟩
    · by_cases h2 : 1048576 < x
      · have HF : Hid (setF zs a x = joinF zs [(a, 1048576)]) := by show _ = _; unfold setF; rw [if_pos ⟨hr, by omega⟩, Int.min_eq_right (by omega)]
        clear hr
        rw [HF.out]
        go_enter Try.func31, Try.ntmps31
        go_wp2_with fail
        refine (right_is _ true HR _).mono ?_
        rintro e w' ⟨rfl, rfl⟩
        go_wp2_with fail
        refine (join_any A n c zs (some ⟨w.heap.size, 0, none⟩) 1 1 [(a, 1048576)] (w.heap.size + 1) _ (by simp) ((HZ.out.alloc hB _).more (by omega)) (one_at (heap_alloc_new w _)) hnc (by omega) hn (by omega)).mono ?_
        rintro e w1 ho
        obtain ⟨A1, c1, rfl, hc1, ho1, hb1⟩ := OwnVec.lift (B' := w.heap.size) (w := w) ho (by simp) ((Below.refl _ _).alloc (Nat.le_refl _) _)
        clear ho
        go_wp2
        go_ret
        exact ⟨A1, c1, rfl, hc1, ho1, hb1⟩
      · have HF : Hid (setF zs a x = joinF zs [(a, x)]) := by show _ = _; unfold setF; rw [if_pos ⟨hr, by omega⟩, Int.min_eq_left (by omega)]
        have hmf : (1048576 < x) = False := eq_false h2
        clear hr
        rw [HF.out]
        go_enter Try.func31, Try.ntmps31
        go_wp2_with fail
        refine (right_is _ true HR _).mono ?_
        rintro e w' ⟨rfl, rfl⟩
        go_wp2_with fail
        refine (join_any A n c zs (some ⟨w.heap.size, 0, none⟩) 1 1 [(a, x)] (w.heap.size + 1) _ (by simp) ((HZ.out.alloc hB _).more (by omega)) (one_at (heap_alloc_new w _)) hnc (by omega) hn (by omega)).mono ?_
        rintro e w1 ho
        obtain ⟨A1, c1, rfl, hc1, ho1, hb1⟩ := OwnVec.lift (B' := w.heap.size) (w := w) ho (by simp) ((Below.refl _ _).alloc (Nat.le_refl _) _)
        clear ho
        go_wp2
        go_ret
        exact ⟨A1, c1, rfl, hc1, ho1, hb1⟩

/-- Of each of zs the lesser number; who is 0 far isn't there. -/
def meetF (zs ys : List At) : List At := zs.filterMap fun x => if 0 < min x.2 (ofF ys x.1) then some (x.1, min x.2 (ofF ys x.1)) else none
theorem meet_step {zs ys : List At} {k : Nat} (hk : k < zs.length) : meetF (zs.drop k) ys = (if 0 < min (zs.getD k atNil).2 (ofF ys (zs.getD k atNil).1) then [((zs.getD k atNil).1, min (zs.getD k atNil).2 (ofF ys (zs.getD k atNil).1))] else []) ++ meetF (zs.drop (k + 1)) ys := by
  have e : zs.getD k atNil = zs[k] := by rw [List.getD_eq_getElem?_getD, List.getElem?_eq_getElem hk]; rfl
  rw [e, List.drop_eq_getElem_cons hk, meetF, List.filterMap_cons]
  by_cases h : 0 < min (zs[k]).2 (ofF ys (zs[k]).1)
  · simp only [h, if_true]; rfl
  · simp only [h, if_false]; rfl
theorem meet_len (zs ys : List At) : (meetF zs ys).length ≤ zs.length := List.length_filterMap_le _ _

/-- Half way through Meet. -/
def MeetRel (w : World) (t zs ys : List At) (Av : Option Addr) (nv cv : Nat) (wr : World) : Prop :=
  ∃ out : List At, out.length = nv ∧ wr.ownsRow w.heap.size 59 2 (.slice Av nv cv) nv (atCells out) ∧ out ++ meetF zs ys = t ∧ Below w.heap.size w wr

end Go.Proofs.Ytcbadocmkgodhaa
