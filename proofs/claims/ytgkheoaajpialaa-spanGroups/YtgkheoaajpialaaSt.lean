/- span.Add of a number that can't be: a copy. -/
import Derived.Test.YtgkheoaajpialaaSs
namespace Go.Proofs.Ytgkheoaajpialaa
open Go.RowKit

set_option maxHeartbeats 2000000 in
theorem add_no {s : Int × List Int} (A : Option Addr) (c : Nat) (m : Int) (w : World) (h : SpanIn w A c s) (hn : s.2.length ≤ 100000) (hm : m < 1 ∨ 1048576 < m) :
    Calls Try.prog 15 #[.agg #[.int .i64 s.1, .slice A s.2.length c], .int .i64 m] w (RetSpan s w) := by
  have HI := Lib.hid h
  clear h
  have hW : Below w.heap.size w (((w.alloc (Obj.cells #[Value.int IntKind.i64 s.1, Value.slice A s.2.length c] 27)).alloc (Obj.cells #[Value.int IntKind.i64 0, Value.slice none 0 0] 27)).alloc (Obj.cells #[Value.slice A s.2.length c] 22)).drew := ((((Below.refl _ _).alloc (Nat.le_refl _) _).alloc (by simp) _).alloc (by simp; omega) _).drew
  have HW := Lib.hid hW
  have HZ : Hid (IntsAt (((w.alloc (Obj.cells #[Value.int IntKind.i64 s.1, Value.slice A s.2.length c] 27)).alloc (Obj.cells #[Value.int IntKind.i64 0, Value.slice none 0 0] 27)).alloc (Obj.cells #[Value.slice A s.2.length c] 22)).drew w.heap.size A s.2.length s.2) := HI.out.1.keep hW
  clear hW
  have key : ∀ (P : Prop), P → P := fun _ h => h
  clear key
  rcases hm with hm | hm
  all_goals
    go_enter Try.func15, Try.ntmps15
    go_wp2_with fail
    go_region_law
      (first
        | (go_simp
           go_at_call 31
           refine (concat_one (w.heap.size + 2) A c s.2 _ ?_ ?_ ?_ hn).mono ?_
           · simp [go_sem]
           · simp
           · exact HZ.out.more (by simp; omega)
           rintro e w1 ⟨A1, c1, rfl, hown, hb⟩
           have k00 : w1.cell? ⟨w.heap.size, 0, none⟩ = some (.int .i64 s.1) := (hb.cell (by simp; omega)).trans (by simp [go_sem])
           have k10 : w1.cell? ⟨w.heap.size + 1, 0, none⟩ = some (.int .i64 0) := (hb.cell (by simp)).trans (by simp [go_sem])
           have k11 : w1.cell? ⟨w.heap.size + 1, 1, none⟩ = some (.slice none 0 0) := (hb.cell (by simp)).trans (by simp [go_sem])
           have f10 : w1.frozen? ⟨w.heap.size + 1, 0, none⟩ = false := (hb.frozen (by simp)).trans (by simp [go_sem])
           have f11 : w1.frozen? ⟨w.heap.size + 1, 1, none⟩ = false := (hb.frozen (by simp)).trans (by simp [go_sem])
           have HB1 : Hid (Below w.heap.size w w1) := HW.out.trans (hb.mono (by simp; omega))
           have HO1 : Hid (w1.ownsRow (w.heap.size + 3) 3 1 (.slice A1 s.2.length c1) s.2.length (s.2.map (.int .i64))) := own_base hown (by simp)
           clear hown hb))
    all_goals
      go_wp2
      refine bodyPost_ret (v := .agg #[.int .i64 s.1, .slice A1 s.2.length c1]) ?_ rfl ?_
      · simp [results, Try.results15, go_sem, k10, k11]
      · have hn4 : Value.ownBlock (.slice A1 s.2.length c1) ≠ some (w.heap.size + 1) := fun e => by have := (HO1.out.lt _ e).1; omega
        exact ret_of_own (ownSpan_of rfl rfl (own_base (own_setCell (own_setCell HO1.out (p := ⟨w.heap.size + 1, 0, none⟩) hn4 _) (p := ⟨w.heap.size + 1, 1, none⟩) hn4 _) (by omega)) (grown_of_below ((HB1.out.setCell (by simp) _).setCell (by simp) _) _) (lies_own HO1.out (by omega)))

def addF (s : Int × List Int) (m : Int) : Int × List Int := if m < 1 ∨ 1048576 < m then s else unionF s (0, [m])

theorem cAddAny {W : World} {A : Option Addr} {c : Nat} {s : Int × List Int} (h : SpanIn W A c s) (hn : s.2.length ≤ 100000) (m : Int) : Calls Try.prog 15 #[.agg #[.int .i64 s.1, .slice A s.2.length c], .int .i64 m] W (RetSpan (addF s m) W) := by
  unfold addF
  split
  · rename_i hm; exact add_no A c m W h hn hm
  · exact cAdd h hn m (by omega) (by omega)
theorem addF_ref {s : Int × List Int} (h : Ok s) (hb : s.1 ≤ 1048576) (m : Int) : addF s m = refAddF s m := by
  unfold addF
  split
  · rename_i hm
    unfold refAddF
    rw [if_pos (by rcases hm with hm | hm; exact .inl hm; exact .inr (.inl hm))]
  · exact add_eq h hb (by omega) (by omega)
end Go.Proofs.Ytgkheoaajpialaa
