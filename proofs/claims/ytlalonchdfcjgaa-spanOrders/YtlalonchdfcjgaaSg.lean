/- The law's To and From: a Span told in the other package's type, its Extra copied. -/
import Derived.Test.YtlalonchdfcjgaaSf
import Derived.Test.YtlalonchdfcjgaaSm
namespace Go.Proofs.Ytlalonchdfcjgaa
open Go.RowKit

theorem empty_own (w : World) (B g : Nat) (hg : w.heap.size = g) (hB : B ≤ g) : (w.alloc (Obj.cells #[] 3)).drew.ownsRow B 3 1 (.slice (some ⟨g, 0, none⟩) 0 0) 0 (([] : List Int).map (.int .i64)) := by
  subst hg
  exact ⟨rfl, .inr ⟨w.heap.size, 0, #[], rfl, hB, heap_alloc_new w _, Nat.le_refl _, Nat.zero_le _, rfl, rfl⟩⟩

set_option maxHeartbeats 1000000 in
theorem to_any (u : Int) (A : Option Addr) (n c : Nat) (zs : List Int) (B : Nat) (w : World) (hB : B ≤ w.heap.size) (hz : IntsAt w B A n zs) (hn : n ≤ 1073741824) :
    Calls Try.prog 12 #[.agg #[.int .i64 u, .slice A n c]] w (OwnSpan w.heap.size none (u, zs) w) := by
  have hb0 : Below w.heap.size w (((w.alloc (Obj.cells #[Value.int IntKind.i64 u, Value.slice A n c] 24)).alloc (Obj.cells #[Value.int IntKind.i64 0, Value.slice none 0 0] 27)).alloc (Obj.cells #[] 3)).drew := ((((Below.refl _ _).alloc (Nat.le_refl _) _).alloc (by simp) _).alloc (by simp; omega) _).drew
  have hO : (((w.alloc (Obj.cells #[Value.int IntKind.i64 u, Value.slice A n c] 24)).alloc (Obj.cells #[Value.int IntKind.i64 0, Value.slice none 0 0] 27)).alloc (Obj.cells #[] 3)).drew.ownsRow (w.heap.size + 2) 3 1 (.slice (some ⟨w.heap.size + 2, 0, none⟩) 0 0) 0 (([] : List Int).map (.int .i64)) := empty_own _ _ _ (by simp) (Nat.le_refl _)
  have HR : Hid (IntsAt (((w.alloc (Obj.cells #[Value.int IntKind.i64 u, Value.slice A n c] 24)).alloc (Obj.cells #[Value.int IntKind.i64 0, Value.slice none 0 0] 27)).alloc (Obj.cells #[] 3)).drew B A n zs) := hz.keep (hb0.mono hB)
  have hl : zs.length = n := hz.1
  have HL := Lib.hid hl
  have HO := Lib.hid hO
  have HB0 := Lib.hid hb0
  clear hz hO hb0 hl
  go_enter Try.func12, Try.ntmps12
  go_wp2
  go_region_law
    (first
      | (refine step_append_ints (w := (((w.alloc (Obj.cells #[Value.int IntKind.i64 u, Value.slice A n c] 24)).alloc (Obj.cells #[Value.int IntKind.i64 0, Value.slice none 0 0] 27)).alloc (Obj.cells #[] 3)).drew) (B := w.heap.size + 2) (B' := B) (v := .slice (some ⟨w.heap.size + 2, 0, none⟩) 0 0) (n := 0) (zs := []) (A := A) (m := n) (c := c) (ys := zs) rfl _ _ rfl rfl HO.out rfl HR.out ?_ ?_ ?_
         · omega
         · simp
         intro A3 c3 w3 hown3 hg3 _
         have hne : ∀ k, k < w.heap.size + 2 → some k ≠ Value.ownBlock (.slice (some ⟨w.heap.size + 2, 0, none⟩) 0 0) := fun k hk e => by simp only [Value.ownBlock, Option.some.injEq] at e; omega
         have k00 : w3.cell? ⟨w.heap.size, 0, none⟩ = some (.int .i64 u) := (grown_cell hg3 0 (by simp; omega) (hne _ (by omega))).1.trans (by simp [go_sem])
         have k01 : w3.cell? ⟨w.heap.size, 1, none⟩ = some (.slice A n c) := (grown_cell hg3 1 (by simp; omega) (hne _ (by omega))).1.trans (by simp [go_sem])
         have k10 : w3.cell? ⟨w.heap.size + 1, 0, none⟩ = some (.int .i64 0) := (grown_cell hg3 0 (by simp) (hne _ (by omega))).1.trans (by simp [go_sem])
         have k11 : w3.cell? ⟨w.heap.size + 1, 1, none⟩ = some (.slice none 0 0) := (grown_cell hg3 1 (by simp) (hne _ (by omega))).1.trans (by simp [go_sem])
         have f10 : w3.frozen? ⟨w.heap.size + 1, 0, none⟩ = false := (grown_cell hg3 0 (by simp) (hne _ (by omega))).2.trans (by simp [go_sem])
         have f11 : w3.frozen? ⟨w.heap.size + 1, 1, none⟩ = false := (grown_cell hg3 1 (by simp) (hne _ (by omega))).2.trans (by simp [go_sem])
         have HB3 : Hid (Below w.heap.size w w3) := HB0.out.grown hg3 (by simp; omega) (fun k hk => by simp only [Value.ownBlock, Option.some.injEq] at hk; omega)
         have HO3 := Lib.hid hown3
         clear hown3 hg3 hne))
  all_goals
    go_wp2
    refine bodyPost_ret (v := .agg #[.int .i64 u, .slice A3 n c3]) ?_ rfl ?_
    · simp [results, Try.results12, go_sem, k10, k11]
    · have hO4 := HO3.out
      rw [Nat.zero_add, List.nil_append] at hO4
      have hn4 : Value.ownBlock (.slice A3 n c3) ≠ some (w.heap.size + 1) := fun e => by have := (hO4.lt _ e).1; omega
      exact ownSpan_of rfl HL.out (own_base (own_setCell (own_setCell hO4 (p := ⟨w.heap.size + 1, 0, none⟩) hn4 _) (p := ⟨w.heap.size + 1, 1, none⟩) hn4 _) (by omega)) (grown_of_below ((HB3.out.setCell (by simp) _).setCell (by simp) _) _) (lies_own hO4 (by omega))

set_option maxHeartbeats 1000000 in
theorem from_any (u : Int) (A : Option Addr) (n c : Nat) (zs : List Int) (B : Nat) (w : World) (hB : B ≤ w.heap.size) (hz : IntsAt w B A n zs) (hn : n ≤ 1073741824) :
    Calls Try.prog 18 #[.agg #[.int .i64 u, .slice A n c]] w (OwnSpan w.heap.size none (u, zs) w) := by
  have hb0 : Below w.heap.size w (((w.alloc (Obj.cells #[Value.int IntKind.i64 u, Value.slice A n c] 27)).alloc (Obj.cells #[Value.int IntKind.i64 0, Value.slice none 0 0] 24)).alloc (Obj.cells #[] 3)).drew := ((((Below.refl _ _).alloc (Nat.le_refl _) _).alloc (by simp) _).alloc (by simp; omega) _).drew
  have hO : (((w.alloc (Obj.cells #[Value.int IntKind.i64 u, Value.slice A n c] 27)).alloc (Obj.cells #[Value.int IntKind.i64 0, Value.slice none 0 0] 24)).alloc (Obj.cells #[] 3)).drew.ownsRow (w.heap.size + 2) 3 1 (.slice (some ⟨w.heap.size + 2, 0, none⟩) 0 0) 0 (([] : List Int).map (.int .i64)) := empty_own _ _ _ (by simp) (Nat.le_refl _)
  have HR : Hid (IntsAt (((w.alloc (Obj.cells #[Value.int IntKind.i64 u, Value.slice A n c] 27)).alloc (Obj.cells #[Value.int IntKind.i64 0, Value.slice none 0 0] 24)).alloc (Obj.cells #[] 3)).drew B A n zs) := hz.keep (hb0.mono hB)
  have hl : zs.length = n := hz.1
  have HL := Lib.hid hl
  have HO := Lib.hid hO
  have HB0 := Lib.hid hb0
  clear hz hO hb0 hl
  go_enter Try.func18, Try.ntmps18
  go_wp2
  go_region_law
    (first
      | (refine step_append_ints (w := (((w.alloc (Obj.cells #[Value.int IntKind.i64 u, Value.slice A n c] 27)).alloc (Obj.cells #[Value.int IntKind.i64 0, Value.slice none 0 0] 24)).alloc (Obj.cells #[] 3)).drew) (B := w.heap.size + 2) (B' := B) (v := .slice (some ⟨w.heap.size + 2, 0, none⟩) 0 0) (n := 0) (zs := []) (A := A) (m := n) (c := c) (ys := zs) rfl _ _ rfl rfl HO.out rfl HR.out ?_ ?_ ?_
         · omega
         · simp
         intro A3 c3 w3 hown3 hg3 _
         have hne : ∀ k, k < w.heap.size + 2 → some k ≠ Value.ownBlock (.slice (some ⟨w.heap.size + 2, 0, none⟩) 0 0) := fun k hk e => by simp only [Value.ownBlock, Option.some.injEq] at e; omega
         have k00 : w3.cell? ⟨w.heap.size, 0, none⟩ = some (.int .i64 u) := (grown_cell hg3 0 (by simp; omega) (hne _ (by omega))).1.trans (by simp [go_sem])
         have k01 : w3.cell? ⟨w.heap.size, 1, none⟩ = some (.slice A n c) := (grown_cell hg3 1 (by simp; omega) (hne _ (by omega))).1.trans (by simp [go_sem])
         have k10 : w3.cell? ⟨w.heap.size + 1, 0, none⟩ = some (.int .i64 0) := (grown_cell hg3 0 (by simp) (hne _ (by omega))).1.trans (by simp [go_sem])
         have k11 : w3.cell? ⟨w.heap.size + 1, 1, none⟩ = some (.slice none 0 0) := (grown_cell hg3 1 (by simp) (hne _ (by omega))).1.trans (by simp [go_sem])
         have f10 : w3.frozen? ⟨w.heap.size + 1, 0, none⟩ = false := (grown_cell hg3 0 (by simp) (hne _ (by omega))).2.trans (by simp [go_sem])
         have f11 : w3.frozen? ⟨w.heap.size + 1, 1, none⟩ = false := (grown_cell hg3 1 (by simp) (hne _ (by omega))).2.trans (by simp [go_sem])
         have HB3 : Hid (Below w.heap.size w w3) := HB0.out.grown hg3 (by simp; omega) (fun k hk => by simp only [Value.ownBlock, Option.some.injEq] at hk; omega)
         have HO3 := Lib.hid hown3
         clear hown3 hg3 hne))
  all_goals
    go_wp2
    refine bodyPost_ret (v := .agg #[.int .i64 u, .slice A3 n c3]) ?_ rfl ?_
    · simp [results, Try.results18, go_sem, k10, k11]
    · have hO4 := HO3.out
      rw [Nat.zero_add, List.nil_append] at hO4
      have hn4 : Value.ownBlock (.slice A3 n c3) ≠ some (w.heap.size + 1) := fun e => by have := (hO4.lt _ e).1; omega
      exact ownSpan_of rfl HL.out (own_base (own_setCell (own_setCell hO4 (p := ⟨w.heap.size + 1, 0, none⟩) hn4 _) (p := ⟨w.heap.size + 1, 1, none⟩) hn4 _) (by omega)) (grown_of_below ((HB3.out.setCell (by simp) _).setCell (by simp) _) _) (lies_own hO4 (by omega))

end Go.Proofs.Ytlalonchdfcjgaa
