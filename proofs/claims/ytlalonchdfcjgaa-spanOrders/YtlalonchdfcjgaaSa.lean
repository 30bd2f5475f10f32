/- The span package's small functions: what each call answers (First, Count, Top). -/
import Derived.Test.YtlalonchdfcjgaaRows
import Derived.WalkKit
import Derived.WalkSpells
import Derived.WalkLawsBesides
import Derived.BigQuiet
import Derived.Deep.QuietTactic
import Derived.Lib.Hide
namespace Go.Proofs.Ytlalonchdfcjgaa
open Go.RowKit

/-- In w the slice (A, n) holds the numbers zs, in a block below B. -/
def IntsAt (w : World) (B : Nat) (A : Option Addr) (n : Nat) (zs : List Int) : Prop :=
  zs.length = n ∧ (0 < n → ∃ b off, A = some ⟨b, off, none⟩ ∧ b < B ∧ ∀ k, k < n → w.cell? ⟨b, off + k, none⟩ = some (.int .i64 (zs.getD k 0)))

theorem IntsAt.nil (w : World) (B : Nat) (A : Option Addr) : IntsAt w B A 0 [] := ⟨rfl, fun h => absurd h (by omega)⟩
theorem IntsAt.keep {w w' : World} {B : Nat} {A : Option Addr} {n : Nat} {zs : List Int} (h : IntsAt w B A n zs) (hb : Below B w w') : IntsAt w' B A n zs :=
  ⟨h.1, fun hn => by
    obtain ⟨b, off, e, hlt, hc⟩ := h.2 hn
    exact ⟨b, off, e, hlt, fun k hk => (hb.cell (p := ⟨b, off + k, none⟩) hlt).trans (hc k hk)⟩⟩
theorem IntsAt.more {w : World} {B B' : Nat} {A : Option Addr} {n : Nat} {zs : List Int} (h : IntsAt w B A n zs) (hB : B ≤ B') : IntsAt w B' A n zs :=
  ⟨h.1, fun hn => by
    obtain ⟨b, off, e, hlt, hc⟩ := h.2 hn
    exact ⟨b, off, e, by omega, hc⟩⟩

theorem ret_int {k : IntKind} {a b : Int} (h : a = b) : Ending.returned (.int k a) = .returned (.int k b) := by rw [h]
theorem ret_bool {a b : Bool} (h : a = b) : Ending.returned (.bool a) = .returned (.bool b) := by rw [h]

def firstU (n : Int) : Int := min (max n 0) 1048576
def topOf (u : Int) (zs : List Int) : Int := zs.getLast?.getD u

set_option maxHeartbeats 400000 in
theorem first_any (n : Int) (w : World) :
    Calls Try.prog 30 #[.int .i64 n] w fun e w' => e = .returned (.agg #[.int .i64 (firstU n), .slice none 0 0]) ∧ Below w.heap.size w w' := by
  have e1 : ∀ m, m = firstU n → Ending.returned (.agg #[.int .i64 m, .slice none 0 0]) = .returned (.agg #[.int .i64 (firstU n), .slice none 0 0]) := fun m h => by rw [h]
  have H := Lib.hid e1
  clear e1
  go_enter Try.func30, Try.ntmps30
  go_wp2
  all_goals
    refine bodyPost_ret (v := .agg #[.int .i64 _, .slice none 0 0]) (by simp [results, Try.results30, go_sem]; rfl) rfl ⟨H.out _ ?_, (Below.refl _ _).alloc (Nat.le_refl _) _⟩
    unfold firstU
    omega

set_option maxHeartbeats 400000 in
theorem count_any (u : Int) (A : Option Addr) (n c : Nat) (w : World) (h0 : 0 ≤ u) (h1 : u ≤ 1048576) (hn : n ≤ 1099511627776) :
    Calls Try.prog 21 #[.agg #[.int .i64 u, .slice A n c]] w fun e w' => e = .returned (.int .i64 (u + n)) ∧ Below w.heap.size w w' := by
  go_enter Try.func21, Try.ntmps21
  go_wp2
  go_ret
  exact ⟨rfl, (Below.refl _ _).alloc (Nat.le_refl _) _⟩

set_option maxHeartbeats 400000 in
theorem top_any (u : Int) (A : Option Addr) (n c : Nat) (zs : List Int) (B : Nat) (w : World) (hB : B ≤ w.heap.size) (hz : IntsAt w B A n zs) (hn : n ≤ 1099511627776) :
    Calls Try.prog 23 #[.agg #[.int .i64 u, .slice A n c]] w fun e w' => e = .returned (.int .i64 (topOf u zs)) ∧ Below w.heap.size w w' := by
  rcases Nat.eq_zero_or_pos n with h0 | h0
  · subst h0
    have : zs = [] := List.eq_nil_of_length_eq_zero hz.1
    subst this
    go_enter Try.func23, Try.ntmps23
    go_wp2
    go_ret
    exact ⟨rfl, (Below.refl _ _).alloc (Nat.le_refl _) _⟩
  · obtain ⟨b, off, rfl, hlt, hc⟩ := hz.2 h0
    have hne : ((n : Int) == 0) = false := by simp; omega
    have hp : (0 : Int) ≤ (n : Int) - 1 := by omega
    have hp1 : (1 : Int) ≤ (n : Int) := by omega
    have hq : (n : Int) - 1 < n := by omega
    have hl : zs.length = n := hz.1
    have hc1 := hc (n - 1) (by omega)
    have HT : Hid (zs.getD (n - 1) 0 = topOf u zs) := by
      show zs.getD (n - 1) 0 = topOf u zs
      unfold topOf
      rw [List.getLast?_eq_getElem?, hl, List.getD_eq_getElem?_getD, List.getElem?_eq_getElem (by omega)]
      rfl
    have hbl : b < w.heap.size := by omega
    clear hc hl hz
    go_enter Try.func23, Try.ntmps23
    go_wp2
    go_ret
    trace_state
    exact ⟨ret_int (by simpa using HT.out), (Below.refl _ _).alloc (Nat.le_refl _) _⟩
end Go.Proofs.Ytlalonchdfcjgaa
