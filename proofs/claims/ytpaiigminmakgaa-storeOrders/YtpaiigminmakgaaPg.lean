/- The law's own little check of layer 8: 'told'. -/
import Derived.Test.YtpaiigminmakgaaPf
namespace Go.Proofs.Ytpaiigminmakgaa
open Go.RowKit

def tA : Itm := ⟨2, ⟨⟨#[48]⟩, 1, 3⟩, false, 0, 0, ⟨#[120]⟩, true⟩
def tB : Itm := ⟨2, ⟨⟨#[48, 49]⟩, 1, 2⟩, true, 0, 0, ⟨#[]⟩, false⟩
theorem tA_V : itmV tA = .agg #[.int .i64 2, .string ⟨#[48]⟩, .int .i64 1, .int .i64 3, .bool false, .complex .f64 0 0, .string ⟨#[120]⟩, .bool true] := by unfold itmV tA; simp only [zero_fl]
theorem tB_V : itmV tB = .agg #[.int .i64 2, .string ⟨#[48, 49]⟩, .int .i64 1, .int .i64 2, .bool true, .complex .f64 0 0, .string ⟨#[]⟩, .bool false] := by unfold itmV tB; simp only [zero_fl]
theorem told_p1 : putF [] tA = ([tA], true) := rfl
theorem told_p2 : putF [tA] tB = ([tA], false) := by
  refine put_not (y := tA) rfl ?_
  have he : eqV tB.ver tA.ver = false := by
    rcases e : eqV tB.ver tA.ver with _ | _
    · rfl
    · have := congrArg Vrs.stamp ((eqV_iff _ _).mp e)
      exact absurd this (by decide)
  have hn : newerF tA.ver tB.ver = true := rfl
  unfold replF
  rw [he, hn]
  rfl
theorem told_g : getF [tA] 2 = some tA := rfl
theorem told_d : dropF [tA] 2 = [] := rfl
theorem told_r : rightS [tA] = true := by
  unfold rightS rightFrom rightFrom
  decide
theorem keys_one (x : Itm) : Keys [x] := List.pairwise_singleton _ _
/-- A row of one's own with its flag. -/
def RowFlag (zs : List Itm) (n : Nat) (b : Bool) (w : World) (e : Ending) (w' : World) : Prop := ∃ A c, e = .returned (.tuple #[.slice A n c, .bool b]) ∧ w'.ownsRow w.heap.size 46 8 (.slice A n c) n (rowCells cellsP zs) ∧ Below w.heap.size w w'
theorem flag_of {zs ys : List Itm} {x : Itm} {b : Bool} {n : Nat} {w w' : World} {e : Ending} (h : putF zs x = (ys, b)) (hn : ys.length = n) (hp : PutRet zs x w e w') : RowFlag ys n b w e w' := by
  obtain ⟨A, c, h1, h2, h3⟩ := hp
  rw [h] at h1 h2
  subst hn
  exact ⟨A, c, h1, h2, h3⟩
theorem told_put1 (w : World) : Calls Try.prog 16 #[.slice none 0 0, .agg #[.int .i64 2, .string ⟨#[48]⟩, .int .i64 1, .int .i64 3, .bool false, .complex .f64 0 0, .string ⟨#[120]⟩, .bool true]] w (RowFlag [tA] 1 true w) := by
  rw [← tA_V]
  exact (putS_any none 0 0 [] tA 0 w (Nat.zero_le _) RowAt.nil (Nat.le_refl _) (by omega) List.Pairwise.nil).mono fun e w' h => flag_of told_p1 rfl h
theorem told_put2 {A : Option Addr} {c B : Nat} (w : World) (ho : w.ownsRow B 46 8 (.slice A 1 c) 1 (rowCells cellsP [tA])) : Calls Try.prog 16 #[.slice A 1 c, .agg #[.int .i64 2, .string ⟨#[48, 49]⟩, .int .i64 1, .int .i64 2, .bool true, .complex .f64 0 0, .string ⟨#[]⟩, .bool false]] w (RowFlag [tA] 1 false w) := by
  rw [← tB_V]
  exact (putS_any A 1 c [tA] tB w.heap.size w (Nat.le_refl _) (own_row rowS ho) (rown_cap ho) (by omega) (keys_one _)).mono fun e w' h => flag_of told_p2 rfl h
theorem told_get {A : Option Addr} {c B : Nat} (w : World) (ho : w.ownsRow B 46 8 (.slice A 1 c) 1 (rowCells cellsP [tA])) : Calls Try.prog 19 #[.slice A 1 c, .int .i64 2] w fun e w' => e = .returned (.tuple #[.agg #[.int .i64 2, .string ⟨#[48]⟩, .int .i64 1, .int .i64 3, .bool false, .complex .f64 0 0, .string ⟨#[120]⟩, .bool true], .bool true]) ∧ Below w.heap.size w w' := by
  have h := getS_any A 1 c [tA] 2 w.heap.size w (Nat.le_refl _) (own_row rowS ho) (by omega) (keys_one _)
  have e : GetV (some tA) = .tuple #[itmV tA, .bool true] := rfl
  rwa [told_g, e, tA_V] at h
theorem told_drop {A : Option Addr} {c B : Nat} (w : World) (ho : w.ownsRow B 46 8 (.slice A 1 c) 1 (rowCells cellsP [tA])) : Calls Try.prog 23 #[.slice A 1 c, .int .i64 2] w fun e w' => (∃ A' c', e = .returned (.slice A' 0 c')) ∧ Below w.heap.size w w' := by
  have h := dropS_any A 1 c [tA] 2 w.heap.size w (Nat.le_refl _) (own_row rowS ho) (rown_cap ho) (by omega) (keys_one _)
  rw [told_d] at h
  exact h.mono fun e w' ⟨A', c', h1, _, h3⟩ => ⟨⟨A', c', h1⟩, h3⟩
theorem told_right {A : Option Addr} {c B : Nat} (w : World) (ho : w.ownsRow B 46 8 (.slice A 1 c) 1 (rowCells cellsP [tA])) : Calls Try.prog 10 #[.slice A 1 c] w fun e w' => e = .returned (.bool true) ∧ Below w.heap.size w w' := by
  have h := rightS_any A 1 c [tA] w.heap.size w (Nat.le_refl _) (own_row rowS ho) (by omega) (fun z hz => by
    obtain rfl : z = tA := by simpa using hz
    exact ⟨by decide, by decide⟩)
  rwa [told_r] at h
set_option maxRecDepth 100000 in
set_option maxHeartbeats 1000000 in
theorem told_eq (w : World) : (binOp .eql 46 (.agg #[.int .i64 2, .string ⟨#[48]⟩, .int .i64 1, .int .i64 3, .bool false, .complex .f64 0 0, .string ⟨#[120]⟩, .bool true]) (.agg #[.int .i64 2, .string ⟨#[48]⟩, .int .i64 1, .int .i64 3, .bool false, .complex .f64 0 0, .string ⟨#[120]⟩, .bool true])).run Try.prog w = .ok (.bool true) w := by
  have := eql_item tA tA (by decide) (by decide) (by decide) (by decide) w
  rwa [eqI_same, tA_V] at this
set_option maxRecDepth 100000 in
set_option maxHeartbeats 2000000 in
theorem told_any (w : World) : Calls Try.prog 8 #[] w fun e w' => e = .returned (.bool true) ∧ Below w.heap.size w w' := by
  have hst := store_complex
  have heq := told_eq
  go_enter Try.func8, Try.ntmps8
  go_wp2_with fail
  refine (told_put1 _).mono ?_
  rintro e w1 ⟨A1, c1, rfl, ho, hb⟩
  have k0 : ((w.alloc (.cells #[.int .i64 2, .string ⟨#[48]⟩, .int .i64 1, .int .i64 3, .bool false, .complex .f64 0 0, .string ⟨#[120]⟩, .bool true] 46)).alloc (.cells #[.int .i64 2, .string ⟨#[48, 49]⟩, .int .i64 1, .int .i64 2, .bool true, .complex .f64 0 0, .string ⟨#[]⟩, .bool false] 46)).cell? ⟨w.heap.size, 0, none⟩ = some (.int .i64 2) := by simp [go_sem]
  have kf0 : ((w.alloc (.cells #[.int .i64 2, .string ⟨#[48]⟩, .int .i64 1, .int .i64 3, .bool false, .complex .f64 0 0, .string ⟨#[120]⟩, .bool true] 46)).alloc (.cells #[.int .i64 2, .string ⟨#[48, 49]⟩, .int .i64 1, .int .i64 2, .bool true, .complex .f64 0 0, .string ⟨#[]⟩, .bool false] 46)).frozen? ⟨w.heap.size, 0, none⟩ = false := by simp [go_sem]
  have k1 : ((w.alloc (.cells #[.int .i64 2, .string ⟨#[48]⟩, .int .i64 1, .int .i64 3, .bool false, .complex .f64 0 0, .string ⟨#[120]⟩, .bool true] 46)).alloc (.cells #[.int .i64 2, .string ⟨#[48, 49]⟩, .int .i64 1, .int .i64 2, .bool true, .complex .f64 0 0, .string ⟨#[]⟩, .bool false] 46)).cell? ⟨w.heap.size, 1, none⟩ = some (.string ⟨#[48]⟩) := by simp [go_sem]
  have kf1 : ((w.alloc (.cells #[.int .i64 2, .string ⟨#[48]⟩, .int .i64 1, .int .i64 3, .bool false, .complex .f64 0 0, .string ⟨#[120]⟩, .bool true] 46)).alloc (.cells #[.int .i64 2, .string ⟨#[48, 49]⟩, .int .i64 1, .int .i64 2, .bool true, .complex .f64 0 0, .string ⟨#[]⟩, .bool false] 46)).frozen? ⟨w.heap.size, 1, none⟩ = false := by simp [go_sem]
  have k2 : ((w.alloc (.cells #[.int .i64 2, .string ⟨#[48]⟩, .int .i64 1, .int .i64 3, .bool false, .complex .f64 0 0, .string ⟨#[120]⟩, .bool true] 46)).alloc (.cells #[.int .i64 2, .string ⟨#[48, 49]⟩, .int .i64 1, .int .i64 2, .bool true, .complex .f64 0 0, .string ⟨#[]⟩, .bool false] 46)).cell? ⟨w.heap.size, 2, none⟩ = some (.int .i64 1) := by simp [go_sem]
  have kf2 : ((w.alloc (.cells #[.int .i64 2, .string ⟨#[48]⟩, .int .i64 1, .int .i64 3, .bool false, .complex .f64 0 0, .string ⟨#[120]⟩, .bool true] 46)).alloc (.cells #[.int .i64 2, .string ⟨#[48, 49]⟩, .int .i64 1, .int .i64 2, .bool true, .complex .f64 0 0, .string ⟨#[]⟩, .bool false] 46)).frozen? ⟨w.heap.size, 2, none⟩ = false := by simp [go_sem]
  have k3 : ((w.alloc (.cells #[.int .i64 2, .string ⟨#[48]⟩, .int .i64 1, .int .i64 3, .bool false, .complex .f64 0 0, .string ⟨#[120]⟩, .bool true] 46)).alloc (.cells #[.int .i64 2, .string ⟨#[48, 49]⟩, .int .i64 1, .int .i64 2, .bool true, .complex .f64 0 0, .string ⟨#[]⟩, .bool false] 46)).cell? ⟨w.heap.size, 3, none⟩ = some (.int .i64 3) := by simp [go_sem]
  have kf3 : ((w.alloc (.cells #[.int .i64 2, .string ⟨#[48]⟩, .int .i64 1, .int .i64 3, .bool false, .complex .f64 0 0, .string ⟨#[120]⟩, .bool true] 46)).alloc (.cells #[.int .i64 2, .string ⟨#[48, 49]⟩, .int .i64 1, .int .i64 2, .bool true, .complex .f64 0 0, .string ⟨#[]⟩, .bool false] 46)).frozen? ⟨w.heap.size, 3, none⟩ = false := by simp [go_sem]
  have k4 : ((w.alloc (.cells #[.int .i64 2, .string ⟨#[48]⟩, .int .i64 1, .int .i64 3, .bool false, .complex .f64 0 0, .string ⟨#[120]⟩, .bool true] 46)).alloc (.cells #[.int .i64 2, .string ⟨#[48, 49]⟩, .int .i64 1, .int .i64 2, .bool true, .complex .f64 0 0, .string ⟨#[]⟩, .bool false] 46)).cell? ⟨w.heap.size, 4, none⟩ = some (.bool false) := by simp [go_sem]
  have kf4 : ((w.alloc (.cells #[.int .i64 2, .string ⟨#[48]⟩, .int .i64 1, .int .i64 3, .bool false, .complex .f64 0 0, .string ⟨#[120]⟩, .bool true] 46)).alloc (.cells #[.int .i64 2, .string ⟨#[48, 49]⟩, .int .i64 1, .int .i64 2, .bool true, .complex .f64 0 0, .string ⟨#[]⟩, .bool false] 46)).frozen? ⟨w.heap.size, 4, none⟩ = false := by simp [go_sem]
  have k5 : ((w.alloc (.cells #[.int .i64 2, .string ⟨#[48]⟩, .int .i64 1, .int .i64 3, .bool false, .complex .f64 0 0, .string ⟨#[120]⟩, .bool true] 46)).alloc (.cells #[.int .i64 2, .string ⟨#[48, 49]⟩, .int .i64 1, .int .i64 2, .bool true, .complex .f64 0 0, .string ⟨#[]⟩, .bool false] 46)).cell? ⟨w.heap.size, 5, none⟩ = some (.complex .f64 0 0) := by simp [go_sem]
  have kf5 : ((w.alloc (.cells #[.int .i64 2, .string ⟨#[48]⟩, .int .i64 1, .int .i64 3, .bool false, .complex .f64 0 0, .string ⟨#[120]⟩, .bool true] 46)).alloc (.cells #[.int .i64 2, .string ⟨#[48, 49]⟩, .int .i64 1, .int .i64 2, .bool true, .complex .f64 0 0, .string ⟨#[]⟩, .bool false] 46)).frozen? ⟨w.heap.size, 5, none⟩ = false := by simp [go_sem]
  have k6 : ((w.alloc (.cells #[.int .i64 2, .string ⟨#[48]⟩, .int .i64 1, .int .i64 3, .bool false, .complex .f64 0 0, .string ⟨#[120]⟩, .bool true] 46)).alloc (.cells #[.int .i64 2, .string ⟨#[48, 49]⟩, .int .i64 1, .int .i64 2, .bool true, .complex .f64 0 0, .string ⟨#[]⟩, .bool false] 46)).cell? ⟨w.heap.size, 6, none⟩ = some (.string ⟨#[120]⟩) := by simp [go_sem]
  have kf6 : ((w.alloc (.cells #[.int .i64 2, .string ⟨#[48]⟩, .int .i64 1, .int .i64 3, .bool false, .complex .f64 0 0, .string ⟨#[120]⟩, .bool true] 46)).alloc (.cells #[.int .i64 2, .string ⟨#[48, 49]⟩, .int .i64 1, .int .i64 2, .bool true, .complex .f64 0 0, .string ⟨#[]⟩, .bool false] 46)).frozen? ⟨w.heap.size, 6, none⟩ = false := by simp [go_sem]
  have k7 : ((w.alloc (.cells #[.int .i64 2, .string ⟨#[48]⟩, .int .i64 1, .int .i64 3, .bool false, .complex .f64 0 0, .string ⟨#[120]⟩, .bool true] 46)).alloc (.cells #[.int .i64 2, .string ⟨#[48, 49]⟩, .int .i64 1, .int .i64 2, .bool true, .complex .f64 0 0, .string ⟨#[]⟩, .bool false] 46)).cell? ⟨w.heap.size, 7, none⟩ = some (.bool true) := by simp [go_sem]
  have kf7 : ((w.alloc (.cells #[.int .i64 2, .string ⟨#[48]⟩, .int .i64 1, .int .i64 3, .bool false, .complex .f64 0 0, .string ⟨#[120]⟩, .bool true] 46)).alloc (.cells #[.int .i64 2, .string ⟨#[48, 49]⟩, .int .i64 1, .int .i64 2, .bool true, .complex .f64 0 0, .string ⟨#[]⟩, .bool false] 46)).frozen? ⟨w.heap.size, 7, none⟩ = false := by simp [go_sem]
  have kz : w.heap.size < ((w.alloc (.cells #[.int .i64 2, .string ⟨#[48]⟩, .int .i64 1, .int .i64 3, .bool false, .complex .f64 0 0, .string ⟨#[120]⟩, .bool true] 46)).alloc (.cells #[.int .i64 2, .string ⟨#[48, 49]⟩, .int .i64 1, .int .i64 2, .bool true, .complex .f64 0 0, .string ⟨#[]⟩, .bool false] 46)).heap.size := by simp <;> omega
  have m0 : ((w.alloc (.cells #[.int .i64 2, .string ⟨#[48]⟩, .int .i64 1, .int .i64 3, .bool false, .complex .f64 0 0, .string ⟨#[120]⟩, .bool true] 46)).alloc (.cells #[.int .i64 2, .string ⟨#[48, 49]⟩, .int .i64 1, .int .i64 2, .bool true, .complex .f64 0 0, .string ⟨#[]⟩, .bool false] 46)).cell? ⟨w.heap.size + 1, 0, none⟩ = some (.int .i64 2) := by simp [go_sem]
  have mf0 : ((w.alloc (.cells #[.int .i64 2, .string ⟨#[48]⟩, .int .i64 1, .int .i64 3, .bool false, .complex .f64 0 0, .string ⟨#[120]⟩, .bool true] 46)).alloc (.cells #[.int .i64 2, .string ⟨#[48, 49]⟩, .int .i64 1, .int .i64 2, .bool true, .complex .f64 0 0, .string ⟨#[]⟩, .bool false] 46)).frozen? ⟨w.heap.size + 1, 0, none⟩ = false := by simp [go_sem]
  have m1 : ((w.alloc (.cells #[.int .i64 2, .string ⟨#[48]⟩, .int .i64 1, .int .i64 3, .bool false, .complex .f64 0 0, .string ⟨#[120]⟩, .bool true] 46)).alloc (.cells #[.int .i64 2, .string ⟨#[48, 49]⟩, .int .i64 1, .int .i64 2, .bool true, .complex .f64 0 0, .string ⟨#[]⟩, .bool false] 46)).cell? ⟨w.heap.size + 1, 1, none⟩ = some (.string ⟨#[48, 49]⟩) := by simp [go_sem]
  have mf1 : ((w.alloc (.cells #[.int .i64 2, .string ⟨#[48]⟩, .int .i64 1, .int .i64 3, .bool false, .complex .f64 0 0, .string ⟨#[120]⟩, .bool true] 46)).alloc (.cells #[.int .i64 2, .string ⟨#[48, 49]⟩, .int .i64 1, .int .i64 2, .bool true, .complex .f64 0 0, .string ⟨#[]⟩, .bool false] 46)).frozen? ⟨w.heap.size + 1, 1, none⟩ = false := by simp [go_sem]
  have m2 : ((w.alloc (.cells #[.int .i64 2, .string ⟨#[48]⟩, .int .i64 1, .int .i64 3, .bool false, .complex .f64 0 0, .string ⟨#[120]⟩, .bool true] 46)).alloc (.cells #[.int .i64 2, .string ⟨#[48, 49]⟩, .int .i64 1, .int .i64 2, .bool true, .complex .f64 0 0, .string ⟨#[]⟩, .bool false] 46)).cell? ⟨w.heap.size + 1, 2, none⟩ = some (.int .i64 1) := by simp [go_sem]
  have mf2 : ((w.alloc (.cells #[.int .i64 2, .string ⟨#[48]⟩, .int .i64 1, .int .i64 3, .bool false, .complex .f64 0 0, .string ⟨#[120]⟩, .bool true] 46)).alloc (.cells #[.int .i64 2, .string ⟨#[48, 49]⟩, .int .i64 1, .int .i64 2, .bool true, .complex .f64 0 0, .string ⟨#[]⟩, .bool false] 46)).frozen? ⟨w.heap.size + 1, 2, none⟩ = false := by simp [go_sem]
  have m3 : ((w.alloc (.cells #[.int .i64 2, .string ⟨#[48]⟩, .int .i64 1, .int .i64 3, .bool false, .complex .f64 0 0, .string ⟨#[120]⟩, .bool true] 46)).alloc (.cells #[.int .i64 2, .string ⟨#[48, 49]⟩, .int .i64 1, .int .i64 2, .bool true, .complex .f64 0 0, .string ⟨#[]⟩, .bool false] 46)).cell? ⟨w.heap.size + 1, 3, none⟩ = some (.int .i64 2) := by simp [go_sem]
  have mf3 : ((w.alloc (.cells #[.int .i64 2, .string ⟨#[48]⟩, .int .i64 1, .int .i64 3, .bool false, .complex .f64 0 0, .string ⟨#[120]⟩, .bool true] 46)).alloc (.cells #[.int .i64 2, .string ⟨#[48, 49]⟩, .int .i64 1, .int .i64 2, .bool true, .complex .f64 0 0, .string ⟨#[]⟩, .bool false] 46)).frozen? ⟨w.heap.size + 1, 3, none⟩ = false := by simp [go_sem]
  have m4 : ((w.alloc (.cells #[.int .i64 2, .string ⟨#[48]⟩, .int .i64 1, .int .i64 3, .bool false, .complex .f64 0 0, .string ⟨#[120]⟩, .bool true] 46)).alloc (.cells #[.int .i64 2, .string ⟨#[48, 49]⟩, .int .i64 1, .int .i64 2, .bool true, .complex .f64 0 0, .string ⟨#[]⟩, .bool false] 46)).cell? ⟨w.heap.size + 1, 4, none⟩ = some (.bool true) := by simp [go_sem]
  have mf4 : ((w.alloc (.cells #[.int .i64 2, .string ⟨#[48]⟩, .int .i64 1, .int .i64 3, .bool false, .complex .f64 0 0, .string ⟨#[120]⟩, .bool true] 46)).alloc (.cells #[.int .i64 2, .string ⟨#[48, 49]⟩, .int .i64 1, .int .i64 2, .bool true, .complex .f64 0 0, .string ⟨#[]⟩, .bool false] 46)).frozen? ⟨w.heap.size + 1, 4, none⟩ = false := by simp [go_sem]
  have m5 : ((w.alloc (.cells #[.int .i64 2, .string ⟨#[48]⟩, .int .i64 1, .int .i64 3, .bool false, .complex .f64 0 0, .string ⟨#[120]⟩, .bool true] 46)).alloc (.cells #[.int .i64 2, .string ⟨#[48, 49]⟩, .int .i64 1, .int .i64 2, .bool true, .complex .f64 0 0, .string ⟨#[]⟩, .bool false] 46)).cell? ⟨w.heap.size + 1, 5, none⟩ = some (.complex .f64 0 0) := by simp [go_sem]
  have mf5 : ((w.alloc (.cells #[.int .i64 2, .string ⟨#[48]⟩, .int .i64 1, .int .i64 3, .bool false, .complex .f64 0 0, .string ⟨#[120]⟩, .bool true] 46)).alloc (.cells #[.int .i64 2, .string ⟨#[48, 49]⟩, .int .i64 1, .int .i64 2, .bool true, .complex .f64 0 0, .string ⟨#[]⟩, .bool false] 46)).frozen? ⟨w.heap.size + 1, 5, none⟩ = false := by simp [go_sem]
  have m6 : ((w.alloc (.cells #[.int .i64 2, .string ⟨#[48]⟩, .int .i64 1, .int .i64 3, .bool false, .complex .f64 0 0, .string ⟨#[120]⟩, .bool true] 46)).alloc (.cells #[.int .i64 2, .string ⟨#[48, 49]⟩, .int .i64 1, .int .i64 2, .bool true, .complex .f64 0 0, .string ⟨#[]⟩, .bool false] 46)).cell? ⟨w.heap.size + 1, 6, none⟩ = some (.string ⟨#[]⟩) := by simp [go_sem]
  have mf6 : ((w.alloc (.cells #[.int .i64 2, .string ⟨#[48]⟩, .int .i64 1, .int .i64 3, .bool false, .complex .f64 0 0, .string ⟨#[120]⟩, .bool true] 46)).alloc (.cells #[.int .i64 2, .string ⟨#[48, 49]⟩, .int .i64 1, .int .i64 2, .bool true, .complex .f64 0 0, .string ⟨#[]⟩, .bool false] 46)).frozen? ⟨w.heap.size + 1, 6, none⟩ = false := by simp [go_sem]
  have m7 : ((w.alloc (.cells #[.int .i64 2, .string ⟨#[48]⟩, .int .i64 1, .int .i64 3, .bool false, .complex .f64 0 0, .string ⟨#[120]⟩, .bool true] 46)).alloc (.cells #[.int .i64 2, .string ⟨#[48, 49]⟩, .int .i64 1, .int .i64 2, .bool true, .complex .f64 0 0, .string ⟨#[]⟩, .bool false] 46)).cell? ⟨w.heap.size + 1, 7, none⟩ = some (.bool false) := by simp [go_sem]
  have mf7 : ((w.alloc (.cells #[.int .i64 2, .string ⟨#[48]⟩, .int .i64 1, .int .i64 3, .bool false, .complex .f64 0 0, .string ⟨#[120]⟩, .bool true] 46)).alloc (.cells #[.int .i64 2, .string ⟨#[48, 49]⟩, .int .i64 1, .int .i64 2, .bool true, .complex .f64 0 0, .string ⟨#[]⟩, .bool false] 46)).frozen? ⟨w.heap.size + 1, 7, none⟩ = false := by simp [go_sem]
  have mz : w.heap.size + 1 < ((w.alloc (.cells #[.int .i64 2, .string ⟨#[48]⟩, .int .i64 1, .int .i64 3, .bool false, .complex .f64 0 0, .string ⟨#[120]⟩, .bool true] 46)).alloc (.cells #[.int .i64 2, .string ⟨#[48, 49]⟩, .int .i64 1, .int .i64 2, .bool true, .complex .f64 0 0, .string ⟨#[]⟩, .bool false] 46)).heap.size := by simp <;> omega
  replace k0 := (hb.cell (p := ⟨w.heap.size, 0, none⟩) kz).trans k0
  replace kf0 := (hb.frozen (p := ⟨w.heap.size, 0, none⟩) kz).trans kf0
  replace k1 := (hb.cell (p := ⟨w.heap.size, 1, none⟩) kz).trans k1
  replace kf1 := (hb.frozen (p := ⟨w.heap.size, 1, none⟩) kz).trans kf1
  replace k2 := (hb.cell (p := ⟨w.heap.size, 2, none⟩) kz).trans k2
  replace kf2 := (hb.frozen (p := ⟨w.heap.size, 2, none⟩) kz).trans kf2
  replace k3 := (hb.cell (p := ⟨w.heap.size, 3, none⟩) kz).trans k3
  replace kf3 := (hb.frozen (p := ⟨w.heap.size, 3, none⟩) kz).trans kf3
  replace k4 := (hb.cell (p := ⟨w.heap.size, 4, none⟩) kz).trans k4
  replace kf4 := (hb.frozen (p := ⟨w.heap.size, 4, none⟩) kz).trans kf4
  replace k5 := (hb.cell (p := ⟨w.heap.size, 5, none⟩) kz).trans k5
  replace kf5 := (hb.frozen (p := ⟨w.heap.size, 5, none⟩) kz).trans kf5
  replace k6 := (hb.cell (p := ⟨w.heap.size, 6, none⟩) kz).trans k6
  replace kf6 := (hb.frozen (p := ⟨w.heap.size, 6, none⟩) kz).trans kf6
  replace k7 := (hb.cell (p := ⟨w.heap.size, 7, none⟩) kz).trans k7
  replace kf7 := (hb.frozen (p := ⟨w.heap.size, 7, none⟩) kz).trans kf7
  replace kz := Nat.lt_of_lt_of_le kz hb.size
  replace m0 := (hb.cell (p := ⟨w.heap.size + 1, 0, none⟩) mz).trans m0
  replace mf0 := (hb.frozen (p := ⟨w.heap.size + 1, 0, none⟩) mz).trans mf0
  replace m1 := (hb.cell (p := ⟨w.heap.size + 1, 1, none⟩) mz).trans m1
  replace mf1 := (hb.frozen (p := ⟨w.heap.size + 1, 1, none⟩) mz).trans mf1
  replace m2 := (hb.cell (p := ⟨w.heap.size + 1, 2, none⟩) mz).trans m2
  replace mf2 := (hb.frozen (p := ⟨w.heap.size + 1, 2, none⟩) mz).trans mf2
  replace m3 := (hb.cell (p := ⟨w.heap.size + 1, 3, none⟩) mz).trans m3
  replace mf3 := (hb.frozen (p := ⟨w.heap.size + 1, 3, none⟩) mz).trans mf3
  replace m4 := (hb.cell (p := ⟨w.heap.size + 1, 4, none⟩) mz).trans m4
  replace mf4 := (hb.frozen (p := ⟨w.heap.size + 1, 4, none⟩) mz).trans mf4
  replace m5 := (hb.cell (p := ⟨w.heap.size + 1, 5, none⟩) mz).trans m5
  replace mf5 := (hb.frozen (p := ⟨w.heap.size + 1, 5, none⟩) mz).trans mf5
  replace m6 := (hb.cell (p := ⟨w.heap.size + 1, 6, none⟩) mz).trans m6
  replace mf6 := (hb.frozen (p := ⟨w.heap.size + 1, 6, none⟩) mz).trans mf6
  replace m7 := (hb.cell (p := ⟨w.heap.size + 1, 7, none⟩) mz).trans m7
  replace mf7 := (hb.frozen (p := ⟨w.heap.size + 1, 7, none⟩) mz).trans mf7
  replace mz := Nat.lt_of_lt_of_le mz hb.size
  have HB : Hid (Below w.heap.size w w1) := (((Below.refl _ _).alloc (Nat.le_refl _) _).alloc (by simp) _).trans (hb.mono (by simp; omega))
  have HO := Lib.hid ho
  clear ho hb
  go_wp2_with fail
  refine (told_put2 _ HO.out).mono ?_
  rintro e w2 ⟨A2, c2, rfl, ho, hb⟩
  replace k0 := (hb.cell (p := ⟨w.heap.size, 0, none⟩) kz).trans k0
  replace kf0 := (hb.frozen (p := ⟨w.heap.size, 0, none⟩) kz).trans kf0
  replace k1 := (hb.cell (p := ⟨w.heap.size, 1, none⟩) kz).trans k1
  replace kf1 := (hb.frozen (p := ⟨w.heap.size, 1, none⟩) kz).trans kf1
  replace k2 := (hb.cell (p := ⟨w.heap.size, 2, none⟩) kz).trans k2
  replace kf2 := (hb.frozen (p := ⟨w.heap.size, 2, none⟩) kz).trans kf2
  replace k3 := (hb.cell (p := ⟨w.heap.size, 3, none⟩) kz).trans k3
  replace kf3 := (hb.frozen (p := ⟨w.heap.size, 3, none⟩) kz).trans kf3
  replace k4 := (hb.cell (p := ⟨w.heap.size, 4, none⟩) kz).trans k4
  replace kf4 := (hb.frozen (p := ⟨w.heap.size, 4, none⟩) kz).trans kf4
  replace k5 := (hb.cell (p := ⟨w.heap.size, 5, none⟩) kz).trans k5
  replace kf5 := (hb.frozen (p := ⟨w.heap.size, 5, none⟩) kz).trans kf5
  replace k6 := (hb.cell (p := ⟨w.heap.size, 6, none⟩) kz).trans k6
  replace kf6 := (hb.frozen (p := ⟨w.heap.size, 6, none⟩) kz).trans kf6
  replace k7 := (hb.cell (p := ⟨w.heap.size, 7, none⟩) kz).trans k7
  replace kf7 := (hb.frozen (p := ⟨w.heap.size, 7, none⟩) kz).trans kf7
  replace kz := Nat.lt_of_lt_of_le kz hb.size
  clear m0 mf0 m1 mf1 m2 mf2 m3 mf3 m4 mf4 m5 mf5 m6 mf6 m7 mf7 mz
  replace HB := Lib.hid (HB.out.trans (hb.mono HB.out.size))
  replace HO := Lib.hid ho
  clear ho hb
  go_wp2_with fail
  refine (told_get _ HO.out).mono ?_
  rintro e w3 ⟨rfl, hb⟩
  replace k0 := (hb.cell (p := ⟨w.heap.size, 0, none⟩) kz).trans k0
  replace kf0 := (hb.frozen (p := ⟨w.heap.size, 0, none⟩) kz).trans kf0
  replace k1 := (hb.cell (p := ⟨w.heap.size, 1, none⟩) kz).trans k1
  replace kf1 := (hb.frozen (p := ⟨w.heap.size, 1, none⟩) kz).trans kf1
  replace k2 := (hb.cell (p := ⟨w.heap.size, 2, none⟩) kz).trans k2
  replace kf2 := (hb.frozen (p := ⟨w.heap.size, 2, none⟩) kz).trans kf2
  replace k3 := (hb.cell (p := ⟨w.heap.size, 3, none⟩) kz).trans k3
  replace kf3 := (hb.frozen (p := ⟨w.heap.size, 3, none⟩) kz).trans kf3
  replace k4 := (hb.cell (p := ⟨w.heap.size, 4, none⟩) kz).trans k4
  replace kf4 := (hb.frozen (p := ⟨w.heap.size, 4, none⟩) kz).trans kf4
  replace k5 := (hb.cell (p := ⟨w.heap.size, 5, none⟩) kz).trans k5
  replace kf5 := (hb.frozen (p := ⟨w.heap.size, 5, none⟩) kz).trans kf5
  replace k6 := (hb.cell (p := ⟨w.heap.size, 6, none⟩) kz).trans k6
  replace kf6 := (hb.frozen (p := ⟨w.heap.size, 6, none⟩) kz).trans kf6
  replace k7 := (hb.cell (p := ⟨w.heap.size, 7, none⟩) kz).trans k7
  replace kf7 := (hb.frozen (p := ⟨w.heap.size, 7, none⟩) kz).trans kf7
  replace kz := Nat.lt_of_lt_of_le kz hb.size
  replace HB := Lib.hid (HB.out.trans (hb.mono HB.out.size))
  replace HO := Lib.hid (rown_below HO.out hb)
  clear hb
  go_upto_region 6 with fail
  replace k0 : (w3.alloc (.cells #[.int .i64 2, .string ⟨#[48]⟩, .int .i64 1, .int .i64 3, .bool false, .complex .f64 0 0, .string ⟨#[120]⟩, .bool true] 46)).cell? ⟨w.heap.size, 0, none⟩ = some (.int .i64 2) := by simp [go_sem, k0, kz]
  replace kf0 : (w3.alloc (.cells #[.int .i64 2, .string ⟨#[48]⟩, .int .i64 1, .int .i64 3, .bool false, .complex .f64 0 0, .string ⟨#[120]⟩, .bool true] 46)).frozen? ⟨w.heap.size, 0, none⟩ = false := by simp [go_sem, kf0, kz]
  replace k1 : (w3.alloc (.cells #[.int .i64 2, .string ⟨#[48]⟩, .int .i64 1, .int .i64 3, .bool false, .complex .f64 0 0, .string ⟨#[120]⟩, .bool true] 46)).cell? ⟨w.heap.size, 1, none⟩ = some (.string ⟨#[48]⟩) := by simp [go_sem, k1, kz]
  replace kf1 : (w3.alloc (.cells #[.int .i64 2, .string ⟨#[48]⟩, .int .i64 1, .int .i64 3, .bool false, .complex .f64 0 0, .string ⟨#[120]⟩, .bool true] 46)).frozen? ⟨w.heap.size, 1, none⟩ = false := by simp [go_sem, kf1, kz]
  replace k2 : (w3.alloc (.cells #[.int .i64 2, .string ⟨#[48]⟩, .int .i64 1, .int .i64 3, .bool false, .complex .f64 0 0, .string ⟨#[120]⟩, .bool true] 46)).cell? ⟨w.heap.size, 2, none⟩ = some (.int .i64 1) := by simp [go_sem, k2, kz]
  replace kf2 : (w3.alloc (.cells #[.int .i64 2, .string ⟨#[48]⟩, .int .i64 1, .int .i64 3, .bool false, .complex .f64 0 0, .string ⟨#[120]⟩, .bool true] 46)).frozen? ⟨w.heap.size, 2, none⟩ = false := by simp [go_sem, kf2, kz]
  replace k3 : (w3.alloc (.cells #[.int .i64 2, .string ⟨#[48]⟩, .int .i64 1, .int .i64 3, .bool false, .complex .f64 0 0, .string ⟨#[120]⟩, .bool true] 46)).cell? ⟨w.heap.size, 3, none⟩ = some (.int .i64 3) := by simp [go_sem, k3, kz]
  replace kf3 : (w3.alloc (.cells #[.int .i64 2, .string ⟨#[48]⟩, .int .i64 1, .int .i64 3, .bool false, .complex .f64 0 0, .string ⟨#[120]⟩, .bool true] 46)).frozen? ⟨w.heap.size, 3, none⟩ = false := by simp [go_sem, kf3, kz]
  replace k4 : (w3.alloc (.cells #[.int .i64 2, .string ⟨#[48]⟩, .int .i64 1, .int .i64 3, .bool false, .complex .f64 0 0, .string ⟨#[120]⟩, .bool true] 46)).cell? ⟨w.heap.size, 4, none⟩ = some (.bool false) := by simp [go_sem, k4, kz]
  replace kf4 : (w3.alloc (.cells #[.int .i64 2, .string ⟨#[48]⟩, .int .i64 1, .int .i64 3, .bool false, .complex .f64 0 0, .string ⟨#[120]⟩, .bool true] 46)).frozen? ⟨w.heap.size, 4, none⟩ = false := by simp [go_sem, kf4, kz]
  replace k5 : (w3.alloc (.cells #[.int .i64 2, .string ⟨#[48]⟩, .int .i64 1, .int .i64 3, .bool false, .complex .f64 0 0, .string ⟨#[120]⟩, .bool true] 46)).cell? ⟨w.heap.size, 5, none⟩ = some (.complex .f64 0 0) := by simp [go_sem, k5, kz]
  replace kf5 : (w3.alloc (.cells #[.int .i64 2, .string ⟨#[48]⟩, .int .i64 1, .int .i64 3, .bool false, .complex .f64 0 0, .string ⟨#[120]⟩, .bool true] 46)).frozen? ⟨w.heap.size, 5, none⟩ = false := by simp [go_sem, kf5, kz]
  replace k6 : (w3.alloc (.cells #[.int .i64 2, .string ⟨#[48]⟩, .int .i64 1, .int .i64 3, .bool false, .complex .f64 0 0, .string ⟨#[120]⟩, .bool true] 46)).cell? ⟨w.heap.size, 6, none⟩ = some (.string ⟨#[120]⟩) := by simp [go_sem, k6, kz]
  replace kf6 : (w3.alloc (.cells #[.int .i64 2, .string ⟨#[48]⟩, .int .i64 1, .int .i64 3, .bool false, .complex .f64 0 0, .string ⟨#[120]⟩, .bool true] 46)).frozen? ⟨w.heap.size, 6, none⟩ = false := by simp [go_sem, kf6, kz]
  replace k7 : (w3.alloc (.cells #[.int .i64 2, .string ⟨#[48]⟩, .int .i64 1, .int .i64 3, .bool false, .complex .f64 0 0, .string ⟨#[120]⟩, .bool true] 46)).cell? ⟨w.heap.size, 7, none⟩ = some (.bool true) := by simp [go_sem, k7, kz]
  replace kf7 : (w3.alloc (.cells #[.int .i64 2, .string ⟨#[48]⟩, .int .i64 1, .int .i64 3, .bool false, .complex .f64 0 0, .string ⟨#[120]⟩, .bool true] 46)).frozen? ⟨w.heap.size, 7, none⟩ = false := by simp [go_sem, kf7, kz]
  replace kz : w.heap.size < (w3.alloc (.cells #[.int .i64 2, .string ⟨#[48]⟩, .int .i64 1, .int .i64 3, .bool false, .complex .f64 0 0, .string ⟨#[120]⟩, .bool true] 46)).heap.size := by simp <;> omega
  have x0 : (w3.alloc (.cells #[.int .i64 2, .string ⟨#[48]⟩, .int .i64 1, .int .i64 3, .bool false, .complex .f64 0 0, .string ⟨#[120]⟩, .bool true] 46)).cell? ⟨w3.heap.size, 0, none⟩ = some (.int .i64 2) := by simp [go_sem]
  have xf0 : (w3.alloc (.cells #[.int .i64 2, .string ⟨#[48]⟩, .int .i64 1, .int .i64 3, .bool false, .complex .f64 0 0, .string ⟨#[120]⟩, .bool true] 46)).frozen? ⟨w3.heap.size, 0, none⟩ = false := by simp [go_sem]
  have x1 : (w3.alloc (.cells #[.int .i64 2, .string ⟨#[48]⟩, .int .i64 1, .int .i64 3, .bool false, .complex .f64 0 0, .string ⟨#[120]⟩, .bool true] 46)).cell? ⟨w3.heap.size, 1, none⟩ = some (.string ⟨#[48]⟩) := by simp [go_sem]
  have xf1 : (w3.alloc (.cells #[.int .i64 2, .string ⟨#[48]⟩, .int .i64 1, .int .i64 3, .bool false, .complex .f64 0 0, .string ⟨#[120]⟩, .bool true] 46)).frozen? ⟨w3.heap.size, 1, none⟩ = false := by simp [go_sem]
  have x2 : (w3.alloc (.cells #[.int .i64 2, .string ⟨#[48]⟩, .int .i64 1, .int .i64 3, .bool false, .complex .f64 0 0, .string ⟨#[120]⟩, .bool true] 46)).cell? ⟨w3.heap.size, 2, none⟩ = some (.int .i64 1) := by simp [go_sem]
  have xf2 : (w3.alloc (.cells #[.int .i64 2, .string ⟨#[48]⟩, .int .i64 1, .int .i64 3, .bool false, .complex .f64 0 0, .string ⟨#[120]⟩, .bool true] 46)).frozen? ⟨w3.heap.size, 2, none⟩ = false := by simp [go_sem]
  have x3 : (w3.alloc (.cells #[.int .i64 2, .string ⟨#[48]⟩, .int .i64 1, .int .i64 3, .bool false, .complex .f64 0 0, .string ⟨#[120]⟩, .bool true] 46)).cell? ⟨w3.heap.size, 3, none⟩ = some (.int .i64 3) := by simp [go_sem]
  have xf3 : (w3.alloc (.cells #[.int .i64 2, .string ⟨#[48]⟩, .int .i64 1, .int .i64 3, .bool false, .complex .f64 0 0, .string ⟨#[120]⟩, .bool true] 46)).frozen? ⟨w3.heap.size, 3, none⟩ = false := by simp [go_sem]
  have x4 : (w3.alloc (.cells #[.int .i64 2, .string ⟨#[48]⟩, .int .i64 1, .int .i64 3, .bool false, .complex .f64 0 0, .string ⟨#[120]⟩, .bool true] 46)).cell? ⟨w3.heap.size, 4, none⟩ = some (.bool false) := by simp [go_sem]
  have xf4 : (w3.alloc (.cells #[.int .i64 2, .string ⟨#[48]⟩, .int .i64 1, .int .i64 3, .bool false, .complex .f64 0 0, .string ⟨#[120]⟩, .bool true] 46)).frozen? ⟨w3.heap.size, 4, none⟩ = false := by simp [go_sem]
  have x5 : (w3.alloc (.cells #[.int .i64 2, .string ⟨#[48]⟩, .int .i64 1, .int .i64 3, .bool false, .complex .f64 0 0, .string ⟨#[120]⟩, .bool true] 46)).cell? ⟨w3.heap.size, 5, none⟩ = some (.complex .f64 0 0) := by simp [go_sem]
  have xf5 : (w3.alloc (.cells #[.int .i64 2, .string ⟨#[48]⟩, .int .i64 1, .int .i64 3, .bool false, .complex .f64 0 0, .string ⟨#[120]⟩, .bool true] 46)).frozen? ⟨w3.heap.size, 5, none⟩ = false := by simp [go_sem]
  have x6 : (w3.alloc (.cells #[.int .i64 2, .string ⟨#[48]⟩, .int .i64 1, .int .i64 3, .bool false, .complex .f64 0 0, .string ⟨#[120]⟩, .bool true] 46)).cell? ⟨w3.heap.size, 6, none⟩ = some (.string ⟨#[120]⟩) := by simp [go_sem]
  have xf6 : (w3.alloc (.cells #[.int .i64 2, .string ⟨#[48]⟩, .int .i64 1, .int .i64 3, .bool false, .complex .f64 0 0, .string ⟨#[120]⟩, .bool true] 46)).frozen? ⟨w3.heap.size, 6, none⟩ = false := by simp [go_sem]
  have x7 : (w3.alloc (.cells #[.int .i64 2, .string ⟨#[48]⟩, .int .i64 1, .int .i64 3, .bool false, .complex .f64 0 0, .string ⟨#[120]⟩, .bool true] 46)).cell? ⟨w3.heap.size, 7, none⟩ = some (.bool true) := by simp [go_sem]
  have xf7 : (w3.alloc (.cells #[.int .i64 2, .string ⟨#[48]⟩, .int .i64 1, .int .i64 3, .bool false, .complex .f64 0 0, .string ⟨#[120]⟩, .bool true] 46)).frozen? ⟨w3.heap.size, 7, none⟩ = false := by simp [go_sem]
  have xz : w3.heap.size < (w3.alloc (.cells #[.int .i64 2, .string ⟨#[48]⟩, .int .i64 1, .int .i64 3, .bool false, .complex .f64 0 0, .string ⟨#[120]⟩, .bool true] 46)).heap.size := by simp <;> omega
  have hb : Below w3.heap.size w3 (w3.alloc (.cells #[.int .i64 2, .string ⟨#[48]⟩, .int .i64 1, .int .i64 3, .bool false, .complex .f64 0 0, .string ⟨#[120]⟩, .bool true] 46)) := (Below.refl _ _).alloc (Nat.le_refl _) _
  replace HB := Lib.hid (HB.out.trans (hb.mono HB.out.size))
  replace HO := Lib.hid (rown_below HO.out hb)
  clear hb
  generalize (w3.alloc (.cells #[.int .i64 2, .string ⟨#[48]⟩, .int .i64 1, .int .i64 3, .bool false, .complex .f64 0 0, .string ⟨#[120]⟩, .bool true] 46)) = W3 at *
  generalize w3.heap.size = X at *
  go_wp2_with fail
  refine (told_drop _ HO.out).mono ?_
  rintro e w4 ⟨⟨A4, c4, rfl⟩, hb⟩
  replace HB := Lib.hid (HB.out.trans (hb.mono HB.out.size))
  replace HO := Lib.hid (rown_below HO.out hb)
  clear hb
  go_wp2_with fail
  refine (told_right _ HO.out).mono ?_
  rintro e w5 ⟨rfl, hb⟩
  replace HB := Lib.hid (HB.out.trans (hb.mono HB.out.size))
  clear hb
  go_wp2
  go_ret
  exact ⟨rfl, HB.out⟩
end Go.Proofs.Ytpaiigminmakgaa
