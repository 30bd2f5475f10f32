/- The document's Same over rows of texts; rows of texts that are at hand. -/
import Derived.Test.YtkdeiljbjpefhaaDoorUd
namespace Go.Proofs.YtkdeiljbjpefhaaDoor
open Go.RowKit

/-- These rows of texts are there. -/
def Ts (w : World) (ts : List (Option Addr × List ByteArray)) : Prop := ∀ t ∈ ts, RowAt cellsT 1 w w.heap.size t.1 t.2.length t.2
theorem Ts.nil (w : World) : Ts w [] := fun v hv => by simp at hv
theorem Ts.keep {w w1 : World} {ts : List (Option Addr × List ByteArray)} (h : Ts w ts) (hb : Below w.heap.size w w1) : Ts w1 ts := fun t ht => ((h t ht).keep hb).more hb.size
theorem Ts.ownT {w w1 : World} {ts : List (Option Addr × List ByteArray)} {B c : Nat} {ty : TypeId} {A : Option Addr} {zs : List ByteArray} (h : Ts w ts) (ho : w1.ownsRow B ty 1 (.slice A zs.length c) zs.length (rowCells cellsT zs)) (hb : Below w.heap.size w w1) : Ts w1 ((A, zs) :: ts) := fun t ht => by
  rcases List.mem_cons.mp ht with rfl | ht
  · refine ⟨rfl, fun hn => ?_⟩
    obtain ⟨g, cap, hv, _, hlt⟩ := ho.form hn
    injection hv with hA
    subst hA
    refine ⟨g, 0, rfl, hlt, fun k hk j u hu => ?_⟩
    have hj : j = 0 := by have := (List.getElem?_eq_some_iff.mp hu).1; simp [cellsT] at this; exact this
    subst hj
    have h1 := rowCells_get (cf := cellsT) (d := 1) (fun _ => rfl) zs k hk 0 (by omega)
    have h2 := ho.cells (g := g) rfl (k * 1 + 0) u (h1.trans hu)
    rw [radd] at h2
    rw [show 0 + k * 1 + 0 = 0 + (k * 1 + 0) by omega]
    exact h2
  · exact h.keep hb t ht
theorem Ts.get {w : World} {ts : List (Option Addr × List ByteArray)} {A : Option Addr} {zs : List ByteArray} (h : Ts w ts) (hm : (A, zs) ∈ ts) : RowAt cellsT 1 w w.heap.size A zs.length zs := h _ hm
def sameT (zs ys : List ByteArray) : Bool := decide (zs = ys)
theorem sameT_self (zs : List ByteArray) : sameT zs zs = true := decide_eq_true rfl

set_option maxRecDepth 100000 in
set_option maxHeartbeats 4000000 in
theorem rsameT_any (A : Option Addr) (n c : Nat) (zs : List ByteArray) (A' : Option Addr) (n' c' : Nat) (ys : List ByteArray) (B : Nat) (w : World) (hz : RowAt cellsT 1 w B A n zs) (hy : RowAt cellsT 1 w B A' n' ys) (hn : n ≤ 1099511627776) (hn' : n' ≤ 1099511627776) :
    Calls Tryd.prog 9 #[.slice A n c, .slice A' n' c'] w fun e w' => e = .returned (.bool (sameT zs ys)) ∧ Hid (Drawn w w') := by
  have hl : zs.length = n := hz.1
  have hl' : ys.length = n' := hy.1
  by_cases hne : n = n'
  · have HZ := Lib.hid hz
    have HY := Lib.hid hy
    have HL := Lib.hid hl
    have HL' := Lib.hid hl'
    subst hne
    clear hz hy hl hl'
    go_enter Tryd.func9, Tryd.ntmps9
    go_wp2
    go_loopw [5] (fun i wr => ∃ k : Nat, k ≤ n ∧ i = .int .i64 k ∧ Hid (zs.take k = ys.take k) ∧ Hid (Drawn w wr)) (fun i _ => n - (intOf i).toNat)
    case atStart => exact ⟨0, by omega, rfl, by show _ = _; simp, Drawn.refl w⟩
    case round =>
      obtain ⟨k, hk, rfl, HE, HD⟩ := hrel
      by_cases hlt : k < n
      · obtain ⟨b1, o1, s1, rfl, hb1, hz1, hc1⟩ := HZ.out.text (drawn_below HD.out B) hlt
        obtain ⟨b2, o2, s2, rfl, hb2, hz2, hc2⟩ := HY.out.text (drawn_below HD.out B) hlt
        have hi1 : (k : Int) < (n : Int) := by omega
        by_cases he : s1 = s2
        · have HN : Hid (zs.take (k + 1) = ys.take (k + 1)) := by show _ = _; rw [snocT hz1, snocT hz2, HE.out, he]
          have hq := beq_yes he
          clear hz1 hz2 he
          go_wp2_with fail
          go_region
          go_wp2_with fail
          go_roundw
          case rel => exact ⟨k + 1, by omega, by go_num, HN, HD.out.more 1⟩
          case measure => simp [intOf]; omega
        · have HR : Hid (sameT zs ys = false) := by
            show _ = _
            rw [sameT, decide_eq_false_iff_not]
            intro e
            rw [e, hz2] at hz1
            injection hz1 with e1
            exact he e1.symm
          have hq := beq_no he
          clear hz1 hz2 he
          go_wp2_with fail
          go_region
          go_wp2
          go_ret
          exact ⟨by rw [HR.out]; rfl, HD.out.more 1⟩
      · have HR : Hid (sameT zs ys = true) := by
          show _ = _
          have := HE.out
          rw [List.take_of_length_le (by have := HL.out; omega), List.take_of_length_le (by have := HL'.out; omega)] at this
          rw [this]; exact sameT_self _
        go_wp2
        go_ret
        exact ⟨by rw [HR.out]; rfl, HD⟩
  · have HR : Hid (sameT zs ys = false) := by
      show _ = _
      rw [sameT, decide_eq_false_iff_not]
      intro e
      subst e
      omega
    have hne' : ¬ ((n : Int) = n') := by omega
    clear hz hy hl hl'
    go_enter Tryd.func9, Tryd.ntmps9
    go_wp2
    go_ret
    exact ⟨by rw [HR.out]; rfl, Drawn.refl w⟩
end Go.Proofs.YtkdeiljbjpefhaaDoor
