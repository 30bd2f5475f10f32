/- vec.Set and vec.Meet. -/
import Derived.Test.YtbbcifcdimfdgaaVf
namespace Go.Proofs.Ytbbcifcdimfdgaa
open Go.RowKit

theorem own_base {w : World} {B B' : Nat} {e : TypeId} {v : Value} {n : Nat} {xs : List Value} (h : w.ownsRow B e 2 v n xs) (hB : B' ≤ B) : w.ownsRow B' e 2 v n xs :=
  ⟨h.1, h.2.imp id fun ⟨g, cap, cur, a, b, r⟩ => ⟨g, cap, cur, a, Nat.le_trans hB b, r⟩⟩
theorem OwnVec.lift {B B' : Nat} {ty : TypeId} {zs : List At} {w w1 w' : World} {e : Ending} (h : OwnVec B ty zs w1 e w') (hB : B' ≤ B) (hb : Below w.heap.size w w1) : OwnVec B' ty zs w e w' := by
  obtain ⟨A, c, he, hc, ho, hw⟩ := h
  exact ⟨A, c, he, hc, own_base ho hB, hb.trans (hw.mono hb.size)⟩

/-- zs, where a is n far at least. -/
def setF (zs : List At) (a : ByteArray) (n : Int) : List At := if rightL a.data.toList = true ∧ 1 ≤ n then joinF zs [(a, min n 1048576)] else zs

theorem ownVec_ret {B : Nat} {ty : TypeId} {zs : List At} {w w' : World} {A : Option Addr} {n c : Nat} (hl : zs.length = n) (hc : n ≤ c) (ho : w'.ownsRow B ty 2 (.slice A n c) n (atCells zs)) (hb : Below w.heap.size w w') : OwnVec B ty zs w (.returned (.slice A n c)) w' := by
  subst hl
  exact ⟨A, c, rfl, hc, ho, hb⟩

/-- Of each of zs the lesser number; who is 0 far isn't there. -/
def meetF (zs ys : List At) : List At := zs.filterMap fun x => if 0 < min x.2 (ofF ys x.1) then some (x.1, min x.2 (ofF ys x.1)) else none
theorem meet_step {zs ys : List At} {k : Nat} (hk : k < zs.length) : meetF (zs.drop k) ys = (if 0 < min (zs.getD k atNil).2 (ofF ys (zs.getD k atNil).1) then [((zs.getD k atNil).1, min (zs.getD k atNil).2 (ofF ys (zs.getD k atNil).1))] else []) ++ meetF (zs.drop (k + 1)) ys := by
  have e : zs.getD k atNil = zs[k] := by rw [List.getD_eq_getElem?_getD, List.getElem?_eq_getElem hk]; rfl
  rw [e, List.drop_eq_getElem_cons hk, meetF, List.filterMap_cons]
  by_cases h : 0 < min (zs[k]).2 (ofF ys (zs[k]).1)
  · simp only [h, if_true]; rfl
  · simp only [h, if_false]; rfl
theorem meet_len (zs ys : List At) : (meetF zs ys).length ≤ zs.length := List.length_filterMap_le _ _

/-- Half way through Meet. -/
def MeetRel (w : World) (t zs ys : List At) (Av : Option Addr) (nv cv : Nat) (wr : World) : Prop :=
  ∃ out : List At, out.length = nv ∧ wr.ownsRow w.heap.size 67 2 (.slice Av nv cv) nv (atCells out) ∧ out ++ meetF zs ys = t ∧ Below w.heap.size w wr

set_option maxRecDepth 100000 in
set_option maxHeartbeats 4000000 in
theorem meet_any (A : Option Addr) (n c : Nat) (zs : List At) (A' : Option Addr) (n' c' : Nat) (ys : List At) (B : Nat) (w : World) (hB : B ≤ w.heap.size) (hz : VecAt w B A n zs) (hy : VecAt w B A' n' ys) (hn : n ≤ 1073741824) (hn' : n' ≤ 1073741824) (hs : Rising ys) :
    Calls Try.prog 49 #[.slice A n c, .slice A' n' c'] w (OwnVec w.heap.size 67 (meetF zs ys) w) := by
  have hl : zs.length = n := hz.1
  have HL := Lib.hid hl
  have HS := Lib.hid hs
  have HZ := Lib.hid hz
  have HY := Lib.hid hy
  clear hl hs hz hy
  go_enter Try.func49, Try.ntmps49
  go_wp2
  go_loopw [5, 11] (fun v i wr => ∃ (k : Nat) (Av : Option Addr) (nv cv : Nat), k ≤ n ∧ nv ≤ k ∧ i = .int .i64 k ∧ v = .slice Av nv cv ∧ Hid (MeetRel w (meetF zs ys) (zs.drop k) ys Av nv cv wr)) (fun _ i _ => n - (intOf i).toNat)
  case atStart => exact ⟨0, none, 0, 0, by omega, by omega, rfl, rfl, [], rfl, own_nil _ _ _, rfl, Below.refl _ _⟩
  case round =>
    obtain ⟨k, Av, nv, cv, hk, hnv, rfl, rfl, HM⟩ := hrel
    obtain ⟨out, hol, hown, hcat, hbel⟩ := HM.out
    have HOL := Lib.hid hol
    have HOw := Lib.hid hown
    have HB := Lib.hid hbel
    have HCA := Lib.hid hcat
    have hsz : w.heap.size ≤ wr.heap.size := hbel.size
    clear hol hown hbel hcat HM
    by_cases hlt : k < n
    · obtain ⟨blk, off, rfl, hbB, hc1, hc2⟩ := HZ.out.cells (HB.out.mono hB) (k := k) hlt
      have hst := meet_step (zs := zs) (ys := ys) (k := k) (by have := HL.out; omega)
      obtain ⟨y, hy⟩ : ∃ y, ofF ys (zs.getD k atNil).1 = y := ⟨_, rfl⟩
      rw [hy] at hst
      generalize zs.getD k atNil = x at hc1 hc2 hy hst
      have HO := Lib.hid hy
      have HST := Lib.hid hst
      clear hy hst
      by_cases hmn : y < x.2
      · have hst2 : meetF (zs.drop k) ys = (if 0 < y then [(x.1, y)] else []) ++ meetF (zs.drop (k + 1)) ys := by rw [HST.out, Int.min_eq_right (by omega)]
        have HS2 := Lib.hid hst2
        clear hst2
        go_wp2_with fail
        go_region_held3 (fun w' => w'.cell? ⟨wr.heap.size, 0, none⟩ = some (.string x.1) ∧ w'.cell? ⟨wr.heap.size, 1, none⟩ = some (.int .i64 x.2))
          (first | go_keep | (go_split_ands; refine ⟨(hb1.cell (by simp)).trans (by simp [go_sem]), (hb1.cell (by simp)).trans (by simp [go_sem])⟩))
          ((go_at_call 53; refine (of_is A' n' c' ys x.1 B y HO _ (by simp; omega) ((HY.out.keep (HB.out.mono hB)).alloc (by omega) _).drew (by omega) HS.out).mono ?_; rintro e w1 ⟨rfl, hb1⟩))
        have HB1 : Hid (Below wr.heap.size wr w1) := ((Below.refl _ _).alloc (Nat.le_refl _) _).drew.trans (hb1.mono (by simp))
        have k0 : w1.cell? ⟨wr.heap.size, 0, none⟩ = some (.string x.1) := (hb1.cell (by simp)).trans (by simp [go_sem])
        have hs1 : wr.heap.size < w1.heap.size := by have := hb1.size; simp at this; omega
        clear hb1
        by_cases hp : 0 < y
        · have HS3 : Hid (out ++ [(x.1, y)] ++ meetF (zs.drop (k + 1)) ys = meetF zs ys) := by
            show _ = _
            rw [← HCA.out, HS2.out, if_pos hp]; simp
          go_wp2_with (at_builtin; refine wpList_append_at (B := w.heap.size) (v := .slice Av nv cv) (n := nv) (zs := out) (m := 1) (ys := [(x.1, y)]) vecTy rfl _ _ rfl rfl ((own_below HOw.out HB1.out).alloc _) rfl (one_at (heap_alloc_new w1 _)) (by omega) (by simp; omega) ?_; intro A3 c3 w3 hown3 hg3 hat3; have HM3 : Hid (MeetRel w (meetF zs ys) (zs.drop (k + 1)) ys A3 (nv + 1) c3 w3) := ⟨out ++ [(x.1, y)], by simp [HOL.out], hown3, HS3.out, (HB.out.trans ((HB1.out.alloc (by omega) _).mono (by omega))).trans (grown_below hg3 (by simp; omega) (fun g e => (own_lt HOw.out e).1))⟩; clear hown3 hg3 hat3)
          go_roundw
          case rel => exact ⟨k + 1, A3, nv + 1, c3, by omega, by omega, by go_num, rfl, HM3⟩
          case measure => simp [intOf]; omega
        · have HM3 : Hid (MeetRel w (meetF zs ys) (zs.drop (k + 1)) ys Av nv cv w1) := ⟨out, HOL.out, own_below HOw.out HB1.out, by rw [← HCA.out, HS2.out, if_neg hp]; simp, HB.out.trans (HB1.out.mono hsz)⟩
          go_wp2_with fail
          go_roundw
          case rel => exact ⟨k + 1, Av, nv, cv, by omega, by omega, by go_num, rfl, HM3⟩
          case measure => simp [intOf]; omega
      · have hmf : (y < x.2) = False := eq_false hmn
        have hst2 : meetF (zs.drop k) ys = (if 0 < x.2 then [(x.1, x.2)] else []) ++ meetF (zs.drop (k + 1)) ys := by rw [HST.out, Int.min_eq_left (by omega)]
        have HS2 := Lib.hid hst2
        clear hst2
        go_wp2_with fail
        go_region_held3 (fun w' => w'.cell? ⟨wr.heap.size, 0, none⟩ = some (.string x.1) ∧ w'.cell? ⟨wr.heap.size, 1, none⟩ = some (.int .i64 x.2))
          (first | go_keep | (go_split_ands; refine ⟨(hb1.cell (by simp)).trans (by simp [go_sem]), (hb1.cell (by simp)).trans (by simp [go_sem])⟩))
          ((go_at_call 53; refine (of_is A' n' c' ys x.1 B y HO _ (by simp; omega) ((HY.out.keep (HB.out.mono hB)).alloc (by omega) _).drew (by omega) HS.out).mono ?_; rintro e w1 ⟨rfl, hb1⟩))
        have HB1 : Hid (Below wr.heap.size wr w1) := ((Below.refl _ _).alloc (Nat.le_refl _) _).drew.trans (hb1.mono (by simp))
        have k0 : w1.cell? ⟨wr.heap.size, 0, none⟩ = some (.string x.1) := (hb1.cell (by simp)).trans (by simp [go_sem])
        have hs1 : wr.heap.size < w1.heap.size := by have := hb1.size; simp at this; omega
        clear hb1
        by_cases hp : 0 < x.2
        · have HS3 : Hid (out ++ [(x.1, x.2)] ++ meetF (zs.drop (k + 1)) ys = meetF zs ys) := by
            show _ = _
            rw [← HCA.out, HS2.out, if_pos hp]; simp
          go_wp2_with (at_builtin; refine wpList_append_at (B := w.heap.size) (v := .slice Av nv cv) (n := nv) (zs := out) (m := 1) (ys := [(x.1, x.2)]) vecTy rfl _ _ rfl rfl ((own_below HOw.out HB1.out).alloc _) rfl (one_at (heap_alloc_new w1 _)) (by omega) (by simp; omega) ?_; intro A3 c3 w3 hown3 hg3 hat3; have HM3 : Hid (MeetRel w (meetF zs ys) (zs.drop (k + 1)) ys A3 (nv + 1) c3 w3) := ⟨out ++ [(x.1, x.2)], by simp [HOL.out], hown3, HS3.out, (HB.out.trans ((HB1.out.alloc (by omega) _).mono (by omega))).trans (grown_below hg3 (by simp; omega) (fun g e => (own_lt HOw.out e).1))⟩; clear hown3 hg3 hat3)
          go_roundw
          case rel => exact ⟨k + 1, A3, nv + 1, c3, by omega, by omega, by go_num, rfl, HM3⟩
          case measure => simp [intOf]; omega
        · have HM3 : Hid (MeetRel w (meetF zs ys) (zs.drop (k + 1)) ys Av nv cv w1) := ⟨out, HOL.out, own_below HOw.out HB1.out, by rw [← HCA.out, HS2.out, if_neg hp]; simp, HB.out.trans (HB1.out.mono hsz)⟩
          go_wp2_with fail
          go_roundw
          case rel => exact ⟨k + 1, Av, nv, cv, by omega, by omega, by go_num, rfl, HM3⟩
          case measure => simp [intOf]; omega
    · have HT : Hid (out = meetF zs ys) := by
        show _ = _
        rw [← HCA.out, List.drop_of_length_le (by have := HL.out; omega)]; simp [meetF]
      have HLn : Hid (nv = (meetF zs ys).length) := by show _ = _; rw [← HT.out, HOL.out]
      go_wp2
      go_ret
      exact ownVec_ret HLn.out.symm (own_cap HOw.out) (HT.out ▸ HOw.out) HB.out
end Go.Proofs.Ytbbcifcdimfdgaa
