/- Who is a member still, as the program has it and as the document does. -/
import Derived.Test.YtcbadocmkgodhaaCa
namespace Go.Proofs.Ytcbadocmkgodhaa
open Go.RowKit

def liveF (zs : List ByteArray) (ys : List At) : List ByteArray := zs.filter fun a => !goneF ys a
theorem live_len (zs : List ByteArray) (ys : List At) : (liveF zs ys).length ≤ zs.length := List.length_filter_le _ _
theorem live_take {zs : List ByteArray} {k : Nat} {z : ByteArray} (ys : List At) (h : zs[k]? = some z) : liveF (zs.take (k + 1)) ys = liveF (zs.take k) ys ++ (if goneF ys z then [] else [z]) := by
  rw [snocT h]
  unfold liveF
  rw [List.filter_append]
  cases h2 : goneF ys z <;> simp [h2]
theorem gone_is (A : Option Addr) (n c : Nat) (zs : List At) (a : ByteArray) (B : Nat) (b : Bool) (h : Hid (goneF zs a = b)) (w : World) (hB : B ≤ w.heap.size) (hz : VecAt w B A n zs) (hn : n ≤ 1099511627776) (hs : Rising zs) :
    Calls Try.prog 13 #[.slice A n c, .string a] w fun e w' => e = .returned (.bool b) ∧ Below w.heap.size w w' := by
  rw [← h.out]; exact gone_any A n c zs a B w hB hz hn hs
theorem rgone_is (A : Option Addr) (n c : Nat) (zs : List At) (a : ByteArray) (B : Nat) (b : Bool) (h : Hid (goneF zs a = b)) (w : World) (hz : VecAt w B A n zs) (hn : n ≤ 1099511627776) :
    Calls Try.prog 14 #[.slice A n c, .string a] w fun e w' => e = .returned (.bool b) ∧ w = w' := by
  rw [← h.out]; exact rgone_any A n c zs a B w hz hn
/-- Of k those that are still. -/
def LiveRel (e : TypeId) (w : World) (zs : List ByteArray) (ys : List At) (k : Nat) (Av : Option Addr) (cv : Nat) (wr : World) : Prop :=
  wr.ownsRow w.heap.size e 1 (.slice Av (liveF (zs.take k) ys).length cv) (liveF (zs.take k) ys).length (rowCells cellsT (liveF (zs.take k) ys)) ∧ Below w.heap.size w wr

set_option maxRecDepth 100000 in
set_option maxHeartbeats 4000000 in
theorem live_any (A : Option Addr) (n c : Nat) (zs : List ByteArray) (A' : Option Addr) (n' c' : Nat) (ys : List At) (B : Nat) (w : World) (hB : B ≤ w.heap.size) (hz : RowAt cellsT 1 w B A n zs) (hy : VecAt w B A' n' ys) (hn : n ≤ 1000000) (hn' : n' ≤ 1099511627776) (hs : Rising ys) :
    Calls Try.prog 24 #[.slice A n c, .slice A' n' c'] w (OwnRow cellsT 1 28 (unionF (liveF zs ys)) w) := by
  have hl : zs.length = n := hz.1
  have HL := Lib.hid hl
  have HZ := Lib.hid hz
  have HY := Lib.hid hy
  have HS := Lib.hid hs
  clear hl hz hy hs
  go_enter Try.func24, Try.ntmps24
  go_wp2
  go_loopw [5, 10] (fun v i wr => ∃ (k : Nat) (Av : Option Addr) (cv : Nat), k ≤ n ∧ i = .int .i64 k ∧ v = .slice Av (liveF (zs.take k) ys).length cv ∧ Hid (LiveRel 28 w zs ys k Av cv wr)) (fun _ i _ => n - (intOf i).toNat)
  case atStart => exact ⟨0, none, 0, by omega, rfl, rfl, rown_nil _ _, Below.refl _ _⟩
  case round =>
    obtain ⟨k, Av, cv, hk, rfl, rfl, HC⟩ := hrel
    obtain ⟨hown, hbel⟩ := HC.out
    have HOw := Lib.hid hown
    have HB := Lib.hid hbel
    have hsz := hbel.size
    have hll : (liveF (zs.take k) ys).length ≤ 1000000 := Nat.le_trans (live_len _ _) (by rw [List.length_take]; omega)
    clear hown hbel HC
    by_cases hlt : k < n
    · obtain ⟨blk, off, s, rfl, hbB, hzk, hc⟩ := HZ.out.text (HB.out.mono hB) hlt
      have HLT := Lib.hid (live_take ys hzk)
      have hi1 : (k : Int) < (n : Int) := by omega
      clear hzk
      generalize liveF (zs.take k) ys = r at *
      obtain ⟨b, hb⟩ : ∃ b, goneF ys s = b := ⟨_, rfl⟩
      rw [hb] at HLT
      have HG := Lib.hid hb
      clear hb
      cases b with
      | true =>
        have HR : Hid (LiveRel 28 w zs ys (k + 1) Av cv wr) := by
          show LiveRel _ _ _ _ _ _ _ _
          unfold LiveRel
          rw [HLT.out]
          simp only [if_true, List.append_nil]
          exact ⟨HOw.out, HB.out⟩
        have HV : Hid (r = liveF (zs.take (k + 1)) ys) := by show _ = _; rw [HLT.out]; simp
        clear HLT
        go_wp2_with fail
        refine (gone_is A' n' c' ys s B _ HG _ (Nat.le_trans hB hsz) (HY.out.keep (HB.out.mono hB)) hn' HS.out).mono ?_
        rintro e w1 ⟨rfl, hb⟩
        replace HOw := Lib.hid (rown_below HOw.out hb)
        replace HB := Lib.hid (HB.out.trans (hb.mono HB.out.size))
        have hsz1 := HB.out.size
        clear hb hc
        replace HR : Hid (LiveRel 28 w zs ys (k + 1) Av cv w1) := (by show LiveRel _ _ _ _ _ _ _ _; unfold LiveRel; rw [← HV.out]; exact ⟨HOw.out, HB.out⟩)
        go_wp2_with fail
        go_roundw
        case rel => exact ⟨k + 1, Av, cv, by omega, by go_num, by rw [← HV.out], HR⟩
        case measure => simp [intOf]; omega
      | false =>
        simp only [Bool.false_eq_true, if_false] at HLT
        go_wp2_with fail
        refine (gone_is A' n' c' ys s B _ HG _ (Nat.le_trans hB hsz) (HY.out.keep (HB.out.mono hB)) hn' HS.out).mono ?_
        rintro e w1 ⟨rfl, hb⟩
        replace HOw := Lib.hid (rown_below HOw.out hb)
        replace HB := Lib.hid (HB.out.trans (hb.mono HB.out.size))
        have hsz1 := HB.out.size
        clear hb hc
        have HR1 : Hid (RowAt cellsT 1 (w1.alloc (.cells #[.string s] 28)) (w1.heap.size + 1) (some ⟨w1.heap.size, 0, none⟩) 1 [s]) := one_row rowT (heap_alloc_new w1 _)
        have HO1 := Lib.hid (HOw.out.alloc (.cells #[.string s] 28))
        go_wp2_with (at_builtin; refine wpList_append_row rowT (B := w.heap.size) (v := .slice Av r.length cv) (n := r.length) (zs := r) (m := 1) (ys := [s]) rfl _ _ rfl rfl HO1.out rfl HR1.out (by omega) (by simp; omega) ?_; intro A3 c3 w3 hown3 hg3 hat3)
        have HV : Hid ((liveF (zs.take (k + 1)) ys).length = r.length + 1) := by show _ = _; rw [HLT.out]; simp
        have HC3 : Hid (LiveRel 28 w zs ys (k + 1) A3 c3 w3) := by
          show LiveRel _ _ _ _ _ _ _ _
          unfold LiveRel
          rw [HV.out]
          rw [← HLT.out] at hown3
          exact ⟨hown3, (HB.out.alloc hsz1 _).grown hg3 (Nat.le_trans hsz1 (by simp)) (fun g e => (HOw.out.lt g e).1)⟩
        clear hown3 hg3 hat3
        go_wp2_with fail
        go_roundw
        case rel => exact ⟨k + 1, A3, c3, by omega, by go_num, by rw [HV.out], HC3⟩
        case measure => simp [intOf]; omega
    · obtain rfl : k = n := by omega
      have HT : Hid (zs.take k = zs) := List.take_of_length_le (by have := HL.out; omega)
      rw [HT.out] at HOw hll ⊢
      have HU := Lib.hid (union_any Av (liveF zs ys).length cv (liveF zs ys) none 0 0 [] wr.heap.size wr (Nat.le_refl _) (own_row rowT HOw.out) RowAt.nil (by omega))
      rw [List.append_nil] at HU
      go_wp2_with fail
      refine HU.out.mono ?_
      rintro e w2 ⟨A2, c2, rfl, ho2, hb2⟩
      have HO2 := Lib.hid (rown_base ho2 hsz)
      have HB2 := Lib.hid (HB.out.trans (hb2.mono hsz))
      clear ho2 hb2 HU
      go_wp2
      go_ret
      exact ⟨A2, c2, rfl, HO2.out, HB2.out⟩
set_option maxRecDepth 100000 in
set_option maxHeartbeats 4000000 in
theorem rlive_any (A : Option Addr) (n c : Nat) (zs : List ByteArray) (A' : Option Addr) (n' c' : Nat) (ys : List At) (B : Nat) (w : World) (hB : B ≤ w.heap.size) (hz : RowAt cellsT 1 w B A n zs) (hy : VecAt w B A' n' ys) (hn : n ≤ 1000000) (hn' : n' ≤ 1099511627776) (hsh : ∀ s ∈ zs, s.size ≤ 9223372036854775807) :
    Calls Try.prog 28 #[.slice A n c, .slice A' n' c'] w (OwnRow cellsT 1 9 (unionF (liveF zs ys)) w) := by
  have hl : zs.length = n := hz.1
  have HL := Lib.hid hl
  have HZ := Lib.hid hz
  have HY := Lib.hid hy
  have HS := Lib.hid hsh
  clear hl hz hy hsh
  go_enter Try.func28, Try.ntmps28
  go_wp2
  go_loopw [5, 6] (fun v i wr => ∃ (k : Nat) (Av : Option Addr) (cv : Nat), k ≤ n ∧ i = .int .i64 k ∧ v = .slice Av (liveF (zs.take k) ys).length cv ∧ Hid (LiveRel 9 w zs ys k Av cv wr)) (fun _ i _ => n - (intOf i).toNat)
  case atStart => exact ⟨0, none, 0, by omega, rfl, rfl, rown_nil _ _, Below.refl _ _⟩
  case round =>
    obtain ⟨k, Av, cv, hk, rfl, rfl, HC⟩ := hrel
    obtain ⟨hown, hbel⟩ := HC.out
    have HOw := Lib.hid hown
    have HB := Lib.hid hbel
    have hsz := hbel.size
    have hll : (liveF (zs.take k) ys).length ≤ 1000000 := Nat.le_trans (live_len _ _) (by rw [List.length_take]; omega)
    clear hown hbel HC
    by_cases hlt : k < n
    · obtain ⟨blk, off, s, rfl, hbB, hzk, hc⟩ := HZ.out.text (HB.out.mono hB) hlt
      have HLT := Lib.hid (live_take ys hzk)
      have hi1 : (k : Int) < (n : Int) := by omega
      clear hzk
      generalize liveF (zs.take k) ys = r at *
      obtain ⟨b, hb⟩ : ∃ b, goneF ys s = b := ⟨_, rfl⟩
      rw [hb] at HLT
      have HG := Lib.hid hb
      clear hb
      cases b with
      | true =>
        have HR : Hid (LiveRel 9 w zs ys (k + 1) Av cv wr) := by
          show LiveRel _ _ _ _ _ _ _ _
          unfold LiveRel
          rw [HLT.out]
          simp only [if_true, List.append_nil]
          exact ⟨HOw.out, HB.out⟩
        have HV : Hid (r = liveF (zs.take (k + 1)) ys) := by show _ = _; rw [HLT.out]; simp
        clear HLT
        go_wp2_with fail
        refine (rgone_is A' n' c' ys s B _ HG _ (HY.out.keep (HB.out.mono hB)) hn').mono ?_
        rintro e w1 ⟨rfl, rfl⟩
        have hsz1 := HB.out.size
        skip
        go_wp2_with fail
        go_roundw
        case rel => exact ⟨k + 1, Av, cv, by omega, by go_num, by rw [← HV.out], HR⟩
        case measure => simp [intOf]; omega
      | false =>
        simp only [Bool.false_eq_true, if_false] at HLT
        go_wp2_with fail
        refine (rgone_is A' n' c' ys s B _ HG _ (HY.out.keep (HB.out.mono hB)) hn').mono ?_
        rintro e w1 ⟨rfl, rfl⟩
        have hsz1 := HB.out.size
        have HR1 : Hid (RowAt cellsT 1 (wr.alloc (.cells #[.string s] 9)) (wr.heap.size + 1) (some ⟨wr.heap.size, 0, none⟩) 1 [s]) := one_row rowR (heap_alloc_new wr _)
        have HO1 := Lib.hid (HOw.out.alloc (.cells #[.string s] 9))
        go_wp2_with (at_builtin; refine wpList_append_row rowR (B := w.heap.size) (v := .slice Av r.length cv) (n := r.length) (zs := r) (m := 1) (ys := [s]) rfl _ _ rfl rfl HO1.out rfl HR1.out (by omega) (by simp; omega) ?_; intro A3 c3 w3 hown3 hg3 hat3)
        have HV : Hid ((liveF (zs.take (k + 1)) ys).length = r.length + 1) := by show _ = _; rw [HLT.out]; simp
        have HC3 : Hid (LiveRel 9 w zs ys (k + 1) A3 c3 w3) := by
          show LiveRel _ _ _ _ _ _ _ _
          unfold LiveRel
          rw [HV.out]
          rw [← HLT.out] at hown3
          exact ⟨hown3, (HB.out.alloc hsz1 _).grown hg3 (Nat.le_trans hsz1 (by simp)) (fun g e => (HOw.out.lt g e).1)⟩
        clear hown3 hg3 hat3
        go_wp2_with fail
        go_roundw
        case rel => exact ⟨k + 1, A3, c3, by omega, by go_num, by rw [HV.out], HC3⟩
        case measure => simp [intOf]; omega
    · obtain rfl : k = n := by omega
      have HT : Hid (zs.take k = zs) := List.take_of_length_le (by have := HL.out; omega)
      rw [HT.out] at HOw hll ⊢
      have HU := Lib.hid (runion_any Av (liveF zs ys).length cv (liveF zs ys) none 0 0 [] wr.heap.size wr (Nat.le_refl _) (own_row rowR HOw.out) RowAt.nil (by omega) (fun s hs => HS.out s (List.mem_filter.mp (by simpa using hs : s ∈ liveF zs ys)).1))
      rw [List.append_nil] at HU
      go_wp2_with fail
      refine HU.out.mono ?_
      rintro e w2 ⟨A2, c2, rfl, ho2, hb2⟩
      have HO2 := Lib.hid (rown_base ho2 hsz)
      have HB2 := Lib.hid (HB.out.trans (hb2.mono hsz))
      clear ho2 hb2 HU
      go_wp2
      go_ret
      exact ⟨A2, c2, rfl, HO2.out, HB2.out⟩
end Go.Proofs.Ytcbadocmkgodhaa
