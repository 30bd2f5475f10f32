/- The document's Split. -/
import Derived.Test.YtkklikkmpmlnbaaDoorZya
namespace Go.Proofs.YtkklikkmpmlnbaaDoor
open Go.RowKit

/-- Half way through: o are the pieces so far; from f to k there is no c. -/
def SplitInv (c : UInt8) (l : List UInt8) (o : List (List UInt8)) (f k : Nat) : Prop := splitL c l = o ++ splitL c (l.drop f) ∧ f ≤ k ∧ c ∉ (l.drop f).take (k - f)
theorem inv_start (c : UInt8) (l : List UInt8) : SplitInv c l [] 0 0 := ⟨by simp, Nat.le_refl _, by simp⟩
theorem drop_cut {l : List UInt8} {f k : Nat} {b : UInt8} (hf : f ≤ k) (h : l[k]? = some b) : l.drop f = (l.drop f).take (k - f) ++ b :: l.drop (k + 1) := by
  have hk := (List.getElem?_eq_some_iff.mp h).1
  have e : (l.drop f).drop (k - f) = b :: l.drop (k + 1) := by
    rw [List.drop_drop, show f + (k - f) = k by omega, List.drop_eq_getElem_cons hk]
    congr 1
    exact (List.getElem?_eq_some_iff.mp h).2
  conv => lhs; rw [← List.take_append_drop (k - f) (l.drop f), e]
theorem inv_hit {c : UInt8} {l : List UInt8} {o : List (List UInt8)} {f k : Nat} (h : SplitInv c l o f k) (hk : l[k]? = some c) : SplitInv c l (o ++ [(l.drop f).take (k - f)]) (k + 1) (k + 1) := by
  obtain ⟨h1, h2, h3⟩ := h
  refine ⟨?_, Nat.le_refl _, by simp⟩
  have e := drop_cut h2 hk
  rw [h1]
  conv => lhs; rw [e]
  rw [splitL_at h3]
  simp
theorem inv_miss {c b : UInt8} {l : List UInt8} {o : List (List UInt8)} {f k : Nat} (h : SplitInv c l o f k) (hk : l[k]? = some b) (hb : b ≠ c) : SplitInv c l o f (k + 1) := by
  obtain ⟨h1, h2, h3⟩ := h
  refine ⟨h1, by omega, fun hm => ?_⟩
  have hlt := (List.getElem?_eq_some_iff.mp hk).1
  have e := drop_cut h2 hk
  have hl : ((l.drop f).take (k - f)).length = k - f := by rw [List.length_take, List.length_drop]; omega
  generalize (l.drop f).take (k - f) = a at *
  rw [e, List.take_append, hl, show k + 1 - f - (k - f) = 1 by omega, List.take_of_length_le (by omega)] at hm
  rcases List.mem_append.mp hm with hm | hm
  · exact h3 hm
  · simp at hm; exact hb hm.symm
theorem inv_end {c : UInt8} {l : List UInt8} {o : List (List UInt8)} {f k : Nat} (h : SplitInv c l o f k) (hk : l.length ≤ k) : splitL c l = o ++ [(l.drop f).take (k - f)] := by
  obtain ⟨h1, h2, h3⟩ := h
  have e : (l.drop f).take (k - f) = l.drop f := List.take_of_length_le (by rw [List.length_drop]; omega)
  rw [e] at h3 ⊢
  rw [h1, splitL_none h3]
theorem extract_ofL (s : ByteArray) (f k : Nat) : s.extract f k = ofL ((s.data.toList.drop f).take (k - f)) := by
  apply toList_inj
  rw [Lib.toList_data, Lib.toList_data]
  obtain ⟨⟨l⟩⟩ := s
  simp [ofL, ByteArray.extract, ByteArray.copySlice, List.take_drop]
theorem byte_at (s : ByteArray) (k : Nat) (h : k < s.size) : s.data.toList[k]? = some s[k] := by
  have hl : k < s.data.toList.length := by simpa using h
  rw [List.getElem?_eq_getElem hl]
  rfl
/-- What the loop holds. -/
structure SplitH (s : ByteArray) (c : UInt8) (w wr : World) (k f : Nat) (o : List ByteArray) (Av : Option Addr) (cv : Nat) : Prop where
  inv : k ≤ s.size → SplitInv c s.data.toList (o.map (·.data.toList)) f k
  fin : k = s.size + 1 → pieces ⟨#[c]⟩ s = o
  row : wr.ownsRow w.heap.size 9 1 (.slice Av o.length cv) o.length (rowCells cellsS o)
  below : Below w.heap.size w wr
theorem splitH_start (s : ByteArray) (c : UInt8) (w : World) : SplitH s c w w 0 0 [] none 0 := ⟨fun _ => inv_start _ _, fun h => absurd h (by omega), rown_nil _ _, Below.refl _ _⟩
theorem splitH_miss {s : ByteArray} {c : UInt8} {w wr : World} {k f : Nat} {o : List ByteArray} {Av : Option Addr} {cv : Nat} (h : SplitH s c w wr k f o Av cv) (hk : k < s.size) (hb : s[k] ≠ c) : SplitH s c w wr (k + 1) f o Av cv :=
  ⟨fun _ => inv_miss (h.inv (by omega)) (byte_at s k hk) hb, fun e => absurd e (by omega), h.row, h.below⟩
theorem splitH_hit {s : ByteArray} {c : UInt8} {w wr w3 : World} {k f : Nat} {o : List ByteArray} {Av A3 : Option Addr} {cv c3 : Nat} (h : SplitH s c w wr k f o Av cv) (hk : k = s.size ∨ ∃ hk : k < s.size, s[k] = c)
    (hr : w3.ownsRow w.heap.size 9 1 (.slice A3 (o.length + 1) c3) (o.length + 1) (rowCells cellsS (o ++ [s.extract f k]))) (hb : Below w.heap.size w w3) : SplitH s c w w3 (k + 1) (k + 1) (o ++ [s.extract f k]) A3 c3 := by
  have hl : (o ++ [s.extract f k]).length = o.length + 1 := by simp
  have em : (o ++ [s.extract f k]).map (·.data.toList) = o.map (·.data.toList) ++ [(s.data.toList.drop f).take (k - f)] := by
    rw [List.map_append, extract_ofL]
    rfl
  refine ⟨fun h1 => ?_, fun h1 => ?_, by rw [hl]; exact hr, hb⟩
  · rcases hk with hk | ⟨hk, e⟩
    · omega
    · rw [em]
      exact inv_hit (h.inv (by omega)) (by rw [byte_at s k hk, e])
  · have hks : k = s.size := by omega
    have h2 := inv_end (h.inv (by omega)) (by simpa using Nat.le_of_eq hks.symm)
    have h3 := pieces_split c _ s.data.toList (Nat.le_refl _)
    rw [ofL_list] at h3
    rw [h3, h2, List.map_append, extract_ofL, List.map_map]
    congr 1
    have e : (ofL ∘ fun x : ByteArray => x.data.toList) = id := by funext x; exact ofL_list x
    rw [e, List.map_id]
set_option maxRecDepth 100000 in
set_option maxHeartbeats 4000000 in
theorem rsplit_any (s : ByteArray) (cc : UInt8) (ci : Int) (hci : (cc.toNat : Int) = ci) (w : World) (hs : s.size ≤ 1000000) :
    Calls Tryd.prog 43 #[.string s, .int .u8 ci] w (OwnRow cellsS 1 9 (pieces ⟨#[cc]⟩ s) w) := by
  have HST := Lib.hid (splitH_start s cc w)
  have HCI := Lib.hid hci
  clear hci
  go_enter Tryd.func43, Tryd.ntmps43
  go_wp2_with fail
  go_loopw [5, 6, 7] (fun v f i wr => ∃ (k q : Nat) (o : List ByteArray) (Av : Option Addr) (cv : Nat), i = .int .i64 k ∧ f = .int .i64 q ∧ v = .slice Av o.length cv ∧ k ≤ s.size + 1 ∧ q ≤ k ∧ o.length ≤ k ∧ Hid (SplitH s cc w wr k q o Av cv)) (fun _ _ i _ => s.size + 1 - (intOf i).toNat)
  case atStart => exact ⟨0, 0, [], none, 0, rfl, rfl, rfl, by omega, Nat.le_refl _, Nat.le_refl _, HST⟩
  case round =>
    clear HST
    obtain ⟨k, q, o, Av, cv, rfl, rfl, rfl, hk, hq, hol, HS⟩ := hrel
    by_cases hle : k ≤ s.size
    · have q1 : (k : Int) ≤ s.size := by omega
      have hba : Below wr.heap.size wr (wr.alloc (.cells #[.string (s.extract q k)] 9)) := (Below.refl _ _).alloc (Nat.le_refl _) _
      have HOA := Lib.hid (rown_below HS.out.row hba)
      have HBA := Lib.hid (HS.out.below.trans (hba.mono HS.out.below.size))
      have HX1 : Hid (RowAt cellsS 1 (wr.alloc (.cells #[.string (s.extract q k)] 9)) (wr.heap.size + 1) (some ⟨wr.heap.size, 0, none⟩) 1 [s.extract q k]) := one_row rowStr (heap_alloc_new wr _)
      clear hba
      by_cases hend : k = s.size
      · have HH := Lib.hid (fun (w3 : World) (A3 : Option Addr) (c3 : Nat) => splitH_hit (w3 := w3) (A3 := A3) (c3 := c3) HS.out (.inl hend))
        have q2 : ((k : Int) == s.size) = true := by simp; omega
        have q5 : (q : Int) ≤ k := by omega
        have q6 : (0 : Int) ≤ (q : Int) := by omega
        clear HS hend
        go_upto_region 8 with (at_builtin; refine wpList_append_row rowStr (B := w.heap.size) (v := .slice Av o.length cv) (n := o.length) (zs := o) (m := 1) (ys := [s.extract q k]) rfl _ _ rfl rfl HOA.out rfl HX1.out (by omega) HBA.out.size ?_; intro A3 c3 w3 hown3 hg3 _; have HO3 := Lib.hid (HH.out w3 A3 c3 hown3 (HBA.out.grown hg3 HBA.out.size (fun g e => (HOA.out.lt g e).1))); clear hown3 hg3)
        have HLn : Hid ((o ++ [s.extract q k]).length = o.length + 1) := by show _ = _; simp
        clear HOA HX1 HBA HH
        go_wp2
        go_roundw
        case rel => exact ⟨k + 1, k + 1, o ++ [s.extract q k], A3, c3, by go_num, by go_num, by rw [HLn.out], by omega, Nat.le_refl _, by rw [HLn.out]; omega, HO3⟩
        case measure => simp [intOf]; omega
      · have hlt : k < s.size := by omega
        have q2 : ((k : Int) == s.size) = false := by simp; omega
        have q3 : (k : Int) < s.size := by omega
        have q4 : (0 : Int) ≤ (k : Int) := by omega
        by_cases hc : s[k] = cc
        · have HH := Lib.hid (fun (w3 : World) (A3 : Option Addr) (c3 : Nat) => splitH_hit (w3 := w3) (A3 := A3) (c3 := c3) HS.out (.inr ⟨hlt, hc⟩))
          have g1 : ((s[k].toNat : Int) == ci) = true := by have := HCI.out; rw [hc, this]; simp
          have q5 : (q : Int) ≤ k := by omega
          have q6 : (0 : Int) ≤ (q : Int) := by omega
          clear HS hc
          go_upto_region 8 with (at_builtin; refine wpList_append_row rowStr (B := w.heap.size) (v := .slice Av o.length cv) (n := o.length) (zs := o) (m := 1) (ys := [s.extract q k]) rfl _ _ rfl rfl HOA.out rfl HX1.out (by omega) HBA.out.size ?_; intro A3 c3 w3 hown3 hg3 _; have HO3 := Lib.hid (HH.out w3 A3 c3 hown3 (HBA.out.grown hg3 HBA.out.size (fun g e => (HOA.out.lt g e).1))); clear hown3 hg3)
          have HLn : Hid ((o ++ [s.extract q k]).length = o.length + 1) := by show _ = _; simp
          clear HOA HX1 HBA HH
          go_wp2
          go_roundw
          case rel => exact ⟨k + 1, k + 1, o ++ [s.extract q k], A3, c3, by go_num, by go_num, by rw [HLn.out], by omega, Nat.le_refl _, by rw [HLn.out]; omega, HO3⟩
          case measure => simp [intOf]; omega
        · have HM := Lib.hid (splitH_miss HS.out hlt hc)
          have g1 : ((s[k].toNat : Int) == ci) = false := by
            have := HCI.out
            rw [beq_eq_false_iff_ne]
            intro e
            apply hc
            apply UInt8.toNat_inj.mp
            omega
          clear HS HOA HX1 HBA hc
          go_wp2
          go_roundw
          case rel => exact ⟨k + 1, q, o, Av, cv, by go_num, rfl, rfl, by omega, by omega, by omega, HM⟩
          case measure => simp [intOf]; omega
    · have hk1 : k = s.size + 1 := by omega
      have q1 : ¬ ((k : Int) ≤ s.size) := by omega
      have HF := Lib.hid (HS.out.fin hk1)
      clear hk1
      go_wp2
      go_ret
      exact ⟨_, _, by rw [HF.out]; rfl, by rw [HF.out]; exact HS.out.row, HS.out.below⟩
end Go.Proofs.YtkklikkmpmlnbaaDoor
