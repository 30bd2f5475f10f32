/- The library's Concat of bytes; wire.Put and wire.PutText. -/
import Derived.Test.YtophhjknbanafaaBb
namespace Go.Proofs.Ytophhjknbanafaa
open Go.RowKit

/-- A part of what is put together: where it lies, its room, its block, its bytes. -/
structure Part where
  A : Option Addr
  c : Nat
  g : Nat
  bs : List UInt8
def allOf (ps : List Part) : List UInt8 := ps.flatMap (·.bs)
theorem allOf_take (ps : List Part) (k : Nat) (h : k < ps.length) : allOf (ps.take (k + 1)) = allOf (ps.take k) ++ ps[k].bs := by
  unfold allOf
  rw [List.take_succ_eq_append_getElem h, List.flatMap_append]
  simp
theorem allOf_le (ps : List Part) (k : Nat) : (allOf (ps.take k)).length ≤ (allOf ps).length := by
  conv => rhs; rw [← List.take_append_drop k ps]
  unfold allOf
  rw [List.flatMap_append, List.length_append]
  omega

set_option maxRecDepth 100000 in
set_option maxHeartbeats 2000000 in
theorem concat_any (G L C : Nat) (ps : List Part) (w : World) (hL : ps.length = L) (hc : ∀ k (h : k < ps.length), w.cell? ⟨G, k, none⟩ = some (.slice ps[k].A ps[k].bs.length ps[k].c)) (hG : G < w.heap.size) (hz : ∀ k (h : k < ps.length), BytesAt w ps[k].g ps[k].A ps[k].bs.length ps[k].bs)
    (hn : (allOf ps).length ≤ 1073741824) (hL1 : L ≤ 1000) (hL0 : 0 < L) :
    Calls Try.prog 38 #[.slice (some ⟨G, 0, none⟩) L C] w (OwnBytes (allOf ps) w) := by
  have HC := Lib.hid hc
  have HZ := Lib.hid hz
  have HL := Lib.hid hL
  clear hc hz hL
  go_enter Try.func38, Try.ntmps38
  go_wp2
  go_loop [3, 11] (fun sz i => ∃ k : Nat, k ≤ L ∧ i = .int .i64 k ∧ sz = .int .i64 ((allOf (ps.take k)).length : Int)) (fun _ i => L - (intOf i).toNat)
  case atStart => exact ⟨0, by omega, rfl, by simp [allOf]⟩
  case round =>
    obtain ⟨k, hk, rfl, rfl⟩ := hrel
    rcases Nat.lt_or_ge k L with hlt | hge
    · have h1 : (k : Int) < L := by omega
      have hkp : k < ps.length := by rw [HL.out]; exact hlt
      have q0 := HC.out k hkp
      have hle := allOf_le ps (k + 1)
      have he : (allOf (ps.take (k + 1))).length = (allOf (ps.take k)).length + ps[k].bs.length := by rw [allOf_take ps k hkp]; simp
      have HE := Lib.hid he
      rw [he] at hle
      clear he
      generalize (allOf (ps.take k)).length = a at *
      generalize hb : ps[k].bs.length = b at *
      generalize ps[k].A = A0 at *
      generalize ps[k].c = c0 at *
      have h2 : ¬ ((a : Int) + b < 0) := by omega
      go_wp2
      go_round
      case rel => exact ⟨k + 1, by omega, by go_num, by rw [HE.out]; go_num⟩
      case measure => simp [intOf]; omega
    · obtain rfl : k = L := by omega
      rw [show ps.take k = ps by rw [← HL.out]; exact List.take_length]
      have h1 : ¬ ((k : Int) < k) := by omega
      go_wp2_with fail
      refine (grow_nil (allOf ps).length _ (by omega)).mono ?_
      rintro e w1 ⟨A1, c1, rfl, hown1, hb1⟩
      have HO1 := Lib.hid hown1
      have HB1 := Lib.hid hb1
      clear hown1 hb1
      go_wp2
      go_loopw [6, 27] (fun ns i wr => ∃ (j : Nat) (A2 : Option Addr) (c2 : Nat), j ≤ k ∧ i = .int .i64 j ∧ ns = .slice A2 (allOf (ps.take j)).length c2 ∧ Hid (wr.ownsRow w.heap.size 5 1 (.slice A2 (allOf (ps.take j)).length c2) (allOf (ps.take j)).length (bytesV (allOf (ps.take j)))) ∧ Hid (Below w.heap.size w wr)) (fun _ i _ => k - (intOf i).toNat)
      case atStart => exact ⟨0, A1, c1, by omega, rfl, rfl, HO1.out, HB1.out⟩
      case round =>
        obtain ⟨j, A2, c2, hj, rfl, rfl, HO2, HB2⟩ := hrel
        rcases Nat.lt_or_ge j k with hlt | hge
        · have h3 : (j : Int) < k := by omega
          have hjp : j < ps.length := by rw [HL.out]; exact hlt
          have r0 : wr.cell? ⟨G, j, none⟩ = some (.slice ps[j].A ps[j].bs.length ps[j].c) := (HB2.out.cell (p := ⟨G, j, none⟩) hG).trans (HC.out j hjp)
          have HZj : Hid (BytesAt wr ps[j].g ps[j].A ps[j].bs.length ps[j].bs) := (HZ.out j hjp).keep HB2.out
          have HE := Lib.hid (allOf_take ps j hjp)
          have hle := allOf_le ps (j + 1)
          rw [HE.out, List.length_append] at hle
          generalize allOf (ps.take j) = bs at *
          generalize ps[j] = pj at *
          obtain ⟨A0, c0, g0, b0⟩ := pj
          simp only at r0 HZj HE hle
          go_wp2_with (at_builtin; refine wpList_append_bytes (w := wr) (B := w.heap.size) (g := g0) (v := .slice A2 bs.length c2) (n := bs.length) (zs := bs) (A := A0) (m := b0.length) (c := c0) (ys := b0) rfl _ _ rfl rfl HO2.out rfl HZj.out (by omega) HB2.out.size ?_; intro A3 c3 w3 hown3 hg3 _; have HO3 := Lib.hid hown3; have HB3 : Hid (Below w.heap.size w w3) := HB2.out.grown hg3 HB2.out.size (fun i hi => (HO2.out.lt i hi).1); clear hown3 hg3)
          go_roundw
          case rel =>
            refine ⟨j + 1, A3, c3, by omega, by go_num, ?_, ?_, HB3⟩
            · rw [HE.out]; simp
            · rw [HE.out]; simpa [Hid] using HO3.out
          case measure => simp [intOf]; omega
        · obtain rfl : j = k := by omega
          rw [show ps.take j = ps by rw [← HL.out]; exact List.take_length] at HO2
          rw [show ps.take j = ps by rw [← HL.out]; exact List.take_length]
          go_wp2
          go_ret
          exact ⟨A2, c2, rfl, HO2.out, HB2.out⟩

/-- Two slices side by side, as a call with two more arguments lays them. -/
theorem two_parts {w : World} {G : Nat} {e : TypeId} {fr : Nat × Nat} {v0 v1 : Value} (h : w.heap[G]? = some (.cells #[v0, v1] e fr)) : w.cell? ⟨G, 0, none⟩ = some v0 ∧ w.cell? ⟨G, 1, none⟩ = some v1 :=
  ⟨by have := cell_of_row w G 0 _ _ _ h; simpa using this, by have := cell_of_row w G 1 _ _ _ h; simpa using this⟩
theorem three_parts {w : World} {G : Nat} {e : TypeId} {fr : Nat × Nat} {v0 v1 v2 : Value} (h : w.heap[G]? = some (.cells #[v0, v1, v2] e fr)) : w.cell? ⟨G, 0, none⟩ = some v0 ∧ w.cell? ⟨G, 1, none⟩ = some v1 ∧ w.cell? ⟨G, 2, none⟩ = some v2 :=
  ⟨by have := cell_of_row w G 0 _ _ _ h; simpa using this, by have := cell_of_row w G 1 _ _ _ h; simpa using this, by have := cell_of_row w G 2 _ _ _ h; simpa using this⟩

theorem concat_two (G g0 g1 c0 c1 : Nat) (A0 A1 : Option Addr) (b0 b1 : List UInt8) (e : TypeId) (fr : Nat × Nat) (w : World) (h : w.heap[G]? = some (.cells #[.slice A0 b0.length c0, .slice A1 b1.length c1] e fr)) (hG : G < w.heap.size) (z0 : BytesAt w g0 A0 b0.length b0) (z1 : BytesAt w g1 A1 b1.length b1)
    (hn : b0.length + b1.length ≤ 1073741824) : Calls Try.prog 38 #[.slice (some ⟨G, 0, none⟩) 2 2] w (OwnBytes (b0 ++ b1) w) := by
  have H := concat_any G 2 2 [⟨A0, c0, g0, b0⟩, ⟨A1, c1, g1, b1⟩] w rfl (fun k hk => by
      match k, hk with
      | 0, _ => exact (two_parts h).1
      | 1, _ => exact (two_parts h).2) hG (fun k hk => by
      match k, hk with
      | 0, _ => exact z0
      | 1, _ => exact z1) (by simpa [allOf] using hn) (by omega) (by omega)
  simpa [allOf] using H
theorem concat_three (G g0 g1 g2 c0 c1 c2 n2 : Nat) (A0 A1 A2 : Option Addr) (b0 b1 b2 : List UInt8) (e : TypeId) (fr : Nat × Nat) (w : World) (h : w.heap[G]? = some (.cells #[.slice A0 b0.length c0, .slice A1 b1.length c1, .slice A2 n2 c2] e fr)) (hG : G < w.heap.size) (z0 : BytesAt w g0 A0 b0.length b0) (z1 : BytesAt w g1 A1 b1.length b1) (z2 : BytesAt w g2 A2 n2 b2)
    (hn : b0.length + (b1.length + n2) ≤ 1073741824) : Calls Try.prog 38 #[.slice (some ⟨G, 0, none⟩) 3 3] w (OwnBytes (b0 ++ (b1 ++ b2)) w) := by
  have hn2 := z2.1
  subst hn2
  have H := concat_any G 3 3 [⟨A0, c0, g0, b0⟩, ⟨A1, c1, g1, b1⟩, ⟨A2, c2, g2, b2⟩] w rfl (fun k hk => by
      match k, hk with
      | 0, _ => exact (three_parts h).1
      | 1, _ => exact (three_parts h).2.1
      | 2, _ => exact (three_parts h).2.2) hG (fun k hk => by
      match k, hk with
      | 0, _ => exact z0
      | 1, _ => exact z1
      | 2, _ => exact z2) (by simpa [allOf] using hn) (by omega) (by omega)
  simpa [allOf] using H

theorem digits_le (n : Int) (hn : n ≤ 9223372036854775807) : (digitsF n.toNat).length ≤ 9 := digitsF_len 8 n.toNat (by rw [show (128 : Nat) ^ (8 + 1) = 9223372036854775808 by decide]; omega)

set_option maxRecDepth 100000 in
set_option maxHeartbeats 1000000 in
theorem put_any (A : Option Addr) (c g : Nat) (bs : List UInt8) (n : Int) (w : World) (hz : BytesAt w g A bs.length bs) (hl : bs.length ≤ 1000000000) (hn : n ≤ 9223372036854775807) :
    Calls Try.prog 57 #[.slice A bs.length c, .int .i64 n] w (OwnBytes (bs ++ digitsF n.toNat) w) := by
  have HZ := Lib.hid hz
  clear hz
  go_enter Try.func57, Try.ntmps57
  go_wp2_with fail
  refine (digits_any n _ hn).mono ?_
  have hd := digits_le n hn
  generalize digitsF n.toNat = ds at *
  rintro e w1 ⟨A1, c1, rfl, hown1, hb1⟩
  obtain ⟨g1, hz1, _, _, _⟩ := own_bytes hown1
  have HZ0 : Hid (BytesAt w1 g A bs.length bs) := HZ.out.keep hb1
  have HZ1 := Lib.hid hz1
  have HB1 := Lib.hid hb1
  clear hown1 hz1 hb1
  go_wp2_with fail
  refine (concat_two w1.heap.size g g1 c c1 A A1 bs ds 47 (0, 0) _ (heap_alloc_new w1 _) (by simp) (HZ0.out.keep ((Below.refl _ _).alloc (Nat.le_refl _) _)) (HZ1.out.keep ((Below.refl _ _).alloc (Nat.le_refl _) _)) (by omega)).mono ?_
  rintro e w2 ⟨A2, c2, rfl, hown2, hb2⟩
  have HB2 : Hid (Below w.heap.size w w2) := (HB1.out.alloc HB1.out.size _).trans (hb2.mono (by have := HB1.out.size; simp; omega))
  have HO2 : Hid (w2.ownsRow w.heap.size 5 1 (.slice A2 (bs ++ ds).length c2) (bs ++ ds).length (bytesV (bs ++ ds))) := own_base hown2 (by have := HB1.out.size; simp; omega)
  clear hown2 hb2
  generalize bs ++ ds = zs at *
  go_wp2
  go_ret
  exact ⟨A2, c2, rfl, HO2.out, HB2.out⟩

set_option maxRecDepth 100000 in
set_option maxHeartbeats 1000000 in
theorem putText_any (A : Option Addr) (c g : Nat) (bs : List UInt8) (s : ByteArray) (w : World) (hz : BytesAt w g A bs.length bs) (hl : bs.length ≤ 500000000) (hn : s.size ≤ 500000000) :
    Calls Try.prog 58 #[.slice A bs.length c, .string s] w (OwnBytes (bs ++ (digitsF s.size ++ s.data.toList)) w) := by
  have HZ := Lib.hid hz
  clear hz
  have hcv : ∀ w, (convert 9 47 (.string s)).run Try.prog w = .ok (.slice (some ⟨w.heap.size, 0, none⟩) s.size (grownCap w s.size 0 5)) (Lib.bytesWorld w 5 s) := fun w => Lib.run_convert_string_bytes w 9 47 5 s Try.underlying9 Try.underlying47 Try.underlying5
  go_enter Try.func58, Try.ntmps58
  go_wp2_with fail
  refine (digits_any s.size _ (by omega)).mono ?_
  have hd := digits_le s.size (by omega)
  rw [Int.toNat_natCast] at *
  generalize digitsF s.size = ds at *
  rintro e w1 ⟨A1, c1, rfl, hown1, hb1⟩
  obtain ⟨g1, hz1, _, _, _⟩ := own_bytes hown1
  have HZ0 : Hid (BytesAt w1 g A bs.length bs) := HZ.out.keep hb1
  have HZ1 := Lib.hid hz1
  have HB1 := Lib.hid hb1
  clear hown1 hz1 hb1
  have HZ2 := Lib.hid (text_row w1 s)
  have hT := text_below w1 s
  replace HZ0 : Hid (BytesAt (Lib.bytesWorld w1 5 s) g A bs.length bs) := HZ0.out.keep hT
  replace HZ1 : Hid (BytesAt (Lib.bytesWorld w1 5 s) g1 A1 ds.length ds) := HZ1.out.keep hT
  have HB1' : Hid (Below w.heap.size w (Lib.bytesWorld w1 5 s)) := HB1.out.trans (hT.mono HB1.out.size)
  have hsz := Lib.bytesWorld_size w1 5 s
  have HSZ := Lib.hid hsz
  clear hT hsz
  go_wp2_with fail
  refine (concat_three (Lib.bytesWorld w1 5 s).heap.size g g1 w1.heap.size c c1 _ s.size A A1 _ bs ds s.data.toList 47 (0, 0) _ (heap_alloc_new _ _) (by simp) (HZ0.out.keep ((Below.refl _ _).alloc (Nat.le_refl _) _)) (HZ1.out.keep ((Below.refl _ _).alloc (Nat.le_refl _) _)) (HZ2.out.keep ((Below.refl _ _).alloc (Nat.le_refl _) _)) (by omega)).mono ?_
  generalize bs ++ (ds ++ s.data.toList) = zs at *
  rintro e w2 ⟨A2, c2, rfl, hown2, hb2⟩
  have HB2 : Hid (Below w.heap.size w w2) := (HB1'.out.alloc HB1'.out.size _).trans (hb2.mono (by have := HB1'.out.size; simp; omega))
  have HO2 : Hid (w2.ownsRow w.heap.size 5 1 (.slice A2 zs.length c2) zs.length (bytesV zs)) := own_base hown2 (by have := HB1'.out.size; simp; omega)
  clear hown2 hb2
  go_wp2
  go_ret
  exact ⟨A2, c2, rfl, HO2.out, HB2.out⟩
end Go.Proofs.Ytophhjknbanafaa
