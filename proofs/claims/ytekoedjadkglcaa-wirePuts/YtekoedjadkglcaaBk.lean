/- WirePuts, walked. -/
import Derived.Test.YtekoedjadkglcaaBi
import Derived.Test.YtekoedjadkglcaaBj
import Derived.Test.YtekoedjadkglcaaBh
import Derived.Test.YtekoedjadkglcaaBy
import Derived.Deep.CutBlock
import Derived.Deep.DeepCutAuto
namespace Go.Proofs.Ytekoedjadkglcaa
open Go.RowKit

def numsF (zs : List Int) : List UInt8 := zs.flatMap fun z => digitsF z.toNat
def txtsF (ss : List ByteArray) : List UInt8 := ss.flatMap fun s => digitsF s.size ++ s.data.toList
theorem numsF_take (zs : List Int) (k : Nat) (h : k < zs.length) : numsF (zs.take (k + 1)) = numsF (zs.take k) ++ digitsF (zs.getD k 0).toNat := by
  unfold numsF
  rw [List.take_succ_eq_append_getElem h, List.flatMap_append]
  simp [List.getD_eq_getElem?_getD, List.getElem?_eq_getElem h]
theorem numsF_drop (zs : List Int) (k : Nat) (h : k < zs.length) : numsF (zs.drop k) = digitsF (zs.getD k 0).toNat ++ numsF (zs.drop (k + 1)) := by
  unfold numsF
  rw [List.drop_eq_getElem_cons h, List.flatMap_cons]
  simp [List.getD_eq_getElem?_getD, List.getElem?_eq_getElem h]
theorem numsF_len (zs : List Int) (h : ∀ z ∈ zs, z ≤ 9223372036854775807) : (numsF zs).length ≤ 9 * zs.length := by
  induction zs with
  | nil => simp [numsF]
  | cons z r ih =>
    have h1 := ih fun y hy => h y (by simp [hy])
    have h2 := digits_le z (h z (by simp))
    unfold numsF at h1 ⊢
    rw [List.flatMap_cons, List.length_append, List.length_cons]
    omega
theorem txtsF_take (ss : List ByteArray) (k : Nat) (h : k < ss.length) : txtsF (ss.take (k + 1)) = txtsF (ss.take k) ++ (digitsF (ss.getD k (ByteArray.mk #[])).size ++ (ss.getD k (ByteArray.mk #[])).data.toList) := by
  unfold txtsF
  rw [List.take_succ_eq_append_getElem h, List.flatMap_append]
  simp [List.getD_eq_getElem?_getD, List.getElem?_eq_getElem h]
theorem txtsF_drop (ss : List ByteArray) (k : Nat) (h : k < ss.length) : txtsF (ss.drop k) = digitsF (ss.getD k (ByteArray.mk #[])).size ++ ((ss.getD k (ByteArray.mk #[])).data.toList ++ txtsF (ss.drop (k + 1))) := by
  unfold txtsF
  rw [List.drop_eq_getElem_cons h, List.flatMap_cons]
  simp [List.getD_eq_getElem?_getD, List.getElem?_eq_getElem h]
theorem txtsF_len (ss : List ByteArray) (h : ∀ s ∈ ss, s.size ≤ 300) : (txtsF ss).length ≤ 310 * ss.length := by
  induction ss with
  | nil => simp [txtsF]
  | cons s r ih =>
    have h1 := ih fun y hy => h y (by simp [hy])
    have h2 := digits_le s.size (by have := h s (by simp); omega)
    have h3 := h s (by simp)
    rw [Int.toNat_natCast] at h2
    unfold txtsF at h1 ⊢
    rw [List.flatMap_cons, List.length_append, List.length_append, List.length_cons]
    rw [show s.data.toList.length = s.size by simp]
    omega
theorem below_via {B : Nat} {a w W w1 : World} (h : Below B a w) (hb : Below W.heap.size W w1) (hB : B ≤ w.heap.size) (hs : W.os = w.os ∧ W.tape = w.tape ∧ W.output = w.output ∧ W.heap = w.heap) : Below B a w1 := by
  obtain ⟨h1, h2, h3, h4⟩ := hs
  exact ⟨hb.os.trans (h1.trans h.os), hb.tape.trans (h2.trans h.tape), hb.output.trans (h3.trans h.output), Nat.le_trans h.size (by rw [← h4]; exact hb.size), fun k hk => (hb.block k (by rw [h4]; omega)).trans (by rw [h4]; exact h.block k hk)⟩
theorem BytesAt.via {w W w1 : World} {g : Nat} {A : Option Addr} {n : Nat} {bs : List UInt8} (h : BytesAt w g A n bs) (hb : Below W.heap.size W w1) (hs : W.heap = w.heap) : BytesAt w1 g A n bs := (h.hold (w' := W) (by rw [hs])).keep hb
theorem NumsAt.cell {w w' : World} {g : Nat} {A : Option Addr} {n : Nat} {zs : List Int} (h : NumsAt w g A n zs) (hb : Below w.heap.size w w') {k : Nat} (hk : k < n) : ∃ off, A = some ⟨g, off, none⟩ ∧ g < w.heap.size ∧ w'.cell? ⟨g, off + k, none⟩ = some (.int .i64 (zs.getD k 0)) ∧ zs.getD k 0 ≤ 9223372036854775807 := by
  obtain ⟨h1, h2, h3⟩ := h
  obtain ⟨hlt, off, rfl, hc⟩ := h3 (by omega)
  refine ⟨off, rfl, hlt, (hb.cell (p := ⟨g, off + k, none⟩) hlt).trans (hc k hk), ?_⟩
  rw [List.getD_eq_getElem?_getD, List.getElem?_eq_getElem (by omega)]
  exact h2 _ (List.getElem_mem _)
theorem TextsAt.cell {w w' : World} {g : Nat} {A : Option Addr} {n : Nat} {zs : List ByteArray} (h : TextsAt w g A n zs) (hb : Below w.heap.size w w') {k : Nat} (hk : k < n) : ∃ off, A = some ⟨g, off, none⟩ ∧ g < w.heap.size ∧ w'.cell? ⟨g, off + k, none⟩ = some (.string (zs.getD k (ByteArray.mk #[]))) ∧ (zs.getD k (ByteArray.mk #[])).size ≤ 9223372036854775807 := by
  obtain ⟨h1, h2, h3⟩ := h
  obtain ⟨hlt, off, rfl, hc⟩ := h3 (by omega)
  refine ⟨off, rfl, hlt, (hb.cell (p := ⟨g, off + k, none⟩) hlt).trans (hc k hk), ?_⟩
  rw [List.getD_eq_getElem?_getD, List.getElem?_eq_getElem (by omega)]
  exact h2 _ (List.getElem_mem _)

set_option maxRecDepth 100000 in
set_option maxHeartbeats 8000000 in
theorem wirePuts_walk (An : Option Addr) (n cn gn : Nat) (zs : List Int) (As : Option Addr) (m cs gs : Nat) (ss : List ByteArray) (w : World) (hz : NumsAt w gn An n zs) (_h1 : n ≤ cn) (_h2 : cn ≤ 9223372036854775807) (ht : TextsAt w gs As m ss) (_h3 : m ≤ cs) (_h4 : cs ≤ 9223372036854775807) :
    Calls Try.prog 4 #[.slice An n cn, .slice As m cs] w fun e w' => e = .returned (.bool true) ∧ Below w.heap.size w w' := by
  have HZ := Lib.hid hz
  have HT := Lib.hid ht
  have hn : n ≤ 9223372036854775807 := by omega
  have hm : m ≤ 9223372036854775807 := by omega
  clear hz ht _h1 _h2 _h3 _h4
  go_enter Try.func4, Try.ntmps4
  go_upto_block 0 with fail
  go_cut [5, 6, 7] (fun b r i wr => ∃ (k : Nat) (A1 : Option Addr) (c1 g1 : Nat) (A2 : Option Addr) (c2 g2 : Nat), (k = n ∧ k ≤ 40 ∨ k < n ∧ k = 40) ∧ i = .int .i64 k ∧ k ≤ n ∧ k ≤ 40 ∧ b = .slice A1 (numsF (zs.take k)).length c1 ∧ r = .slice A2 (numsF (zs.take k)).length c2 ∧ Hid (BytesAt wr g1 A1 (numsF (zs.take k)).length (numsF (zs.take k))) ∧ Hid (BytesAt wr g2 A2 (numsF (zs.take k)).length (numsF (zs.take k))) ∧ Hid (Below w.heap.size w wr))
  case first =>
    go_wp2_with fail
    go_loopw [5, 6, 7] (fun b r i wr => ∃ (k : Nat) (A1 : Option Addr) (c1 g1 : Nat) (A2 : Option Addr) (c2 g2 : Nat), i = .int .i64 k ∧ k ≤ n ∧ k ≤ 40 ∧ b = .slice A1 (numsF (zs.take k)).length c1 ∧ r = .slice A2 (numsF (zs.take k)).length c2 ∧ Hid (BytesAt wr g1 A1 (numsF (zs.take k)).length (numsF (zs.take k))) ∧ Hid (BytesAt wr g2 A2 (numsF (zs.take k)).length (numsF (zs.take k))) ∧ Hid (Below w.heap.size w wr)) (fun _ _ i _ => 40 - (intOf i).toNat)
    case atStart => exact ⟨0, none, 0, 0, none, 0, 0, rfl, by omega, by omega, rfl, rfl, BytesAt.nil _ _ _, BytesAt.nil _ _ _, Below.refl _ _⟩
    case round =>
      obtain ⟨k, A1, c1, g1, A2, c2, g2, rfl, hkn, hk40, rfl, rfl, HX, HY, HB⟩ := hrel
      by_cases hlt : k < n ∧ k < 40
      · obtain ⟨off, rfl, hgw, hc, hzb⟩ := HZ.out.cell HB.out hlt.1
        have q1 : (k : Int) < n := by omega
        have q2 : (k : Int) < 40 := by omega
        have HE := Lib.hid (numsF_take zs k (by rw [HZ.out.1]; exact hlt.1))
        have hl : (numsF (zs.take k)).length ≤ 1000 := by
          have := numsF_len (zs.take k) (fun z hz => HZ.out.2.1 z (List.mem_of_mem_take hz))
          have := List.length_take_le k zs
          omega
        generalize numsF (zs.take k) = bs at *
        generalize zs.getD k 0 = z at *
        have hgr : gn < wr.heap.size := Nat.lt_of_lt_of_le hgw HB.out.size
        obtain ⟨hlt1, hlt2⟩ := hlt
        go_wp2
        go_region_held3 (fun w' => w'.cell? ⟨gn, off + k, none⟩ = some (.int .i64 z)) (exact hc)
          (first
            | (go_at_call 19
               refine (put_any A1 c1 g1 bs z _ ?_ ?_ hzb).mono ?_
               · exact HX.out.hold rfl
               · omega
               rintro e w1 ⟨A3, c3, rfl, hown, hb⟩
               obtain ⟨g3, hz3, _, _, _⟩ := own_bytes hown
               have HX3 := Lib.hid hz3
               replace hc := (hb.cell (p := ⟨gn, off + k, none⟩) hgr).trans hc
               replace hgr := Nat.lt_of_lt_of_le hgr hb.size
               replace HY := Lib.hid (HY.out.via hb rfl)
               replace HB := Lib.hid (below_via HB.out hb HB.out.size ⟨rfl, rfl, rfl, rfl⟩)
               clear hown hz3 hb)
            | (go_at_call 20
               refine (refPut_any A2 c2 g2 bs z _ ?_ ?_ hzb).mono ?_
               · exact HY.out.hold rfl
               · omega
               rintro e w2 ⟨A4, c4, rfl, hown, hb⟩
               obtain ⟨g4, hz4, _, _, _⟩ := own_bytes hown
               have HY4 := Lib.hid hz4
               replace hc := (hb.cell (p := ⟨gn, off + k, none⟩) hgr).trans hc
               replace hgr := Nat.lt_of_lt_of_le hgr hb.size
               replace HX3 := Lib.hid (HX3.out.via hb rfl)
               replace HB := Lib.hid (below_via HB.out hb HB.out.size ⟨rfl, rfl, rfl, rfl⟩)
               clear hown hz4 hb))
        go_wp2
        go_roundw
        case rel =>
          exact ⟨k + 1, A3, c3, g3, A4, c4, g4, by go_num, by omega, by omega, by rw [HE.out]; simp, by rw [HE.out]; simp, by rw [HE.out]; exact HX3, by rw [HE.out]; exact HY4, HB⟩
        case measure => simp [intOf]; omega
      · by_cases hkk : k < n
        · have q1 : (k : Int) < n := by omega
          have q2 : ¬ ((k : Int) < 40) := by omega
          go_wp2
          go_meet
          case rel => exact ⟨k, A1, c1, g1, A2, c2, g2, .inr ⟨hkk, by omega⟩, rfl, hkn, hk40, rfl, rfl, HX, HY, HB⟩
        · have q1 : ¬ ((k : Int) < n) := by omega
          go_wp2
          go_meet
          case rel => exact ⟨k, A1, c1, g1, A2, c2, g2, .inl ⟨by omega, hk40⟩, rfl, hkn, hk40, rfl, rfl, HX, HY, HB⟩
  case rest =>
    obtain ⟨k, A1, c1, g1, A2, c2, g2, hk, rfl, hkn, hk40, rfl, rfl, HX, HY, HB⟩ := hcut
    have HLN := Lib.hid (show (zs.take k).length = k by rw [List.length_take, HZ.out.1]; omega)
    have HNb : Hid (∀ i : Nat, i < k → (zs.take k).getD i 0 = zs.getD i 0) := fun i hi => by
      simp [List.getD_eq_getElem?_getD, hi]
    have hle : (numsF (zs.take k)).length ≤ 360 := by
      have := numsF_len (zs.take k) (fun z hz => HZ.out.2.1 z (List.mem_of_mem_take hz))
      have := HLN.out
      omega
    generalize zs.take k = N at *
    go_upto_block 2 with fail
    go_cut [5, 6, 8] (fun b r i wr => ∃ (j : Nat) (A1 : Option Addr) (c1 g1 : Nat) (A2 : Option Addr) (c2 g2 : Nat), (j = m ∧ j ≤ 20 ∨ j < m ∧ j = 20) ∧ i = .int .i64 j ∧ j ≤ m ∧ j ≤ 20 ∧ b = .slice A1 (numsF N ++ txtsF (ss.take j)).length c1 ∧ r = .slice A2 (numsF N ++ txtsF (ss.take j)).length c2 ∧ Hid (∀ s ∈ ss.take j, s.size ≤ 300) ∧ Hid (BytesAt wr g1 A1 (numsF N ++ txtsF (ss.take j)).length (numsF N ++ txtsF (ss.take j))) ∧ Hid (BytesAt wr g2 A2 (numsF N ++ txtsF (ss.take j)).length (numsF N ++ txtsF (ss.take j))) ∧ Hid (Below w.heap.size w wr))
    case first =>
      go_wp2_with fail
      go_loopw [5, 6, 8] (fun b r i wr => ∃ (j : Nat) (A1 : Option Addr) (c1 g1 : Nat) (A2 : Option Addr) (c2 g2 : Nat), i = .int .i64 j ∧ j ≤ m ∧ j ≤ 20 ∧ b = .slice A1 (numsF N ++ txtsF (ss.take j)).length c1 ∧ r = .slice A2 (numsF N ++ txtsF (ss.take j)).length c2 ∧ Hid (∀ s ∈ ss.take j, s.size ≤ 300) ∧ Hid (BytesAt wr g1 A1 (numsF N ++ txtsF (ss.take j)).length (numsF N ++ txtsF (ss.take j))) ∧ Hid (BytesAt wr g2 A2 (numsF N ++ txtsF (ss.take j)).length (numsF N ++ txtsF (ss.take j))) ∧ Hid (Below w.heap.size w wr)) (fun _ _ i _ => 20 - (intOf i).toNat)
      case atStart =>
        have e0 : numsF N ++ txtsF (ss.take 0) = numsF N := by simp [txtsF]
        exact ⟨0, A1, c1, g1, A2, c2, g2, rfl, by omega, by omega, by rw [e0], by rw [e0], by simp [Hid], by rw [e0]; exact HX, by rw [e0]; exact HY, HB⟩
      case round =>
        clear HX HY HB
        obtain ⟨j, A1, c1, g1, A2, c2, g2, rfl, hjm, hj20, rfl, rfl, H3, HX, HY, HB⟩ := hrel
        by_cases hlt : j < m ∧ j < 20
        · obtain ⟨off, rfl, hgw, hc, hzb⟩ := HT.out.cell HB.out hlt.1
          have q1 : (j : Int) < m := by omega
          have q2 : (j : Int) < 20 := by omega
          have hjs : j < ss.length := by rw [HT.out.1]; exact hlt.1
          have HE : Hid (numsF N ++ txtsF (ss.take (j + 1)) = (numsF N ++ txtsF (ss.take j)) ++ (digitsF (ss.getD j (ByteArray.mk #[])).size ++ (ss.getD j (ByteArray.mk #[])).data.toList)) := by
            show _ = _
            rw [txtsF_take ss j hjs]; simp
          have H3n : Hid ((ss.getD j (ByteArray.mk #[])).size ≤ 300 → ∀ s ∈ ss.take (j + 1), s.size ≤ 300) := fun h s hs => by
            rw [List.take_succ_eq_append_getElem hjs] at hs
            simp only [List.mem_append, List.mem_singleton] at hs
            rcases hs with hs | rfl
            · exact H3.out s hs
            · simpa [List.getD_eq_getElem?_getD, List.getElem?_eq_getElem hjs] using h
          have hl : (numsF N ++ txtsF (ss.take j)).length ≤ 10000 := by
            have := txtsF_len (ss.take j) H3.out
            have := List.length_take_le j ss
            rw [List.length_append]
            omega
          generalize numsF N ++ txtsF (ss.take j) = bs at *
          generalize ss.getD j (ByteArray.mk #[]) = s at *
          have hgr : gs < wr.heap.size := Nat.lt_of_lt_of_le hgw HB.out.size
          obtain ⟨hlt1, hlt2⟩ := hlt
          clear hjs
          by_cases h300 : 300 < s.size
          · have q3 : (300 : Int) < s.size := by omega
            go_wp2_with fail
            refine (told_any _).mono ?_
            rintro e w1 ⟨rfl, hb⟩
            replace HB := Lib.hid (below_via HB.out hb HB.out.size ⟨rfl, rfl, rfl, rfl⟩)
            clear hb
            go_wp2
            go_ret
            exact ⟨rfl, HB.out⟩
          · have q3 : ¬ ((300 : Int) < s.size) := by omega
            go_wp2
            go_region_held3 (fun w' => w'.cell? ⟨gs, off + j, none⟩ = some (.string s)) (exact hc)
              (first
                | (go_at_call 21
                   refine (putText_any A1 c1 g1 bs s _ ?_ ?_ ?_).mono ?_
                   · exact HX.out.hold rfl
                   · omega
                   · omega
                   rintro e w1 ⟨A3, c3, rfl, hown, hb⟩
                   obtain ⟨g3, hz3, _, _, _⟩ := own_bytes hown
                   have HX3 := Lib.hid hz3
                   replace hc := (hb.cell (p := ⟨gs, off + j, none⟩) hgr).trans hc
                   replace hgr := Nat.lt_of_lt_of_le hgr hb.size
                   replace HY := Lib.hid (HY.out.via hb rfl)
                   replace HB := Lib.hid (below_via HB.out hb HB.out.size ⟨rfl, rfl, rfl, rfl⟩)
                   clear hown hz3 hb)
                | (go_at_call 22
                   refine (refPutText_any A2 c2 g2 bs s _ ?_ ?_ ?_).mono ?_
                   · exact HY.out.hold rfl
                   · omega
                   · omega
                   rintro e w2 ⟨A4, c4, rfl, hown, hb⟩
                   obtain ⟨g4, hz4, _, _, _⟩ := own_bytes hown
                   have HY4 := Lib.hid hz4
                   replace hc := (hb.cell (p := ⟨gs, off + j, none⟩) hgr).trans hc
                   replace hgr := Nat.lt_of_lt_of_le hgr hb.size
                   replace HX3 := Lib.hid (HX3.out.via hb rfl)
                   replace HB := Lib.hid (below_via HB.out hb HB.out.size ⟨rfl, rfl, rfl, rfl⟩)
                   clear hown hz4 hb))
            go_wp2
            go_roundw
            case rel =>
              exact ⟨j + 1, A3, c3, g3, A4, c4, g4, by go_num, by omega, by omega, by rw [HE.out]; simp, by rw [HE.out]; simp, H3n.out (by omega), by rw [HE.out]; exact HX3, by rw [HE.out]; exact HY4, HB⟩
            case measure => simp [intOf]; omega
        · by_cases hkk : j < m
          · have q1 : (j : Int) < m := by omega
            have q2 : ¬ ((j : Int) < 20) := by omega
            go_wp2
            go_meet
            case rel => exact ⟨j, A1, c1, g1, A2, c2, g2, .inr ⟨hkk, by omega⟩, rfl, hjm, hj20, by simp, by simp, H3, HX, HY, HB⟩
          · have q1 : ¬ ((j : Int) < m) := by omega
            go_wp2
            go_meet
            case rel => exact ⟨j, A1, c1, g1, A2, c2, g2, .inl ⟨by omega, hj20⟩, rfl, hjm, hj20, by simp, by simp, H3, HX, HY, HB⟩
    case rest =>
      clear HX HY HB
      obtain ⟨j, A1, c1, g1, A2, c2, g2, hj, rfl, hjm, hj20, rfl, rfl, H3, HX, HY, HB⟩ := hcut
      have HLS := Lib.hid (show (ss.take j).length = j by rw [List.length_take, HT.out.1]; omega)
      have HSb : Hid (∀ i : Nat, i < j → (ss.take j).getD i (ByteArray.mk #[]) = ss.getD i (ByteArray.mk #[])) := fun i hi => by
        simp [List.getD_eq_getElem?_getD, hi]
      have hl2 : (numsF N ++ txtsF (ss.take j)).length ≤ 10000 := by
        have := txtsF_len (ss.take j) H3.out
        have := HLS.out
        rw [List.length_append]
        omega
      generalize ss.take j = T at *
      generalize hbs : numsF N ++ txtsF T = bs at *
      have HBS := Lib.hid hbs
      clear hbs
      go_wp2_with fail
      refine (told_any _).mono ?_
      rintro e w1 ⟨rfl, hb⟩
      replace HX := Lib.hid (HX.out.via hb rfl)
      replace HY := Lib.hid (HY.out.via hb rfl)
      replace HB := Lib.hid (below_via HB.out hb HB.out.size ⟨rfl, rfl, rfl, rfl⟩)
      clear hb
      go_wp2_with fail
      refine (same_any A1 A2 bs.length bs.length c1 c2 g1 g2 bs bs _ HX.out HY.out).mono ?_
      rintro e w2 ⟨rfl, rfl⟩
      rw [show decide (bs = bs) = true by simp]
      go_wp2_with fail
      refine (read_any A1 c1 g1 bs _ HX.out (by omega)).mono ?_
      rintro e w2 ⟨R, rg, rfl, hR, hlR, _, hb⟩
      have hRw : w.heap.size ≤ R := Nat.le_trans HB.out.size hlR
      replace HB := Lib.hid (below_via HB.out hb HB.out.size ⟨rfl, rfl, rfl, rfl⟩)
      have HR := Lib.hid hR
      clear hR hlR hb HX HY
      go_upto_block 4 with fail
      go_cut [10] (fun i wr => ∃ (a : Nat), i = .int .i64 a ∧ Hid (ReaderAt wr R rg (txtsF T, 0)) ∧ Hid (Below w.heap.size w wr))
      case first =>
        go_wp2_with fail
        go_loopw [10] (fun i wr => ∃ (a : Nat), i = .int .i64 a ∧ a ≤ k ∧ Hid (ReaderAt wr R rg (numsF (N.drop a) ++ txtsF T, 0)) ∧ Hid (Below w.heap.size w wr)) (fun i _ => 40 - (intOf i).toNat)
        case atStart => exact ⟨0, rfl, by omega, by rw [List.drop_zero, HBS.out]; exact HR, HB⟩
        case round =>
          clear HR HB
          obtain ⟨a, rfl, hak, HR, HB⟩ := hrel
          by_cases hlt : a < k
          · obtain ⟨off, rfl, hgw, hc, hzb⟩ := HZ.out.cell HB.out (show a < n by omega)
            have q1 : (a : Int) < n := by omega
            have q2 : (a : Int) < 40 := by omega
            have hgr : gn < wr.heap.size := Nat.lt_of_lt_of_le hgw HB.out.size
            have hgR : gn < R := by omega
            have haN : a < N.length := by rw [HLN.out]; exact hlt
            have HE := Lib.hid (numsF_drop N a haN)
            rw [HNb.out a hlt] at HE
            generalize zs.getD a 0 = z at *
            have HN := Lib.hid (num_digits (n := z.toNat) (by rw [show (128 : Nat) ^ 9 = 9223372036854775808 by decide]; omega) (numsF (N.drop (a + 1)) ++ txtsF T) (most := 9223372036854775807) (by omega))
            replace HR : Hid (ReaderAt wr R rg (digitsF z.toNat ++ (numsF (N.drop (a + 1)) ++ txtsF T), 0)) := by
              have := HR.out
              rw [HE.out, List.append_assoc] at this
              exact this
            clear HE haN
            generalize hrest : numsF (N.drop (a + 1)) ++ txtsF T = rest at *
            have HRest := Lib.hid hrest
            clear hrest
            by_cases hneg0 : z < 0
            · have q3 : (z.toNat : Int) = 0 := by omega
              have hneg : (z < 0) = True := by simp [hneg0]
              rw [q3] at HN
              clear q3 hneg0
              go_wp2
              go_region_held3 (fun w' => w'.cell? ⟨gn, off + a, none⟩ = some (.int .i64 z)) (exact hc)
                ((go_at_call 13
                  refine (num_any 9223372036854775807 _ (by exact HR.out.keep ⟨rfl, rfl, rfl, Nat.le_refl _, fun _ _ => rfl⟩)).mono ?_
                  rw [HN.out]
                  rintro e w3 ⟨rfl, hR, hg, _⟩
                  replace hc := (World.cell?_of_block (a := ⟨gn, off + a, none⟩) (hg.block gn hgr (fun e => by injection e with e; omega))).trans hc
                  replace HB : Hid (Below w.heap.size w w3) := below_other (by exact HB.out.trans ⟨rfl, rfl, rfl, Nat.le_refl _, fun _ _ => rfl⟩) hg HB.out.size hRw
                  replace HR := Lib.hid hR
                  clear hR hg))
              all_goals
                go_wp2
                go_roundw
                case rel => exact ⟨a + 1, by go_num, by omega, by rw [HRest.out]; exact HR, HB⟩
                case measure => simp [intOf]; omega
            · have q3 : (z.toNat : Int) = z := by omega
              have hneg : (z < 0) = False := by simp [hneg0]
              rw [q3] at HN
              clear q3 hneg0
              go_wp2
              go_region_held3 (fun w' => w'.cell? ⟨gn, off + a, none⟩ = some (.int .i64 z)) (exact hc)
                ((go_at_call 13
                  refine (num_any 9223372036854775807 _ (by exact HR.out.keep ⟨rfl, rfl, rfl, Nat.le_refl _, fun _ _ => rfl⟩)).mono ?_
                  rw [HN.out]
                  rintro e w3 ⟨rfl, hR, hg, _⟩
                  replace hc := (World.cell?_of_block (a := ⟨gn, off + a, none⟩) (hg.block gn hgr (fun e => by injection e with e; omega))).trans hc
                  replace HB : Hid (Below w.heap.size w w3) := below_other (by exact HB.out.trans ⟨rfl, rfl, rfl, Nat.le_refl _, fun _ _ => rfl⟩) hg HB.out.size hRw
                  replace HR := Lib.hid hR
                  clear hR hg))
              all_goals
                go_wp2
                go_roundw
                case rel => exact ⟨a + 1, by go_num, by omega, by rw [HRest.out]; exact HR, HB⟩
                case measure => simp [intOf]; omega
          · have HR2 : Hid (ReaderAt wr R rg (txtsF T, 0)) := by
              have := HR.out
              rw [List.drop_eq_nil_of_le (by rw [HLN.out]; omega)] at this
              exact this
            by_cases hkk : a < n
            · have q1 : (a : Int) < n := by omega
              have q2 : ¬ ((a : Int) < 40) := by omega
              go_wp2
              go_meet
              case rel => exact ⟨a, rfl, HR2, HB⟩
            · have q1 : ¬ ((a : Int) < n) := by omega
              go_wp2
              go_meet
              case rel => exact ⟨a, rfl, HR2, HB⟩
      case rest =>
        clear HR HB
        obtain ⟨a, rfl, HR, HB⟩ := hcut
        go_upto_block 6 with fail
        go_cut [11] (fun i wr => ∃ (a : Nat), i = .int .i64 a ∧ Hid (ReaderAt wr R rg ([], 0)) ∧ Hid (Below w.heap.size w wr))
        case first =>
          go_wp2_with fail
          go_loopw [11] (fun i wr => ∃ (a : Nat), i = .int .i64 a ∧ a ≤ j ∧ Hid (ReaderAt wr R rg (txtsF (T.drop a), 0)) ∧ Hid (Below w.heap.size w wr)) (fun i _ => 20 - (intOf i).toNat)
          case atStart => exact ⟨0, rfl, by omega, HR, HB⟩
          case round =>
            clear HR HB
            obtain ⟨a, rfl, hak, HR, HB⟩ := hrel
            by_cases hlt : a < j
            · obtain ⟨off, rfl, hgw, hc, hzb⟩ := HT.out.cell HB.out (show a < m by omega)
              have q1 : (a : Int) < m := by omega
              have q2 : (a : Int) < 20 := by omega
              have hgr : gs < wr.heap.size := Nat.lt_of_lt_of_le hgw HB.out.size
              have hgR : gs < R := by omega
              have haN : a < T.length := by rw [HLS.out]; exact hlt
              have HE := Lib.hid (txtsF_drop T a haN)
              have h300 : (T.getD a (ByteArray.mk #[])).size ≤ 300 := H3.out _ (by rw [List.getD_eq_getElem?_getD, List.getElem?_eq_getElem haN]; exact List.getElem_mem haN)
              rw [HSb.out a hlt] at HE h300
              generalize ss.getD a (ByteArray.mk #[]) = s at *
              have HN : Hid (textF (digitsF s.size ++ (s.data.toList ++ txtsF (T.drop (a + 1))), 0) 300 = (s.data.toList, (txtsF (T.drop (a + 1)), 0))) := by
                have := text_digits (s := s.data.toList) (by simp; omega) (txtsF (T.drop (a + 1))) (most := 300) (by simp; omega)
                simpa [Hid] using this
              replace HR : Hid (ReaderAt wr R rg (digitsF s.size ++ (s.data.toList ++ txtsF (T.drop (a + 1))), 0)) := by
                have := HR.out
                rw [HE.out] at this
                exact this
              clear HE haN
              go_wp2
              go_region_held3 (fun w' => w'.cell? ⟨gs, off + a, none⟩ = some (.string s)) (exact hc)
                ((go_at_call 11
                  refine (text_any 300 _ (by exact HR.out.keep ⟨rfl, rfl, rfl, Nat.le_refl _, fun _ _ => rfl⟩)).mono ?_
                  rw [HN.out]
                  simp only []
                  rw [text_string]
                  rintro e w3 ⟨rfl, hR, hg, _⟩
                  replace hc := (World.cell?_of_block (a := ⟨gs, off + a, none⟩) (hg.block gs hgr (fun e => by injection e with e; omega))).trans hc
                  replace HB : Hid (Below w.heap.size w w3) := below_other (by exact HB.out.trans ⟨rfl, rfl, rfl, Nat.le_refl _, fun _ _ => rfl⟩) hg HB.out.size hRw
                  replace HR := Lib.hid hR
                  clear hR hg))
              go_wp2
              go_roundw
              case rel => exact ⟨a + 1, by go_num, by omega, HR, HB⟩
              case measure => simp [intOf]; omega
            · have HR2 : Hid (ReaderAt wr R rg ([], 0)) := by
                have := HR.out
                rw [List.drop_eq_nil_of_le (by rw [HLS.out]; omega)] at this
                exact this
              by_cases hkk : a < m
              · have q1 : (a : Int) < m := by omega
                have q2 : ¬ ((a : Int) < 20) := by omega
                go_wp2
                go_meet
                case rel => exact ⟨a, rfl, HR2, HB⟩
              · have q1 : ¬ ((a : Int) < m) := by omega
                go_wp2
                go_meet
                case rel => exact ⟨a, rfl, HR2, HB⟩
        case rest =>
          clear HR HB
          obtain ⟨a', rfl, HR, HB⟩ := hcut
          go_wp2_with fail
          refine (end_any _ HR.out).mono ?_
          rintro e w6 ⟨rfl, rfl⟩
          rw [show ((endF (([] : List UInt8), 0) : Nat) : Int) = 0 from rfl]
          go_wp2
          go_ret
          exact ⟨rfl, HB.out⟩
end Go.Proofs.Ytekoedjadkglcaa
