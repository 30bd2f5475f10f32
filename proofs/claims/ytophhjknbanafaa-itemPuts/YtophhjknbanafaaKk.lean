/- ItemPuts, walked. -/
import Derived.Test.YtophhjknbanafaaKj
import Derived.Test.YtophhjknbanafaaJx
namespace Go.Proofs.Ytophhjknbanafaa
open Go.RowKit

/-- The bytes of some items, each made one that may be. -/
def allB (l : List Itm) : List UInt8 := l.flatMap fun z => bytesF (fixI z)
theorem allB_snoc {l : List Itm} {k : Nat} {z : Itm} (h : l[k]? = some z) : putItm (allB (l.take k)) (fixI z) = allB (l.take (k + 1)) := by
  unfold putItm allB
  rw [if_pos (fix_right z), List.take_add_one, h]
  simp
theorem allB_drop {l : List Itm} {k : Nat} {z : Itm} (h : l[k]? = some z) : allB (l.drop k) = bytesF (fixI z) ++ allB (l.drop (k + 1)) := by
  obtain ⟨hk, rfl⟩ := List.getElem?_eq_some_iff.mp h
  unfold allB
  rw [List.drop_eq_getElem_cons hk, List.flatMap_cons]
theorem allB_len (l : List Itm) : (allB l).length ≤ l.length * 1000 := by
  induction l with
  | nil => simp [allB]
  | cons z r ih =>
    have := bytesF_len (fix_right z)
    simp only [allB, List.flatMap_cons, List.length_append, List.length_cons] at ih ⊢
    omega

set_option maxRecDepth 100000 in
set_option maxHeartbeats 8000000 in
theorem itemPuts_walk (A : Option Addr) (n c : Nat) (zs : List Itm) (w : World) (hz : RowAt cellsI 9 w w.heap.size A n zs) (_hc : n ≤ c) (_hn : c ≤ 9223372036854775807) :
    Calls Try.prog 5 #[.slice A n c] w fun e w' => e = .returned (.bool true) ∧ Below w.heap.size w w' := by
  have HZ := Lib.hid hz
  have HL := Lib.hid hz.1
  clear hz
  go_enter Try.func5, Try.ntmps5
  go_upto_block 0 with fail
  go_cut [3] (fun b wr => ∃ (Ab : Option Addr) (cb gb : Nat) (bs : List UInt8), b = .slice Ab bs.length cb ∧ Hid (bs = allB (zs.take 20)) ∧ Hid (BytesAt wr gb Ab bs.length bs) ∧ Hid (Below w.heap.size w wr))
  case first =>
    go_wp2_with fail
    go_loopw [3, 4] (fun b i wr => ∃ (k : Nat) (Ab : Option Addr) (cb gb : Nat) (bs : List UInt8), i = .int .i64 k ∧ k ≤ n ∧ k ≤ 20 ∧ b = .slice Ab bs.length cb ∧ Hid (bs = allB (zs.take k)) ∧ Hid (BytesAt wr gb Ab bs.length bs) ∧ Hid (Below w.heap.size w wr)) (fun _ i _ => 20 - (intOf i).toNat)
    case atStart => exact ⟨0, none, 0, 0, [], rfl, by omega, by omega, rfl, rfl, BytesAt.nil _ _ _, Below.refl _ _⟩
    case round =>
      obtain ⟨k, Ab, cb, gb, bs, rfl, hk, hk20, rfl, HS, HY, HB⟩ := hrel
      by_cases h1 : k < n
      · by_cases h2 : k < 20
        · obtain ⟨b, off, rfl, hlt, z, hzk, hcell⟩ := HZ.out.get h1
          obtain ⟨e0, e1, e2, e3, e4, e5, e6, e7, e8⟩ := item_cells hcell
          have hbl : bs.length ≤ 100000000 := by
            have := allB_len (zs.take k)
            rw [HS.out]
            have h3 := List.length_take_le k zs
            omega
          replace e0 := (HB.out.cell (p := ⟨b, off + k * 9, none⟩) hlt).trans e0
          replace e1 := (HB.out.cell (p := ⟨b, off + k * 9 + 1, none⟩) hlt).trans e1
          replace e2 := (HB.out.cell (p := ⟨b, off + k * 9 + 2, none⟩) hlt).trans e2
          replace e3 := (HB.out.cell (p := ⟨b, off + k * 9 + 3, none⟩) hlt).trans e3
          replace e4 := (HB.out.cell (p := ⟨b, off + k * 9 + 4, none⟩) hlt).trans e4
          replace e5 := (HB.out.cell (p := ⟨b, off + k * 9 + 5, none⟩) hlt).trans e5
          replace e6 := (HB.out.cell (p := ⟨b, off + k * 9 + 6, none⟩) hlt).trans e6
          replace e7 := (HB.out.cell (p := ⟨b, off + k * 9 + 7, none⟩) hlt).trans e7
          replace e8 := (HB.out.cell (p := ⟨b, off + k * 9 + 8, none⟩) hlt).trans e8
          have hsm := right_small (fix_right z)
          have HX := Lib.hid (fixRef_any z)
          have HT := Lib.hid (to_any (fixI z))
          have HP := Lib.hid (itemPut_any (i := fixI z) Ab cb gb bs · · hbl hsm.1 hsm.2)
          have HN := Lib.hid (allB_snoc hzk)
          rw [← HS.out] at HN
          have h1' : (k : Int) < n := by omega
          have h2' : (k : Int) < 20 := by omega
          generalize putItm bs (fixI z) = P at *
          generalize fixI z = j at *
          clear hcell hsm hzk hbl HS
          obtain ⟨key, ⟨d, a, s⟩, dead, x, y, text, held⟩ := z
          obtain ⟨key2, ⟨d2, a2, s2⟩, dead2, x2, y2, text2, held2⟩ := j
          unfold refV itmV at *
          simp only at HX HT HP e0 e1 e2 e3 e4 e5 e6 e7 e8
          generalize fl x2 = fx at *
          generalize fl y2 = fy at *
          go_wp2_with fail
          refine (HX.out _).mono ?_
          rintro e w1 ⟨rfl, hb1⟩
          replace HY := Lib.hid (HY.out.keep hb1)
          replace HB := Lib.hid (HB.out.trans (hb1.mono HB.out.size))
          clear hb1 e0 e1 e2 e3 e4 e5 e6 e7 e8
          go_wp2_with fail
          refine (HT.out _).mono ?_
          rintro e w2 ⟨rfl, hb1⟩
          replace HY := Lib.hid (HY.out.keep hb1)
          replace HB := Lib.hid (HB.out.trans (hb1.mono HB.out.size))
          clear hb1
          go_wp2_with fail
          refine (HP.out _ HY.out).mono ?_
          rintro e w3 ⟨A3, c3, rfl, ho, hb1⟩
          obtain ⟨g3, hz3, _, _, _⟩ := own_bytes ho
          have HY3 := Lib.hid hz3
          replace HB := Lib.hid (HB.out.trans (hb1.mono HB.out.size))
          clear hb1 ho hz3 HP HT HX
          go_wp2
          go_roundw
          case rel => exact ⟨k + 1, A3, c3, g3, P, by go_num, by omega, by omega, rfl, HN, HY3, HB⟩
          case measure => simp [intOf]; omega
        · have h2' : decide ((k : Int) < 20) = false := by simp; omega
          have h1' : (k : Int) < n := by omega
          obtain rfl : k = 20 := by omega
          go_wp2
          go_meet
          case rel => exact ⟨Ab, cb, gb, bs, rfl, HS, HY, HB⟩
      · have h1' : decide ((k : Int) < n) = false := by simp; omega
        have HS' : Hid (bs = allB (zs.take 20)) := by
          show _ = _
          rw [HS.out, List.take_of_length_le (by rw [HL.out]; omega), List.take_of_length_le (by rw [HL.out]; omega)]
        go_wp2
        go_meet
        case rel => exact ⟨Ab, cb, gb, bs, rfl, HS', HY, HB⟩
  case rest =>
    obtain ⟨Ab, cb, gb, bs, rfl, HS, HY, HB⟩ := hcut
    have hbl : bs.length ≤ 1099511627776 := by
      have := allB_len (zs.take 20)
      rw [HS.out]
      have h3 := List.length_take_le 20 zs
      omega
    go_wp2_with fail
    refine (read_any Ab cb gb bs _ HY.out hbl).mono ?_
    rintro e w2 ⟨R, rg, rfl, hR, hlR, hlg, hb2⟩
    have hRw : w.heap.size ≤ R := Nat.le_trans HB.out.size hlR
    have hw0 := HB.out.size
    replace HB := Lib.hid (HB.out.trans (hb2.mono HB.out.size))
    have HR := Lib.hid hR
    have HRG : Hid (bs ≠ [] → w.heap.size ≤ rg) := fun h => Nat.le_trans hw0 (hlg h)
    clear hR hlg hb2 hlR HY hbl hw0
    go_upto_block 2 with fail
    go_cut [6] (fun i wr => ∃ (k : Nat), i = .int .i64 k ∧ Hid (ReaderAt wr R rg ([], 0)) ∧ Hid (Below w.heap.size w wr))
    case first =>
      go_wp2_with fail
      go_loopw [6] (fun i wr => ∃ (k : Nat), i = .int .i64 k ∧ k ≤ n ∧ k ≤ 20 ∧ Hid (ReaderAt wr R rg (allB ((zs.take 20).drop k), 0)) ∧ Hid (Below w.heap.size w wr)) (fun i _ => 20 - (intOf i).toNat)
      case atStart => exact ⟨0, rfl, by omega, by omega, by rw [List.drop_zero, ← HS.out]; exact HR, HB⟩
      case round =>
        clear HR HB
        obtain ⟨k, rfl, hk, hk20, HR, HB⟩ := hrel
        by_cases h1 : k < n
        · by_cases h2 : k < 20
          · obtain ⟨b, off, rfl, hlt, z, hzk, hcell⟩ := HZ.out.get h1
            obtain ⟨e0, e1, e2, e3, e4, e5, e6, e7, e8⟩ := item_cells hcell
            replace e0 := (HB.out.cell (p := ⟨b, off + k * 9, none⟩) hlt).trans e0
            replace e1 := (HB.out.cell (p := ⟨b, off + k * 9 + 1, none⟩) hlt).trans e1
            replace e2 := (HB.out.cell (p := ⟨b, off + k * 9 + 2, none⟩) hlt).trans e2
            replace e3 := (HB.out.cell (p := ⟨b, off + k * 9 + 3, none⟩) hlt).trans e3
            replace e4 := (HB.out.cell (p := ⟨b, off + k * 9 + 4, none⟩) hlt).trans e4
            replace e5 := (HB.out.cell (p := ⟨b, off + k * 9 + 5, none⟩) hlt).trans e5
            replace e6 := (HB.out.cell (p := ⟨b, off + k * 9 + 6, none⟩) hlt).trans e6
            replace e7 := (HB.out.cell (p := ⟨b, off + k * 9 + 7, none⟩) hlt).trans e7
            replace e8 := (HB.out.cell (p := ⟨b, off + k * 9 + 8, none⟩) hlt).trans e8
            have hz20 : (zs.take 20)[k]? = some z := by rw [List.getElem?_take_of_lt h2]; exact hzk
            have hD := allB_drop hz20
            have hsm := right_small (fix_right z)
            have tb := take_bytes (fix_right z) (allB ((zs.take 20).drop (k + 1)))
            rw [← hD] at tb
            have HTK : Hid (∀ w, ReaderAt w R rg (allB ((zs.take 20).drop k), 0) → Calls Try.prog 25 #[.pointer (some ⟨R, 0, none⟩)] w (RdRet (.tuple #[itmV (fixI z), .bool true]) R rg (allB ((zs.take 20).drop (k + 1)), 0) w)) := fun w h => by
              have := take_any w h
              rwa [tb.1, tb.2.1, tb.2.2, if_pos rfl] at this
            have HX := Lib.hid (fixRef_any z)
            have HF := Lib.hid (from_any (fixI z) hsm.1 hsm.2)
            have HNE := neq_ref (fixI z)
            have h1' : (k : Int) < n := by omega
            have h2' : (k : Int) < 20 := by omega
            have hbR : b ≠ R := by omega
            have ne : some b ≠ (some R : Option Nat) := fun e => by injection e with e; exact hbR e
            have hrn : allB ((zs.take 20).drop (k + 1)) ≠ [] → bs ≠ [] := fun h e => by
              rw [HS.out] at e
              have h3 : allB (zs.take 20) = allB ((zs.take 20).take (k + 1)) ++ allB ((zs.take 20).drop (k + 1)) := by
                unfold allB
                rw [← List.flatMap_append, List.take_append_drop]
              rw [h3] at e
              exact h (List.append_eq_nil_iff.mp e).2
            have HRN := Lib.hid hrn
            generalize allB ((zs.take 20).drop k) = S0 at *
            generalize hS1 : allB ((zs.take 20).drop (k + 1)) = S1 at *
            have HS1 := Lib.hid hS1
            generalize fixI z = j at *
            clear hcell hsm hzk hz20 hD tb hbR hS1 hrn
            obtain ⟨key, ⟨d, a, s⟩, dead, x, y, text, held⟩ := z
            obtain ⟨key2, ⟨d2, a2, s2⟩, dead2, x2, y2, text2, held2⟩ := j
            unfold refV itmV at *
            simp only at HX HF HTK HNE e0 e1 e2 e3 e4 e5 e6 e7 e8
            generalize fl x2 = fx at *
            generalize fl y2 = fy at *
            have hst := store_complex
            have hbl : b < wr.heap.size := Nat.lt_of_lt_of_le hlt HB.out.size
            go_wp2_with fail
            refine (HTK.out _ HR.out).mono ?_
            rintro e w5 ⟨rfl, hR5, hg5⟩
            replace HR := Lib.hid hR5
            replace HB := Lib.hid (HB.out.grown hg5 HB.out.size (fun k e => by injection e with e; omega))
            replace e0 := (World.cell?_of_block (a := ⟨b, off + k * 9, none⟩) (hg5.block b hbl ne)).trans e0
            replace e1 := (World.cell?_of_block (a := ⟨b, off + k * 9 + 1, none⟩) (hg5.block b hbl ne)).trans e1
            replace e2 := (World.cell?_of_block (a := ⟨b, off + k * 9 + 2, none⟩) (hg5.block b hbl ne)).trans e2
            replace e3 := (World.cell?_of_block (a := ⟨b, off + k * 9 + 3, none⟩) (hg5.block b hbl ne)).trans e3
            replace e4 := (World.cell?_of_block (a := ⟨b, off + k * 9 + 4, none⟩) (hg5.block b hbl ne)).trans e4
            replace e5 := (World.cell?_of_block (a := ⟨b, off + k * 9 + 5, none⟩) (hg5.block b hbl ne)).trans e5
            replace e6 := (World.cell?_of_block (a := ⟨b, off + k * 9 + 6, none⟩) (hg5.block b hbl ne)).trans e6
            replace e7 := (World.cell?_of_block (a := ⟨b, off + k * 9 + 7, none⟩) (hg5.block b hbl ne)).trans e7
            replace e8 := (World.cell?_of_block (a := ⟨b, off + k * 9 + 8, none⟩) (hg5.block b hbl ne)).trans e8
            replace hbl := Nat.lt_of_lt_of_le hbl hg5.size
            clear hR5 hg5 HTK
            go_upto_region 11 with fail
            have hb : Below w5.heap.size w5 (w5.alloc (.cells #[.int .i64 key2, .string d2, .int .i64 a2, .int .i64 s2, .bool dead2, .complex .f64 fx fy, .string text2, .bool held2] 40)) := (Below.refl _ _).alloc (Nat.le_refl _) _
            have k0 : (w5.alloc (.cells #[.int .i64 key2, .string d2, .int .i64 a2, .int .i64 s2, .bool dead2, .complex .f64 fx fy, .string text2, .bool held2] 40)).cell? ⟨w5.heap.size, 0, none⟩ = some (.int .i64 key2) := by simp [go_sem]
            have kf0 : (w5.alloc (.cells #[.int .i64 key2, .string d2, .int .i64 a2, .int .i64 s2, .bool dead2, .complex .f64 fx fy, .string text2, .bool held2] 40)).frozen? ⟨w5.heap.size, 0, none⟩ = false := by simp [go_sem]
            have k1 : (w5.alloc (.cells #[.int .i64 key2, .string d2, .int .i64 a2, .int .i64 s2, .bool dead2, .complex .f64 fx fy, .string text2, .bool held2] 40)).cell? ⟨w5.heap.size, 1, none⟩ = some (.string d2) := by simp [go_sem]
            have kf1 : (w5.alloc (.cells #[.int .i64 key2, .string d2, .int .i64 a2, .int .i64 s2, .bool dead2, .complex .f64 fx fy, .string text2, .bool held2] 40)).frozen? ⟨w5.heap.size, 1, none⟩ = false := by simp [go_sem]
            have k2 : (w5.alloc (.cells #[.int .i64 key2, .string d2, .int .i64 a2, .int .i64 s2, .bool dead2, .complex .f64 fx fy, .string text2, .bool held2] 40)).cell? ⟨w5.heap.size, 2, none⟩ = some (.int .i64 a2) := by simp [go_sem]
            have kf2 : (w5.alloc (.cells #[.int .i64 key2, .string d2, .int .i64 a2, .int .i64 s2, .bool dead2, .complex .f64 fx fy, .string text2, .bool held2] 40)).frozen? ⟨w5.heap.size, 2, none⟩ = false := by simp [go_sem]
            have k3 : (w5.alloc (.cells #[.int .i64 key2, .string d2, .int .i64 a2, .int .i64 s2, .bool dead2, .complex .f64 fx fy, .string text2, .bool held2] 40)).cell? ⟨w5.heap.size, 3, none⟩ = some (.int .i64 s2) := by simp [go_sem]
            have kf3 : (w5.alloc (.cells #[.int .i64 key2, .string d2, .int .i64 a2, .int .i64 s2, .bool dead2, .complex .f64 fx fy, .string text2, .bool held2] 40)).frozen? ⟨w5.heap.size, 3, none⟩ = false := by simp [go_sem]
            have k4 : (w5.alloc (.cells #[.int .i64 key2, .string d2, .int .i64 a2, .int .i64 s2, .bool dead2, .complex .f64 fx fy, .string text2, .bool held2] 40)).cell? ⟨w5.heap.size, 4, none⟩ = some (.bool dead2) := by simp [go_sem]
            have kf4 : (w5.alloc (.cells #[.int .i64 key2, .string d2, .int .i64 a2, .int .i64 s2, .bool dead2, .complex .f64 fx fy, .string text2, .bool held2] 40)).frozen? ⟨w5.heap.size, 4, none⟩ = false := by simp [go_sem]
            have k5 : (w5.alloc (.cells #[.int .i64 key2, .string d2, .int .i64 a2, .int .i64 s2, .bool dead2, .complex .f64 fx fy, .string text2, .bool held2] 40)).cell? ⟨w5.heap.size, 5, none⟩ = some (.complex .f64 fx fy) := by simp [go_sem]
            have kf5 : (w5.alloc (.cells #[.int .i64 key2, .string d2, .int .i64 a2, .int .i64 s2, .bool dead2, .complex .f64 fx fy, .string text2, .bool held2] 40)).frozen? ⟨w5.heap.size, 5, none⟩ = false := by simp [go_sem]
            have k6 : (w5.alloc (.cells #[.int .i64 key2, .string d2, .int .i64 a2, .int .i64 s2, .bool dead2, .complex .f64 fx fy, .string text2, .bool held2] 40)).cell? ⟨w5.heap.size, 6, none⟩ = some (.string text2) := by simp [go_sem]
            have kf6 : (w5.alloc (.cells #[.int .i64 key2, .string d2, .int .i64 a2, .int .i64 s2, .bool dead2, .complex .f64 fx fy, .string text2, .bool held2] 40)).frozen? ⟨w5.heap.size, 6, none⟩ = false := by simp [go_sem]
            have k7 : (w5.alloc (.cells #[.int .i64 key2, .string d2, .int .i64 a2, .int .i64 s2, .bool dead2, .complex .f64 fx fy, .string text2, .bool held2] 40)).cell? ⟨w5.heap.size, 7, none⟩ = some (.bool held2) := by simp [go_sem]
            have kf7 : (w5.alloc (.cells #[.int .i64 key2, .string d2, .int .i64 a2, .int .i64 s2, .bool dead2, .complex .f64 fx fy, .string text2, .bool held2] 40)).frozen? ⟨w5.heap.size, 7, none⟩ = false := by simp [go_sem]
            have kz : w5.heap.size < (w5.alloc (.cells #[.int .i64 key2, .string d2, .int .i64 a2, .int .i64 s2, .bool dead2, .complex .f64 fx fy, .string text2, .bool held2] 40)).heap.size := by simp <;> omega
            replace e0 := (hb.cell (p := ⟨b, off + k * 9, none⟩) hbl).trans e0
            replace e1 := (hb.cell (p := ⟨b, off + k * 9 + 1, none⟩) hbl).trans e1
            replace e2 := (hb.cell (p := ⟨b, off + k * 9 + 2, none⟩) hbl).trans e2
            replace e3 := (hb.cell (p := ⟨b, off + k * 9 + 3, none⟩) hbl).trans e3
            replace e4 := (hb.cell (p := ⟨b, off + k * 9 + 4, none⟩) hbl).trans e4
            replace e5 := (hb.cell (p := ⟨b, off + k * 9 + 5, none⟩) hbl).trans e5
            replace e6 := (hb.cell (p := ⟨b, off + k * 9 + 6, none⟩) hbl).trans e6
            replace e7 := (hb.cell (p := ⟨b, off + k * 9 + 7, none⟩) hbl).trans e7
            replace e8 := (hb.cell (p := ⟨b, off + k * 9 + 8, none⟩) hbl).trans e8
            replace HR := Lib.hid (HR.out.keep hb)
            replace HB := Lib.hid (HB.out.trans (hb.mono HB.out.size))
            replace hbl := Nat.lt_of_lt_of_le hbl hb.size
            clear hb
            generalize (w5.alloc (.cells #[.int .i64 key2, .string d2, .int .i64 a2, .int .i64 s2, .bool dead2, .complex .f64 fx fy, .string text2, .bool held2] 40)) = W5 at *
            generalize w5.heap.size = X at *
            refine wp_region_held_drew (S := fun w' => w'.cell? ⟨X, 0, none⟩ = some (.int .i64 key2) ∧ w'.cell? ⟨X, 1, none⟩ = some (.string d2) ∧ w'.cell? ⟨X, 2, none⟩ = some (.int .i64 a2) ∧ w'.cell? ⟨X, 3, none⟩ = some (.int .i64 s2) ∧ w'.cell? ⟨X, 4, none⟩ = some (.bool dead2) ∧ w'.cell? ⟨X, 5, none⟩ = some (.complex .f64 fx fy) ∧ w'.cell? ⟨X, 6, none⟩ = some (.string text2) ∧ w'.cell? ⟨X, 7, none⟩ = some (.bool held2) ∧ w'.cell? ⟨b, off + k * 9, none⟩ = some (.int .i64 key) ∧ w'.cell? ⟨b, off + k * 9 + 1, none⟩ = some (.string d) ∧ w'.cell? ⟨b, off + k * 9 + 2, none⟩ = some (.int .i64 a) ∧ w'.cell? ⟨b, off + k * 9 + 3, none⟩ = some (.int .i64 s) ∧ w'.cell? ⟨b, off + k * 9 + 4, none⟩ = some (.bool dead) ∧ w'.cell? ⟨b, off + k * 9 + 5, none⟩ = some (.int .i64 x) ∧ w'.cell? ⟨b, off + k * 9 + 6, none⟩ = some (.int .i64 y) ∧ w'.cell? ⟨b, off + k * 9 + 7, none⟩ = some (.string text) ∧ w'.cell? ⟨b, off + k * 9 + 8, none⟩ = some (.bool held)) (by kernel_rfl) ⟨k0, k1, k2, k3, k4, k5, k6, k7, e0, e1, e2, e3, e4, e5, e6, e7, e8⟩ (fun hHeld => ?_)
            refine wpAnyH_take (i := 0) (oi := { dst := some 44, op := Go.Op.move (Go.Operand.tmp 8), type := 4, pos := "law.go:67", after := #[], guard := none }) (v := ?_) rfl (by kernel_rfl) (by kernel_rfl) (by kernel_rfl) (fun _ _ _ h => h) (Or.inl ⟨rfl, ?_⟩) (by assumption) ?_
            rotate_left
            · intro wz hSw; (try dsimp only at hSw); go_simp; try (with_reducible rfl)
            try simp only [Act.put, List.setIfInBounds_toArray, List.set_cons_zero, List.set_cons_succ]
            refine wpAnyH_take (i := 1) (oi := { dst := some 45, op := Go.Op.unOp Go.UnOp.not 4 (Go.Operand.tmp 44), type := 4, pos := "law.go:67", after := #[{ on := 0, ground := Go.Ground.data }], guard := none }) (v := ?_) rfl (by kernel_rfl) (by kernel_rfl) (by kernel_rfl) (fun _ _ _ h => h) (Or.inl ⟨rfl, ?_⟩) (by assumption) ?_
            rotate_left
            · intro wz hSw; (try dsimp only at hSw); go_simp; try (with_reducible rfl)
            try simp only [Act.put, List.setIfInBounds_toArray, List.set_cons_zero, List.set_cons_succ]
            refine wpAnyH_take (i := 2) (oi := { dst := some 46, op := Go.Op.move (Go.Operand.tmp 45), type := 4, pos := "law.go:67", after := #[{ on := 1, ground := Go.Ground.data }], guard := none }) (v := ?_) rfl (by kernel_rfl) (by kernel_rfl) (by kernel_rfl) (fun _ _ _ h => h) (Or.inl ⟨rfl, ?_⟩) (by assumption) ?_
            rotate_left
            · intro wz hSw; (try dsimp only at hSw); go_simp; try (with_reducible rfl)
            try simp only [Act.put, List.setIfInBounds_toArray, List.set_cons_zero, List.set_cons_succ]
            refine wpAnyH_take (i := 3) (oi := { dst := some 47, op := Go.Op.load 40 (Go.Operand.tmp 7), type := 40, pos := "law.go:67", after := #[{ on := 2, ground := Go.Ground.guard }], guard := some (2, false) }) (v := ?_) rfl (by kernel_rfl) (by kernel_rfl) (by kernel_rfl) (fun _ _ _ h => h) (Or.inl ⟨rfl, ?_⟩) (by assumption) ?_
            rotate_left
            · intro wz hSw; (try dsimp only at hSw); go_simp; try (with_reducible rfl)
            try simp only [Act.put, List.setIfInBounds_toArray, List.set_cons_zero, List.set_cons_succ]
            refine wpAnyH_take (i := 5) (oi := { dst := some 49, op := Go.Op.move (Go.Operand.tmp 0), type := 50, pos := "law.go:67", after := #[{ on := 2, ground := Go.Ground.guard }], guard := some (2, false) }) (v := ?_) rfl (by kernel_rfl) (by kernel_rfl) (by kernel_rfl) (fun _ _ _ h => h) (Or.inl ⟨rfl, ?_⟩) (by assumption) ?_
            rotate_left
            · intro wz hSw; (try dsimp only at hSw); go_simp; try (with_reducible rfl)
            try simp only [Act.put, List.setIfInBounds_toArray, List.set_cons_zero, List.set_cons_succ]
            refine wpAnyH_take (i := 6) (oi := { dst := some 50, op := Go.Op.move (Go.Operand.tmp 6), type := 3, pos := "law.go:67", after := #[{ on := 2, ground := Go.Ground.guard }], guard := some (2, false) }) (v := ?_) rfl (by kernel_rfl) (by kernel_rfl) (by kernel_rfl) (fun _ _ _ h => h) (Or.inl ⟨rfl, ?_⟩) (by assumption) ?_
            rotate_left
            · intro wz hSw; (try dsimp only at hSw); go_simp; try (with_reducible rfl)
            try simp only [Act.put, List.setIfInBounds_toArray, List.set_cons_zero, List.set_cons_succ]
            refine wpAnyH_take (i := 7) (oi := { dst := some 51, op := Go.Op.indexAddr 50 (Go.Operand.tmp 49) (Go.Operand.tmp 50), type := 0, pos := "law.go:67", after := #[{ on := 5, ground := Go.Ground.data }, { on := 6, ground := Go.Ground.data }, { on := 2, ground := Go.Ground.guard }], guard := some (2, false) }) (v := ?_) rfl (by kernel_rfl) (by kernel_rfl) (by kernel_rfl) (fun _ _ _ h => h) (Or.inl ⟨rfl, ?_⟩) (by assumption) ?_
            rotate_left
            · intro wz hSw; (try dsimp only at hSw); go_simp; try (with_reducible rfl)
            try simp only [Act.put, List.setIfInBounds_toArray, List.set_cons_zero, List.set_cons_succ]
            refine wpAnyH_take (i := 8) (oi := { dst := some 52, op := Go.Op.load 35 (Go.Operand.tmp 51), type := 35, pos := "law.go:67", after := #[{ on := 7, ground := Go.Ground.data }, { on := 2, ground := Go.Ground.guard }], guard := some (2, false) }) (v := ?_) rfl (by kernel_rfl) (by kernel_rfl) (by kernel_rfl) (fun _ _ _ h => h) (Or.inl ⟨rfl, ?_⟩) (by assumption) ?_
            rotate_left
            · intro wz hSw; (try dsimp only at hSw); go_simp; try (with_reducible rfl)
            try simp only [Act.put, List.setIfInBounds_toArray, List.set_cons_zero, List.set_cons_succ]
            refine wpAnyH_ready (rs := [4]) (by kernel_rfl) (by simp) ?_
            refine AllReadyH.cons (o := { dst := some 48, op := Go.Op.call { callee := Go.Callee.value (Go.Operand.func 17), args := #[Go.Operand.tmp 47], argTypes := #[40] }, type := 35, pos := "law.go:67", after := #[{ on := 3, ground := Go.Ground.data }, { on := 2, ground := Go.Ground.chain }, { on := 2, ground := Go.Ground.guard }], guard := some (2, false) }) rfl (fun K hK => ?_) AllReadyH.nil
            go_simp
            go_at_call 17
            refine (HF.out _).mono ?_
            rintro e v ⟨rfl, hb⟩
            replace k0 := (hb.cell (p := ⟨X, 0, none⟩) kz).trans k0
            replace kf0 := (hb.frozen (p := ⟨X, 0, none⟩) kz).trans kf0
            replace k1 := (hb.cell (p := ⟨X, 1, none⟩) kz).trans k1
            replace kf1 := (hb.frozen (p := ⟨X, 1, none⟩) kz).trans kf1
            replace k2 := (hb.cell (p := ⟨X, 2, none⟩) kz).trans k2
            replace kf2 := (hb.frozen (p := ⟨X, 2, none⟩) kz).trans kf2
            replace k3 := (hb.cell (p := ⟨X, 3, none⟩) kz).trans k3
            replace kf3 := (hb.frozen (p := ⟨X, 3, none⟩) kz).trans kf3
            replace k4 := (hb.cell (p := ⟨X, 4, none⟩) kz).trans k4
            replace kf4 := (hb.frozen (p := ⟨X, 4, none⟩) kz).trans kf4
            replace k5 := (hb.cell (p := ⟨X, 5, none⟩) kz).trans k5
            replace kf5 := (hb.frozen (p := ⟨X, 5, none⟩) kz).trans kf5
            replace k6 := (hb.cell (p := ⟨X, 6, none⟩) kz).trans k6
            replace kf6 := (hb.frozen (p := ⟨X, 6, none⟩) kz).trans kf6
            replace k7 := (hb.cell (p := ⟨X, 7, none⟩) kz).trans k7
            replace kf7 := (hb.frozen (p := ⟨X, 7, none⟩) kz).trans kf7
            replace kz := Nat.lt_of_lt_of_le kz hb.size
            replace e0 := (hb.cell (p := ⟨b, off + k * 9, none⟩) hbl).trans e0
            replace e1 := (hb.cell (p := ⟨b, off + k * 9 + 1, none⟩) hbl).trans e1
            replace e2 := (hb.cell (p := ⟨b, off + k * 9 + 2, none⟩) hbl).trans e2
            replace e3 := (hb.cell (p := ⟨b, off + k * 9 + 3, none⟩) hbl).trans e3
            replace e4 := (hb.cell (p := ⟨b, off + k * 9 + 4, none⟩) hbl).trans e4
            replace e5 := (hb.cell (p := ⟨b, off + k * 9 + 5, none⟩) hbl).trans e5
            replace e6 := (hb.cell (p := ⟨b, off + k * 9 + 6, none⟩) hbl).trans e6
            replace e7 := (hb.cell (p := ⟨b, off + k * 9 + 7, none⟩) hbl).trans e7
            replace e8 := (hb.cell (p := ⟨b, off + k * 9 + 8, none⟩) hbl).trans e8
            replace hbl := Nat.lt_of_lt_of_le hbl hb.size
            replace HR := Lib.hid (HR.out.keep (below_via (Below.refl _ _) hb (Nat.le_refl _) ⟨rfl, rfl, rfl, rfl⟩))
            replace HB := Lib.hid (below_via HB.out hb HB.out.size ⟨rfl, rfl, rfl, rfl⟩)
            clear hb
            refine hK.out _ _ ⟨k0, k1, k2, k3, k4, k5, k6, k7, e0, e1, e2, e3, e4, e5, e6, e7, e8⟩ (fun hHeld => ?_)
            clear hK K
            try simp only [Act.put, List.setIfInBounds_toArray, List.set_cons_zero, List.set_cons_succ]
            refine wpAnyH_ready (rs := [9]) (by kernel_rfl) (by simp) ?_
            refine AllReadyH.cons (o := { dst := some 53, op := Go.Op.call { callee := Go.Callee.value (Go.Operand.func 23), args := #[Go.Operand.tmp 52], argTypes := #[35] }, type := 35, pos := "law.go:67", after := #[{ on := 8, ground := Go.Ground.data }, { on := 4, ground := Go.Ground.chain }, { on := 2, ground := Go.Ground.guard }], guard := some (2, false) }) rfl (fun K hK => ?_) AllReadyH.nil
            go_simp
            go_at_call 23
            refine (HX.out _).mono ?_
            rintro e v ⟨rfl, hb⟩
            replace k0 := (hb.cell (p := ⟨X, 0, none⟩) kz).trans k0
            replace kf0 := (hb.frozen (p := ⟨X, 0, none⟩) kz).trans kf0
            replace k1 := (hb.cell (p := ⟨X, 1, none⟩) kz).trans k1
            replace kf1 := (hb.frozen (p := ⟨X, 1, none⟩) kz).trans kf1
            replace k2 := (hb.cell (p := ⟨X, 2, none⟩) kz).trans k2
            replace kf2 := (hb.frozen (p := ⟨X, 2, none⟩) kz).trans kf2
            replace k3 := (hb.cell (p := ⟨X, 3, none⟩) kz).trans k3
            replace kf3 := (hb.frozen (p := ⟨X, 3, none⟩) kz).trans kf3
            replace k4 := (hb.cell (p := ⟨X, 4, none⟩) kz).trans k4
            replace kf4 := (hb.frozen (p := ⟨X, 4, none⟩) kz).trans kf4
            replace k5 := (hb.cell (p := ⟨X, 5, none⟩) kz).trans k5
            replace kf5 := (hb.frozen (p := ⟨X, 5, none⟩) kz).trans kf5
            replace k6 := (hb.cell (p := ⟨X, 6, none⟩) kz).trans k6
            replace kf6 := (hb.frozen (p := ⟨X, 6, none⟩) kz).trans kf6
            replace k7 := (hb.cell (p := ⟨X, 7, none⟩) kz).trans k7
            replace kf7 := (hb.frozen (p := ⟨X, 7, none⟩) kz).trans kf7
            replace kz := Nat.lt_of_lt_of_le kz hb.size
            replace e0 := (hb.cell (p := ⟨b, off + k * 9, none⟩) hbl).trans e0
            replace e1 := (hb.cell (p := ⟨b, off + k * 9 + 1, none⟩) hbl).trans e1
            replace e2 := (hb.cell (p := ⟨b, off + k * 9 + 2, none⟩) hbl).trans e2
            replace e3 := (hb.cell (p := ⟨b, off + k * 9 + 3, none⟩) hbl).trans e3
            replace e4 := (hb.cell (p := ⟨b, off + k * 9 + 4, none⟩) hbl).trans e4
            replace e5 := (hb.cell (p := ⟨b, off + k * 9 + 5, none⟩) hbl).trans e5
            replace e6 := (hb.cell (p := ⟨b, off + k * 9 + 6, none⟩) hbl).trans e6
            replace e7 := (hb.cell (p := ⟨b, off + k * 9 + 7, none⟩) hbl).trans e7
            replace e8 := (hb.cell (p := ⟨b, off + k * 9 + 8, none⟩) hbl).trans e8
            replace hbl := Nat.lt_of_lt_of_le hbl hb.size
            replace HR := Lib.hid (HR.out.keep (below_via (Below.refl _ _) hb (Nat.le_refl _) ⟨rfl, rfl, rfl, rfl⟩))
            replace HB := Lib.hid (below_via HB.out hb HB.out.size ⟨rfl, rfl, rfl, rfl⟩)
            clear hb
            refine hK.out _ _ ⟨k0, k1, k2, k3, k4, k5, k6, k7, e0, e1, e2, e3, e4, e5, e6, e7, e8⟩ (fun hHeld => ?_)
            clear hK K
            try simp only [Act.put, List.setIfInBounds_toArray, List.set_cons_zero, List.set_cons_succ]
            refine wpAnyH_take (i := 10) (oi := { dst := some 54, op := Go.Op.binOp Go.BinOp.neq 35 (Go.Operand.tmp 48) (Go.Operand.tmp 53) 35, type := 4, pos := "law.go:67", after := #[{ on := 4, ground := Go.Ground.data }, { on := 9, ground := Go.Ground.data }, { on := 2, ground := Go.Ground.guard }], guard := some (2, false) }) (v := ?_) rfl (by kernel_rfl) (by kernel_rfl) (by kernel_rfl) (fun _ _ _ h => h) (Or.inl ⟨rfl, ?_⟩) (by assumption) ?_
            rotate_left
            · intro wz hSw; (try dsimp only at hSw); go_simp; try (with_reducible rfl)
            try simp only [Act.put, List.setIfInBounds_toArray, List.set_cons_zero, List.set_cons_succ]
            refine wpAnyH_take (i := 11) (oi := { dst := some 55, op := Go.Op.pick (Go.Operand.tmp 46) (Go.Operand.const (Go.Value.bool true)) (Go.Operand.tmp 54), type := 4, pos := "law.go:67", after := #[{ on := 2, ground := Go.Ground.data }, { on := 10, ground := Go.Ground.data }], guard := none }) (v := ?_) rfl (by kernel_rfl) (by kernel_rfl) (by kernel_rfl) (fun _ _ _ h => h) (Or.inl ⟨rfl, ?_⟩) (by assumption) ?_
            rotate_left
            · intro wz hSw; (try dsimp only at hSw); go_simp; try (with_reducible rfl)
            try simp only [Act.put, List.setIfInBounds_toArray, List.set_cons_zero, List.set_cons_succ]
            refine wpAnyH_done (by kernel_rfl) ?_ _
            go_wp2
            go_roundw
            case rel => exact ⟨k + 1, by go_num, by omega, by omega, by rw [HS1.out]; exact HR, HB⟩
            case measure => simp [intOf]; omega
          · have h2' : decide ((k : Int) < 20) = false := by simp; omega
            have h1' : (k : Int) < n := by omega
            obtain rfl : k = 20 := by omega
            have HE : Hid (ReaderAt wr R rg ([], 0)) := by
              have := HR.out
              rw [List.drop_of_length_le (List.length_take_le _ _)] at this
              exact this
            go_wp2
            go_meet
            case rel => exact ⟨20, rfl, HE, HB⟩
        · have h1' : decide ((k : Int) < n) = false := by simp; omega
          have HE : Hid (ReaderAt wr R rg ([], 0)) := by
            have := HR.out
            rw [List.drop_of_length_le (by rw [List.length_take, HL.out]; omega)] at this
            exact this
          go_wp2
          go_meet
          case rel => exact ⟨k, rfl, HE, HB⟩
    case rest =>
      clear HR HB
      obtain ⟨k, rfl, HR, HB⟩ := hcut
      go_wp2_with fail
      refine (told_any _).mono ?_
      rintro e w7 ⟨rfl, hb⟩
      replace HR := Lib.hid (HR.out.keep hb)
      replace HB := Lib.hid (HB.out.trans (hb.mono HB.out.size))
      clear hb
      go_wp2_with fail
      refine (end_any _ HR.out).mono ?_
      rintro e w8 ⟨rfl, rfl⟩
      have h0 : ((endF ([], 0) : Nat) : Int) = 0 := rfl
      rw [h0]
      go_wp2
      go_ret
      exact ⟨rfl, HB.out⟩
end Go.Proofs.Ytophhjknbanafaa
