/- The reference's Get and Drop of a Store. -/
import Derived.Test.YtpaiigminmakgaaPg
namespace Go.Proofs.Ytpaiigminmakgaa
open Go.RowKit

def GetR (o : Option Itm) : Value := .tuple #[refV (o.getD zeroIt), .bool o.isSome]
theorem getR_none : GetR none = .tuple #[.agg #[.int .i64 0, .string ⟨#[]⟩, .int .i64 0, .int .i64 0, .bool false, .int .i64 0, .int .i64 0, .string ⟨#[]⟩, .bool false], .bool false] := rfl
theorem getF_step {zs : List Itm} {k : Int} {j : Nat} {z : Itm} (h : zs[j]? = some z) (hk : z.key ≠ k) : getF (zs.drop j) k = getF (zs.drop (j + 1)) k := by
  obtain ⟨hj, rfl⟩ := List.getElem?_eq_some_iff.mp h
  unfold getF
  rw [List.drop_eq_getElem_cons hj, List.find?_cons_of_neg (by simpa using hk)]
theorem getF_hit {zs : List Itm} {k : Int} {j : Nat} {z : Itm} (h : zs[j]? = some z) (hk : z.key = k) : getF (zs.drop j) k = some z := by
  obtain ⟨hj, rfl⟩ := List.getElem?_eq_some_iff.mp h
  unfold getF
  rw [List.drop_eq_getElem_cons hj, List.find?_cons_of_pos (by simpa using hk)]
set_option maxRecDepth 100000 in
set_option maxHeartbeats 2000000 in
theorem rget_any (A : Option Addr) (n c : Nat) (zs : List Itm) (k : Int) (B : Nat) (w : World) (hB : B ≤ w.heap.size) (hz : RowAt cellsI 9 w B A n zs) (hn : n ≤ 1099511627776) :
    Calls Try.prog 20 #[.slice A n c, .int .i64 k] w fun e w' => e = .returned (GetR (getF zs k)) ∧ Below w.heap.size w w' := by
  have HZ := Lib.hid hz
  have HL := Lib.hid hz.1
  clear hz
  generalize hG : GetR (getF zs k) = G
  have HG : Hid (GetR (getF (zs.drop 0) k) = G) := hG
  clear hG
  go_enter Try.func20, Try.ntmps20
  go_wp2
  have z0 : (w.alloc (.cells #[.int .i64 0, .string ⟨#[]⟩, .int .i64 0, .int .i64 0, .bool false, .int .i64 0, .int .i64 0, .string ⟨#[]⟩, .bool false] 28)).cell? ⟨w.heap.size, 0, none⟩ = some (.int .i64 0) := by simp [go_sem]
  have zf0 : (w.alloc (.cells #[.int .i64 0, .string ⟨#[]⟩, .int .i64 0, .int .i64 0, .bool false, .int .i64 0, .int .i64 0, .string ⟨#[]⟩, .bool false] 28)).frozen? ⟨w.heap.size, 0, none⟩ = false := by simp [go_sem]
  have z1 : (w.alloc (.cells #[.int .i64 0, .string ⟨#[]⟩, .int .i64 0, .int .i64 0, .bool false, .int .i64 0, .int .i64 0, .string ⟨#[]⟩, .bool false] 28)).cell? ⟨w.heap.size, 1, none⟩ = some (.string ⟨#[]⟩) := by simp [go_sem]
  have zf1 : (w.alloc (.cells #[.int .i64 0, .string ⟨#[]⟩, .int .i64 0, .int .i64 0, .bool false, .int .i64 0, .int .i64 0, .string ⟨#[]⟩, .bool false] 28)).frozen? ⟨w.heap.size, 1, none⟩ = false := by simp [go_sem]
  have z2 : (w.alloc (.cells #[.int .i64 0, .string ⟨#[]⟩, .int .i64 0, .int .i64 0, .bool false, .int .i64 0, .int .i64 0, .string ⟨#[]⟩, .bool false] 28)).cell? ⟨w.heap.size, 2, none⟩ = some (.int .i64 0) := by simp [go_sem]
  have zf2 : (w.alloc (.cells #[.int .i64 0, .string ⟨#[]⟩, .int .i64 0, .int .i64 0, .bool false, .int .i64 0, .int .i64 0, .string ⟨#[]⟩, .bool false] 28)).frozen? ⟨w.heap.size, 2, none⟩ = false := by simp [go_sem]
  have z3 : (w.alloc (.cells #[.int .i64 0, .string ⟨#[]⟩, .int .i64 0, .int .i64 0, .bool false, .int .i64 0, .int .i64 0, .string ⟨#[]⟩, .bool false] 28)).cell? ⟨w.heap.size, 3, none⟩ = some (.int .i64 0) := by simp [go_sem]
  have zf3 : (w.alloc (.cells #[.int .i64 0, .string ⟨#[]⟩, .int .i64 0, .int .i64 0, .bool false, .int .i64 0, .int .i64 0, .string ⟨#[]⟩, .bool false] 28)).frozen? ⟨w.heap.size, 3, none⟩ = false := by simp [go_sem]
  have z4 : (w.alloc (.cells #[.int .i64 0, .string ⟨#[]⟩, .int .i64 0, .int .i64 0, .bool false, .int .i64 0, .int .i64 0, .string ⟨#[]⟩, .bool false] 28)).cell? ⟨w.heap.size, 4, none⟩ = some (.bool false) := by simp [go_sem]
  have zf4 : (w.alloc (.cells #[.int .i64 0, .string ⟨#[]⟩, .int .i64 0, .int .i64 0, .bool false, .int .i64 0, .int .i64 0, .string ⟨#[]⟩, .bool false] 28)).frozen? ⟨w.heap.size, 4, none⟩ = false := by simp [go_sem]
  have z5 : (w.alloc (.cells #[.int .i64 0, .string ⟨#[]⟩, .int .i64 0, .int .i64 0, .bool false, .int .i64 0, .int .i64 0, .string ⟨#[]⟩, .bool false] 28)).cell? ⟨w.heap.size, 5, none⟩ = some (.int .i64 0) := by simp [go_sem]
  have zf5 : (w.alloc (.cells #[.int .i64 0, .string ⟨#[]⟩, .int .i64 0, .int .i64 0, .bool false, .int .i64 0, .int .i64 0, .string ⟨#[]⟩, .bool false] 28)).frozen? ⟨w.heap.size, 5, none⟩ = false := by simp [go_sem]
  have z6 : (w.alloc (.cells #[.int .i64 0, .string ⟨#[]⟩, .int .i64 0, .int .i64 0, .bool false, .int .i64 0, .int .i64 0, .string ⟨#[]⟩, .bool false] 28)).cell? ⟨w.heap.size, 6, none⟩ = some (.int .i64 0) := by simp [go_sem]
  have zf6 : (w.alloc (.cells #[.int .i64 0, .string ⟨#[]⟩, .int .i64 0, .int .i64 0, .bool false, .int .i64 0, .int .i64 0, .string ⟨#[]⟩, .bool false] 28)).frozen? ⟨w.heap.size, 6, none⟩ = false := by simp [go_sem]
  have z7 : (w.alloc (.cells #[.int .i64 0, .string ⟨#[]⟩, .int .i64 0, .int .i64 0, .bool false, .int .i64 0, .int .i64 0, .string ⟨#[]⟩, .bool false] 28)).cell? ⟨w.heap.size, 7, none⟩ = some (.string ⟨#[]⟩) := by simp [go_sem]
  have zf7 : (w.alloc (.cells #[.int .i64 0, .string ⟨#[]⟩, .int .i64 0, .int .i64 0, .bool false, .int .i64 0, .int .i64 0, .string ⟨#[]⟩, .bool false] 28)).frozen? ⟨w.heap.size, 7, none⟩ = false := by simp [go_sem]
  have z8 : (w.alloc (.cells #[.int .i64 0, .string ⟨#[]⟩, .int .i64 0, .int .i64 0, .bool false, .int .i64 0, .int .i64 0, .string ⟨#[]⟩, .bool false] 28)).cell? ⟨w.heap.size, 8, none⟩ = some (.bool false) := by simp [go_sem]
  have zf8 : (w.alloc (.cells #[.int .i64 0, .string ⟨#[]⟩, .int .i64 0, .int .i64 0, .bool false, .int .i64 0, .int .i64 0, .string ⟨#[]⟩, .bool false] 28)).frozen? ⟨w.heap.size, 8, none⟩ = false := by simp [go_sem]
  have zz : w.heap.size < (w.alloc (.cells #[.int .i64 0, .string ⟨#[]⟩, .int .i64 0, .int .i64 0, .bool false, .int .i64 0, .int .i64 0, .string ⟨#[]⟩, .bool false] 28)).heap.size := by simp <;> omega
  have HB : Hid (Below w.heap.size w (w.alloc (.cells #[.int .i64 0, .string ⟨#[]⟩, .int .i64 0, .int .i64 0, .bool false, .int .i64 0, .int .i64 0, .string ⟨#[]⟩, .bool false] 28))) := (Below.refl _ _).alloc (Nat.le_refl _) _
  generalize (w.alloc (.cells #[.int .i64 0, .string ⟨#[]⟩, .int .i64 0, .int .i64 0, .bool false, .int .i64 0, .int .i64 0, .string ⟨#[]⟩, .bool false] 28)) = W at *
  go_loop [6] (fun i => ∃ j : Nat, j ≤ n ∧ i = .int .i64 j ∧ Hid (GetR (getF (zs.drop j) k) = G)) (fun i => n - (intOf i).toNat)
  case atStart => exact ⟨0, by omega, rfl, HG⟩
  case round =>
    clear HG
    obtain ⟨j, hj, rfl, HG⟩ := hrel
    by_cases hlt : j < n
    · obtain ⟨blk, off, rfl, hbB, x0, hxj, hcell⟩ := HZ.out.get hlt
      obtain ⟨e0, e1, e2, e3, e4, e5, e6, e7, e8⟩ := cellsI_at hcell
      replace e0 := ((HB.out.mono hB).cell (p := ⟨blk, off + j * 9, none⟩) hbB).trans e0
      replace e1 := ((HB.out.mono hB).cell (p := ⟨blk, off + j * 9 + 1, none⟩) hbB).trans e1
      replace e2 := ((HB.out.mono hB).cell (p := ⟨blk, off + j * 9 + 2, none⟩) hbB).trans e2
      replace e3 := ((HB.out.mono hB).cell (p := ⟨blk, off + j * 9 + 3, none⟩) hbB).trans e3
      replace e4 := ((HB.out.mono hB).cell (p := ⟨blk, off + j * 9 + 4, none⟩) hbB).trans e4
      replace e5 := ((HB.out.mono hB).cell (p := ⟨blk, off + j * 9 + 5, none⟩) hbB).trans e5
      replace e6 := ((HB.out.mono hB).cell (p := ⟨blk, off + j * 9 + 6, none⟩) hbB).trans e6
      replace e7 := ((HB.out.mono hB).cell (p := ⟨blk, off + j * 9 + 7, none⟩) hbB).trans e7
      replace e8 := ((HB.out.mono hB).cell (p := ⟨blk, off + j * 9 + 8, none⟩) hbB).trans e8
      have hi1 : (j : Int) < n := by omega
      by_cases hk : x0.key = k
      · have HE := Lib.hid (getF_hit hxj hk)
        have HG2 : Hid (GetR (some x0) = G) := by show _ = _; rw [← HE.out]; exact HG.out
        have HG3 := Lib.hid (show GetR (some x0) = .tuple #[refV x0, .bool true] from rfl)
        rw [HG2.out] at HG3
        unfold refV at HG3
        clear hcell hxj HE HG2 HG
        obtain ⟨key, ⟨d, a, s⟩, dead, x, y, text, held⟩ := x0
        simp only at e0 e1 e2 e3 e4 e5 e6 e7 e8 HG3 hk
        have hk' : (key == k) = true := by simpa using hk
        clear hk
        go_wp2
        refine bodyPost_ret (v := .tuple #[.agg #[.int .i64 key, .string d, .int .i64 a, .int .i64 s, .bool dead, .int .i64 x, .int .i64 y, .string text, .bool held], .bool true]) ?_ rfl ?_
        · simp [results, Try.results20, go_sem, z0, z1, z2, z3, z4, z5, z6, z7, z8]
        · exact ⟨by rw [HG3.out], by repeat (first | with_reducible exact HB.out | with_reducible refine Below.setCell ?_ (by simp) _)⟩
      · have HN : Hid (GetR (getF (zs.drop (j + 1)) k) = G) := by show _ = _; rw [← getF_step hxj hk]; exact HG.out
        clear hcell hxj HG
        obtain ⟨key, ⟨d, a, s⟩, dead, x, y, text, held⟩ := x0
        simp only at e0 hk
        have hk' : (key == k) = false := by simpa using hk
        clear hk e1 e2 e3 e4 e5 e6 e7 e8
        go_wp2
        go_round
        case rel => exact ⟨j + 1, by omega, by go_num, HN⟩
        case measure => simp [intOf]; omega
    · have HG2 : Hid (GetR none = G) := by show _ = _; rw [← HG.out, List.drop_of_length_le (by rw [HL.out]; omega)]; rfl
      clear HG
      go_wp2
      refine bodyPost_ret (v := .tuple #[.agg #[.int .i64 0, .string ⟨#[]⟩, .int .i64 0, .int .i64 0, .bool false, .int .i64 0, .int .i64 0, .string ⟨#[]⟩, .bool false], .bool false]) ?_ rfl ?_
      · simp [results, Try.results20, go_sem, z0, z1, z2, z3, z4, z5, z6, z7, z8]
      · exact ⟨by rw [← HG2.out, getR_none], by repeat (first | with_reducible exact HB.out | with_reducible refine Below.setCell ?_ (by simp) _)⟩
/-- Without a key's, as the reference has it. -/
def rdropF (zs : List Itm) (k : Int) : List Itm := zs.filter fun z => z.key != k
theorem rdrop_keep {zs : List Itm} {k : Int} {j : Nat} {z : Itm} (h : zs[j]? = some z) (hk : z.key ≠ k) : rdropF (zs.take (j + 1)) k = rdropF (zs.take j) k ++ [z] := by
  unfold rdropF
  rw [snoc_of h, List.filter_append]
  simp [hk]
theorem rdrop_skip {zs : List Itm} {k : Int} {j : Nat} {z : Itm} (h : zs[j]? = some z) (hk : z.key = k) : rdropF (zs.take (j + 1)) k = rdropF (zs.take j) k := by
  unfold rdropF
  rw [snoc_of h, List.filter_append]
  simp [hk]
theorem rdrop_len (zs : List Itm) (k : Int) : (rdropF zs k).length ≤ zs.length := List.length_filter_le _ _
set_option maxRecDepth 100000 in
set_option maxHeartbeats 4000000 in
theorem rdrop_any (A : Option Addr) (n c : Nat) (zs : List Itm) (k : Int) (B : Nat) (w : World) (hB : B ≤ w.heap.size) (hz : RowAt cellsI 9 w B A n zs) (hn : n ≤ 1073741824) :
    Calls Try.prog 24 #[.slice A n c, .int .i64 k] w (OwnRow cellsI 9 28 (rdropF zs k) w) := by
  have HZ := Lib.hid hz
  have HL := Lib.hid hz.1
  clear hz
  go_enter Try.func24, Try.ntmps24
  go_wp2
  go_loopw [5, 6] (fun v i wr => ∃ (j : Nat) (Av : Option Addr) (cv : Nat) (ys : List Itm), j ≤ n ∧ i = .int .i64 j ∧ v = .slice Av ys.length cv ∧ ys.length ≤ j ∧ Hid (ys = rdropF (zs.take j) k) ∧ Hid (wr.ownsRow w.heap.size 28 9 (.slice Av ys.length cv) ys.length (rowCells cellsI ys)) ∧ Hid (Below w.heap.size w wr)) (fun _ i _ => n - (intOf i).toNat)
  case atStart => exact ⟨0, none, 0, [], by omega, rfl, rfl, by simp, by simp [rdropF, Hid], rown_nil _ _, Below.refl _ _⟩
  case round =>
    obtain ⟨j, Av, cv, ys, hj, rfl, rfl, hyl, HY, HO, HB⟩ := hrel
    by_cases hlt : j < n
    · obtain ⟨blk, off, rfl, hbB, x0, hxj, hcell⟩ := HZ.out.get hlt
      obtain ⟨e0, e1, e2, e3, e4, e5, e6, e7, e8⟩ := cellsI_at hcell
      replace e0 := ((HB.out.mono hB).cell (p := ⟨blk, off + j * 9, none⟩) hbB).trans e0
      replace e1 := ((HB.out.mono hB).cell (p := ⟨blk, off + j * 9 + 1, none⟩) hbB).trans e1
      replace e2 := ((HB.out.mono hB).cell (p := ⟨blk, off + j * 9 + 2, none⟩) hbB).trans e2
      replace e3 := ((HB.out.mono hB).cell (p := ⟨blk, off + j * 9 + 3, none⟩) hbB).trans e3
      replace e4 := ((HB.out.mono hB).cell (p := ⟨blk, off + j * 9 + 4, none⟩) hbB).trans e4
      replace e5 := ((HB.out.mono hB).cell (p := ⟨blk, off + j * 9 + 5, none⟩) hbB).trans e5
      replace e6 := ((HB.out.mono hB).cell (p := ⟨blk, off + j * 9 + 6, none⟩) hbB).trans e6
      replace e7 := ((HB.out.mono hB).cell (p := ⟨blk, off + j * 9 + 7, none⟩) hbB).trans e7
      replace e8 := ((HB.out.mono hB).cell (p := ⟨blk, off + j * 9 + 8, none⟩) hbB).trans e8
      have hi1 : (j : Int) < n := by omega
      by_cases hk : x0.key = k
      · have HN : Hid (ys = rdropF (zs.take (j + 1)) k) := by show _ = _; rw [rdrop_skip hxj hk]; exact HY.out
        clear hcell hxj HY e1 e2 e3 e4 e5 e6 e7 e8
        generalize x0.key = key at *
        have hk' : (key != k) = false := by simpa using hk
        clear hk
        go_wp2
        go_roundw
        case rel => exact ⟨j + 1, Av, cv, ys, by omega, by go_num, rfl, by omega, HN, HO, HB⟩
        case measure => simp [intOf]; omega
      · have HN : Hid (ys ++ [x0] = rdropF (zs.take (j + 1)) k) := by show _ = _; rw [rdrop_keep hxj hk, ← HY.out]
        have hsz := HB.out.size
        clear hcell hxj HY
        obtain ⟨key, ⟨d, a, s⟩, dead, x, y, text, held⟩ := x0
        have HCF : Hid (cellsI ⟨key, ⟨d, a, s⟩, dead, x, y, text, held⟩ = [.int .i64 key, .string d, .int .i64 a, .int .i64 s, .bool dead, .int .i64 x, .int .i64 y, .string text, .bool held]) := rfl
        simp only at e0 e1 e2 e3 e4 e5 e6 e7 e8 hk
        generalize (⟨key, ⟨d, a, s⟩, dead, x, y, text, held⟩ : Itm) = z0 at HN HCF
        have hk' : (key != k) = true := by simpa using hk
        clear hk
        have HR1 : Hid (RowAt cellsI 9 (wr.alloc (.cells #[.int .i64 key, .string d, .int .i64 a, .int .i64 s, .bool dead, .int .i64 x, .int .i64 y, .string text, .bool held] 28)) (wr.heap.size + 1) (some ⟨wr.heap.size, 0, none⟩) 1 [z0]) := one_row rowI (by rw [HCF.out]; exact heap_alloc_new wr _)
        have HO1 := Lib.hid (HO.out.alloc (.cells #[.int .i64 key, .string d, .int .i64 a, .int .i64 s, .bool dead, .int .i64 x, .int .i64 y, .string text, .bool held] 28))
        go_wp2_with (at_builtin; refine wpList_append_row rowI (B := w.heap.size) (v := .slice Av ys.length cv) (n := ys.length) (zs := ys) (m := 1) (ys := [z0]) rfl _ _ rfl rfl HO1.out rfl HR1.out (by omega) (by simp; omega) ?_; intro A3 c3 w3 hown3 hg3 hat3)
        have HO3 : Hid (w3.ownsRow w.heap.size 28 9 (.slice A3 (ys ++ [z0]).length c3) (ys ++ [z0]).length (rowCells cellsI (ys ++ [z0]))) := by
          show World.ownsRow _ _ _ _ _ _ _
          rw [List.length_append]
          exact hown3
        have HB3 : Hid (Below w.heap.size w w3) := (HB.out.alloc hsz _).grown hg3 (Nat.le_trans hsz (by simp)) (fun g e => (HO.out.lt g e).1)
        clear hown3 hg3 hat3
        go_wp2
        go_roundw
        case rel => exact ⟨j + 1, A3, c3, ys ++ [z0], by omega, by go_num, by simp, by simp; omega, HN, HO3, HB3⟩
        case measure => simp [intOf]; omega
    · obtain rfl : j = n := by omega
      have HE : Hid (ys = rdropF zs k) := by show _ = _; rw [HY.out, List.take_of_length_le (by have := HL.out; omega)]
      go_wp2
      go_ret
      rw [← HE.out]
      exact ⟨Av, cv, rfl, HO.out, HB.out⟩
end Go.Proofs.Ytpaiigminmakgaa
