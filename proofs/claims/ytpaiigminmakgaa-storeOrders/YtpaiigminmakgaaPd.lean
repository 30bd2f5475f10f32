/- store.replaces, Get, Drop, Put. -/
import Derived.Test.YtpaiigminmakgaaPc
import Derived.Test.YtpaiigminmakgaaPm
namespace Go.Proofs.Ytpaiigminmakgaa
open Go.RowKit

set_option maxRecDepth 100000 in
set_option maxHeartbeats 1000000 in
theorem eql_ver (d1 : ByteArray) (a1 s1 : Int) (d2 : ByteArray) (a2 s2 : Int) (w : World) : (binOp .eql 43 (.agg #[.string d1, .int .i64 a1, .int .i64 s1]) (.agg #[.string d2, .int .i64 a2, .int .i64 s2])).run Try.prog w = .ok (.bool (eqV ⟨d1, a1, s1⟩ ⟨d2, a2, s2⟩)) w := by
  unfold eqV
  rw [run_eql_struct]
  go_simp
  simp only [ite_ok]
  congr 2
  rw [Bool.eq_iff_iff]
  simp
/-- Does x stand in y's place? -/
def replF (x y : Itm) : Bool := if eqV x.ver y.ver then x.held && !y.held else !newerF y.ver x.ver
set_option maxRecDepth 100000 in
set_option maxHeartbeats 2000000 in
theorem replaces_any (x y : Itm) (w : World) : Calls Try.prog 40 #[itmV x, itmV y] w fun e w' => e = .returned (.bool (replF x y)) ∧ Below w.heap.size w w' := by
  have HR := Lib.hid (show replF x y = if eqV x.ver y.ver then x.held && !y.held else !newerF y.ver x.ver from rfl)
  have HN := Lib.hid (newer_any y.ver x.ver)
  obtain ⟨key1, ⟨d1, a1, s1⟩, dead1, x1, y1, text1, held1⟩ := x
  obtain ⟨key2, ⟨d2, a2, s2⟩, dead2, x2, y2, text2, held2⟩ := y
  have he := eql_ver d1 a1 s1 d2 a2 s2
  unfold itmV
  unfold vrsV at HN
  simp only at HR HN ⊢
  generalize replF _ _ = R at HR ⊢
  generalize newerF _ _ = nb at *
  generalize eqV _ _ = eb at *
  generalize fl x1 = fx1
  generalize fl y1 = fy1
  generalize fl x2 = fx2
  generalize fl y2 = fy2
  cases eb
  · rw [if_neg (by decide)] at HR
    go_enter Try.func40, Try.ntmps40
    go_wp2_with fail
    refine (HN.out _).mono ?_
    rintro e w1 ⟨rfl, hb⟩
    have HB : Hid (Below w.heap.size w w1) := (((Below.refl _ _).alloc (Nat.le_refl _) _).alloc (by simp) _).trans (hb.mono (by simp; omega))
    clear hb
    go_wp2
    go_ret
    exact ⟨ret_bool (by rw [HR.out]), HB.out⟩
  · rw [if_pos rfl] at HR
    cases held1
    · go_enter Try.func40, Try.ntmps40
      go_wp2
      go_ret
      exact ⟨ret_bool (by rw [HR.out]; rfl), ((Below.refl _ _).alloc (Nat.le_refl _) _).alloc (by simp) _⟩
    · go_enter Try.func40, Try.ntmps40
      go_wp2
      go_ret
      exact ⟨ret_bool (by rw [HR.out]; rfl), ((Below.refl _ _).alloc (Nat.le_refl _) _).alloc (by simp) _⟩

/-- s[p:]. -/
theorem cut_from (A : Option Addr) (n c p : Nat) (h1 : p ≤ n) (h2 : n ≤ c) : ∃ A', (∀ W, (Instr.slice 38 (.slice A n c) (some (.int .i64 (p : Int))) none none).run Try.prog W = .ok (.slice A' (n - p) (c - p)) W) ∧
    ∀ (w : World) (B : Nat) (zs : List Itm), RowAt cellsP 8 w B A n zs → RowAt cellsP 8 w B A' (n - p) (zs.drop p) := by
  have hel : Try.prog.elem 38 = 46 := by kernel_rfl
  have hsz : ∀ W, (sizeOf 46).run Try.prog W = .ok 8 W := fun W => by
    obtain ⟨i, hi, _, hz1, _⟩ := info_parts rowS.i
    simp [sizeOf, typeInfo, hi, hz1]
  refine ⟨if c = p then A else A.map (fun x => x.add (p * 8)), fun W => ?_, fun w B zs h => ?_⟩
  · rw [run_slice_l (P := Try.prog) W 38 A n c (by rw [hel]; exact Try.underlying38) .i64 (p : Int) (by omega) (by omega), hel, hsz]
    simp [sliced, Result.andThen]
  · refine ⟨by rw [List.length_drop, h.1], fun hp => ?_⟩
    obtain ⟨b, off, rfl, hb, hc⟩ := h.2 (by omega)
    rw [if_neg (by omega), Option.map_some, radd]
    refine ⟨b, off + p * 8, rfl, hb, fun k hk j u hu => ?_⟩
    rw [List.length_drop] at hk
    rw [List.getElem_drop] at hu
    have := hc (p + k) (by omega) j u hu
    rw [show off + p * 8 + k * 8 + j = off + (p + k) * 8 + j by omega]
    exact this
/-- s[:p]. -/
theorem cut_upto (A : Option Addr) (n c p : Nat) (h1 : p ≤ n) (h2 : n ≤ c) : ∀ W, (Instr.slice 38 (.slice A n c) none (some (.int .i64 (p : Int))) none).run Try.prog W = .ok (.slice A p c) W := by
  intro W
  have hel : Try.prog.elem 38 = 46 := by kernel_rfl
  have hsz : ∀ W, (sizeOf 46).run Try.prog W = .ok 8 W := fun W => by
    obtain ⟨i, hi, _, hz1, _⟩ := info_parts rowS.i
    simp [sizeOf, typeInfo, hi, hz1]
  rw [run_slice_h (P := Try.prog) W 38 A n c (by rw [hel]; exact Try.underlying38) .i64 (p : Int) (by omega) (by omega), hel, hsz]
  cases A <;> simp [sliced, Result.andThen, Addr.add]
/-- What Get answers. -/
def GetV (o : Option Itm) : Value := .tuple #[itmV (o.getD zeroIt), .bool o.isSome]
theorem getV_none : GetV none = .tuple #[.agg #[.int .i64 0, .string ⟨#[]⟩, .int .i64 0, .int .i64 0, .bool false, .complex .f64 0 0, .string ⟨#[]⟩, .bool false], .bool false] := by
  unfold GetV itmV zeroIt
  simp only [Option.getD_none, zero_fl]
  rfl
set_option maxRecDepth 100000 in
set_option maxHeartbeats 2000000 in
theorem getS_any (A : Option Addr) (n c : Nat) (zs : List Itm) (k : Int) (B : Nat) (w : World) (hB : B ≤ w.heap.size) (hz : RowAt cellsP 8 w B A n zs) (hn : n ≤ 1099511627776) (hs : Keys zs) :
    Calls Try.prog 19 #[.slice A n c, .int .i64 k] w fun e w' => e = .returned (GetV (getF zs k)) ∧ Below w.heap.size w w' := by
  have hb0 : Below w.heap.size w (w.alloc (.cells #[.int .i64 0, .string ⟨#[]⟩, .int .i64 0, .int .i64 0, .bool false, .complex .f64 0 0, .string ⟨#[]⟩, .bool false] 46)) := (Below.refl _ _).alloc (Nat.le_refl _) _
  have HZ := Lib.hid hz
  have H := Lib.hid (find_any A n c zs k B (w.alloc (.cells #[.int .i64 0, .string ⟨#[]⟩, .int .i64 0, .int .i64 0, .bool false, .complex .f64 0 0, .string ⟨#[]⟩, .bool false] 46)) (by simp; omega) (hz.keep (hb0.mono hB)) hn hs)
  have HS := Lib.hid hs
  have HL := Lib.hid hz.1
  clear hz hs
  have hst := store_complex
  go_enter Try.func19, Try.ntmps19
  go_wp2_with fail
  refine H.out.mono ?_
  rintro e w1 ⟨⟨p, hp, HP, rfl⟩, hb⟩
  have z0 : (w.alloc (.cells #[.int .i64 0, .string ⟨#[]⟩, .int .i64 0, .int .i64 0, .bool false, .complex .f64 0 0, .string ⟨#[]⟩, .bool false] 46)).cell? ⟨w.heap.size, 0, none⟩ = some (.int .i64 0) := by simp [go_sem]
  have zf0 : (w.alloc (.cells #[.int .i64 0, .string ⟨#[]⟩, .int .i64 0, .int .i64 0, .bool false, .complex .f64 0 0, .string ⟨#[]⟩, .bool false] 46)).frozen? ⟨w.heap.size, 0, none⟩ = false := by simp [go_sem]
  have z1 : (w.alloc (.cells #[.int .i64 0, .string ⟨#[]⟩, .int .i64 0, .int .i64 0, .bool false, .complex .f64 0 0, .string ⟨#[]⟩, .bool false] 46)).cell? ⟨w.heap.size, 1, none⟩ = some (.string ⟨#[]⟩) := by simp [go_sem]
  have zf1 : (w.alloc (.cells #[.int .i64 0, .string ⟨#[]⟩, .int .i64 0, .int .i64 0, .bool false, .complex .f64 0 0, .string ⟨#[]⟩, .bool false] 46)).frozen? ⟨w.heap.size, 1, none⟩ = false := by simp [go_sem]
  have z2 : (w.alloc (.cells #[.int .i64 0, .string ⟨#[]⟩, .int .i64 0, .int .i64 0, .bool false, .complex .f64 0 0, .string ⟨#[]⟩, .bool false] 46)).cell? ⟨w.heap.size, 2, none⟩ = some (.int .i64 0) := by simp [go_sem]
  have zf2 : (w.alloc (.cells #[.int .i64 0, .string ⟨#[]⟩, .int .i64 0, .int .i64 0, .bool false, .complex .f64 0 0, .string ⟨#[]⟩, .bool false] 46)).frozen? ⟨w.heap.size, 2, none⟩ = false := by simp [go_sem]
  have z3 : (w.alloc (.cells #[.int .i64 0, .string ⟨#[]⟩, .int .i64 0, .int .i64 0, .bool false, .complex .f64 0 0, .string ⟨#[]⟩, .bool false] 46)).cell? ⟨w.heap.size, 3, none⟩ = some (.int .i64 0) := by simp [go_sem]
  have zf3 : (w.alloc (.cells #[.int .i64 0, .string ⟨#[]⟩, .int .i64 0, .int .i64 0, .bool false, .complex .f64 0 0, .string ⟨#[]⟩, .bool false] 46)).frozen? ⟨w.heap.size, 3, none⟩ = false := by simp [go_sem]
  have z4 : (w.alloc (.cells #[.int .i64 0, .string ⟨#[]⟩, .int .i64 0, .int .i64 0, .bool false, .complex .f64 0 0, .string ⟨#[]⟩, .bool false] 46)).cell? ⟨w.heap.size, 4, none⟩ = some (.bool false) := by simp [go_sem]
  have zf4 : (w.alloc (.cells #[.int .i64 0, .string ⟨#[]⟩, .int .i64 0, .int .i64 0, .bool false, .complex .f64 0 0, .string ⟨#[]⟩, .bool false] 46)).frozen? ⟨w.heap.size, 4, none⟩ = false := by simp [go_sem]
  have z5 : (w.alloc (.cells #[.int .i64 0, .string ⟨#[]⟩, .int .i64 0, .int .i64 0, .bool false, .complex .f64 0 0, .string ⟨#[]⟩, .bool false] 46)).cell? ⟨w.heap.size, 5, none⟩ = some (.complex .f64 0 0) := by simp [go_sem]
  have zf5 : (w.alloc (.cells #[.int .i64 0, .string ⟨#[]⟩, .int .i64 0, .int .i64 0, .bool false, .complex .f64 0 0, .string ⟨#[]⟩, .bool false] 46)).frozen? ⟨w.heap.size, 5, none⟩ = false := by simp [go_sem]
  have z6 : (w.alloc (.cells #[.int .i64 0, .string ⟨#[]⟩, .int .i64 0, .int .i64 0, .bool false, .complex .f64 0 0, .string ⟨#[]⟩, .bool false] 46)).cell? ⟨w.heap.size, 6, none⟩ = some (.string ⟨#[]⟩) := by simp [go_sem]
  have zf6 : (w.alloc (.cells #[.int .i64 0, .string ⟨#[]⟩, .int .i64 0, .int .i64 0, .bool false, .complex .f64 0 0, .string ⟨#[]⟩, .bool false] 46)).frozen? ⟨w.heap.size, 6, none⟩ = false := by simp [go_sem]
  have z7 : (w.alloc (.cells #[.int .i64 0, .string ⟨#[]⟩, .int .i64 0, .int .i64 0, .bool false, .complex .f64 0 0, .string ⟨#[]⟩, .bool false] 46)).cell? ⟨w.heap.size, 7, none⟩ = some (.bool false) := by simp [go_sem]
  have zf7 : (w.alloc (.cells #[.int .i64 0, .string ⟨#[]⟩, .int .i64 0, .int .i64 0, .bool false, .complex .f64 0 0, .string ⟨#[]⟩, .bool false] 46)).frozen? ⟨w.heap.size, 7, none⟩ = false := by simp [go_sem]
  have zz : w.heap.size < (w.alloc (.cells #[.int .i64 0, .string ⟨#[]⟩, .int .i64 0, .int .i64 0, .bool false, .complex .f64 0 0, .string ⟨#[]⟩, .bool false] 46)).heap.size := by simp <;> omega
  replace z0 := (hb.cell (p := ⟨w.heap.size, 0, none⟩) zz).trans z0
  replace zf0 := (hb.frozen (p := ⟨w.heap.size, 0, none⟩) zz).trans zf0
  replace z1 := (hb.cell (p := ⟨w.heap.size, 1, none⟩) zz).trans z1
  replace zf1 := (hb.frozen (p := ⟨w.heap.size, 1, none⟩) zz).trans zf1
  replace z2 := (hb.cell (p := ⟨w.heap.size, 2, none⟩) zz).trans z2
  replace zf2 := (hb.frozen (p := ⟨w.heap.size, 2, none⟩) zz).trans zf2
  replace z3 := (hb.cell (p := ⟨w.heap.size, 3, none⟩) zz).trans z3
  replace zf3 := (hb.frozen (p := ⟨w.heap.size, 3, none⟩) zz).trans zf3
  replace z4 := (hb.cell (p := ⟨w.heap.size, 4, none⟩) zz).trans z4
  replace zf4 := (hb.frozen (p := ⟨w.heap.size, 4, none⟩) zz).trans zf4
  replace z5 := (hb.cell (p := ⟨w.heap.size, 5, none⟩) zz).trans z5
  replace zf5 := (hb.frozen (p := ⟨w.heap.size, 5, none⟩) zz).trans zf5
  replace z6 := (hb.cell (p := ⟨w.heap.size, 6, none⟩) zz).trans z6
  replace zf6 := (hb.frozen (p := ⟨w.heap.size, 6, none⟩) zz).trans zf6
  replace z7 := (hb.cell (p := ⟨w.heap.size, 7, none⟩) zz).trans z7
  replace zf7 := (hb.frozen (p := ⟨w.heap.size, 7, none⟩) zz).trans zf7
  replace zz := Nat.lt_of_lt_of_le zz hb.size
  have HB : Hid (Below w.heap.size w w1) := hb0.trans (hb.mono (by simp))
  have HPK := Lib.hid HP
  clear hb hb0 HP H
  rcases hf : isAt zs k p with _ | _
  · have HG := Lib.hid (get_no HS.out HPK.out hf)
    clear hf
    go_wp2
    refine bodyPost_ret (v := .tuple #[.agg #[.int .i64 0, .string ⟨#[]⟩, .int .i64 0, .int .i64 0, .bool false, .complex .f64 0 0, .string ⟨#[]⟩, .bool false], .bool false]) ?_ rfl ?_
    · simp [results, Try.results19, go_sem, z0, z1, z2, z3, z4, z5, z6, z7]
    · refine ⟨?_, by repeat (first | with_reducible exact HB.out | with_reducible refine Below.setCell ?_ (by simp) _)⟩
      rw [HG.out, getV_none]
  · obtain ⟨y, hy, hk⟩ := isAt_true hf
    have HG := Lib.hid (get_yes HPK.out hy hk)
    clear hf hk
    have hpn : p < n := by have := (List.getElem?_eq_some_iff.mp hy).1; have := HL.out; omega
    have hpn' : (p : Int) < n := by omega
    obtain ⟨blk, off, rfl, hbB, y', hy', hcell⟩ := HZ.out.get hpn
    obtain rfl : y' = y := by rw [hy] at hy'; injection hy' with e; exact e.symm
    obtain ⟨e0, e1, e2, e3, e4, e5, e6, e7⟩ := cellsP_at hcell
    replace e0 := ((HB.out.mono hB).cell (p := ⟨blk, off + p * 8, none⟩) hbB).trans e0
    replace e1 := ((HB.out.mono hB).cell (p := ⟨blk, off + p * 8 + 1, none⟩) hbB).trans e1
    replace e2 := ((HB.out.mono hB).cell (p := ⟨blk, off + p * 8 + 2, none⟩) hbB).trans e2
    replace e3 := ((HB.out.mono hB).cell (p := ⟨blk, off + p * 8 + 3, none⟩) hbB).trans e3
    replace e4 := ((HB.out.mono hB).cell (p := ⟨blk, off + p * 8 + 4, none⟩) hbB).trans e4
    replace e5 := ((HB.out.mono hB).cell (p := ⟨blk, off + p * 8 + 5, none⟩) hbB).trans e5
    replace e6 := ((HB.out.mono hB).cell (p := ⟨blk, off + p * 8 + 6, none⟩) hbB).trans e6
    replace e7 := ((HB.out.mono hB).cell (p := ⟨blk, off + p * 8 + 7, none⟩) hbB).trans e7
    have HG' := Lib.hid (show GetV (some y') = .tuple #[itmV y', .bool true] from rfl)
    unfold itmV at HG'
    rw [← HG.out] at HG'
    clear hy hy' hcell HG
    obtain ⟨key, ⟨d, a, s⟩, dead, x, y, text, held⟩ := y'
    simp only at e0 e1 e2 e3 e4 e5 e6 e7 HG'
    generalize fl x = fx at *
    generalize fl y = fy at *
    go_wp2
    refine bodyPost_ret (v := .tuple #[.agg #[.int .i64 key, .string d, .int .i64 a, .int .i64 s, .bool dead, .complex .f64 fx fy, .string text, .bool held], .bool true]) ?_ rfl ?_
    · simp [results, Try.results19, go_sem, z0, z1, z2, z3, z4, z5, z6, z7]
    · exact ⟨by rw [HG'.out], by repeat (first | with_reducible exact HB.out | with_reducible refine Below.setCell ?_ (by simp) _)⟩
end Go.Proofs.Ytpaiigminmakgaa
