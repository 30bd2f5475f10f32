/- frame: takeRest. -/
import Derived.Test.YtbookbgfipbaoaaGreatDoorH18
import Derived.Test.YtbookbgfipbaoaaGreatDoorH14
namespace Go.Proofs.YtbookbgfipbaoaaGreatDoor
open Go.RowKit
open By (Rd ReaderAt)

theorem rdr_sets {w : World} {R g N b : Nat} {st : Rd} {v0 v1 v2 v3 v4 v5 v6 v7 v8 v9 v10 v11 : Value} (h : Rdr w R g N st) (hb : N ≤ b) : Rdr (sets12 w b v0 v1 v2 v3 v4 v5 v6 v7 v8 v9 v10 v11) R g N st := sets12_any (P := fun u => Rdr u R g N st) (fun _ o v k => k.set (p := ⟨b, o, none⟩) hb v) h
theorem grown_sets {a w : World} {b : Nat} {row : Option Nat} {v0 v1 v2 v3 v4 v5 v6 v7 v8 v9 v10 v11 : Value} (h : a.grownBy w row) (hb : a.heap.size ≤ b) : a.grownBy (sets12 w b v0 v1 v2 v3 v4 v5 v6 v7 v8 v9 v10 v11) row := sets12_any (P := fun u => a.grownBy u row) (fun _ o v k => By.grown_own k (p := ⟨b, o, none⟩) hb v) h
theorem above_sets {w : World} {B b : Nat} {v0 v1 v2 v3 v4 v5 v6 v7 v8 v9 v10 v11 : Value} (hb : b < B) : Above B w (sets12 w b v0 v1 v2 v3 v4 v5 v6 v7 v8 v9 v10 v11) := sets12_any (P := fun u => Above B w u) (fun _ o v k => k.trans (Above.set (p := ⟨b, o, none⟩) hb v)) (Above.refl B w)
def txZ (st : Rd) : ByteArray := ⟨(By.textF st 2000).1.toArray⟩
def tkZone (k : Int) (st : Rd) : (Bool × List Zo.RSt) × Rd :=
  if k = 1 then ((Zo.rightZ (Zo.parseQ (txZ st)), if Zo.rightZ (Zo.parseQ (txZ st)) then Zo.parseQ (txZ st) else []), (By.textF st 2000).2) else ((true, []), st)
def tkWhole (k : Int) (ok : Bool) (st : Rd) : Bool × Rd := if ok = true ∧ k = 2 then (decide ((By.numF st 1).1 = 1), (By.numF st 1).2) else (false, st)
def tkRest (k : Int) (st : Rd) : (Bool × (List Zo.RSt × (List By.Itm × Bool))) × Rd :=
  if (tkZone k st).1.1 then ((((tkItems (tkZone k st).2).1.1, ((tkZone k st).1.2, ((tkItems (tkZone k st).2).1.2, (tkWhole k (tkItems (tkZone k st).2).1.1 (tkItems (tkZone k st).2).2).1)))), (tkWhole k (tkItems (tkZone k st).2).1.1 (tkItems (tkZone k st).2).2).2)
  else ((false, ([], ([], false))), (tkZone k st).2)
theorem glob_grown {w w' : World} {R : Nat} (h : Zo.Glob w) (hg : w.grownBy w' (some R)) (hR : 9 ≤ R) (h9 : 9 ≤ w.heap.size) : Zo.Glob w' :=
  h.keep (B := 9) ⟨hg.os, hg.tape, hg.output, hg.size, fun b hb => hg.block b (by omega) (fun e => by injection e; omega)⟩ (by omega)
theorem text_most (st : Rd) (most : Int) (hm : 0 ≤ most) : ((By.textF st most).1.length : Int) ≤ most := by
  have h := By.num_le st most
  unfold By.textF
  split
  · simpa using hm
  · split
    · simpa using hm
    · simp only [List.length_take]
      omega
def TkRest (k : Int) (s2 s3 : ByteArray) (A4 : Option Addr) (n4 c4 : Nat) (c5 : Int) (A6 : Option Addr) (n6 c6 : Nat) (A7 : Option Addr) (n7 c7 : Nat) (A8 : Option Addr) (n8 c8 : Nat) (T : (Bool × (List Zo.RSt × (List By.Itm × Bool))) × Rd) (R g N : Nat) (w : World) (en : Ending) (w' : World) : Prop :=
  ∃ zA zc iA ic zs, en = .returned (.tuple #[.agg #[.int .i64 k, .string s2, .string s3, .slice A4 n4 c4, .int .i64 c5, .slice A6 n6 c6, .slice A7 n7 c7, .slice A8 n8 c8, .slice zA T.1.2.1.length zc, .slice iA T.1.2.2.1.length ic, .bool T.1.2.2.2, .slice none 0 0], .bool T.1.1]) ∧
    RowFrom Zo.cellsZ 3 w.heap.size w' zA T.1.2.1.length zs ∧ Zo.LikeL zs T.1.2.1 ∧ RowFrom By.cellsP 8 w.heap.size w' iA T.1.2.2.1.length T.1.2.2.1 ∧ Rdr w' R g N T.2 ∧ w.grownBy w' (some R)
theorem row_low {α : Type} {cf : α → List Value} {d B B' : Nat} {w : World} {A : Option Addr} {n : Nat} {zs : List α} (h : RowFrom cf d B w A n zs) (hB : B' ≤ B) : RowFrom cf d B' w A n zs := ⟨h.1, fun hn ad e => Nat.le_trans hB (h.2 hn ad e)⟩
set_option maxRecDepth 100000 in
set_option maxHeartbeats 8000000 in
theorem takeRest_any {R g N : Nat} {st : Rd} (k : Int) (s2 s3 : ByteArray) (A4 : Option Addr) (n4 c4 : Nat) (c5 : Int) (A6 : Option Addr) (n6 c6 : Nat) (A7 : Option Addr) (n7 c7 : Nat) (A8 : Option Addr) (n8 c8 : Nat) (w : World) (h : Rdr w R g N st) (hg : Zo.Glob w) (hR9 : 9 ≤ R) :
    Calls Tryz.prog 133 #[.pointer (some ⟨R, 0, none⟩), .agg #[.int .i64 k, .string s2, .string s3, .slice A4 n4 c4, .int .i64 c5, .slice A6 n6 c6, .slice A7 n7 c7, .slice A8 n8 c8, .slice none 0 0, .slice none 0 0, .bool false, .slice none 0 0]] w (TkRest k s2 s3 A4 n4 c4 c5 A6 n6 c6 A7 n7 c7 A8 n8 c8 (tkRest k st) R g N w) := by
  have hRlt := h.lt
  have hle := h.le
  have h9 : 9 ≤ w.heap.size := by omega
  have HGL := Lib.hid hg
  have HR : Hid (Rdr ((w.alloc (.cells #[.int .i64 k, .string s2, .string s3, .slice A4 n4 c4, .int .i64 c5, .slice A6 n6 c6, .slice A7 n7 c7, .slice A8 n8 c8, .slice none 0 0, .slice none 0 0, .bool false, .slice none 0 0] 45)).alloc (.cells #[.int .i64 0, .string ⟨#[]⟩, .string ⟨#[]⟩, .slice none 0 0, .int .i64 0, .slice none 0 0, .slice none 0 0, .slice none 0 0, .slice none 0 0, .slice none 0 0, .bool false, .slice none 0 0] 45)) R g N st) := (h.below ((Below.refl _ _).alloc (Nat.le_refl _) _)).below ((Below.refl _ _).alloc (Nat.le_refl _) _)
  have HG : Hid (w.grownBy ((w.alloc (.cells #[.int .i64 k, .string s2, .string s3, .slice A4 n4 c4, .int .i64 c5, .slice A6 n6 c6, .slice A7 n7 c7, .slice A8 n8 c8, .slice none 0 0, .slice none 0 0, .bool false, .slice none 0 0] 45)).alloc (.cells #[.int .i64 0, .string ⟨#[]⟩, .string ⟨#[]⟩, .slice none 0 0, .int .i64 0, .slice none 0 0, .slice none 0 0, .slice none 0 0, .slice none 0 0, .slice none 0 0, .bool false, .slice none 0 0] 45)) (some R)) := By.grown_more (By.grown_more (World.grownBy.refl w _) _) _
  have HTX : Hid ((txZ st).size ≤ 2000) := by have := text_most st 2000 (by omega); show (By.textF st 2000).1.length ≤ 2000; omega
  have HD : Hid (∀ (zA : Option Addr) (zc : Nat) (iA : Option Addr) (ic : Nat) (zs : List Zo.Stp) (Z : List Zo.RSt) (I : List By.Itm) (wh ok : Bool) (t : Rd) (w' : World), tkRest k st = ((ok, (Z, (I, wh))), t) → RowFrom Zo.cellsZ 3 w.heap.size w' zA Z.length zs → Zo.LikeL zs Z → RowFrom By.cellsP 8 w.heap.size w' iA I.length I → Rdr w' R g N t → w.grownBy w' (some R) → TkRest k s2 s3 A4 n4 c4 c5 A6 n6 c6 A7 n7 c7 A8 n8 c8 (tkRest k st) R g N w (.returned (.tuple #[.agg #[.int .i64 k, .string s2, .string s3, .slice A4 n4 c4, .int .i64 c5, .slice A6 n6 c6, .slice A7 n7 c7, .slice A8 n8 c8, .slice zA Z.length zc, .slice iA I.length ic, .bool wh, .slice none 0 0], .bool ok])) w') := fun zA zc iA ic zs Z I wh ok t w' e h1 h2 h3 h4 h5 => by rw [e]; exact ⟨zA, zc, iA, ic, zs, rfl, h1, h2, h3, h4, h5⟩
  have HTR : Hid (tkRest k st = if (tkZone k st).1.1 then ((((tkItems (tkZone k st).2).1.1, ((tkZone k st).1.2, ((tkItems (tkZone k st).2).1.2, (tkWhole k (tkItems (tkZone k st).2).1.1 (tkItems (tkZone k st).2).2).1)))), (tkWhole k (tkItems (tkZone k st).2).1.1 (tkItems (tkZone k st).2).2).2) else ((false, ([], ([], false))), (tkZone k st).2)) := rfl
  have HTZ : Hid (tkZone k st = if k = 1 then ((Zo.rightZ (Zo.parseQ (txZ st)), if Zo.rightZ (Zo.parseQ (txZ st)) then Zo.parseQ (txZ st) else []), (By.textF st 2000).2) else ((true, []), st)) := rfl
  generalize TkRest k s2 s3 A4 n4 c4 c5 A6 n6 c6 A7 n7 c7 A8 n8 c8 (tkRest k st) R g N w = PR at *
  clear h hg
  go_enter Tryz.func133, Tryz.ntmps133
  go_upto_region 1 with fail
  have HKB : Hid (Blk ((w.alloc (.cells #[.int .i64 k, .string s2, .string s3, .slice A4 n4 c4, .int .i64 c5, .slice A6 n6 c6, .slice A7 n7 c7, .slice A8 n8 c8, .slice none 0 0, .slice none 0 0, .bool false, .slice none 0 0] 45)).alloc (.cells #[.int .i64 0, .string ⟨#[]⟩, .string ⟨#[]⟩, .slice none 0 0, .int .i64 0, .slice none 0 0, .slice none 0 0, .slice none 0 0, .slice none 0 0, .slice none 0 0, .bool false, .slice none 0 0] 45)) w.heap.size [.int .i64 k, .string s2, .string s3, .slice A4 n4 c4, .int .i64 c5, .slice A6 n6 c6, .slice A7 n7 c7, .slice A8 n8 c8, .slice none 0 0, .slice none 0 0, .bool false, .slice none 0 0]) := (Blk.new w [.int .i64 k, .string s2, .string s3, .slice A4 n4 c4, .int .i64 c5, .slice A6 n6 c6, .slice A7 n7 c7, .slice A8 n8 c8, .slice none 0 0, .slice none 0 0, .bool false, .slice none 0 0] 45).below ((Below.refl _ _).alloc (Nat.le_refl _) _)
  have HZB : Hid (Blk ((w.alloc (.cells #[.int .i64 k, .string s2, .string s3, .slice A4 n4 c4, .int .i64 c5, .slice A6 n6 c6, .slice A7 n7 c7, .slice A8 n8 c8, .slice none 0 0, .slice none 0 0, .bool false, .slice none 0 0] 45)).alloc (.cells #[.int .i64 0, .string ⟨#[]⟩, .string ⟨#[]⟩, .slice none 0 0, .int .i64 0, .slice none 0 0, .slice none 0 0, .slice none 0 0, .slice none 0 0, .slice none 0 0, .bool false, .slice none 0 0] 45)) (w.heap.size + 1) [.int .i64 0, .string ⟨#[]⟩, .string ⟨#[]⟩, .slice none 0 0, .int .i64 0, .slice none 0 0, .slice none 0 0, .slice none 0 0, .slice none 0 0, .slice none 0 0, .bool false, .slice none 0 0]) := by have := Blk.new (w.alloc (.cells #[.int .i64 k, .string s2, .string s3, .slice A4 n4 c4, .int .i64 c5, .slice A6 n6 c6, .slice A7 n7 c7, .slice A8 n8 c8, .slice none 0 0, .slice none 0 0, .bool false, .slice none 0 0] 45)) [.int .i64 0, .string ⟨#[]⟩, .string ⟨#[]⟩, .slice none 0 0, .int .i64 0, .slice none 0 0, .slice none 0 0, .slice none 0 0, .slice none 0 0, .slice none 0 0, .bool false, .slice none 0 0] 45; exact Lib.hid (by simpa using this)
  generalize ((w.alloc (.cells #[.int .i64 k, .string s2, .string s3, .slice A4 n4 c4, .int .i64 c5, .slice A6 n6 c6, .slice A7 n7 c7, .slice A8 n8 c8, .slice none 0 0, .slice none 0 0, .bool false, .slice none 0 0] 45)).alloc (.cells #[.int .i64 0, .string ⟨#[]⟩, .string ⟨#[]⟩, .slice none 0 0, .int .i64 0, .slice none 0 0, .slice none 0 0, .slice none 0 0, .slice none 0 0, .slice none 0 0, .bool false, .slice none 0 0] 45)) = W0 at *
  generalize hP : w.heap.size = P at *
  generalize hP1 : P + 1 = P1 at *
  have hPP : ¬ P = P1 := by omega
  have hPP' : ¬ P1 = P := by omega
  by_cases hk1 : k = 1
  · subst hk1
    rw [if_pos rfl] at HTZ
    have HC := Lib.hid (rtext_rdr 2000 _ HR.out)
    have hzt : (⟨(By.textF st 2000).1.toArray⟩ : ByteArray) = txZ st := rfl
    rw [hzt] at HC
    clear hzt
    generalize txZ st = zt at *
    generalize (By.textF st 2000).2 = t1 at *
    obtain ⟨k0, k1, k2, k3, k4, k5, k6, k7, k8, k9, k10, k11⟩ := HKB.out.cs
    go_wp2_with fail
    clear k0 k1 k2 k3 k4 k5 k6 k7 k8 k9 k10 k11
    refine HC.out.mono ?_
    rintro e w3 ⟨rfl, hr, hg⟩
    replace HKB := Lib.hid (HKB.out.read hg (by omega))
    replace HZB := Lib.hid (HZB.out.read hg (by omega))
    replace HR := Lib.hid hr
    replace HG := Lib.hid (HG.out.trans hg)
    clear hr hg HC
    have HPZ := Lib.hid (Zo.parse_far zt w3 (glob_grown HGL.out HG.out hR9 (by omega)) (by have := HTX.out; omega))
    unfold Zo.ParseFar at HPZ
    generalize Zo.rightZ (Zo.parseQ zt) = ok1 at *
    generalize Zo.parseQ zt = pq at *
    have hP1w : P1 + 1 ≤ w3.heap.size := HZB.out.z
    go_wp2_with fail
    refine HPZ.out.mono ?_
    rintro e w4 ⟨zA, zn, zc, zs, rfl, hzr, hzl, hb, hfar⟩
    replace HKB := Lib.hid (HKB.out.below hb)
    replace HZB := Lib.hid (HZB.out.below hb)
    have hw3 := HG.out.size
    have hznl : zn = (if ok1 = true then pq else []).length := by rw [← hzl.1, hzr.1]
    have HZ : Hid (RowFrom Zo.cellsZ 3 (P1 + 1) w4 zA zn zs) := ⟨hzr, fun _ ad e => by have := hfar ad e; omega⟩
    have HLK := Lib.hid hzl
    replace HR := Lib.hid (HR.out.below hb)
    replace HG := Lib.hid (HG.out.trans (By.grown_of_below hb _))
    clear hb hzr hzl hfar HPZ
    subst hznl
    generalize hZ0 : (if ok1 = true then pq else []) = ZZ at *
    have HZ0 := Lib.hid hZ0
    clear hZ0
    have kc := HKB.out.c 8 _ rfl
    have kf := HKB.out.f 8 (by simp)
    obtain ⟨k0, k1, k2, k3, k4, k5, k6, k7, k8, k9, k10, k11⟩ := HKB.out.cs
    go_upto_region 4 with fail
    replace HKB : Hid (Blk (w4.setCell ⟨P, 8, none⟩ (.slice zA ZZ.length zc)) P [.int .i64 1, .string s2, .string s3, .slice A4 n4 c4, .int .i64 c5, .slice A6 n6 c6, .slice A7 n7 c7, .slice A8 n8 c8, .slice zA ZZ.length zc, .slice none 0 0, .bool false, .slice none 0 0]) := HKB.out.set 8 (by simp) _
    replace HZB := Lib.hid (HZB.out.other (p := ⟨P, 8, none⟩) (by show P ≠ P1; omega) (.slice zA ZZ.length zc))
    replace HR := Lib.hid (HR.out.set (p := ⟨P, 8, none⟩) (by show N ≤ P; omega) (.slice zA ZZ.length zc))
    replace HG := Lib.hid (By.grown_own HG.out (p := ⟨P, 8, none⟩) (by show _ ≤ P; omega) (.slice zA ZZ.length zc))
    replace HZ := Lib.hid (HZ.out.above (Above.set (B := P1 + 1) (p := ⟨P, 8, none⟩) (by show P < P1 + 1; omega) (.slice zA ZZ.length zc)))
    clear kc kf
    clear k0 k1 k2 k3 k4 k5 k6 k7 k8 k9 k10 k11
    generalize (w4.setCell ⟨P, 8, none⟩ (.slice zA ZZ.length zc)) = w4' at *
    cases ok1
    · skip
      have hzn : ZZ = [] := by rw [← HZ0.out]; rfl
      subst hzn
      obtain ⟨z0, z1, z2, z3, z4, z5, z6, z7, z8, z9, z10, z11⟩ := HZB.out.cs
      obtain ⟨y0, y1, y2, y3, y4, y5, y6, y7, y8, y9, y10, y11⟩ := HZB.out.fs
      obtain ⟨k0, k1, k2, k3, k4, k5, k6, k7, k8, k9, k10, k11⟩ := HKB.out.cs
      go_wp2
      refine bodyPost_ret (v := .tuple #[.agg #[.int .i64 1, .string s2, .string s3, .slice A4 n4 c4, .int .i64 c5, .slice A6 n6 c6, .slice A7 n7 c7, .slice A8 n8 c8, .slice zA ([] : List Zo.RSt).length zc, .slice none 0 0, .bool false, .slice none 0 0], .bool false]) ?_ rfl ?_
      · simp [results, Tryz.results133, go_sem, z0, z1, z2, z3, z4, z5, z6, z7, z8, z9, z10, z11]
      · exact HD.out zA zc none 0 zs [] [] (false) false _ _ (by rw [HTR.out, HTZ.out]; simp) (row_low (B := P1 + 1) (HZ.out.above (above_sets (by omega))) (by omega)) (HLK.out) (RowFrom.nil) (rdr_sets HR.out (by omega)) (grown_sets HG.out (by omega))
    · skip
      have HC := Lib.hid (takeItems_any _ HR.out)
      have HTI := Lib.hid (show tkItems t1 = ((( tkItems t1).1.1, (tkItems t1).1.2), (tkItems t1).2) from rfl)
      unfold TkItems at HC
      generalize (tkItems t1).1.2 = IT at *
      generalize (tkItems t1).1.1 = ok2 at *
      generalize (tkItems t1).2 = t2 at *
      obtain ⟨k0, k1, k2, k3, k4, k5, k6, k7, k8, k9, k10, k11⟩ := HKB.out.cs
      go_wp2_with fail
      clear k0 k1 k2 k3 k4 k5 k6 k7 k8 k9 k10 k11
      have hzq : P1 + 1 ≤ _ := HZB.out.z
      refine HC.out.mono ?_
      rintro e w5 ⟨iA, ic, rfl, hit, hr, hg⟩
      replace HKB := Lib.hid (HKB.out.read hg (by omega))
      replace HZB := Lib.hid (HZB.out.read hg (by omega))
      have HIT := Lib.hid (row_low (B' := P1 + 1) hit (by omega))
      replace HZ := Lib.hid (HZ.out.above (Above.read hg (by omega)))
      replace HR := Lib.hid hr
      replace HG := Lib.hid (HG.out.trans hg)
      clear hr hg hit HC
      have kc := HKB.out.c 9 _ rfl
      have kf := HKB.out.f 9 (by simp)
      obtain ⟨k0, k1, k2, k3, k4, k5, k6, k7, k8, k9, k10, k11⟩ := HKB.out.cs
      go_upto_region 7 with fail
      replace HKB : Hid (Blk (w5.setCell ⟨P, 9, none⟩ (.slice iA IT.length ic)) P [.int .i64 1, .string s2, .string s3, .slice A4 n4 c4, .int .i64 c5, .slice A6 n6 c6, .slice A7 n7 c7, .slice A8 n8 c8, .slice zA ZZ.length zc, .slice iA IT.length ic, .bool false, .slice none 0 0]) := HKB.out.set 9 (by simp) _
      replace HZB := Lib.hid (HZB.out.other (p := ⟨P, 9, none⟩) (by show P ≠ P1; omega) (.slice iA IT.length ic))
      replace HR := Lib.hid (HR.out.set (p := ⟨P, 9, none⟩) (by show N ≤ P; omega) (.slice iA IT.length ic))
      replace HG := Lib.hid (By.grown_own HG.out (p := ⟨P, 9, none⟩) (by show _ ≤ P; omega) (.slice iA IT.length ic))
      replace HZ := Lib.hid (HZ.out.above (Above.set (B := P1 + 1) (p := ⟨P, 9, none⟩) (by show P < P1 + 1; omega) (.slice iA IT.length ic)))
      replace HIT := Lib.hid (HIT.out.above (Above.set (B := P1 + 1) (p := ⟨P, 9, none⟩) (by show P < P1 + 1; omega) (.slice iA IT.length ic)))
      clear kc kf
      clear k0 k1 k2 k3 k4 k5 k6 k7 k8 k9 k10 k11
      generalize (w5.setCell ⟨P, 9, none⟩ (.slice iA IT.length ic)) = w5' at *
      cases ok2
      · skip
        obtain ⟨z0, z1, z2, z3, z4, z5, z6, z7, z8, z9, z10, z11⟩ := HZB.out.cs
        obtain ⟨y0, y1, y2, y3, y4, y5, y6, y7, y8, y9, y10, y11⟩ := HZB.out.fs
        obtain ⟨k0, k1, k2, k3, k4, k5, k6, k7, k8, k9, k10, k11⟩ := HKB.out.cs
        go_wp2
        refine bodyPost_ret (v := .tuple #[.agg #[.int .i64 1, .string s2, .string s3, .slice A4 n4 c4, .int .i64 c5, .slice A6 n6 c6, .slice A7 n7 c7, .slice A8 n8 c8, .slice zA ZZ.length zc, .slice iA IT.length ic, .bool false, .slice none 0 0], .bool false]) ?_ rfl ?_
        · simp [results, Tryz.results133, go_sem, z0, z1, z2, z3, z4, z5, z6, z7, z8, z9, z10, z11]
        · exact HD.out zA zc iA ic zs ZZ IT (false) false _ _ (by rw [HTR.out, HTZ.out, HTI.out]; simp [tkWhole]) (row_low (B := P1 + 1) (HZ.out.above (above_sets (by omega))) (by omega)) (HLK.out) (row_low (B := P1 + 1) (HIT.out.above (above_sets (by omega))) (by omega)) (rdr_sets HR.out (by omega)) (grown_sets HG.out (by omega))
      · skip
        obtain ⟨z0, z1, z2, z3, z4, z5, z6, z7, z8, z9, z10, z11⟩ := HZB.out.cs
        obtain ⟨y0, y1, y2, y3, y4, y5, y6, y7, y8, y9, y10, y11⟩ := HZB.out.fs
        obtain ⟨k0, k1, k2, k3, k4, k5, k6, k7, k8, k9, k10, k11⟩ := HKB.out.cs
        go_wp2
        refine bodyPost_ret (v := .tuple #[.agg #[.int .i64 1, .string s2, .string s3, .slice A4 n4 c4, .int .i64 c5, .slice A6 n6 c6, .slice A7 n7 c7, .slice A8 n8 c8, .slice zA ZZ.length zc, .slice iA IT.length ic, .bool false, .slice none 0 0], .bool true]) ?_ rfl ?_
        · simp [results, Tryz.results133, go_sem, z0, z1, z2, z3, z4, z5, z6, z7, z8, z9, z10, z11]
        · exact HD.out zA zc iA ic zs ZZ IT (false) true _ _ (by rw [HTR.out, HTZ.out, HTI.out]; simp [tkWhole]) (row_low (B := P1 + 1) (HZ.out.above (above_sets (by omega))) (by omega)) (HLK.out) (row_low (B := P1 + 1) (HIT.out.above (above_sets (by omega))) (by omega)) (rdr_sets HR.out (by omega)) (grown_sets HG.out (by omega))
  · rw [if_neg hk1] at HTZ
    have hn1 : (k == 1) = false := by rw [beq_eq_false_iff_ne]; exact hk1
    have HC := Lib.hid (takeItems_any _ HR.out)
    have HTI := Lib.hid (show tkItems st = ((( tkItems st).1.1, (tkItems st).1.2), (tkItems st).2) from rfl)
    unfold TkItems at HC
    generalize (tkItems st).1.2 = IT at *
    generalize (tkItems st).1.1 = ok2 at *
    generalize (tkItems st).2 = t2 at *
    obtain ⟨k0, k1, k2, k3, k4, k5, k6, k7, k8, k9, k10, k11⟩ := HKB.out.cs
    go_wp2_with fail
    clear k0 k1 k2 k3 k4 k5 k6 k7 k8 k9 k10 k11
    have hzq : P1 + 1 ≤ _ := HZB.out.z
    refine HC.out.mono ?_
    rintro e w5 ⟨iA, ic, rfl, hit, hr, hg⟩
    replace HKB := Lib.hid (HKB.out.read hg (by omega))
    replace HZB := Lib.hid (HZB.out.read hg (by omega))
    have HIT := Lib.hid (row_low (B' := P1 + 1) hit (by omega))
    replace HR := Lib.hid hr
    replace HG := Lib.hid (HG.out.trans hg)
    clear hr hg hit HC
    have kc := HKB.out.c 9 _ rfl
    have kf := HKB.out.f 9 (by simp)
    obtain ⟨k0, k1, k2, k3, k4, k5, k6, k7, k8, k9, k10, k11⟩ := HKB.out.cs
    go_upto_region 7 with fail
    replace HKB : Hid (Blk (w5.setCell ⟨P, 9, none⟩ (.slice iA IT.length ic)) P [.int .i64 k, .string s2, .string s3, .slice A4 n4 c4, .int .i64 c5, .slice A6 n6 c6, .slice A7 n7 c7, .slice A8 n8 c8, .slice none 0 0, .slice iA IT.length ic, .bool false, .slice none 0 0]) := HKB.out.set 9 (by simp) _
    replace HZB := Lib.hid (HZB.out.other (p := ⟨P, 9, none⟩) (by show P ≠ P1; omega) (.slice iA IT.length ic))
    replace HR := Lib.hid (HR.out.set (p := ⟨P, 9, none⟩) (by show N ≤ P; omega) (.slice iA IT.length ic))
    replace HG := Lib.hid (By.grown_own HG.out (p := ⟨P, 9, none⟩) (by show _ ≤ P; omega) (.slice iA IT.length ic))
    replace HIT := Lib.hid (HIT.out.above (Above.set (B := P1 + 1) (p := ⟨P, 9, none⟩) (by show P < P1 + 1; omega) (.slice iA IT.length ic)))
    clear kc kf
    clear k0 k1 k2 k3 k4 k5 k6 k7 k8 k9 k10 k11
    generalize (w5.setCell ⟨P, 9, none⟩ (.slice iA IT.length ic)) = w5' at *
    cases ok2
    · skip
      obtain ⟨z0, z1, z2, z3, z4, z5, z6, z7, z8, z9, z10, z11⟩ := HZB.out.cs
      obtain ⟨y0, y1, y2, y3, y4, y5, y6, y7, y8, y9, y10, y11⟩ := HZB.out.fs
      obtain ⟨k0, k1, k2, k3, k4, k5, k6, k7, k8, k9, k10, k11⟩ := HKB.out.cs
      go_wp2
      refine bodyPost_ret (v := .tuple #[.agg #[.int .i64 k, .string s2, .string s3, .slice A4 n4 c4, .int .i64 c5, .slice A6 n6 c6, .slice A7 n7 c7, .slice A8 n8 c8, .slice none 0 0, .slice iA IT.length ic, .bool false, .slice none 0 0], .bool false]) ?_ rfl ?_
      · simp [results, Tryz.results133, go_sem, z0, z1, z2, z3, z4, z5, z6, z7, z8, z9, z10, z11]
      · exact HD.out none 0 iA ic [] [] IT (false) false _ _ (by rw [HTR.out, HTZ.out, HTI.out]; simp [tkWhole]) (RowFrom.nil) (⟨rfl, fun k z r h => by simp at h⟩) (row_low (B := P1 + 1) (HIT.out.above (above_sets (by omega))) (by omega)) (rdr_sets HR.out (by omega)) (grown_sets HG.out (by omega))
    · skip
      by_cases hk2 : k = 2
      · subst hk2
        have HC := Lib.hid (rnum_rdr 1 _ HR.out)
        have HWH : Hid (tkWhole 2 true t2 = (decide ((By.numF t2 1).1 = 1), (By.numF t2 1).2)) := rfl
        generalize (By.numF t2 1).2 = t3 at *
        generalize (By.numF t2 1).1 = nw at *
        obtain ⟨k0, k1, k2, k3, k4, k5, k6, k7, k8, k9, k10, k11⟩ := HKB.out.cs
        go_wp2_with fail
        clear k0 k1 k2 k3 k4 k5 k6 k7 k8 k9 k10 k11
        refine HC.out.mono ?_
        rintro e w6 ⟨rfl, hr, hg⟩
        replace HKB := Lib.hid (HKB.out.read hg (by omega))
        replace HZB := Lib.hid (HZB.out.read hg (by omega))
        replace HIT := Lib.hid (HIT.out.above (Above.read hg (by omega)))
        replace HR := Lib.hid hr
        replace HG := Lib.hid (HG.out.trans hg)
        clear hr hg HC
        have hbn : (nw == 1) = decide (nw = 1) := rfl
        have kc := HKB.out.c 10 _ rfl
        have kf := HKB.out.f 10 (by simp)
        obtain ⟨k0, k1, k2, k3, k4, k5, k6, k7, k8, k9, k10, k11⟩ := HKB.out.cs
        go_upto_region 9 with fail
        try rw [hbn]
        replace HKB : Hid (Blk (w6.setCell ⟨P, 10, none⟩ (.bool (decide (nw = 1)))) P [.int .i64 2, .string s2, .string s3, .slice A4 n4 c4, .int .i64 c5, .slice A6 n6 c6, .slice A7 n7 c7, .slice A8 n8 c8, .slice none 0 0, .slice iA IT.length ic, .bool (decide (nw = 1)), .slice none 0 0]) := HKB.out.set 10 (by simp) _
        replace HZB := Lib.hid (HZB.out.other (p := ⟨P, 10, none⟩) (by show P ≠ P1; omega) (.bool (decide (nw = 1))))
        replace HR := Lib.hid (HR.out.set (p := ⟨P, 10, none⟩) (by show N ≤ P; omega) (.bool (decide (nw = 1))))
        replace HG := Lib.hid (By.grown_own HG.out (p := ⟨P, 10, none⟩) (by show _ ≤ P; omega) (.bool (decide (nw = 1))))
        replace HIT := Lib.hid (HIT.out.above (Above.set (B := P1 + 1) (p := ⟨P, 10, none⟩) (by show P < P1 + 1; omega) (.bool (decide (nw = 1)))))
        clear kc kf
        clear k0 k1 k2 k3 k4 k5 k6 k7 k8 k9 k10 k11
        generalize (w6.setCell ⟨P, 10, none⟩ (.bool (decide (nw = 1)))) = w6' at *
        obtain ⟨z0, z1, z2, z3, z4, z5, z6, z7, z8, z9, z10, z11⟩ := HZB.out.cs
        obtain ⟨y0, y1, y2, y3, y4, y5, y6, y7, y8, y9, y10, y11⟩ := HZB.out.fs
        obtain ⟨k0, k1, k2, k3, k4, k5, k6, k7, k8, k9, k10, k11⟩ := HKB.out.cs
        go_wp2
        refine bodyPost_ret (v := .tuple #[.agg #[.int .i64 2, .string s2, .string s3, .slice A4 n4 c4, .int .i64 c5, .slice A6 n6 c6, .slice A7 n7 c7, .slice A8 n8 c8, .slice none 0 0, .slice iA IT.length ic, .bool (decide (nw = 1)), .slice none 0 0], .bool true]) ?_ rfl ?_
        · simp [results, Tryz.results133, go_sem, z0, z1, z2, z3, z4, z5, z6, z7, z8, z9, z10, z11]
        · exact HD.out none 0 iA ic [] [] IT ((decide (nw = 1))) true _ _ (by rw [HTR.out, HTZ.out, HTI.out]; simp [HWH.out]) (RowFrom.nil) (⟨rfl, fun k z r h => by simp at h⟩) (row_low (B := P1 + 1) (HIT.out.above (above_sets (by omega))) (by omega)) (rdr_sets HR.out (by omega)) (grown_sets HG.out (by omega))
      · have hn2 : (k == 2) = false := by rw [beq_eq_false_iff_ne]; exact hk2
        obtain ⟨z0, z1, z2, z3, z4, z5, z6, z7, z8, z9, z10, z11⟩ := HZB.out.cs
        obtain ⟨y0, y1, y2, y3, y4, y5, y6, y7, y8, y9, y10, y11⟩ := HZB.out.fs
        obtain ⟨k0, k1, k2, k3, k4, k5, k6, k7, k8, k9, k10, k11⟩ := HKB.out.cs
        go_wp2
        refine bodyPost_ret (v := .tuple #[.agg #[.int .i64 k, .string s2, .string s3, .slice A4 n4 c4, .int .i64 c5, .slice A6 n6 c6, .slice A7 n7 c7, .slice A8 n8 c8, .slice none 0 0, .slice iA IT.length ic, .bool false, .slice none 0 0], .bool true]) ?_ rfl ?_
        · simp [results, Tryz.results133, go_sem, z0, z1, z2, z3, z4, z5, z6, z7, z8, z9, z10, z11]
        · exact HD.out none 0 iA ic [] [] IT (false) true _ _ (by rw [HTR.out, HTZ.out, HTI.out]; simp [tkWhole, hk2]) (RowFrom.nil) (⟨rfl, fun k z r h => by simp at h⟩) (row_low (B := P1 + 1) (HIT.out.above (above_sets (by omega))) (by omega)) (rdr_sets HR.out (by omega)) (grown_sets HG.out (by omega))
end Go.Proofs.YtbookbgfipbaoaaGreatDoor

/- frame: take. -/
namespace Go.Proofs.YtbookbgfipbaoaaGreatDoor
open Go.RowKit
open By (Rd ReaderAt)

def fk (st : Rd) := By.numF st 3
def fa (st : Rd) := tkId (fk st).2
def fb (st : Rd) := tkId (fa st).2
def fv (st : Rd) := tkAll tkAt 64 (fb st).2
def fn (st : Rd) := tkAll tkKnown 64 (fb st).2
def fc (st : Rd) := tkNum (fn st).2
def fm (st : Rd) := tkAll tkId 64 (fc st).2
def fe (st : Rd) := tkAll tkAt 64 (fm st).2
def fo (st : Rd) := tkAll tkRow 64 (fe st).2
def fr (st : Rd) := tkRest (fk st).1 (fo st).2
def zeroFrm : Frm := ⟨0, ⟨#[]⟩, ⟨#[]⟩, [], 0, [], [], [], [], [], false, []⟩
def tkFrm (st : Rd) : (Frm × Bool) × Rd :=
  if (fk st).1 = 0 then ((zeroFrm, false), (fk st).2)
  else if (fk st).1 = 3 then ((⟨3, (fa st).1, (fb st).1, [], 0, [], [], [], [], [], false, (fv st).1⟩, true), (fv st).2)
  else ((⟨(fk st).1, (fa st).1, (fb st).1, (fn st).1, (fc st).1, (fm st).1, (fe st).1, (fo st).1, (fr st).1.2.1, (fr st).1.2.2.1, (fr st).1.2.2.2, []⟩, (fr st).1.1), (fr st).2)
/-- A Frame whose lists lie from B on. -/
structure FrmFrom (B : Nat) (w : World) (f : Frm) (h : Lie) : Prop where
  know : MatKFrom B w h.kA f.know.length f.know
  members : RowFrom cellsT 1 B w h.mA f.members.length f.members
  certs : VecFrom B w h.cA f.certs.length f.certs
  rows : MatMFrom B w h.rA f.rows.length f.rows
  zone : ∃ zs, RowFrom Zo.cellsZ 3 B w h.zA f.zone.length zs ∧ Zo.LikeL zs f.zone
  items : RowFrom By.cellsP 8 B w h.iA f.items.length f.items
  floor : VecFrom B w h.fA f.floor.length f.floor
theorem FrmFrom.above {B : Nat} {w w' : World} {f : Frm} {h : Lie} (k : FrmFrom B w f h) (ha : Above B w w') : FrmFrom B w' f h :=
  ⟨k.know.above ha, k.members.above ha, k.certs.above ha, k.rows.above ha, by obtain ⟨zs, h1, h2⟩ := k.zone; exact ⟨zs, h1.above ha, h2⟩, k.items.above ha, k.floor.above ha⟩
theorem FrmFrom.at {B : Nat} {w : World} {f : Frm} {h : Lie} (k : FrmFrom B w f h) : FrmAt w w.heap.size f h :=
  ⟨k.know.at, k.members.1, k.certs.1, k.rows.at, by obtain ⟨zs, h1, h2⟩ := k.zone; exact ⟨zs, h1.1, h2⟩, k.items.1, k.floor.1⟩
theorem FrmFrom.low {B B' : Nat} {w : World} {f : Frm} {h : Lie} (k : FrmFrom B w f h) (hB : B' ≤ B) : FrmFrom B' w f h := by
  refine ⟨?_, row_low k.members hB, ⟨k.certs.1, fun hn ad e => Nat.le_trans hB (k.certs.2 hn ad e)⟩, ?_, ?_, row_low k.items hB, ⟨k.floor.1, fun hn ad e => Nat.le_trans hB (k.floor.2 hn ad e)⟩⟩
  · obtain ⟨rs, e, h1, h2⟩ := k.know
    exact ⟨rs, e, row_low h1 hB, fun r hr => ⟨(h2 r hr).1, fun hn ad e => Nat.le_trans hB ((h2 r hr).2 hn ad e)⟩⟩
  · obtain ⟨rs, e, h1, h2⟩ := k.rows
    exact ⟨rs, e, row_low h1 hB, fun r hr => ⟨(h2 r hr).1, fun hn ad e => Nat.le_trans hB ((h2 r hr).2 hn ad e)⟩⟩
  · obtain ⟨zs, h1, h2⟩ := k.zone
    exact ⟨zs, row_low h1 hB, h2⟩
def TkFrm (T : (Frm × Bool) × Rd) (R g N : Nat) (w : World) (en : Ending) (w' : World) : Prop :=
  ∃ h : Lie, en = .returned (.tuple #[frmV T.1.1 h, .bool T.1.2]) ∧ FrmFrom w.heap.size w' T.1.1 h ∧ Rdr w' R g N T.2 ∧ w.grownBy w' (some R)
set_option maxRecDepth 100000 in
set_option maxHeartbeats 8000000 in
theorem take12_any {R g N : Nat} {st : Rd} (w : World) (h : Rdr w R g N st) (hg : Zo.Glob w) (hR9 : 9 ≤ R) :
    Calls Tryz.prog 65 #[.pointer (some ⟨R, 0, none⟩)] w (TkFrm (tkFrm st) R g N w) := by
  have hRlt := h.lt
  have hle := h.le
  have h9 : 9 ≤ w.heap.size := by omega
  have HGL := Lib.hid hg
  have HR : Hid (Rdr (w.alloc (.cells #[.int .i64 0, .string ⟨#[]⟩, .string ⟨#[]⟩, .slice none 0 0, .int .i64 0, .slice none 0 0, .slice none 0 0, .slice none 0 0, .slice none 0 0, .slice none 0 0, .bool false, .slice none 0 0] 45)) R g N st) := h.below ((Below.refl _ _).alloc (Nat.le_refl _) _)
  have HG : Hid (w.grownBy (w.alloc (.cells #[.int .i64 0, .string ⟨#[]⟩, .string ⟨#[]⟩, .slice none 0 0, .int .i64 0, .slice none 0 0, .slice none 0 0, .slice none 0 0, .slice none 0 0, .slice none 0 0, .bool false, .slice none 0 0] 45)) (some R)) := By.grown_more (World.grownBy.refl w _) _
  have HT : Hid (tkFrm st = if (fk st).1 = 0 then ((zeroFrm, false), (fk st).2) else if (fk st).1 = 3 then ((⟨3, (fa st).1, (fb st).1, [], 0, [], [], [], [], [], false, (fv st).1⟩, true), (fv st).2) else ((⟨(fk st).1, (fa st).1, (fb st).1, (fn st).1, (fc st).1, (fm st).1, (fe st).1, (fo st).1, (fr st).1.2.1, (fr st).1.2.2.1, (fr st).1.2.2.2, []⟩, (fr st).1.1), (fr st).2)) := rfl
  have HD : Hid (∀ (f : Frm) (h : Lie) (ok : Bool) (t : Rd) (w' : World), tkFrm st = ((f, ok), t) → FrmFrom w.heap.size w' f h → Rdr w' R g N t → w.grownBy w' (some R) → TkFrm (tkFrm st) R g N w (.returned (.tuple #[frmV f h, .bool ok])) w') := fun f h ok t w' e h1 h2 h3 => by rw [e]; exact ⟨h, rfl, h1, h2, h3⟩
  generalize TkFrm (tkFrm st) R g N w = PR at *
  clear h hg
  have Hfk : Hid (By.numF st 3 = fk st) := rfl
  have Hfa : Hid (tkId (fk st).2 = fa st) := rfl
  have Hfb : Hid (tkId (fa st).2 = fb st) := rfl
  have Hfv : Hid (tkAll tkAt 64 (fb st).2 = fv st) := rfl
  have Hfn : Hid (tkAll tkKnown 64 (fb st).2 = fn st) := rfl
  have Hfc : Hid (tkNum (fn st).2 = fc st) := rfl
  have Hfm : Hid (tkAll tkId 64 (fc st).2 = fm st) := rfl
  have Hfe : Hid (tkAll tkAt 64 (fm st).2 = fe st) := rfl
  have Hfo : Hid (tkAll tkRow 64 (fe st).2 = fo st) := rfl
  have Hfr : Hid (tkRest (fk st).1 (fo st).2 = fr st) := rfl
  generalize fk st = xfk at *
  generalize fa st = xfa at *
  generalize fb st = xfb at *
  generalize fv st = xfv at *
  generalize fn st = xfn at *
  generalize fc st = xfc at *
  generalize fm st = xfm at *
  generalize fe st = xfe at *
  generalize fo st = xfo at *
  generalize fr st = xfr at *
  go_enter Tryz.func65, Tryz.ntmps65
  go_upto_region 1 with fail
  have HZB : Hid (Blk (w.alloc (.cells #[.int .i64 0, .string ⟨#[]⟩, .string ⟨#[]⟩, .slice none 0 0, .int .i64 0, .slice none 0 0, .slice none 0 0, .slice none 0 0, .slice none 0 0, .slice none 0 0, .bool false, .slice none 0 0] 45)) w.heap.size [.int .i64 0, .string ⟨#[]⟩, .string ⟨#[]⟩, .slice none 0 0, .int .i64 0, .slice none 0 0, .slice none 0 0, .slice none 0 0, .slice none 0 0, .slice none 0 0, .bool false, .slice none 0 0]) := Blk.new w [.int .i64 0, .string ⟨#[]⟩, .string ⟨#[]⟩, .slice none 0 0, .int .i64 0, .slice none 0 0, .slice none 0 0, .slice none 0 0, .slice none 0 0, .slice none 0 0, .bool false, .slice none 0 0] _
  generalize (w.alloc (.cells #[.int .i64 0, .string ⟨#[]⟩, .string ⟨#[]⟩, .slice none 0 0, .int .i64 0, .slice none 0 0, .slice none 0 0, .slice none 0 0, .slice none 0 0, .slice none 0 0, .bool false, .slice none 0 0] 45)) = W0 at *
  generalize hP : w.heap.size = P at *
  have HC := Lib.hid (rnum_rdr 3 _ HR.out)
  rw [Hfk.out] at HC
  go_wp2_with fail
  refine HC.out.mono ?_
  rintro e w1 ⟨rfl, hr, hg⟩
  have hPz := Nat.lt_of_lt_of_le HZB.out.z hg.size
  replace HZB := Lib.hid (HZB.out.read hg (by omega))
  replace HR := Lib.hid hr
  replace HG := Lib.hid (HG.out.trans hg)
  clear hr hg HC
  obtain ⟨n1, s1⟩ := xfk
  simp only at HR HT Hfa Hfr ⊢
  go_upto_region 2 with fail
  have HKB : Hid (Blk (w1.alloc (.cells #[.int .i64 n1, .string ⟨#[]⟩, .string ⟨#[]⟩, .slice none 0 0, .int .i64 0, .slice none 0 0, .slice none 0 0, .slice none 0 0, .slice none 0 0, .slice none 0 0, .bool false, .slice none 0 0] 45)) w1.heap.size [.int .i64 n1, .string ⟨#[]⟩, .string ⟨#[]⟩, .slice none 0 0, .int .i64 0, .slice none 0 0, .slice none 0 0, .slice none 0 0, .slice none 0 0, .slice none 0 0, .bool false, .slice none 0 0]) := Blk.new w1 [.int .i64 n1, .string ⟨#[]⟩, .string ⟨#[]⟩, .slice none 0 0, .int .i64 0, .slice none 0 0, .slice none 0 0, .slice none 0 0, .slice none 0 0, .slice none 0 0, .bool false, .slice none 0 0] _
  have hba : Below w1.heap.size w1 (w1.alloc (.cells #[.int .i64 n1, .string ⟨#[]⟩, .string ⟨#[]⟩, .slice none 0 0, .int .i64 0, .slice none 0 0, .slice none 0 0, .slice none 0 0, .slice none 0 0, .slice none 0 0, .bool false, .slice none 0 0] 45)) := (Below.refl _ _).alloc (Nat.le_refl _) _
  replace HZB := Lib.hid (HZB.out.below hba)
  replace HR := Lib.hid (HR.out.below hba)
  replace HG := Lib.hid (HG.out.trans (By.grown_of_below hba _))
  clear hba
  generalize (w1.alloc (.cells #[.int .i64 n1, .string ⟨#[]⟩, .string ⟨#[]⟩, .slice none 0 0, .int .i64 0, .slice none 0 0, .slice none 0 0, .slice none 0 0, .slice none 0 0, .slice none 0 0, .bool false, .slice none 0 0] 45)) = W1 at *
  generalize hQ : w1.heap.size = Q at *
  by_cases hk0 : n1 = 0
  · subst hk0
    obtain ⟨k0, k1, k2, k3, k4, k5, k6, k7, k8, k9, k10, k11⟩ := HKB.out.cs
    obtain ⟨z0, z1, z2, z3, z4, z5, z6, z7, z8, z9, z10, z11⟩ := HZB.out.cs
    obtain ⟨y0, y1, y2, y3, y4, y5, y6, y7, y8, y9, y10, y11⟩ := HZB.out.fs
    go_wp2
    refine bodyPost_ret (v := .tuple #[.agg #[.int .i64 0, .string ⟨#[]⟩, .string ⟨#[]⟩, .slice none 0 0, .int .i64 0, .slice none 0 0, .slice none 0 0, .slice none 0 0, .slice none 0 0, .slice none 0 0, .bool false, .slice none 0 0], .bool false]) ?_ rfl ?_
    · simp [results, Tryz.results65, go_sem, z0, z1, z2, z3, z4, z5, z6, z7, z8, z9, z10, z11]
    · exact HD.out zeroFrm ⟨none, 0, none, 0, none, 0, none, 0, none, 0, none, 0, none, 0⟩ false _ _ (by rw [HT.out]; simp) (((⟨MatKFrom.nil, RowFrom.nil, VecFrom.nil, MatMFrom.nil, ⟨[], RowFrom.nil, rfl, fun k z r h => by simp at h⟩, RowFrom.nil, VecFrom.nil⟩ : FrmFrom (Q + 1) _ _ _).low (by omega))) (rdr_sets HR.out (by omega)) (grown_sets HG.out (by omega))
  have hn0 : (n1 == 0) = false := by rw [beq_eq_false_iff_ne]; exact hk0
  have HC := Lib.hid (takeId_any _ HR.out)
  have hzq : Q + 1 ≤ _ := HKB.out.z
  obtain ⟨k0, k1, k2, k3, k4, k5, k6, k7, k8, k9, k10, k11⟩ := HKB.out.cs
  go_wp2_with fail
  clear k0 k1 k2 k3 k4 k5 k6 k7 k8 k9 k10 k11
  refine HC.out.mono ?_
  rintro e w2 ⟨rfl, hr, hg⟩
  replace HKB := Lib.hid (HKB.out.read hg (by omega))
  replace HZB := Lib.hid (HZB.out.read hg (by omega))
  replace HR := Lib.hid hr
  replace HG := Lib.hid (HG.out.trans hg)
  clear hr hg HC hzq
  rw [Hfa.out] at HR ⊢
  have kcel := HKB.out.c 1 _ rfl
  have kfro := HKB.out.f 1 (by simp)
  go_upto_region 5 with fail
  replace HKB : Hid (Blk (w2.setCell ⟨Q, 1, none⟩ (.string xfa.1)) Q [.int .i64 n1, .string xfa.1, .string ⟨#[]⟩, .slice none 0 0, .int .i64 0, .slice none 0 0, .slice none 0 0, .slice none 0 0, .slice none 0 0, .slice none 0 0, .bool false, .slice none 0 0]) := HKB.out.set 1 (by simp) _
  replace HZB := Lib.hid (HZB.out.other (p := ⟨Q, 1, none⟩) (by show Q ≠ P; omega) (.string xfa.1))
  replace HR := Lib.hid (HR.out.set (p := ⟨Q, 1, none⟩) (by show N ≤ Q; omega) (.string xfa.1))
  replace HG := Lib.hid (By.grown_own HG.out (p := ⟨Q, 1, none⟩) (by show _ ≤ Q; omega) (.string xfa.1))
  clear kcel kfro
  generalize (w2.setCell ⟨Q, 1, none⟩ (.string xfa.1)) = w2' at *
  have HC := Lib.hid (takeId_any _ HR.out)
  have hzq : Q + 1 ≤ _ := HKB.out.z
  obtain ⟨k0, k1, k2, k3, k4, k5, k6, k7, k8, k9, k10, k11⟩ := HKB.out.cs
  go_wp2_with fail
  clear k0 k1 k2 k3 k4 k5 k6 k7 k8 k9 k10 k11
  refine HC.out.mono ?_
  rintro e w3 ⟨rfl, hr, hg⟩
  replace HKB := Lib.hid (HKB.out.read hg (by omega))
  replace HZB := Lib.hid (HZB.out.read hg (by omega))
  replace HR := Lib.hid hr
  replace HG := Lib.hid (HG.out.trans hg)
  clear hr hg HC hzq
  rw [Hfb.out] at HR ⊢
  have kcel := HKB.out.c 2 _ rfl
  have kfro := HKB.out.f 2 (by simp)
  go_upto_region 6 with fail
  replace HKB : Hid (Blk (w3.setCell ⟨Q, 2, none⟩ (.string xfb.1)) Q [.int .i64 n1, .string xfa.1, .string xfb.1, .slice none 0 0, .int .i64 0, .slice none 0 0, .slice none 0 0, .slice none 0 0, .slice none 0 0, .slice none 0 0, .bool false, .slice none 0 0]) := HKB.out.set 2 (by simp) _
  replace HZB := Lib.hid (HZB.out.other (p := ⟨Q, 2, none⟩) (by show Q ≠ P; omega) (.string xfb.1))
  replace HR := Lib.hid (HR.out.set (p := ⟨Q, 2, none⟩) (by show N ≤ Q; omega) (.string xfb.1))
  replace HG := Lib.hid (By.grown_own HG.out (p := ⟨Q, 2, none⟩) (by show _ ≤ Q; omega) (.string xfb.1))
  clear kcel kfro
  generalize (w3.setCell ⟨Q, 2, none⟩ (.string xfb.1)) = w3' at *
  by_cases hk3 : n1 = 3
  · subst hk3
    have HCC := Lib.hid (takeAllAt_any (R := R) (g := g) (N := N) 64 (by omega) (by omega) w3' HR.out)
    unfold TkRow at HCC
    rw [Hfv.out] at HCC
    have HC := Lib.hid (HCC.out)
    have hzq : Q + 1 ≤ _ := HKB.out.z
    obtain ⟨k0, k1, k2, k3, k4, k5, k6, k7, k8, k9, k10, k11⟩ := HKB.out.cs
    go_wp2_with fail
    clear k0 k1 k2 k3 k4 k5 k6 k7 k8 k9 k10 k11
    refine HC.out.mono ?_
    rintro e w4 ⟨A1, c1, rfl, ho, hr, hg⟩
    replace HKB := Lib.hid (HKB.out.read hg (by omega))
    replace HZB := Lib.hid (HZB.out.read hg (by omega))
    have HV := Lib.hid (VecFrom.own (B := Q + 1) ho (by omega))
    replace HR := Lib.hid hr
    replace HG := Lib.hid (HG.out.trans hg)
    clear hr hg HC hzq
    clear ho HCC
    have kcel := HKB.out.c 11 _ rfl
    have kfro := HKB.out.f 11 (by simp)
    go_upto_region 8 with fail
    replace HKB : Hid (Blk (w4.setCell ⟨Q, 11, none⟩ (.slice A1 xfv.1.length c1)) Q [.int .i64 3, .string xfa.1, .string xfb.1, .slice none 0 0, .int .i64 0, .slice none 0 0, .slice none 0 0, .slice none 0 0, .slice none 0 0, .slice none 0 0, .bool false, .slice A1 xfv.1.length c1]) := HKB.out.set 11 (by simp) _
    replace HZB := Lib.hid (HZB.out.other (p := ⟨Q, 11, none⟩) (by show Q ≠ P; omega) (.slice A1 xfv.1.length c1))
    replace HR := Lib.hid (HR.out.set (p := ⟨Q, 11, none⟩) (by show N ≤ Q; omega) (.slice A1 xfv.1.length c1))
    replace HG := Lib.hid (By.grown_own HG.out (p := ⟨Q, 11, none⟩) (by show _ ≤ Q; omega) (.slice A1 xfv.1.length c1))
    replace HV := Lib.hid (HV.out.above (Above.set (p := ⟨Q, 11, none⟩) (by show Q < Q + 1; omega) (.slice A1 xfv.1.length c1)))
    clear kcel kfro
    generalize (w4.setCell ⟨Q, 11, none⟩ (.slice A1 xfv.1.length c1)) = w4' at *
    obtain ⟨k0, k1, k2, k3, k4, k5, k6, k7, k8, k9, k10, k11⟩ := HKB.out.cs
    obtain ⟨z0, z1, z2, z3, z4, z5, z6, z7, z8, z9, z10, z11⟩ := HZB.out.cs
    obtain ⟨y0, y1, y2, y3, y4, y5, y6, y7, y8, y9, y10, y11⟩ := HZB.out.fs
    go_wp2
    refine bodyPost_ret (v := .tuple #[.agg #[.int .i64 3, .string xfa.1, .string xfb.1, .slice none 0 0, .int .i64 0, .slice none 0 0, .slice none 0 0, .slice none 0 0, .slice none 0 0, .slice none 0 0, .bool false, .slice A1 xfv.1.length c1], .bool true]) ?_ rfl ?_
    · simp [results, Tryz.results65, go_sem, z0, z1, z2, z3, z4, z5, z6, z7, z8, z9, z10, z11]
    · exact HD.out ⟨3, xfa.1, xfb.1, [], 0, [], [], [], [], [], false, xfv.1⟩ ⟨none, 0, none, 0, none, 0, none, 0, none, 0, none, 0, A1, c1⟩ true _ _ (by rw [HT.out]; simp) (((⟨MatKFrom.nil, RowFrom.nil, VecFrom.nil, MatMFrom.nil, ⟨[], RowFrom.nil, rfl, fun k z r h => by simp at h⟩, RowFrom.nil, HV.out.above (above_sets (by omega))⟩ : FrmFrom (Q + 1) _ _ _).low (by omega))) (rdr_sets HR.out (by omega)) (grown_sets HG.out (by omega))
  have hn3 : (n1 == 3) = false := by rw [beq_eq_false_iff_ne]; exact hk3
  have HCC := Lib.hid (takeAllKnown_any (R := R) (g := g) (N := N) 64 (by omega) (by omega) w3' HR.out)
  unfold TkMatK at HCC
  rw [Hfn.out] at HCC
  have HC := Lib.hid (HCC.out)
  have hzq : Q + 1 ≤ _ := HKB.out.z
  obtain ⟨k0, k1, k2, k3, k4, k5, k6, k7, k8, k9, k10, k11⟩ := HKB.out.cs
  go_wp2_with fail
  clear k0 k1 k2 k3 k4 k5 k6 k7 k8 k9 k10 k11
  refine HC.out.mono ?_
  rintro e w4 ⟨kA, kc, krs, hka, rfl, ho, hu, hr, hg⟩
  replace HKB := Lib.hid (HKB.out.read hg (by omega))
  replace HZB := Lib.hid (HZB.out.read hg (by omega))
  have HK := Lib.hid (MatKFrom.own (B := Q + 1) hka ho hu (by omega))
  replace HR := Lib.hid hr
  replace HG := Lib.hid (HG.out.trans hg)
  clear hr hg HC hzq
  clear hka ho hu HCC
  have kcel := HKB.out.c 3 _ rfl
  have kfro := HKB.out.f 3 (by simp)
  go_upto_region 10 with fail
  replace HKB : Hid (Blk (w4.setCell ⟨Q, 3, none⟩ (.slice kA xfn.1.length kc)) Q [.int .i64 n1, .string xfa.1, .string xfb.1, .slice kA xfn.1.length kc, .int .i64 0, .slice none 0 0, .slice none 0 0, .slice none 0 0, .slice none 0 0, .slice none 0 0, .bool false, .slice none 0 0]) := HKB.out.set 3 (by simp) _
  replace HZB := Lib.hid (HZB.out.other (p := ⟨Q, 3, none⟩) (by show Q ≠ P; omega) (.slice kA xfn.1.length kc))
  replace HR := Lib.hid (HR.out.set (p := ⟨Q, 3, none⟩) (by show N ≤ Q; omega) (.slice kA xfn.1.length kc))
  replace HG := Lib.hid (By.grown_own HG.out (p := ⟨Q, 3, none⟩) (by show _ ≤ Q; omega) (.slice kA xfn.1.length kc))
  replace HK := Lib.hid (HK.out.above (Above.set (p := ⟨Q, 3, none⟩) (by show Q < Q + 1; omega) (.slice kA xfn.1.length kc)))
  clear kcel kfro
  generalize (w4.setCell ⟨Q, 3, none⟩ (.slice kA xfn.1.length kc)) = w4' at *
  have HC := Lib.hid (takeNum_any _ HR.out)
  have hzq : Q + 1 ≤ _ := HKB.out.z
  obtain ⟨k0, k1, k2, k3, k4, k5, k6, k7, k8, k9, k10, k11⟩ := HKB.out.cs
  go_wp2_with fail
  clear k0 k1 k2 k3 k4 k5 k6 k7 k8 k9 k10 k11
  refine HC.out.mono ?_
  rintro e w5 ⟨rfl, hr, hg⟩
  replace HKB := Lib.hid (HKB.out.read hg (by omega))
  replace HZB := Lib.hid (HZB.out.read hg (by omega))
  replace HK := Lib.hid (HK.out.above (Above.read hg (by omega)))
  replace HR := Lib.hid hr
  replace HG := Lib.hid (HG.out.trans hg)
  clear hr hg HC hzq
  rw [Hfc.out] at HR ⊢
  have kcel := HKB.out.c 4 _ rfl
  have kfro := HKB.out.f 4 (by simp)
  go_upto_region 11 with fail
  replace HKB : Hid (Blk (w5.setCell ⟨Q, 4, none⟩ (.int .i64 xfc.1)) Q [.int .i64 n1, .string xfa.1, .string xfb.1, .slice kA xfn.1.length kc, .int .i64 xfc.1, .slice none 0 0, .slice none 0 0, .slice none 0 0, .slice none 0 0, .slice none 0 0, .bool false, .slice none 0 0]) := HKB.out.set 4 (by simp) _
  replace HZB := Lib.hid (HZB.out.other (p := ⟨Q, 4, none⟩) (by show Q ≠ P; omega) (.int .i64 xfc.1))
  replace HR := Lib.hid (HR.out.set (p := ⟨Q, 4, none⟩) (by show N ≤ Q; omega) (.int .i64 xfc.1))
  replace HG := Lib.hid (By.grown_own HG.out (p := ⟨Q, 4, none⟩) (by show _ ≤ Q; omega) (.int .i64 xfc.1))
  replace HK := Lib.hid (HK.out.above (Above.set (p := ⟨Q, 4, none⟩) (by show Q < Q + 1; omega) (.int .i64 xfc.1)))
  clear kcel kfro
  generalize (w5.setCell ⟨Q, 4, none⟩ (.int .i64 xfc.1)) = w5' at *
  have HCC := Lib.hid (takeAllId_any (R := R) (g := g) (N := N) 64 (by omega) (by omega) w5' HR.out)
  unfold TkRow at HCC
  rw [Hfm.out] at HCC
  have HC := Lib.hid (HCC.out)
  have hzq : Q + 1 ≤ _ := HKB.out.z
  obtain ⟨k0, k1, k2, k3, k4, k5, k6, k7, k8, k9, k10, k11⟩ := HKB.out.cs
  go_wp2_with fail
  clear k0 k1 k2 k3 k4 k5 k6 k7 k8 k9 k10 k11
  refine HC.out.mono ?_
  rintro e w6 ⟨mA, mc, rfl, ho, hr, hg⟩
  replace HKB := Lib.hid (HKB.out.read hg (by omega))
  replace HZB := Lib.hid (HZB.out.read hg (by omega))
  replace HK := Lib.hid (HK.out.above (Above.read hg (by omega)))
  have HM := Lib.hid (RowFrom.own (B := Q + 1) rowT ho (by omega))
  replace HR := Lib.hid hr
  replace HG := Lib.hid (HG.out.trans hg)
  clear hr hg HC hzq
  clear ho HCC
  have kcel := HKB.out.c 5 _ rfl
  have kfro := HKB.out.f 5 (by simp)
  go_upto_region 12 with fail
  replace HKB : Hid (Blk (w6.setCell ⟨Q, 5, none⟩ (.slice mA xfm.1.length mc)) Q [.int .i64 n1, .string xfa.1, .string xfb.1, .slice kA xfn.1.length kc, .int .i64 xfc.1, .slice mA xfm.1.length mc, .slice none 0 0, .slice none 0 0, .slice none 0 0, .slice none 0 0, .bool false, .slice none 0 0]) := HKB.out.set 5 (by simp) _
  replace HZB := Lib.hid (HZB.out.other (p := ⟨Q, 5, none⟩) (by show Q ≠ P; omega) (.slice mA xfm.1.length mc))
  replace HR := Lib.hid (HR.out.set (p := ⟨Q, 5, none⟩) (by show N ≤ Q; omega) (.slice mA xfm.1.length mc))
  replace HG := Lib.hid (By.grown_own HG.out (p := ⟨Q, 5, none⟩) (by show _ ≤ Q; omega) (.slice mA xfm.1.length mc))
  replace HK := Lib.hid (HK.out.above (Above.set (p := ⟨Q, 5, none⟩) (by show Q < Q + 1; omega) (.slice mA xfm.1.length mc)))
  replace HM := Lib.hid (HM.out.above (Above.set (p := ⟨Q, 5, none⟩) (by show Q < Q + 1; omega) (.slice mA xfm.1.length mc)))
  clear kcel kfro
  generalize (w6.setCell ⟨Q, 5, none⟩ (.slice mA xfm.1.length mc)) = w6' at *
  have HCC := Lib.hid (takeAllAt_any (R := R) (g := g) (N := N) 64 (by omega) (by omega) w6' HR.out)
  unfold TkRow at HCC
  rw [Hfe.out] at HCC
  have HC := Lib.hid (HCC.out)
  have hzq : Q + 1 ≤ _ := HKB.out.z
  obtain ⟨k0, k1, k2, k3, k4, k5, k6, k7, k8, k9, k10, k11⟩ := HKB.out.cs
  go_wp2_with fail
  clear k0 k1 k2 k3 k4 k5 k6 k7 k8 k9 k10 k11
  refine HC.out.mono ?_
  rintro e w7 ⟨cA, cc, rfl, ho, hr, hg⟩
  replace HKB := Lib.hid (HKB.out.read hg (by omega))
  replace HZB := Lib.hid (HZB.out.read hg (by omega))
  replace HK := Lib.hid (HK.out.above (Above.read hg (by omega)))
  replace HM := Lib.hid (HM.out.above (Above.read hg (by omega)))
  have HE := Lib.hid (VecFrom.own (B := Q + 1) ho (by omega))
  replace HR := Lib.hid hr
  replace HG := Lib.hid (HG.out.trans hg)
  clear hr hg HC hzq
  clear ho HCC
  have kcel := HKB.out.c 6 _ rfl
  have kfro := HKB.out.f 6 (by simp)
  go_upto_region 13 with fail
  replace HKB : Hid (Blk (w7.setCell ⟨Q, 6, none⟩ (.slice cA xfe.1.length cc)) Q [.int .i64 n1, .string xfa.1, .string xfb.1, .slice kA xfn.1.length kc, .int .i64 xfc.1, .slice mA xfm.1.length mc, .slice cA xfe.1.length cc, .slice none 0 0, .slice none 0 0, .slice none 0 0, .bool false, .slice none 0 0]) := HKB.out.set 6 (by simp) _
  replace HZB := Lib.hid (HZB.out.other (p := ⟨Q, 6, none⟩) (by show Q ≠ P; omega) (.slice cA xfe.1.length cc))
  replace HR := Lib.hid (HR.out.set (p := ⟨Q, 6, none⟩) (by show N ≤ Q; omega) (.slice cA xfe.1.length cc))
  replace HG := Lib.hid (By.grown_own HG.out (p := ⟨Q, 6, none⟩) (by show _ ≤ Q; omega) (.slice cA xfe.1.length cc))
  replace HK := Lib.hid (HK.out.above (Above.set (p := ⟨Q, 6, none⟩) (by show Q < Q + 1; omega) (.slice cA xfe.1.length cc)))
  replace HM := Lib.hid (HM.out.above (Above.set (p := ⟨Q, 6, none⟩) (by show Q < Q + 1; omega) (.slice cA xfe.1.length cc)))
  replace HE := Lib.hid (HE.out.above (Above.set (p := ⟨Q, 6, none⟩) (by show Q < Q + 1; omega) (.slice cA xfe.1.length cc)))
  clear kcel kfro
  generalize (w7.setCell ⟨Q, 6, none⟩ (.slice cA xfe.1.length cc)) = w7' at *
  have HCC := Lib.hid (takeAllRow_any (R := R) (g := g) (N := N) 64 (by omega) (by omega) w7' HR.out)
  unfold TkMatM at HCC
  rw [Hfo.out] at HCC
  have HC := Lib.hid (HCC.out)
  have hzq : Q + 1 ≤ _ := HKB.out.z
  obtain ⟨k0, k1, k2, k3, k4, k5, k6, k7, k8, k9, k10, k11⟩ := HKB.out.cs
  go_wp2_with fail
  clear k0 k1 k2 k3 k4 k5 k6 k7 k8 k9 k10 k11
  refine HC.out.mono ?_
  rintro e w8 ⟨rA, rc, rrs, hra, rfl, ho, hu, hr, hg⟩
  replace HKB := Lib.hid (HKB.out.read hg (by omega))
  replace HZB := Lib.hid (HZB.out.read hg (by omega))
  replace HK := Lib.hid (HK.out.above (Above.read hg (by omega)))
  replace HM := Lib.hid (HM.out.above (Above.read hg (by omega)))
  replace HE := Lib.hid (HE.out.above (Above.read hg (by omega)))
  have HO := Lib.hid (MatMFrom.own (B := Q + 1) hra ho hu (by omega))
  replace HR := Lib.hid hr
  replace HG := Lib.hid (HG.out.trans hg)
  clear hr hg HC hzq
  clear hra ho hu HCC
  have kcel := HKB.out.c 7 _ rfl
  have kfro := HKB.out.f 7 (by simp)
  go_upto_region 14 with fail
  replace HKB : Hid (Blk (w8.setCell ⟨Q, 7, none⟩ (.slice rA xfo.1.length rc)) Q [.int .i64 n1, .string xfa.1, .string xfb.1, .slice kA xfn.1.length kc, .int .i64 xfc.1, .slice mA xfm.1.length mc, .slice cA xfe.1.length cc, .slice rA xfo.1.length rc, .slice none 0 0, .slice none 0 0, .bool false, .slice none 0 0]) := HKB.out.set 7 (by simp) _
  replace HZB := Lib.hid (HZB.out.other (p := ⟨Q, 7, none⟩) (by show Q ≠ P; omega) (.slice rA xfo.1.length rc))
  replace HR := Lib.hid (HR.out.set (p := ⟨Q, 7, none⟩) (by show N ≤ Q; omega) (.slice rA xfo.1.length rc))
  replace HG := Lib.hid (By.grown_own HG.out (p := ⟨Q, 7, none⟩) (by show _ ≤ Q; omega) (.slice rA xfo.1.length rc))
  replace HK := Lib.hid (HK.out.above (Above.set (p := ⟨Q, 7, none⟩) (by show Q < Q + 1; omega) (.slice rA xfo.1.length rc)))
  replace HM := Lib.hid (HM.out.above (Above.set (p := ⟨Q, 7, none⟩) (by show Q < Q + 1; omega) (.slice rA xfo.1.length rc)))
  replace HE := Lib.hid (HE.out.above (Above.set (p := ⟨Q, 7, none⟩) (by show Q < Q + 1; omega) (.slice rA xfo.1.length rc)))
  replace HO := Lib.hid (HO.out.above (Above.set (p := ⟨Q, 7, none⟩) (by show Q < Q + 1; omega) (.slice rA xfo.1.length rc)))
  clear kcel kfro
  generalize (w8.setCell ⟨Q, 7, none⟩ (.slice rA xfo.1.length rc)) = w8' at *
  have HCC := Lib.hid (takeRest_any n1 xfa.1 xfb.1 kA xfn.1.length kc xfc.1 mA xfm.1.length mc cA xfe.1.length cc rA xfo.1.length rc w8' HR.out (glob_grown HGL.out HG.out hR9 (by omega)) hR9)
  rw [Hfr.out] at HCC
  unfold TkRest at HCC
  obtain ⟨⟨rok, rz, ri, rw'⟩, rs⟩ := xfr
  simp only at HCC HT
  have hz8 : Q + 1 ≤ w8'.heap.size := HKB.out.z
  have HC := Lib.hid (HCC.out)
  have hzq : Q + 1 ≤ _ := HKB.out.z
  obtain ⟨k0, k1, k2, k3, k4, k5, k6, k7, k8, k9, k10, k11⟩ := HKB.out.cs
  go_wp2_with fail
  clear k0 k1 k2 k3 k4 k5 k6 k7 k8 k9 k10 k11
  refine HC.out.mono ?_
  rintro e w9 ⟨zA, zc, iA, ic, zs, rfl, hzr, hzl, hir, hr, hg⟩
  replace HKB := Lib.hid (HKB.out.read hg (by omega))
  replace HZB := Lib.hid (HZB.out.read hg (by omega))
  replace HK := Lib.hid (HK.out.above (Above.read hg (by omega)))
  replace HM := Lib.hid (HM.out.above (Above.read hg (by omega)))
  replace HE := Lib.hid (HE.out.above (Above.read hg (by omega)))
  replace HO := Lib.hid (HO.out.above (Above.read hg (by omega)))
  replace HR := Lib.hid hr
  replace HG := Lib.hid (HG.out.trans hg)
  clear hr hg HC hzq
  have HZ := Lib.hid (row_low (B' := Q + 1) hzr (by omega))
  have HI := Lib.hid (row_low (B' := Q + 1) hir (by omega))
  have HZL := Lib.hid hzl
  clear hzr hir hzl HCC
  obtain ⟨z0, z1, z2, z3, z4, z5, z6, z7, z8, z9, z10, z11⟩ := HZB.out.cs
  obtain ⟨y0, y1, y2, y3, y4, y5, y6, y7, y8, y9, y10, y11⟩ := HZB.out.fs
  go_wp2
  refine bodyPost_ret (v := .tuple #[.agg #[.int .i64 n1, .string xfa.1, .string xfb.1, .slice kA xfn.1.length kc, .int .i64 xfc.1, .slice mA xfm.1.length mc, .slice cA xfe.1.length cc, .slice rA xfo.1.length rc, .slice zA rz.length zc, .slice iA ri.length ic, .bool rw', .slice none 0 0], .bool rok]) ?_ rfl ?_
  · simp [results, Tryz.results65, go_sem, z0, z1, z2, z3, z4, z5, z6, z7, z8, z9, z10, z11]
  · exact HD.out ⟨n1, xfa.1, xfb.1, xfn.1, xfc.1, xfm.1, xfe.1, xfo.1, rz, ri, rw', []⟩ ⟨kA, kc, mA, mc, cA, cc, rA, rc, zA, zc, iA, ic, none, 0⟩ rok _ _ (by rw [HT.out, if_neg hk0, if_neg hk3]) (((⟨HK.out.above (above_sets (by omega)), HM.out.above (above_sets (by omega)), HE.out.above (above_sets (by omega)), HO.out.above (above_sets (by omega)), ⟨zs, HZ.out.above (above_sets (by omega)), HZL.out⟩, HI.out.above (above_sets (by omega)), VecFrom.nil⟩ : FrmFrom (Q + 1) _ _ _).low (by omega))) (rdr_sets HR.out (by omega)) (grown_sets HG.out (by omega))
end Go.Proofs.YtbookbgfipbaoaaGreatDoor
