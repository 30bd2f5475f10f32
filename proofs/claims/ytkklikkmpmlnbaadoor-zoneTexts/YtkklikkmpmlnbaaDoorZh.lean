/- A step out of its words, whole. -/
import Derived.Test.YtkklikkmpmlnbaaDoorZf
namespace Go.Proofs.YtkklikkmpmlnbaaDoor
open Go.RowKit

def okN (s : ByteArray) : Bool := (numF s).isSome
def zeroP : Stp := ⟨0, 0, 0, 0⟩
def zeroQ : RSt := ⟨0, 0, 0, 0⟩
def numbersP (op : Int) (a b c : ByteArray) : Stp := if okN a && (okN b && okN c) then ⟨op, numX a, numX b, numX c⟩ else zeroP
def numbersQ (op : Int) (a b c : ByteArray) : RSt := match numF a, numF b, numF c with
  | some x, some y, some z => ⟨op, x, y, z⟩
  | _, _, _ => zeroQ
theorem numB_zero : NumB 0 0 := .inl ⟨small_zero, num_zero⟩
theorem like_zero : Like zeroP zeroQ := ⟨rfl, numB_zero, numB_zero, numB_zero⟩
theorem numbers_like (op : Int) (a b c : ByteArray) : Like (numbersP op a b c) (numbersQ op a b c) := by
  unfold numbersP numbersQ okN
  rcases ha : numF a with _ | x
  · exact like_zero
  rcases hb : numF b with _ | y
  · exact like_zero
  rcases hc : numF c with _ | z
  · exact like_zero
  exact ⟨rfl, num_like ha, num_like hb, num_like hc⟩
theorem text_at {w : World} {B : Nat} {A : Option Addr} {m : Nat} {ts : List ByteArray} (h : RowAt cellsS 1 w B A m ts) {k : Nat} {t : ByteArray} (hk : ts[k]? = some t) : ∃ b o, A = some ⟨b, o, none⟩ ∧ b < B ∧ w.cell? ⟨b, o + k, none⟩ = some (.string t) := by
  have hkm : k < m := by have := (List.getElem?_eq_some_iff.mp hk).1; have := h.1; omega
  obtain ⟨b, o, e, hlt, z, hz, hc⟩ := h.get hkm
  rw [hk] at hz
  injection hz with hz
  subst hz
  refine ⟨b, o, e, hlt, ?_⟩
  have := hc 0 (.string t) rfl
  simpa using this
set_option maxRecDepth 100000 in
set_option maxHeartbeats 4000000 in
theorem parseNumbers_any (op : Int) (b o cc : Nat) (x y z : ByteArray) (w : World) (hb0 : b < w.heap.size) (h0 : w.cell? ⟨b, o, none⟩ = some (.string x)) (h1 : w.cell? ⟨b, o + 1, none⟩ = some (.string y)) (h2 : w.cell? ⟨b, o + 2, none⟩ = some (.string z))
    (hx : x.size ≤ 281474976710656) (hy : y.size ≤ 281474976710656) (hz : z.size ≤ 281474976710656) (hg : Glob w) :
    Calls Tryd.prog 47 #[.int .i64 op, .slice (some ⟨b, o, none⟩) 3 cc] w fun e w' => e = .returned (stpV (numbersP op x y z)) ∧ Below w.heap.size w w' := by
  have HX := Lib.hid (parseNumber_any x hx)
  have HY := Lib.hid (parseNumber_any y hy)
  have HZ := Lib.hid (parseNumber_any z hz)
  have HG := Lib.hid hg
  have HF : Hid (numbersP op x y z = if okN x && (okN y && okN z) then ⟨op, numX x, numX y, numX z⟩ else zeroP) := rfl
  change Hid (∀ w, Glob w → Calls Tryd.prog 58 #[.string x] w fun e w' => e = .returned (.tuple #[.float .f64 (numX x), .bool (okN x)]) ∧ Below w.heap.size w w') at HX
  change Hid (∀ w, Glob w → Calls Tryd.prog 58 #[.string y] w fun e w' => e = .returned (.tuple #[.float .f64 (numX y), .bool (okN y)]) ∧ Below w.heap.size w w') at HY
  change Hid (∀ w, Glob w → Calls Tryd.prog 58 #[.string z] w fun e w' => e = .returned (.tuple #[.float .f64 (numX z), .bool (okN z)]) ∧ Below w.heap.size w w') at HZ
  generalize numbersP op x y z = R at *
  generalize okN x = bx at *
  generalize okN y = by1 at *
  generalize okN z = bz at *
  generalize numX x = nx at *
  generalize numX y = ny at *
  generalize numX z = nz at *
  have E1 := Lib.hid h1
  have E2 := Lib.hid h2
  have hst := store_complex
  have hst' := store_float
  clear h1 h2 hx hy hz hg
  go_enter Tryd.func47, Tryd.ntmps47
  go_upto_region 1 with fail
  have k0 : (w.alloc (.cells #[.int .i64 0, .complex .f64 0 0, .float .f64 0] 54)).cell? ⟨w.heap.size, 0, none⟩ = some (.int .i64 0) := by simp [go_sem]
  have kf0 : (w.alloc (.cells #[.int .i64 0, .complex .f64 0 0, .float .f64 0] 54)).frozen? ⟨w.heap.size, 0, none⟩ = false := by simp [go_sem]
  have k1 : (w.alloc (.cells #[.int .i64 0, .complex .f64 0 0, .float .f64 0] 54)).cell? ⟨w.heap.size, 1, none⟩ = some (.complex .f64 0 0) := by simp [go_sem]
  have kf1 : (w.alloc (.cells #[.int .i64 0, .complex .f64 0 0, .float .f64 0] 54)).frozen? ⟨w.heap.size, 1, none⟩ = false := by simp [go_sem]
  have k2 : (w.alloc (.cells #[.int .i64 0, .complex .f64 0 0, .float .f64 0] 54)).cell? ⟨w.heap.size, 2, none⟩ = some (.float .f64 0) := by simp [go_sem]
  have kf2 : (w.alloc (.cells #[.int .i64 0, .complex .f64 0 0, .float .f64 0] 54)).frozen? ⟨w.heap.size, 2, none⟩ = false := by simp [go_sem]
  have kz : w.heap.size < (w.alloc (.cells #[.int .i64 0, .complex .f64 0 0, .float .f64 0] 54)).heap.size := by simp
  have HB : Hid (Below w.heap.size w (w.alloc (.cells #[.int .i64 0, .complex .f64 0 0, .float .f64 0] 54))) := (Below.refl _ _).alloc (Nat.le_refl _) _
  generalize (w.alloc (.cells #[.int .i64 0, .complex .f64 0 0, .float .f64 0] 54)) = W1 at *
  replace h0 := (HB.out.cell (p := ⟨b, o, none⟩) hb0).trans h0
  go_wp2_with fail
  refine (HX.out _ (HG.out.below HB.out)).mono ?_
  rintro e w1 ⟨rfl, hb⟩
  replace k0 := (hb.cell (p := ⟨w.heap.size, 0, none⟩) kz).trans k0
  replace kf0 := (hb.frozen (p := ⟨w.heap.size, 0, none⟩) kz).trans kf0
  replace k1 := (hb.cell (p := ⟨w.heap.size, 1, none⟩) kz).trans k1
  replace kf1 := (hb.frozen (p := ⟨w.heap.size, 1, none⟩) kz).trans kf1
  replace k2 := (hb.cell (p := ⟨w.heap.size, 2, none⟩) kz).trans k2
  replace kf2 := (hb.frozen (p := ⟨w.heap.size, 2, none⟩) kz).trans kf2
  replace kz := Nat.lt_of_lt_of_le kz hb.size
  replace HB := Lib.hid (HB.out.trans (hb.mono HB.out.size))
  clear hb h0
  have h1 := (HB.out.cell (p := ⟨b, o + 1, none⟩) hb0).trans E1.out
  go_wp2_with fail
  refine (HY.out _ (HG.out.below HB.out)).mono ?_
  rintro e w2 ⟨rfl, hb⟩
  replace k0 := (hb.cell (p := ⟨w.heap.size, 0, none⟩) kz).trans k0
  replace kf0 := (hb.frozen (p := ⟨w.heap.size, 0, none⟩) kz).trans kf0
  replace k1 := (hb.cell (p := ⟨w.heap.size, 1, none⟩) kz).trans k1
  replace kf1 := (hb.frozen (p := ⟨w.heap.size, 1, none⟩) kz).trans kf1
  replace k2 := (hb.cell (p := ⟨w.heap.size, 2, none⟩) kz).trans k2
  replace kf2 := (hb.frozen (p := ⟨w.heap.size, 2, none⟩) kz).trans kf2
  replace kz := Nat.lt_of_lt_of_le kz hb.size
  replace HB := Lib.hid (HB.out.trans (hb.mono HB.out.size))
  clear hb h1
  have h2 := (HB.out.cell (p := ⟨b, o + 2, none⟩) hb0).trans E2.out
  go_wp2_with fail
  refine (HZ.out _ (HG.out.below HB.out)).mono ?_
  rintro e w3 ⟨rfl, hb⟩
  replace k0 := (hb.cell (p := ⟨w.heap.size, 0, none⟩) kz).trans k0
  replace kf0 := (hb.frozen (p := ⟨w.heap.size, 0, none⟩) kz).trans kf0
  replace k1 := (hb.cell (p := ⟨w.heap.size, 1, none⟩) kz).trans k1
  replace kf1 := (hb.frozen (p := ⟨w.heap.size, 1, none⟩) kz).trans kf1
  replace k2 := (hb.cell (p := ⟨w.heap.size, 2, none⟩) kz).trans k2
  replace kf2 := (hb.frozen (p := ⟨w.heap.size, 2, none⟩) kz).trans kf2
  replace kz := Nat.lt_of_lt_of_le kz hb.size
  replace HB := Lib.hid (HB.out.trans (hb.mono HB.out.size))
  clear hb h2
  generalize hX : w.heap.size = X at *
  cases bx
  · skip
    go_wp2
    refine bodyPost_ret (v := .agg #[.int .i64 0, .complex .f64 0 0, .float .f64 0]) ?_ rfl ?_
    · simp [results, Tryd.results47, go_sem, k0, k1, k2]
    · refine ⟨by rw [HF.out]; rfl, ?_⟩
      have hbx := HB.out
      subst hX
      exact ((hbx.setCell (by simp) _).setCell (by simp) _).setCell (by simp) _
  · cases by1
    · skip
      go_wp2
      refine bodyPost_ret (v := .agg #[.int .i64 0, .complex .f64 0 0, .float .f64 0]) ?_ rfl ?_
      · simp [results, Tryd.results47, go_sem, k0, k1, k2]
      · refine ⟨by rw [HF.out]; rfl, ?_⟩
        have hbx := HB.out
        subst hX
        exact ((hbx.setCell (by simp) _).setCell (by simp) _).setCell (by simp) _
    · cases bz
      · skip
        go_wp2
        refine bodyPost_ret (v := .agg #[.int .i64 0, .complex .f64 0 0, .float .f64 0]) ?_ rfl ?_
        · simp [results, Tryd.results47, go_sem, k0, k1, k2]
        · refine ⟨by rw [HF.out]; rfl, ?_⟩
          have hbx := HB.out
          subst hX
          exact ((hbx.setCell (by simp) _).setCell (by simp) _).setCell (by simp) _
      · skip
        go_wp2
        refine bodyPost_ret (v := .agg #[.int .i64 op, .complex .f64 nx ny, .float .f64 nz]) ?_ rfl ?_
        · simp [results, Tryd.results47, go_sem, k0, k1, k2]
        · refine ⟨by rw [HF.out]; rfl, ?_⟩
          have hbx := HB.out
          subst hX
          exact ((hbx.setCell (by simp) _).setCell (by simp) _).setCell (by simp) _
def stepP (ws : List ByteArray) : Stp :=
  if opF (ws.getD 0 ⟨#[]⟩) = 2 ∨ opF (ws.getD 0 ⟨#[]⟩) = 3 then (if ws.length = 4 then numbersP (opF (ws.getD 0 ⟨#[]⟩)) (ws.getD 1 ⟨#[]⟩) (ws.getD 2 ⟨#[]⟩) (ws.getD 3 ⟨#[]⟩) else zeroP)
  else if ws.length = 1 then ⟨opF (ws.getD 0 ⟨#[]⟩), 0, 0, 0⟩ else zeroP
def stepQ (ws : List ByteArray) : RSt :=
  if opF (ws.getD 0 ⟨#[]⟩) = 2 ∨ opF (ws.getD 0 ⟨#[]⟩) = 3 then (if ws.length = 4 then numbersQ (opF (ws.getD 0 ⟨#[]⟩)) (ws.getD 1 ⟨#[]⟩) (ws.getD 2 ⟨#[]⟩) (ws.getD 3 ⟨#[]⟩) else zeroQ)
  else if ws.length = 1 then ⟨opF (ws.getD 0 ⟨#[]⟩), 0, 0, 0⟩ else zeroQ
theorem step_like (ws : List ByteArray) : Like (stepP ws) (stepQ ws) := by
  unfold stepP stepQ
  split
  · split
    · exact numbers_like _ _ _ _
    · exact like_zero
  · split
    · exact ⟨rfl, numB_zero, numB_zero, numB_zero⟩
    · exact like_zero
set_option maxRecDepth 100000 in
set_option maxHeartbeats 4000000 in
theorem parseStep_any (b o m : Nat) (ws : List ByteArray) (B : Nat) (w : World) (hB : B ≤ w.heap.size) (hz : RowAt cellsS 1 w B (some ⟨b, o, none⟩) m ws) (hm : 1 ≤ m) (hsz : ∀ s ∈ ws, s.size ≤ 281474976710656) (hg : Glob w) :
    Calls Tryd.prog 32 #[.slice (some ⟨b, o, none⟩) m m] w fun e w' => e = .returned (stpV (stepP ws)) ∧ Below w.heap.size w w' := by
  have hlen : ws.length = m := hz.1
  obtain ⟨a, ha⟩ : ∃ a, ws[0]? = some a := ⟨_, List.getElem?_eq_getElem (by omega)⟩
  obtain ⟨b', o', e', hb0, h0⟩ := text_at hz ha
  obtain ⟨rfl, rfl⟩ : b = b' ∧ o = o' := by injection e' with e'; injection e' with e1 e2; exact ⟨e1, e2⟩
  replace hb0 : b < w.heap.size := by omega
  have ha0 : ws.getD 0 ⟨#[]⟩ = a := by rw [List.getD_eq_getElem?_getD, ha]; rfl
  have HOP := Lib.hid (opOf_any a)
  have HG := Lib.hid hg
  have hst := store_complex
  have hst' := store_float
  have hm0 : (0 : Int) < m := by omega
  replace h0 : w.cell? ⟨b, o, none⟩ = some (.string a) := h0
  by_cases h23 : opF a = 2 ∨ opF a = 3
  · by_cases hm4 : m = 4
    · subst hm4
      obtain ⟨x, hx⟩ : ∃ x, ws[1]? = some x := ⟨_, List.getElem?_eq_getElem (by omega)⟩
      obtain ⟨y, hy⟩ : ∃ y, ws[2]? = some y := ⟨_, List.getElem?_eq_getElem (by omega)⟩
      obtain ⟨z, hzz⟩ : ∃ z, ws[3]? = some z := ⟨_, List.getElem?_eq_getElem (by omega)⟩
      have cx : w.cell? ⟨b, o + 1, none⟩ = some (.string x) := by obtain ⟨b1, o1, e1, _, c⟩ := text_at hz hx; injection e1 with e1; injection e1 with e1 e2; subst e1 e2; exact c
      have cy : w.cell? ⟨b, o + 2, none⟩ = some (.string y) := by obtain ⟨b1, o1, e1, _, c⟩ := text_at hz hy; injection e1 with e1; injection e1 with e1 e2; subst e1 e2; exact c
      have cz : w.cell? ⟨b, o + 3, none⟩ = some (.string z) := by obtain ⟨b1, o1, e1, _, c⟩ := text_at hz hzz; injection e1 with e1; injection e1 with e1 e2; subst e1 e2; exact c
      have hR : stepP ws = numbersP (opF a) x y z := by
        unfold stepP
        rw [ha0, if_pos h23, if_pos hlen, show ws.getD 1 ⟨#[]⟩ = x by rw [List.getD_eq_getElem?_getD, hx]; rfl, show ws.getD 2 ⟨#[]⟩ = y by rw [List.getD_eq_getElem?_getD, hy]; rfl, show ws.getD 3 ⟨#[]⟩ = z by rw [List.getD_eq_getElem?_getD, hzz]; rfl]
      have HNUM := Lib.hid (fun (w' : World) (hb : Below w.heap.size w w') => parseNumbers_any (opF a) b (o + 1) 3 x y z w' (by have := hb.size; omega) ((hb.cell (p := ⟨b, o + 1, none⟩) hb0).trans cx) ((hb.cell (p := ⟨b, o + 2, none⟩) hb0).trans cy) ((hb.cell (p := ⟨b, o + 3, none⟩) hb0).trans cz) (hsz x (List.mem_of_getElem? hx)) (hsz y (List.mem_of_getElem? hy)) (hsz z (List.mem_of_getElem? hzz)) (hg.below hb))
      have HR := Lib.hid hR
      generalize hnP : numbersP (opF a) x y z = NP at *
      generalize opF a = op at *
      generalize stepP ws = R at *
      obtain ⟨np1, np2, np3, np4⟩ := NP
      unfold stpV at HNUM
      simp only at HNUM
      clear hz hx hy hzz cx cy cz hR ha ha0 hsz hg hlen hnP
      rcases h23 with rfl | rfl
      all_goals
        go_enter Tryd.func32, Tryd.ntmps32
        go_upto_region 1 with fail
        have k0 : (w.alloc (.cells #[.int .i64 0, .complex .f64 0 0, .float .f64 0] 54)).cell? ⟨w.heap.size, 0, none⟩ = some (.int .i64 0) := by simp [go_sem]
        have kf0 : (w.alloc (.cells #[.int .i64 0, .complex .f64 0 0, .float .f64 0] 54)).frozen? ⟨w.heap.size, 0, none⟩ = false := by simp [go_sem]
        have k1 : (w.alloc (.cells #[.int .i64 0, .complex .f64 0 0, .float .f64 0] 54)).cell? ⟨w.heap.size, 1, none⟩ = some (.complex .f64 0 0) := by simp [go_sem]
        have kf1 : (w.alloc (.cells #[.int .i64 0, .complex .f64 0 0, .float .f64 0] 54)).frozen? ⟨w.heap.size, 1, none⟩ = false := by simp [go_sem]
        have k2 : (w.alloc (.cells #[.int .i64 0, .complex .f64 0 0, .float .f64 0] 54)).cell? ⟨w.heap.size, 2, none⟩ = some (.float .f64 0) := by simp [go_sem]
        have kf2 : (w.alloc (.cells #[.int .i64 0, .complex .f64 0 0, .float .f64 0] 54)).frozen? ⟨w.heap.size, 2, none⟩ = false := by simp [go_sem]
        have kz : w.heap.size < (w.alloc (.cells #[.int .i64 0, .complex .f64 0 0, .float .f64 0] 54)).heap.size := by simp
        have HB : Hid (Below w.heap.size w (w.alloc (.cells #[.int .i64 0, .complex .f64 0 0, .float .f64 0] 54))) := (Below.refl _ _).alloc (Nat.le_refl _) _
        generalize (w.alloc (.cells #[.int .i64 0, .complex .f64 0 0, .float .f64 0] 54)) = W1 at *
        have HB0 := HB
        replace h0 := (HB.out.cell (p := ⟨b, o, none⟩) hb0).trans h0
        go_wp2_with fail
        refine (HOP.out _).mono ?_
        rintro e w1 ⟨rfl, rfl⟩
        go_wp2_with fail
        refine (HNUM.out _ HB.out).mono ?_
        rintro e w2 ⟨rfl, hb⟩
        replace k0 := (hb.cell (p := ⟨w.heap.size, 0, none⟩) kz).trans k0
        replace kf0 := (hb.frozen (p := ⟨w.heap.size, 0, none⟩) kz).trans kf0
        replace k1 := (hb.cell (p := ⟨w.heap.size, 1, none⟩) kz).trans k1
        replace kf1 := (hb.frozen (p := ⟨w.heap.size, 1, none⟩) kz).trans kf1
        replace k2 := (hb.cell (p := ⟨w.heap.size, 2, none⟩) kz).trans k2
        replace kf2 := (hb.frozen (p := ⟨w.heap.size, 2, none⟩) kz).trans kf2
        replace kz := Nat.lt_of_lt_of_le kz hb.size
        replace HB := Lib.hid (HB.out.trans (hb.mono HB.out.size))
        clear hb h0
        generalize hX : w.heap.size = X at *
        go_wp2
        refine bodyPost_ret (v := .agg #[.int .i64 np1, .complex .f64 np2 np3, .float .f64 np4]) ?_ rfl ?_
        · simp [results, Tryd.results32, go_sem, k0, k1, k2]
        · refine ⟨by rw [HR.out]; rfl, ?_⟩
          have hbx := HB.out
          subst hX
          exact ((hbx.setCell (by simp) _).setCell (by simp) _).setCell (by simp) _
    · have HR : Hid (stepP ws = zeroP) := by
        show _ = _
        unfold stepP
        rw [ha0, if_pos h23, if_neg (by omega)]
      have hm4' : ((m : Int) == 4) = false := by simp; omega
      generalize opF a = op at *
      generalize stepP ws = R at *
      clear hz ha ha0 hsz hg hlen hm4
      rcases h23 with rfl | rfl
      all_goals
        go_enter Tryd.func32, Tryd.ntmps32
        go_upto_region 1 with fail
        have k0 : (w.alloc (.cells #[.int .i64 0, .complex .f64 0 0, .float .f64 0] 54)).cell? ⟨w.heap.size, 0, none⟩ = some (.int .i64 0) := by simp [go_sem]
        have kf0 : (w.alloc (.cells #[.int .i64 0, .complex .f64 0 0, .float .f64 0] 54)).frozen? ⟨w.heap.size, 0, none⟩ = false := by simp [go_sem]
        have k1 : (w.alloc (.cells #[.int .i64 0, .complex .f64 0 0, .float .f64 0] 54)).cell? ⟨w.heap.size, 1, none⟩ = some (.complex .f64 0 0) := by simp [go_sem]
        have kf1 : (w.alloc (.cells #[.int .i64 0, .complex .f64 0 0, .float .f64 0] 54)).frozen? ⟨w.heap.size, 1, none⟩ = false := by simp [go_sem]
        have k2 : (w.alloc (.cells #[.int .i64 0, .complex .f64 0 0, .float .f64 0] 54)).cell? ⟨w.heap.size, 2, none⟩ = some (.float .f64 0) := by simp [go_sem]
        have kf2 : (w.alloc (.cells #[.int .i64 0, .complex .f64 0 0, .float .f64 0] 54)).frozen? ⟨w.heap.size, 2, none⟩ = false := by simp [go_sem]
        have kz : w.heap.size < (w.alloc (.cells #[.int .i64 0, .complex .f64 0 0, .float .f64 0] 54)).heap.size := by simp
        have HB : Hid (Below w.heap.size w (w.alloc (.cells #[.int .i64 0, .complex .f64 0 0, .float .f64 0] 54))) := (Below.refl _ _).alloc (Nat.le_refl _) _
        generalize (w.alloc (.cells #[.int .i64 0, .complex .f64 0 0, .float .f64 0] 54)) = W1 at *
        replace h0 := (HB.out.cell (p := ⟨b, o, none⟩) hb0).trans h0
        go_wp2_with fail
        refine (HOP.out _).mono ?_
        rintro e w1 ⟨rfl, rfl⟩
        clear h0
        generalize hX : w.heap.size = X at *
        go_wp2
        refine bodyPost_ret (v := .agg #[.int .i64 0, .complex .f64 0 0, .float .f64 0]) ?_ rfl ?_
        · simp [results, Tryd.results32, go_sem, k0, k1, k2]
        · refine ⟨by rw [HR.out]; rfl, ?_⟩
          have hbx := HB.out
          subst hX
          exact ((hbx.setCell (by simp) _).setCell (by simp) _).setCell (by simp) _
  · have g2 : ¬ opF a = 2 := fun e => h23 (Or.inl e)
    have g3 : ¬ opF a = 3 := fun e => h23 (Or.inr e)
    have g2' : (opF a == 2) = false := by simpa using g2
    have g3' : (opF a == 3) = false := by simpa using g3
    have g2n : (opF a != 2) = true := by simpa using g2
    have g3n : (opF a != 3) = true := by simpa using g3
    by_cases hm1 : m = 1
    · subst hm1
      have HR : Hid (stepP ws = ⟨opF a, 0, 0, 0⟩) := by
        show _ = _
        unfold stepP
        rw [ha0, if_neg h23, if_pos hlen]
      generalize opF a = op at *
      generalize stepP ws = R at *
      clear hz ha ha0 hsz hg hlen h23 g2 g3
      go_enter Tryd.func32, Tryd.ntmps32
      go_upto_region 1 with fail
      have k0 : (w.alloc (.cells #[.int .i64 0, .complex .f64 0 0, .float .f64 0] 54)).cell? ⟨w.heap.size, 0, none⟩ = some (.int .i64 0) := by simp [go_sem]
      have kf0 : (w.alloc (.cells #[.int .i64 0, .complex .f64 0 0, .float .f64 0] 54)).frozen? ⟨w.heap.size, 0, none⟩ = false := by simp [go_sem]
      have k1 : (w.alloc (.cells #[.int .i64 0, .complex .f64 0 0, .float .f64 0] 54)).cell? ⟨w.heap.size, 1, none⟩ = some (.complex .f64 0 0) := by simp [go_sem]
      have kf1 : (w.alloc (.cells #[.int .i64 0, .complex .f64 0 0, .float .f64 0] 54)).frozen? ⟨w.heap.size, 1, none⟩ = false := by simp [go_sem]
      have k2 : (w.alloc (.cells #[.int .i64 0, .complex .f64 0 0, .float .f64 0] 54)).cell? ⟨w.heap.size, 2, none⟩ = some (.float .f64 0) := by simp [go_sem]
      have kf2 : (w.alloc (.cells #[.int .i64 0, .complex .f64 0 0, .float .f64 0] 54)).frozen? ⟨w.heap.size, 2, none⟩ = false := by simp [go_sem]
      have kz : w.heap.size < (w.alloc (.cells #[.int .i64 0, .complex .f64 0 0, .float .f64 0] 54)).heap.size := by simp
      have HB : Hid (Below w.heap.size w (w.alloc (.cells #[.int .i64 0, .complex .f64 0 0, .float .f64 0] 54))) := (Below.refl _ _).alloc (Nat.le_refl _) _
      generalize (w.alloc (.cells #[.int .i64 0, .complex .f64 0 0, .float .f64 0] 54)) = W1 at *
      replace h0 := (HB.out.cell (p := ⟨b, o, none⟩) hb0).trans h0
      go_wp2_with fail
      refine (HOP.out _).mono ?_
      rintro e w1 ⟨rfl, rfl⟩
      clear h0
      generalize hX : w.heap.size = X at *
      go_wp2
      refine bodyPost_ret (v := .agg #[.int .i64 op, .complex .f64 0 0, .float .f64 0]) ?_ rfl ?_
      · simp [results, Tryd.results32, go_sem, k0, k1, k2]
      · refine ⟨by rw [HR.out]; rfl, ?_⟩
        have hbx := HB.out
        subst hX
        exact ((hbx.setCell (by simp) _).setCell (by simp) _).setCell (by simp) _
    · have HR : Hid (stepP ws = zeroP) := by
        show _ = _
        unfold stepP
        rw [ha0, if_neg h23, if_neg (by omega)]
      have hm1' : ((m : Int) == 1) = false := by simp; omega
      generalize opF a = op at *
      generalize stepP ws = R at *
      clear hz ha ha0 hsz hg hlen h23 g2 g3 hm1
      go_enter Tryd.func32, Tryd.ntmps32
      go_upto_region 1 with fail
      have k0 : (w.alloc (.cells #[.int .i64 0, .complex .f64 0 0, .float .f64 0] 54)).cell? ⟨w.heap.size, 0, none⟩ = some (.int .i64 0) := by simp [go_sem]
      have kf0 : (w.alloc (.cells #[.int .i64 0, .complex .f64 0 0, .float .f64 0] 54)).frozen? ⟨w.heap.size, 0, none⟩ = false := by simp [go_sem]
      have k1 : (w.alloc (.cells #[.int .i64 0, .complex .f64 0 0, .float .f64 0] 54)).cell? ⟨w.heap.size, 1, none⟩ = some (.complex .f64 0 0) := by simp [go_sem]
      have kf1 : (w.alloc (.cells #[.int .i64 0, .complex .f64 0 0, .float .f64 0] 54)).frozen? ⟨w.heap.size, 1, none⟩ = false := by simp [go_sem]
      have k2 : (w.alloc (.cells #[.int .i64 0, .complex .f64 0 0, .float .f64 0] 54)).cell? ⟨w.heap.size, 2, none⟩ = some (.float .f64 0) := by simp [go_sem]
      have kf2 : (w.alloc (.cells #[.int .i64 0, .complex .f64 0 0, .float .f64 0] 54)).frozen? ⟨w.heap.size, 2, none⟩ = false := by simp [go_sem]
      have kz : w.heap.size < (w.alloc (.cells #[.int .i64 0, .complex .f64 0 0, .float .f64 0] 54)).heap.size := by simp
      have HB : Hid (Below w.heap.size w (w.alloc (.cells #[.int .i64 0, .complex .f64 0 0, .float .f64 0] 54))) := (Below.refl _ _).alloc (Nat.le_refl _) _
      generalize (w.alloc (.cells #[.int .i64 0, .complex .f64 0 0, .float .f64 0] 54)) = W1 at *
      replace h0 := (HB.out.cell (p := ⟨b, o, none⟩) hb0).trans h0
      go_wp2_with fail
      refine (HOP.out _).mono ?_
      rintro e w1 ⟨rfl, rfl⟩
      clear h0
      generalize hX : w.heap.size = X at *
      go_wp2
      refine bodyPost_ret (v := .agg #[.int .i64 0, .complex .f64 0 0, .float .f64 0]) ?_ rfl ?_
      · simp [results, Tryd.results32, go_sem, k0, k1, k2]
      · refine ⟨by rw [HR.out]; rfl, ?_⟩
        have hbx := HB.out
        subst hX
        exact ((hbx.setCell (by simp) _).setCell (by simp) _).setCell (by simp) _
end Go.Proofs.YtkklikkmpmlnbaaDoor
