/- The reference's Put of a Store. -/
import Derived.Test.YtpaiigminmakgaaHC
import Derived.BigRegion
namespace Go.Proofs.Ytpaiigminmakgaa
open Go.RowKit

set_option maxRecDepth 100000 in
set_option maxHeartbeats 1000000 in
theorem eql_rver (d1 : ByteArray) (a1 s1 : Int) (d2 : ByteArray) (a2 s2 : Int) (w : World) : (binOp .eql 26 (.agg #[.string d1, .int .i64 a1, .int .i64 s1]) (.agg #[.string d2, .int .i64 a2, .int .i64 s2])).run Try.prog w = .ok (.bool (eqV ⟨d1, a1, s1⟩ ⟨d2, a2, s2⟩)) w := by
  unfold eqV
  rw [run_eql_struct]
  go_simp
  simp only [ite_ok]
  congr 2
  rw [Bool.eq_iff_iff]
  simp
set_option maxRecDepth 100000 in
set_option maxHeartbeats 1000000 in
theorem neq_rver (d1 : ByteArray) (a1 s1 : Int) (d2 : ByteArray) (a2 s2 : Int) (w : World) : (binOp .neq 26 (.agg #[.string d1, .int .i64 a1, .int .i64 s1]) (.agg #[.string d2, .int .i64 a2, .int .i64 s2])).run Try.prog w = .ok (.bool (!eqV ⟨d1, a1, s1⟩ ⟨d2, a2, s2⟩)) w := by
  have h := eql_rver d1 a1 s1 d2 a2 s2 w
  rw [run_eql_struct] at h
  rw [run_neq_struct]
  rcases e : (Op.equalIn 10000 26 (.agg #[.string d1, .int .i64 a1, .int .i64 s1]) (.agg #[.string d2, .int .i64 a2, .int .i64 s2])).run Try.prog w with ⟨b, w'⟩ | ⟨h', w'⟩
  · rw [e] at h
    simp only [Result.andThen] at h ⊢
    injection h with h1 h2
    injection h1 with h1
    subst h1 h2
    rfl
  · rw [e] at h
    simp [Result.andThen] at h
theorem wsets9 (w : World) (g o : Nat) (v0 v1 v2 v3 v4 v5 v6 v7 v8 : Value) : wsets w g o [v0, v1, v2, v3, v4, v5, v6, v7, v8] = ((((((((w.setCell ⟨g, o, none⟩ v0).setCell ⟨g, o + 1, none⟩ v1).setCell ⟨g, o + 2, none⟩ v2).setCell ⟨g, o + 3, none⟩ v3).setCell ⟨g, o + 4, none⟩ v4).setCell ⟨g, o + 5, none⟩ v5).setCell ⟨g, o + 6, none⟩ v6).setCell ⟨g, o + 7, none⟩ v7).setCell ⟨g, o + 8, none⟩ v8 := rfl
theorem own_cell_some {w : World} {B g n cap : Nat} {α : Type} {cf : α → List Value} {dd by' : Nat} {zz : Value} {sl e : TypeId} (T : RowTy cf dd by' zz sl e) {zs : List α} (h : w.ownsRow B e dd (.slice (some ⟨g, 0, none⟩) n cap) n (rowCells cf zs)) {k o : Nat} (hk : k < zs.length) (ho : k * dd ≤ o ∧ o < k * dd + dd) : ∃ u, w.cell? ⟨g, o, none⟩ = some u := by
  have hlen : o < (rowCells cf zs).length := by
    rw [rowCells_length T.len]
    have := Nat.mul_le_mul_right dd (Nat.succ_le_of_lt hk)
    rw [Nat.succ_mul] at this
    omega
  have h2 := h.cells (g := g) rfl o _ (List.getElem?_eq_getElem hlen)
  rw [radd, Nat.zero_add] at h2
  exact ⟨_, h2⟩
def RPutRet (zs : List Itm) (x : Itm) (w : World) (e : Ending) (w' : World) : Prop :=
  ∃ A c, e = .returned (.tuple #[.slice A (putF zs x).1.length c, .bool (putF zs x).2]) ∧ w'.ownsRow w.heap.size 28 9 (.slice A (putF zs x).1.length c) (putF zs x).1.length (rowCells cellsI (putF zs x).1) ∧ Below w.heap.size w w'
theorem rput_ret {zs ys : List Itm} {x : Itm} {b : Bool} {n : Nat} {w w' : World} {A : Option Addr} {c : Nat} (h : putF zs x = (ys, b)) (hn : ys.length = n) (ho : w'.ownsRow w.heap.size 28 9 (.slice A n c) n (rowCells cellsI ys)) (hb : Below w.heap.size w w') : RPutRet zs x w (.returned (.tuple #[.slice A n c, .bool b])) w' := by
  unfold RPutRet
  rw [h]
  subst hn
  exact ⟨A, c, rfl, ho, hb⟩
/-- x among ds, k of them ahead. -/
def midF (ds : List Itm) (x : Itm) (k : Nat) : List Itm := ds.take k ++ x :: ds.drop k
theorem midF_len {ds : List Itm} {x : Itm} {k : Nat} (h : k ≤ ds.length) : (midF ds x k).length = ds.length + 1 := by unfold midF; simp; omega
theorem midF_last (ds : List Itm) (x : Itm) : midF ds x ds.length = ds ++ [x] := by unfold midF; simp
theorem midF_at {ds : List Itm} {x : Itm} {k : Nat} (h : k ≤ ds.length) : (midF ds x k)[k]? = some x := by
  unfold midF
  rw [List.getElem?_append_right (by simp; omega)]
  simp [show min k ds.length = k by omega]
theorem midF_before {ds : List Itm} {x y : Itm} {k : Nat} (h : k ≤ ds.length) (h0 : 0 < k) (hy : ds[k - 1]? = some y) : (midF ds x k)[k - 1]? = some y := by
  unfold midF
  rw [List.getElem?_append_left (by simp; omega), List.getElem?_take_of_lt (by omega)]
  exact hy
theorem midF_swap {ds : List Itm} {x y : Itm} {k : Nat} (h : k ≤ ds.length) (h0 : 0 < k) (hy : ds[k - 1]? = some y) : ((midF ds x k).set (k - 1) x).set k y = midF ds x (k - 1) := by
  obtain ⟨k, rfl⟩ : ∃ j, k = j + 1 := ⟨k - 1, by omega⟩
  simp only [Nat.add_sub_cancel] at hy ⊢
  obtain ⟨hk, rfl⟩ := List.getElem?_eq_some_iff.mp hy
  apply List.ext_getElem?
  intro i
  unfold midF
  rw [List.drop_eq_getElem_cons hk]
  simp only [List.getElem?_set, List.length_set, List.length_append, List.length_take, List.length_cons, List.length_drop]
  rcases Nat.lt_trichotomy i k with hi | hi | hi
  · rw [if_neg (by omega), if_neg (by omega), List.getElem?_append_left (by simp; omega), List.getElem?_append_left (by simp; omega), List.getElem?_take_of_lt (by omega), List.getElem?_take_of_lt (by omega)]
  · subst hi
    rw [if_neg (by omega), if_pos rfl, if_pos (by omega), List.getElem?_append_right (by simp; omega)]
    simp [show min i ds.length = i by omega]
  · rcases Nat.lt_or_ge (k + 1) i with h2 | h2
    · rw [if_neg (by omega), if_neg (by omega), List.getElem?_append_right (by simp; omega), List.getElem?_append_right (by simp; omega)]
      simp only [List.length_take, show min (k + 1) ds.length = k + 1 by omega, show min k ds.length = k by omega]
      rw [show i - (k + 1) = (i - (k + 2)) + 1 by omega, show i - k = (i - (k + 2)) + 1 + 1 by omega, List.getElem?_cons_succ, List.getElem?_cons_succ, List.getElem?_cons_succ]
    · obtain rfl : i = k + 1 := by omega
      rw [if_pos rfl, if_pos (by omega), List.getElem?_append_right (by simp; omega)]
      simp [show min k ds.length = k by omega]
theorem rdrop_low_high {zs : List Itm} {k : Int} (hs : Keys zs) : rdropF zs k = lowF zs k ++ highF zs k := by
  induction zs with
  | nil => rfl
  | cons z r ih =>
    obtain ⟨h1, h2⟩ := List.pairwise_cons.mp hs
    have ih := ih h2
    unfold rdropF lowF highF at ih ⊢
    rcases Int.lt_trichotomy z.key k with hk | hk | hk
    · simp [hk, show ¬ k < z.key by omega, show z.key ≠ k by omega, ih]
    · have e1 : r.filter (fun z => decide (z.key < k)) = [] := List.filter_eq_nil_iff.mpr fun y hy => by have := h1 y hy; simp; omega
      rw [e1, List.nil_append] at ih
      simp [hk, e1, ih]
    · have e1 : r.filter (fun z => decide (z.key < k)) = [] := List.filter_eq_nil_iff.mpr fun y hy => by have := h1 y hy; simp; omega
      rw [e1, List.nil_append] at ih
      simp [hk, show ¬ z.key < k by omega, show z.key ≠ k by omega, e1, ih]
/-- Sunk to its place. -/
theorem mid_done {zs ds : List Itm} {x : Itm} {k : Nat} (hs : Keys zs) (hd : rdropF zs x.key = ds) (hk : k ≤ ds.length) (hlo : ∀ y, 0 < k → ds[k - 1]? = some y → ¬ x.key < y.key) (hhi : ∀ j y, k ≤ j → ds[j]? = some y → x.key < y.key) : midF ds x k = insF zs x := by
  have hds : ds = lowF zs x.key ++ highF zs x.key := by rw [← hd, rdrop_low_high hs]
  have hkl : k = (lowF zs x.key).length := by
    rcases Nat.lt_trichotomy k (lowF zs x.key).length with h | h | h
    · exfalso
      have hj : ds[k]? = some ((lowF zs x.key)[k]) := by rw [hds, List.getElem?_append_left h, List.getElem?_eq_getElem h]
      have h1 := hhi k _ (Nat.le_refl _) hj
      have h2 := low_keys _ (List.getElem_mem h)
      omega
    · exact h
    · exfalso
      have hk1 : k - 1 < ds.length := by omega
      have hj : ds[k - 1]? = some ds[k - 1] := List.getElem?_eq_getElem hk1
      have h1 := hlo _ (by omega) hj
      have hm : ds[k - 1] ∈ highF zs x.key := by
        have h3 : ds[k - 1]? = (highF zs x.key)[k - 1 - (lowF zs x.key).length]? := by rw [hds, List.getElem?_append_right (by omega)]
        rw [hj] at h3
        exact List.mem_of_getElem? h3.symm
      have h2 := high_keys _ hm
      exact h1 h2
  unfold midF insF
  rw [hds, hkl]
  simp
set_option maxRecDepth 100000 in
set_option maxHeartbeats 8000000 in
theorem rput_any (A : Option Addr) (n c : Nat) (zs : List Itm) (x0 : Itm) (B : Nat) (w : World) (hB : B ≤ w.heap.size) (hz : RowAt cellsI 9 w B A n zs) (hn : n ≤ 1000000) (hs : Keys zs) (hid : ∀ z ∈ zs, z.ver.id.size ≤ 9223372036854775807) :
    Calls Try.prog 18 #[.slice A n c, refV x0] w (RPutRet zs x0 w) := by
  have HS := Lib.hid hs
  have HL := Lib.hid hz.1
  have HZ := Lib.hid hz
  have HX := Lib.hid (show cellsI x0 = [.int .i64 x0.key, .string x0.ver.id, .int .i64 x0.ver.seq, .int .i64 x0.ver.stamp, .bool x0.dead, .int .i64 x0.x, .int .i64 x0.y, .string x0.text, .bool x0.held] from rfl)
  have HI := Lib.hid (show refV x0 = .agg #[.int .i64 x0.key, .string x0.ver.id, .int .i64 x0.ver.seq, .int .i64 x0.ver.stamp, .bool x0.dead, .int .i64 x0.x, .int .i64 x0.y, .string x0.text, .bool x0.held] from rfl)
  rw [HI.out]
  clear HI
  have HMD : Hid (∀ k, k ≤ (rdropF zs x0.key).length → (∀ y, 0 < k → (rdropF zs x0.key)[k - 1]? = some y → ¬ x0.key < y.key) → (∀ j y, k ≤ j → (rdropF zs x0.key)[j]? = some y → x0.key < y.key) → midF (rdropF zs x0.key) x0 k = insF zs x0) := fun k h1 h2 h3 => mid_done hs rfl h1 h2 h3
  have hdl : (rdropF zs x0.key).length ≤ n := by have := rdrop_len zs x0.key; have := hz.1; omega
  have HV0 : Hid (∀ y, replF x0 y = if eqV y.ver x0.ver then x0.held && !y.held else !newerF y.ver x0.ver) := fun y => by
    unfold replF
    have : eqV x0.ver y.ver = eqV y.ver x0.ver := by
      rw [Bool.eq_iff_iff, eqV_iff, eqV_iff]
      exact ⟨Eq.symm, Eq.symm⟩
    rw [this]
  have HXV := Lib.hid (show x0.ver = ⟨x0.ver.id, x0.ver.seq, x0.ver.stamp⟩ from rfl)
  rw [HXV.out] at HV0
  obtain ⟨PN, PO, PNO⟩ : (Hid (getF zs x0.key = none → putF zs x0 = (insF zs x0, true))) ∧ (Hid (∀ y, getF zs x0.key = some y → replF x0 y = true → putF zs x0 = (insF zs x0, true))) ∧ (Hid (∀ y, getF zs x0.key = some y → replF x0 y = false → putF zs x0 = (zs, false))) := ⟨put_new, fun _ => put_over, fun _ => put_not⟩
  clear HXV
  generalize x0.key = key at *
  generalize x0.ver.id = d at *
  generalize x0.ver.seq = a at *
  generalize x0.ver.stamp = s at *
  generalize x0.dead = dead at *
  generalize x0.x = x at *
  generalize x0.y = y at *
  generalize x0.text = text at *
  generalize x0.held = held at *
  have hb0 : Below w.heap.size w (w.alloc (.cells #[.int .i64 key, .string d, .int .i64 a, .int .i64 s, .bool dead, .int .i64 x, .int .i64 y, .string text, .bool held] 28)) := (Below.refl _ _).alloc (Nat.le_refl _) _
  have H := Lib.hid (rget_any A n c zs key B (w.alloc (.cells #[.int .i64 key, .string d, .int .i64 a, .int .i64 s, .bool dead, .int .i64 x, .int .i64 y, .string text, .bool held] 28)) (by simp; omega) (hz.keep (hb0.mono hB)) (by omega))
  clear hz hs
  obtain ⟨og, hog⟩ : ∃ og, getF zs key = og := ⟨_, rfl⟩
  have hidy : ∀ y, og = some y → y.ver.id.size ≤ 9223372036854775807 := fun y e => hid y (by rw [e] at hog; unfold getF at hog; exact List.mem_of_find?_eq_some hog)
  have HOG := Lib.hid hog
  rw [hog] at H PN PO PNO
  clear hog hid
  go_enter Try.func18, Try.ntmps18
  go_wp2_with fail
  refine H.out.mono ?_
  rintro e w1 ⟨rfl, hb⟩
  have k0 : (w.alloc (.cells #[.int .i64 key, .string d, .int .i64 a, .int .i64 s, .bool dead, .int .i64 x, .int .i64 y, .string text, .bool held] 28)).cell? ⟨w.heap.size, 0, none⟩ = some (.int .i64 key) := by simp [go_sem]
  have kf0 : (w.alloc (.cells #[.int .i64 key, .string d, .int .i64 a, .int .i64 s, .bool dead, .int .i64 x, .int .i64 y, .string text, .bool held] 28)).frozen? ⟨w.heap.size, 0, none⟩ = false := by simp [go_sem]
  have k1 : (w.alloc (.cells #[.int .i64 key, .string d, .int .i64 a, .int .i64 s, .bool dead, .int .i64 x, .int .i64 y, .string text, .bool held] 28)).cell? ⟨w.heap.size, 1, none⟩ = some (.string d) := by simp [go_sem]
  have kf1 : (w.alloc (.cells #[.int .i64 key, .string d, .int .i64 a, .int .i64 s, .bool dead, .int .i64 x, .int .i64 y, .string text, .bool held] 28)).frozen? ⟨w.heap.size, 1, none⟩ = false := by simp [go_sem]
  have k2 : (w.alloc (.cells #[.int .i64 key, .string d, .int .i64 a, .int .i64 s, .bool dead, .int .i64 x, .int .i64 y, .string text, .bool held] 28)).cell? ⟨w.heap.size, 2, none⟩ = some (.int .i64 a) := by simp [go_sem]
  have kf2 : (w.alloc (.cells #[.int .i64 key, .string d, .int .i64 a, .int .i64 s, .bool dead, .int .i64 x, .int .i64 y, .string text, .bool held] 28)).frozen? ⟨w.heap.size, 2, none⟩ = false := by simp [go_sem]
  have k3 : (w.alloc (.cells #[.int .i64 key, .string d, .int .i64 a, .int .i64 s, .bool dead, .int .i64 x, .int .i64 y, .string text, .bool held] 28)).cell? ⟨w.heap.size, 3, none⟩ = some (.int .i64 s) := by simp [go_sem]
  have kf3 : (w.alloc (.cells #[.int .i64 key, .string d, .int .i64 a, .int .i64 s, .bool dead, .int .i64 x, .int .i64 y, .string text, .bool held] 28)).frozen? ⟨w.heap.size, 3, none⟩ = false := by simp [go_sem]
  have k4 : (w.alloc (.cells #[.int .i64 key, .string d, .int .i64 a, .int .i64 s, .bool dead, .int .i64 x, .int .i64 y, .string text, .bool held] 28)).cell? ⟨w.heap.size, 4, none⟩ = some (.bool dead) := by simp [go_sem]
  have kf4 : (w.alloc (.cells #[.int .i64 key, .string d, .int .i64 a, .int .i64 s, .bool dead, .int .i64 x, .int .i64 y, .string text, .bool held] 28)).frozen? ⟨w.heap.size, 4, none⟩ = false := by simp [go_sem]
  have k5 : (w.alloc (.cells #[.int .i64 key, .string d, .int .i64 a, .int .i64 s, .bool dead, .int .i64 x, .int .i64 y, .string text, .bool held] 28)).cell? ⟨w.heap.size, 5, none⟩ = some (.int .i64 x) := by simp [go_sem]
  have kf5 : (w.alloc (.cells #[.int .i64 key, .string d, .int .i64 a, .int .i64 s, .bool dead, .int .i64 x, .int .i64 y, .string text, .bool held] 28)).frozen? ⟨w.heap.size, 5, none⟩ = false := by simp [go_sem]
  have k6 : (w.alloc (.cells #[.int .i64 key, .string d, .int .i64 a, .int .i64 s, .bool dead, .int .i64 x, .int .i64 y, .string text, .bool held] 28)).cell? ⟨w.heap.size, 6, none⟩ = some (.int .i64 y) := by simp [go_sem]
  have kf6 : (w.alloc (.cells #[.int .i64 key, .string d, .int .i64 a, .int .i64 s, .bool dead, .int .i64 x, .int .i64 y, .string text, .bool held] 28)).frozen? ⟨w.heap.size, 6, none⟩ = false := by simp [go_sem]
  have k7 : (w.alloc (.cells #[.int .i64 key, .string d, .int .i64 a, .int .i64 s, .bool dead, .int .i64 x, .int .i64 y, .string text, .bool held] 28)).cell? ⟨w.heap.size, 7, none⟩ = some (.string text) := by simp [go_sem]
  have kf7 : (w.alloc (.cells #[.int .i64 key, .string d, .int .i64 a, .int .i64 s, .bool dead, .int .i64 x, .int .i64 y, .string text, .bool held] 28)).frozen? ⟨w.heap.size, 7, none⟩ = false := by simp [go_sem]
  have k8 : (w.alloc (.cells #[.int .i64 key, .string d, .int .i64 a, .int .i64 s, .bool dead, .int .i64 x, .int .i64 y, .string text, .bool held] 28)).cell? ⟨w.heap.size, 8, none⟩ = some (.bool held) := by simp [go_sem]
  have kf8 : (w.alloc (.cells #[.int .i64 key, .string d, .int .i64 a, .int .i64 s, .bool dead, .int .i64 x, .int .i64 y, .string text, .bool held] 28)).frozen? ⟨w.heap.size, 8, none⟩ = false := by simp [go_sem]
  have kz : w.heap.size < (w.alloc (.cells #[.int .i64 key, .string d, .int .i64 a, .int .i64 s, .bool dead, .int .i64 x, .int .i64 y, .string text, .bool held] 28)).heap.size := by simp <;> omega
  replace k0 := (hb.cell (p := ⟨w.heap.size, 0, none⟩) kz).trans k0
  replace kf0 := (hb.frozen (p := ⟨w.heap.size, 0, none⟩) kz).trans kf0
  replace k1 := (hb.cell (p := ⟨w.heap.size, 1, none⟩) kz).trans k1
  replace kf1 := (hb.frozen (p := ⟨w.heap.size, 1, none⟩) kz).trans kf1
  replace k2 := (hb.cell (p := ⟨w.heap.size, 2, none⟩) kz).trans k2
  replace kf2 := (hb.frozen (p := ⟨w.heap.size, 2, none⟩) kz).trans kf2
  replace k3 := (hb.cell (p := ⟨w.heap.size, 3, none⟩) kz).trans k3
  replace kf3 := (hb.frozen (p := ⟨w.heap.size, 3, none⟩) kz).trans kf3
  replace k4 := (hb.cell (p := ⟨w.heap.size, 4, none⟩) kz).trans k4
  replace kf4 := (hb.frozen (p := ⟨w.heap.size, 4, none⟩) kz).trans kf4
  replace k5 := (hb.cell (p := ⟨w.heap.size, 5, none⟩) kz).trans k5
  replace kf5 := (hb.frozen (p := ⟨w.heap.size, 5, none⟩) kz).trans kf5
  replace k6 := (hb.cell (p := ⟨w.heap.size, 6, none⟩) kz).trans k6
  replace kf6 := (hb.frozen (p := ⟨w.heap.size, 6, none⟩) kz).trans kf6
  replace k7 := (hb.cell (p := ⟨w.heap.size, 7, none⟩) kz).trans k7
  replace kf7 := (hb.frozen (p := ⟨w.heap.size, 7, none⟩) kz).trans kf7
  replace k8 := (hb.cell (p := ⟨w.heap.size, 8, none⟩) kz).trans k8
  replace kf8 := (hb.frozen (p := ⟨w.heap.size, 8, none⟩) kz).trans kf8
  replace kz := Nat.lt_of_lt_of_le kz hb.size
  have HB : Hid (Below w.heap.size w w1) := hb0.trans (hb.mono (by simp))
  clear hb hb0 H
  cases og with
  | none =>
    have HG0 := Lib.hid (PN.out rfl)
    rw [getR_none]
    go_upto_region 2 with fail
    replace k0 : (w1.alloc (.cells #[.int .i64 0, .string ⟨#[]⟩, .int .i64 0, .int .i64 0, .bool false, .int .i64 0, .int .i64 0, .string ⟨#[]⟩, .bool false] 28)).cell? ⟨w.heap.size, 0, none⟩ = some (.int .i64 key) := by simp [go_sem, k0, kz]
    replace kf0 : (w1.alloc (.cells #[.int .i64 0, .string ⟨#[]⟩, .int .i64 0, .int .i64 0, .bool false, .int .i64 0, .int .i64 0, .string ⟨#[]⟩, .bool false] 28)).frozen? ⟨w.heap.size, 0, none⟩ = false := by simp [go_sem, kf0, kz]
    replace k1 : (w1.alloc (.cells #[.int .i64 0, .string ⟨#[]⟩, .int .i64 0, .int .i64 0, .bool false, .int .i64 0, .int .i64 0, .string ⟨#[]⟩, .bool false] 28)).cell? ⟨w.heap.size, 1, none⟩ = some (.string d) := by simp [go_sem, k1, kz]
    replace kf1 : (w1.alloc (.cells #[.int .i64 0, .string ⟨#[]⟩, .int .i64 0, .int .i64 0, .bool false, .int .i64 0, .int .i64 0, .string ⟨#[]⟩, .bool false] 28)).frozen? ⟨w.heap.size, 1, none⟩ = false := by simp [go_sem, kf1, kz]
    replace k2 : (w1.alloc (.cells #[.int .i64 0, .string ⟨#[]⟩, .int .i64 0, .int .i64 0, .bool false, .int .i64 0, .int .i64 0, .string ⟨#[]⟩, .bool false] 28)).cell? ⟨w.heap.size, 2, none⟩ = some (.int .i64 a) := by simp [go_sem, k2, kz]
    replace kf2 : (w1.alloc (.cells #[.int .i64 0, .string ⟨#[]⟩, .int .i64 0, .int .i64 0, .bool false, .int .i64 0, .int .i64 0, .string ⟨#[]⟩, .bool false] 28)).frozen? ⟨w.heap.size, 2, none⟩ = false := by simp [go_sem, kf2, kz]
    replace k3 : (w1.alloc (.cells #[.int .i64 0, .string ⟨#[]⟩, .int .i64 0, .int .i64 0, .bool false, .int .i64 0, .int .i64 0, .string ⟨#[]⟩, .bool false] 28)).cell? ⟨w.heap.size, 3, none⟩ = some (.int .i64 s) := by simp [go_sem, k3, kz]
    replace kf3 : (w1.alloc (.cells #[.int .i64 0, .string ⟨#[]⟩, .int .i64 0, .int .i64 0, .bool false, .int .i64 0, .int .i64 0, .string ⟨#[]⟩, .bool false] 28)).frozen? ⟨w.heap.size, 3, none⟩ = false := by simp [go_sem, kf3, kz]
    replace k4 : (w1.alloc (.cells #[.int .i64 0, .string ⟨#[]⟩, .int .i64 0, .int .i64 0, .bool false, .int .i64 0, .int .i64 0, .string ⟨#[]⟩, .bool false] 28)).cell? ⟨w.heap.size, 4, none⟩ = some (.bool dead) := by simp [go_sem, k4, kz]
    replace kf4 : (w1.alloc (.cells #[.int .i64 0, .string ⟨#[]⟩, .int .i64 0, .int .i64 0, .bool false, .int .i64 0, .int .i64 0, .string ⟨#[]⟩, .bool false] 28)).frozen? ⟨w.heap.size, 4, none⟩ = false := by simp [go_sem, kf4, kz]
    replace k5 : (w1.alloc (.cells #[.int .i64 0, .string ⟨#[]⟩, .int .i64 0, .int .i64 0, .bool false, .int .i64 0, .int .i64 0, .string ⟨#[]⟩, .bool false] 28)).cell? ⟨w.heap.size, 5, none⟩ = some (.int .i64 x) := by simp [go_sem, k5, kz]
    replace kf5 : (w1.alloc (.cells #[.int .i64 0, .string ⟨#[]⟩, .int .i64 0, .int .i64 0, .bool false, .int .i64 0, .int .i64 0, .string ⟨#[]⟩, .bool false] 28)).frozen? ⟨w.heap.size, 5, none⟩ = false := by simp [go_sem, kf5, kz]
    replace k6 : (w1.alloc (.cells #[.int .i64 0, .string ⟨#[]⟩, .int .i64 0, .int .i64 0, .bool false, .int .i64 0, .int .i64 0, .string ⟨#[]⟩, .bool false] 28)).cell? ⟨w.heap.size, 6, none⟩ = some (.int .i64 y) := by simp [go_sem, k6, kz]
    replace kf6 : (w1.alloc (.cells #[.int .i64 0, .string ⟨#[]⟩, .int .i64 0, .int .i64 0, .bool false, .int .i64 0, .int .i64 0, .string ⟨#[]⟩, .bool false] 28)).frozen? ⟨w.heap.size, 6, none⟩ = false := by simp [go_sem, kf6, kz]
    replace k7 : (w1.alloc (.cells #[.int .i64 0, .string ⟨#[]⟩, .int .i64 0, .int .i64 0, .bool false, .int .i64 0, .int .i64 0, .string ⟨#[]⟩, .bool false] 28)).cell? ⟨w.heap.size, 7, none⟩ = some (.string text) := by simp [go_sem, k7, kz]
    replace kf7 : (w1.alloc (.cells #[.int .i64 0, .string ⟨#[]⟩, .int .i64 0, .int .i64 0, .bool false, .int .i64 0, .int .i64 0, .string ⟨#[]⟩, .bool false] 28)).frozen? ⟨w.heap.size, 7, none⟩ = false := by simp [go_sem, kf7, kz]
    replace k8 : (w1.alloc (.cells #[.int .i64 0, .string ⟨#[]⟩, .int .i64 0, .int .i64 0, .bool false, .int .i64 0, .int .i64 0, .string ⟨#[]⟩, .bool false] 28)).cell? ⟨w.heap.size, 8, none⟩ = some (.bool held) := by simp [go_sem, k8, kz]
    replace kf8 : (w1.alloc (.cells #[.int .i64 0, .string ⟨#[]⟩, .int .i64 0, .int .i64 0, .bool false, .int .i64 0, .int .i64 0, .string ⟨#[]⟩, .bool false] 28)).frozen? ⟨w.heap.size, 8, none⟩ = false := by simp [go_sem, kf8, kz]
    replace kz : w.heap.size < (w1.alloc (.cells #[.int .i64 0, .string ⟨#[]⟩, .int .i64 0, .int .i64 0, .bool false, .int .i64 0, .int .i64 0, .string ⟨#[]⟩, .bool false] 28)).heap.size := by simp <;> omega
    replace HB : Hid (Below w.heap.size w (w1.alloc (.cells #[.int .i64 0, .string ⟨#[]⟩, .int .i64 0, .int .i64 0, .bool false, .int .i64 0, .int .i64 0, .string ⟨#[]⟩, .bool false] 28))) := HB.out.alloc HB.out.size _
    generalize (w1.alloc (.cells #[.int .i64 0, .string ⟨#[]⟩, .int .i64 0, .int .i64 0, .bool false, .int .i64 0, .int .i64 0, .string ⟨#[]⟩, .bool false] 28)) = v at *
    have kz0 := kz
    clear HOG PN PO PNO
    go_upto_region 4 with fail
    refine wp_region_held_drew (S := fun w' => w'.cell? ⟨w.heap.size, 0, none⟩ = some (.int .i64 key) ∧ w'.cell? ⟨w.heap.size, 1, none⟩ = some (.string d) ∧ w'.cell? ⟨w.heap.size, 2, none⟩ = some (.int .i64 a) ∧ w'.cell? ⟨w.heap.size, 3, none⟩ = some (.int .i64 s) ∧ w'.cell? ⟨w.heap.size, 4, none⟩ = some (.bool dead) ∧ w'.cell? ⟨w.heap.size, 5, none⟩ = some (.int .i64 x) ∧ w'.cell? ⟨w.heap.size, 6, none⟩ = some (.int .i64 y) ∧ w'.cell? ⟨w.heap.size, 7, none⟩ = some (.string text) ∧ w'.cell? ⟨w.heap.size, 8, none⟩ = some (.bool held)) (by kernel_rfl) ⟨k0, k1, k2, k3, k4, k5, k6, k7, k8⟩ (fun hHeld => ?_)
    refine wpAnyH_take (i := 0) (oi := { dst := some 51, op := Go.Op.move (Go.Operand.tmp 0), type := 22, pos := "ref.go:46", after := #[], guard := none }) (v := ?_) rfl (by kernel_rfl) (by kernel_rfl) (by kernel_rfl) (fun _ _ _ h => h) (Or.inl ⟨rfl, ?_⟩) (by assumption) ?_
    rotate_left
    · intro wz hSw; (try dsimp only at hSw); go_simp; try (with_reducible rfl)
    try simp only [Act.put, List.setIfInBounds_toArray, List.set_cons_zero, List.set_cons_succ]
    refine wpAnyH_take (i := 1) (oi := { dst := some 52, op := Go.Op.fieldAddr 28 (Go.Operand.tmp 3) 0, type := 0, pos := "ref.go:46", after := #[], guard := none }) (v := ?_) rfl (by kernel_rfl) (by kernel_rfl) (by kernel_rfl) (fun _ _ _ h => h) (Or.inl ⟨rfl, ?_⟩) (by assumption) ?_
    rotate_left
    · intro wz hSw; (try dsimp only at hSw); go_simp; try (with_reducible rfl)
    try simp only [Act.put, List.setIfInBounds_toArray, List.set_cons_zero, List.set_cons_succ]
    refine wpAnyH_take (i := 2) (oi := { dst := some 53, op := Go.Op.load 3 (Go.Operand.tmp 52), type := 3, pos := "ref.go:46", after := #[{ on := 1, ground := Go.Ground.data }], guard := none }) (v := ?_) rfl (by kernel_rfl) (by kernel_rfl) (by kernel_rfl) (fun _ _ _ h => h) (Or.inl ⟨rfl, ?_⟩) (by assumption) ?_
    rotate_left
    · intro wz hSw; (try dsimp only at hSw); go_simp; try (with_reducible rfl)
    try simp only [Act.put, List.setIfInBounds_toArray, List.set_cons_zero, List.set_cons_succ]
    refine wpAnyH_take (i := 4) (oi := { dst := some 55, op := Go.Op.load 28 (Go.Operand.tmp 3), type := 28, pos := "ref.go:46", after := #[], guard := none }) (v := ?_) rfl (by kernel_rfl) (by kernel_rfl) (by kernel_rfl) (fun _ _ _ h => h) (Or.inl ⟨rfl, ?_⟩) (by assumption) ?_
    rotate_left
    · intro wz hSw; (try dsimp only at hSw); go_simp; try (with_reducible rfl)
    try simp only [Act.put, List.setIfInBounds_toArray, List.set_cons_zero, List.set_cons_succ]
    refine wpAnyH_ready (rs := [3, 5]) (by kernel_rfl) (by simp) ?_
    refine (AllReadyH.cons (o := { dst := some 54, op := Go.Op.call { callee := Go.Callee.value (Go.Operand.func 24), args := #[Go.Operand.tmp 51, Go.Operand.tmp 53], argTypes := #[22, 3] }, type := 22, pos := "ref.go:46", after := #[{ on := 0, ground := Go.Ground.data }, { on := 2, ground := Go.Ground.data }], guard := none }) rfl (fun K hK => ?_) (AllReadyH.cons (o := { dst := some 56, op := Go.Op.buildSlice 22 1 #[(0, Go.Operand.tmp 55)], type := 22, pos := "ref.go:46", after := #[{ on := 4, ground := Go.Ground.data }], guard := none }) rfl (fun K hK => ?_) AllReadyH.nil))
    · skip
      go_simp
      go_at_call 24
      have HZv := Lib.hid (HZ.out.keep (HB.out.mono hB))
      refine (rdrop_any A n c zs key B _ (Nat.le_trans hB (by exact HB.out.size)) (by exact HZv.out) (by omega)).mono ?_
      rintro e u1 ⟨Ad, cd, rfl, ho, hb⟩
      replace k0 := (hb.cell (p := ⟨w.heap.size, 0, none⟩) kz).trans k0
      replace k1 := (hb.cell (p := ⟨w.heap.size, 1, none⟩) kz).trans k1
      replace k2 := (hb.cell (p := ⟨w.heap.size, 2, none⟩) kz).trans k2
      replace k3 := (hb.cell (p := ⟨w.heap.size, 3, none⟩) kz).trans k3
      replace k4 := (hb.cell (p := ⟨w.heap.size, 4, none⟩) kz).trans k4
      replace k5 := (hb.cell (p := ⟨w.heap.size, 5, none⟩) kz).trans k5
      replace k6 := (hb.cell (p := ⟨w.heap.size, 6, none⟩) kz).trans k6
      replace k7 := (hb.cell (p := ⟨w.heap.size, 7, none⟩) kz).trans k7
      replace k8 := (hb.cell (p := ⟨w.heap.size, 8, none⟩) kz).trans k8
      replace kz := Nat.lt_of_lt_of_le kz hb.size
      have HO := Lib.hid (rown_base ho (by exact HB.out.size))
      have hgk : ∀ g, Value.ownBlock (.slice Ad (rdropF zs key).length cd) = some g → w.heap.size + 1 ≤ g := fun g e => by have h1 : v.heap.size ≤ g := (ho.lt g e).1; have := kz0; omega
      replace HB := Lib.hid (below_via HB.out hb HB.out.size ⟨rfl, rfl, rfl, rfl⟩)
      clear ho hb
      refine hK.out _ _ ⟨k0, k1, k2, k3, k4, k5, k6, k7, k8⟩ (fun hHeld => ?_)
      clear hK K
      try simp only [Act.put, List.setIfInBounds_toArray, List.set_cons_zero, List.set_cons_succ]
      refine wpAnyH_ready (rs := [5]) (by kernel_rfl) (by simp) ?_
      refine (AllReadyH.cons (o := { dst := some 56, op := Go.Op.buildSlice 22 1 #[(0, Go.Operand.tmp 55)], type := 22, pos := "ref.go:46", after := #[{ on := 4, ground := Go.Ground.data }], guard := none }) rfl (fun K hK => ?_) AllReadyH.nil)
      go_simp
      have hb1 : Below u1.heap.size u1 (u1.alloc (.cells #[.int .i64 key, .string d, .int .i64 a, .int .i64 s, .bool dead, .int .i64 x, .int .i64 y, .string text, .bool held] 28)) := (Below.refl _ _).alloc (Nat.le_refl _) _
      replace HB := Lib.hid (HB.out.trans (hb1.mono HB.out.size))
      have HX1 : Hid (RowAt cellsI 9 (u1.alloc (.cells #[.int .i64 key, .string d, .int .i64 a, .int .i64 s, .bool dead, .int .i64 x, .int .i64 y, .string text, .bool held] 28)) (u1.heap.size + 1) (some ⟨u1.heap.size, 0, none⟩) 1 [x0]) := one_row rowI (by rw [HX.out]; exact heap_alloc_new u1 _)
      have hX : u1.heap.size + 1 ≤ (u1.alloc (.cells #[.int .i64 key, .string d, .int .i64 a, .int .i64 s, .bool dead, .int .i64 x, .int .i64 y, .string text, .bool held] 28)).heap.size := by show _ ≤ (u1.alloc _).heap.size; simp
      replace k0 := (hb1.cell (p := ⟨w.heap.size, 0, none⟩) kz).trans k0
      replace k1 := (hb1.cell (p := ⟨w.heap.size, 1, none⟩) kz).trans k1
      replace k2 := (hb1.cell (p := ⟨w.heap.size, 2, none⟩) kz).trans k2
      replace k3 := (hb1.cell (p := ⟨w.heap.size, 3, none⟩) kz).trans k3
      replace k4 := (hb1.cell (p := ⟨w.heap.size, 4, none⟩) kz).trans k4
      replace k5 := (hb1.cell (p := ⟨w.heap.size, 5, none⟩) kz).trans k5
      replace k6 := (hb1.cell (p := ⟨w.heap.size, 6, none⟩) kz).trans k6
      replace k7 := (hb1.cell (p := ⟨w.heap.size, 7, none⟩) kz).trans k7
      replace k8 := (hb1.cell (p := ⟨w.heap.size, 8, none⟩) kz).trans k8
      replace kz := Nat.lt_of_lt_of_le kz hb1.size
      replace HO := Lib.hid (rown_below HO.out hb1)
      clear hb1
      generalize (u1.alloc (.cells #[.int .i64 key, .string d, .int .i64 a, .int .i64 s, .bool dead, .int .i64 x, .int .i64 y, .string text, .bool held] 28)) = u2 at *
      generalize u1.heap.size = G1 at *
      refine hK.out _ _ ⟨k0, k1, k2, k3, k4, k5, k6, k7, k8⟩ (fun hHeld => ?_)
      clear hK K
      try simp only [Act.put, List.setIfInBounds_toArray, List.set_cons_zero, List.set_cons_succ]
      refine wpAnyH_ready (rs := [6]) (by kernel_rfl) (by simp) ?_
      refine (AllReadyH.cons (o := { dst := some 57, op := Go.Op.call { callee := Go.Callee.builtin Go.Builtin.append, args := #[Go.Operand.tmp 54, Go.Operand.tmp 56], argTypes := #[22, 22] }, type := 22, pos := "ref.go:46", after := #[{ on := 3, ground := Go.Ground.data }, { on := 5, ground := Go.Ground.data }, { on := 3, ground := Go.Ground.chain }], guard := none }) rfl (fun K hK => ?_) AllReadyH.nil)
      refine step_append_row rowI (B := w.heap.size) (v := .slice Ad (rdropF zs key).length cd) (n := (rdropF zs key).length) (zs := rdropF zs key) (m := 1) (ys := [x0]) (by rfl) _ _ (by rfl) (by rfl) HO.out (by rfl) HX1.out (by omega) (by exact HB.out.size) ?_
      intro A3 c3 w3 hown3 hg3 hat3
      have nk : some w.heap.size ≠ Value.ownBlock (.slice Ad (rdropF zs key).length cd) := fun e => by have := hgk _ e.symm; omega
      replace k0 := (World.cell?_of_block (a := ⟨w.heap.size, 0, none⟩) (hg3.block w.heap.size kz nk)).trans k0
      replace k1 := (World.cell?_of_block (a := ⟨w.heap.size, 1, none⟩) (hg3.block w.heap.size kz nk)).trans k1
      replace k2 := (World.cell?_of_block (a := ⟨w.heap.size, 2, none⟩) (hg3.block w.heap.size kz nk)).trans k2
      replace k3 := (World.cell?_of_block (a := ⟨w.heap.size, 3, none⟩) (hg3.block w.heap.size kz nk)).trans k3
      replace k4 := (World.cell?_of_block (a := ⟨w.heap.size, 4, none⟩) (hg3.block w.heap.size kz nk)).trans k4
      replace k5 := (World.cell?_of_block (a := ⟨w.heap.size, 5, none⟩) (hg3.block w.heap.size kz nk)).trans k5
      replace k6 := (World.cell?_of_block (a := ⟨w.heap.size, 6, none⟩) (hg3.block w.heap.size kz nk)).trans k6
      replace k7 := (World.cell?_of_block (a := ⟨w.heap.size, 7, none⟩) (hg3.block w.heap.size kz nk)).trans k7
      replace k8 := (World.cell?_of_block (a := ⟨w.heap.size, 8, none⟩) (hg3.block w.heap.size kz nk)).trans k8
      replace HB := Lib.hid (HB.out.grown hg3 HB.out.size (fun g e => by have := hgk _ e; omega))
      have HO3 := Lib.hid hown3
      clear hown3 hg3 hat3 nk
      refine hK.out _ _ ⟨k0, k1, k2, k3, k4, k5, k6, k7, k8⟩ (fun hHeld => ?_)
      clear hK K
      try simp only [Act.put, List.setIfInBounds_toArray, List.set_cons_zero, List.set_cons_succ]
      refine wpAnyH_take (i := 7) (oi := { dst := some 8, op := Go.Op.assign (Go.Operand.tmp 57), type := 22, pos := "ref.go:46", after := #[{ on := 6, ground := Go.Ground.data }, { on := 6, ground := Go.Ground.chain }, { on := 0, ground := Go.Ground.phase }, { on := 1, ground := Go.Ground.phase }, { on := 2, ground := Go.Ground.phase }, { on := 3, ground := Go.Ground.phase }, { on := 4, ground := Go.Ground.phase }, { on := 5, ground := Go.Ground.phase }, { on := 6, ground := Go.Ground.phase }], guard := none }) (v := ?_) rfl (by kernel_rfl) (by kernel_rfl) (by kernel_rfl) (fun _ _ _ h => h) (Or.inl ⟨rfl, ?_⟩) (by assumption) ?_
      rotate_left
      · intro wz hSw; (try dsimp only at hSw); go_simp; try (with_reducible rfl)
      try simp only [Act.put, List.setIfInBounds_toArray, List.set_cons_zero, List.set_cons_succ]
      refine wpAnyH_done (by kernel_rfl) ?_ _
      clear kz kz0 hHeld HO HX1 hX hgk HZv
      clear k0 k1 k2 k3 k4 k5 k6 k7 k8
      obtain ⟨g, hgA, hgB⟩ : ∃ g, A3 = some ⟨g, 0, none⟩ ∧ w.heap.size ≤ g := by
        obtain ⟨g, cap, hv, h1, h2⟩ := HO3.out.form (by omega)
        injection hv with hA
        exact ⟨g, hA, h1⟩
      subst hgA
      rw [← midF_last] at HO3
      generalize rdropF zs key = ds at *
      go_wp2
      go_loopw [9] (fun i wr => ∃ k : Nat, i = .int .i64 k ∧ k ≤ ds.length ∧ Hid (∀ j y, k ≤ j → ds[j]? = some y → key < y.key) ∧ Hid (wr.ownsRow w.heap.size 28 9 (.slice (some ⟨g, 0, none⟩) (ds.length + 1) c3) (ds.length + 1) (rowCells cellsI (midF ds x0 k))) ∧ Hid (Below w.heap.size w wr)) (fun i _ => (intOf i).toNat)
      case atStart => exact ⟨ds.length, by go_num, Nat.le_refl _, fun j y hj h => (by have := (List.getElem?_eq_some_iff.mp h).1; omega), HO3, HB⟩
      case round =>
        clear HO3 HB
        obtain ⟨k, rfl, hk, HHI, HO, HB⟩ := hrel
        by_cases h0 : k = 0
        · have HE := Lib.hid (HMD.out k hk (fun y h => absurd h (by omega)) HHI.out)
          have hk0 : decide (0 < k) = false := by simp; omega
          clear h0
          go_wp2
          go_quiet (fail)
          go_wp2
          go_ret2
          exact rput_ret HG0.out (by rw [← HE.out, midF_len hk]) (by rw [← HE.out]; exact HO.out) (HB.out.trans ⟨rfl, rfl, rfl, Nat.le_refl _, fun _ _ => rfl⟩)
        · have hkd : k - 1 < ds.length := by omega
          obtain ⟨yy, hyy⟩ : ∃ yy, ds[k - 1]? = some yy := ⟨_, List.getElem?_eq_getElem hkd⟩
          have hml := midF_len (x := x0) hk
          have HRW := own_row rowI HO.out
          obtain ⟨b1, o1, hA1, hb1, z1, hz1, hc1⟩ := HRW.get (k := k - 1) (by omega)
          obtain ⟨b2, o2, hA2, hb2, z2, hz2, hc2⟩ := HRW.get (k := k) (by omega)
          injection hA1 with hA1
          injection hA1 with q1 q2
          injection hA2 with hA2
          injection hA2 with q3 q4
          subst q1 q2 q3 q4
          obtain rfl : yy = z1 := by rw [midF_before hk (by omega) hyy] at hz1; injection hz1
          obtain rfl : x0 = z2 := by rw [midF_at hk] at hz2; injection hz2
          rw [HX.out] at hc2
          have HSW := Lib.hid (midF_swap (x := x0) hk (by omega) hyy)
          clear HRW hz1 hz2
          have f0 := hc2 0 _ rfl
          have f1 := hc2 1 _ rfl
          have f2 := hc2 2 _ rfl
          have f3 := hc2 3 _ rfl
          have f4 := hc2 4 _ rfl
          have f5 := hc2 5 _ rfl
          have f6 := hc2 6 _ rfl
          have f7 := hc2 7 _ rfl
          have f8 := hc2 8 _ rfl
          obtain ⟨e0, e1, e2, e3, e4, e5, e6, e7, e8⟩ := cellsI_at hc1
          replace e0 : wr.cell? ⟨g, (k - 1) * 9, none⟩ = some (.int .i64 yy.key) := (by have h := e0; simpa using h)
          replace f0 : wr.cell? ⟨g, k * 9, none⟩ = some (.int .i64 key) := (by have h := f0; simpa using h)
          replace e1 : wr.cell? ⟨g, (k - 1) * 9 + 1, none⟩ = some (.string yy.ver.id) := (by have h := e1; simpa using h)
          replace f1 : wr.cell? ⟨g, k * 9 + 1, none⟩ = some (.string d) := (by have h := f1; simpa using h)
          replace e2 : wr.cell? ⟨g, (k - 1) * 9 + 2, none⟩ = some (.int .i64 yy.ver.seq) := (by have h := e2; simpa using h)
          replace f2 : wr.cell? ⟨g, k * 9 + 2, none⟩ = some (.int .i64 a) := (by have h := f2; simpa using h)
          replace e3 : wr.cell? ⟨g, (k - 1) * 9 + 3, none⟩ = some (.int .i64 yy.ver.stamp) := (by have h := e3; simpa using h)
          replace f3 : wr.cell? ⟨g, k * 9 + 3, none⟩ = some (.int .i64 s) := (by have h := f3; simpa using h)
          replace e4 : wr.cell? ⟨g, (k - 1) * 9 + 4, none⟩ = some (.bool yy.dead) := (by have h := e4; simpa using h)
          replace f4 : wr.cell? ⟨g, k * 9 + 4, none⟩ = some (.bool dead) := (by have h := f4; simpa using h)
          replace e5 : wr.cell? ⟨g, (k - 1) * 9 + 5, none⟩ = some (.int .i64 yy.x) := (by have h := e5; simpa using h)
          replace f5 : wr.cell? ⟨g, k * 9 + 5, none⟩ = some (.int .i64 x) := (by have h := f5; simpa using h)
          replace e6 : wr.cell? ⟨g, (k - 1) * 9 + 6, none⟩ = some (.int .i64 yy.y) := (by have h := e6; simpa using h)
          replace f6 : wr.cell? ⟨g, k * 9 + 6, none⟩ = some (.int .i64 y) := (by have h := f6; simpa using h)
          replace e7 : wr.cell? ⟨g, (k - 1) * 9 + 7, none⟩ = some (.string yy.text) := (by have h := e7; simpa using h)
          replace f7 : wr.cell? ⟨g, k * 9 + 7, none⟩ = some (.string text) := (by have h := f7; simpa using h)
          replace e8 : wr.cell? ⟨g, (k - 1) * 9 + 8, none⟩ = some (.bool yy.held) := (by have h := e8; simpa using h)
          replace f8 : wr.cell? ⟨g, k * 9 + 8, none⟩ = some (.bool held) := (by have h := f8; simpa using h)
          have HYC := Lib.hid (show cellsI yy = [.int .i64 yy.key, .string yy.ver.id, .int .i64 yy.ver.seq, .int .i64 yy.ver.stamp, .bool yy.dead, .int .i64 yy.x, .int .i64 yy.y, .string yy.text, .bool yy.held] from rfl)
          have HLO : Hid (¬ key < yy.key → ∀ y, 0 < k → ds[k - 1]? = some y → ¬ key < y.key) := fun h y _ he => by rw [hyy] at he; injection he with he; subst he; exact h
          have HHN : Hid (key < yy.key → ∀ j y, k - 1 ≤ j → ds[j]? = some y → key < y.key) := fun h j y hj he => by
            rcases Nat.lt_or_ge j k with h1 | h1
            · obtain rfl : j = k - 1 := by omega
              rw [hyy] at he
              injection he with he
              subst he
              exact h
            · exact HHI.out j y h1 he
          generalize yy.key = key3 at *
          generalize yy.ver.id = d3 at *
          generalize yy.ver.seq = a3 at *
          generalize yy.ver.stamp = s3 at *
          generalize yy.dead = dead3 at *
          generalize yy.x = x3 at *
          generalize yy.y = y3 at *
          generalize yy.text = text3 at *
          generalize yy.held = held3 at *
          have hk0 : decide (0 < k) = true := by simp; omega
          have hks : IntKind.i64.wrap ((k : Int) - 1) = ((k - 1 : Nat) : Int) := by rw [IntWalk.i64_in _ (by omega)]; omega
          have hki : (((k - 1 : Nat) : Int)) < (ds.length : Int) + 1 := by omega
          have hki0 : (0 : Int) ≤ ((k - 1 : Nat) : Int) := by omega
          have hkl : (k : Int) < (ds.length : Int) + 1 := by omega
          have hkiN : k - 1 < ds.length + 1 := by omega
          have hklN : k < ds.length + 1 := by omega
          clear hc1 hc2 hyy hb1 hb2 hkd hml
          by_cases hgt : key < key3
          · have hgt' : decide (key < key3) = true := by simpa using hgt
            go_wp2
            go_quiet (fail)
            go_upto_region 8 with fail
            replace e0 : (wr.drewN nq).cell? ⟨g, (k - 1) * 9, none⟩ = some (.int .i64 key3) := e0
            replace e1 : (wr.drewN nq).cell? ⟨g, (k - 1) * 9 + 1, none⟩ = some (.string d3) := e1
            replace e2 : (wr.drewN nq).cell? ⟨g, (k - 1) * 9 + 2, none⟩ = some (.int .i64 a3) := e2
            replace e3 : (wr.drewN nq).cell? ⟨g, (k - 1) * 9 + 3, none⟩ = some (.int .i64 s3) := e3
            replace e4 : (wr.drewN nq).cell? ⟨g, (k - 1) * 9 + 4, none⟩ = some (.bool dead3) := e4
            replace e5 : (wr.drewN nq).cell? ⟨g, (k - 1) * 9 + 5, none⟩ = some (.int .i64 x3) := e5
            replace e6 : (wr.drewN nq).cell? ⟨g, (k - 1) * 9 + 6, none⟩ = some (.int .i64 y3) := e6
            replace e7 : (wr.drewN nq).cell? ⟨g, (k - 1) * 9 + 7, none⟩ = some (.string text3) := e7
            replace e8 : (wr.drewN nq).cell? ⟨g, (k - 1) * 9 + 8, none⟩ = some (.bool held3) := e8
            replace f0 : (wr.drewN nq).cell? ⟨g, k * 9, none⟩ = some (.int .i64 key) := f0
            replace f1 : (wr.drewN nq).cell? ⟨g, k * 9 + 1, none⟩ = some (.string d) := f1
            replace f2 : (wr.drewN nq).cell? ⟨g, k * 9 + 2, none⟩ = some (.int .i64 a) := f2
            replace f3 : (wr.drewN nq).cell? ⟨g, k * 9 + 3, none⟩ = some (.int .i64 s) := f3
            replace f4 : (wr.drewN nq).cell? ⟨g, k * 9 + 4, none⟩ = some (.bool dead) := f4
            replace f5 : (wr.drewN nq).cell? ⟨g, k * 9 + 5, none⟩ = some (.int .i64 x) := f5
            replace f6 : (wr.drewN nq).cell? ⟨g, k * 9 + 6, none⟩ = some (.int .i64 y) := f6
            replace f7 : (wr.drewN nq).cell? ⟨g, k * 9 + 7, none⟩ = some (.string text) := f7
            replace f8 : (wr.drewN nq).cell? ⟨g, k * 9 + 8, none⟩ = some (.bool held) := f8
            replace HO : Hid ((wr.drewN nq).ownsRow w.heap.size 28 9 (.slice (some ⟨g, 0, none⟩) (ds.length + 1) c3) (ds.length + 1) (rowCells cellsI (midF ds x0 k))) := HO
            replace HB : Hid (Below w.heap.size w (wr.drewN nq)) := HB.out.trans ⟨rfl, rfl, rfl, Nat.le_refl _, fun _ _ => rfl⟩
            generalize wr.drewN nq = wq at *
            have ef0 : wq.frozen? ⟨g, (k - 1) * 9, none⟩ = false := HO.out.frozenAt _
            have ff0 : wq.frozen? ⟨g, k * 9, none⟩ = false := HO.out.frozenAt _
            have ef1 : wq.frozen? ⟨g, (k - 1) * 9 + 1, none⟩ = false := HO.out.frozenAt _
            have ff1 : wq.frozen? ⟨g, k * 9 + 1, none⟩ = false := HO.out.frozenAt _
            have ef2 : wq.frozen? ⟨g, (k - 1) * 9 + 2, none⟩ = false := HO.out.frozenAt _
            have ff2 : wq.frozen? ⟨g, k * 9 + 2, none⟩ = false := HO.out.frozenAt _
            have ef3 : wq.frozen? ⟨g, (k - 1) * 9 + 3, none⟩ = false := HO.out.frozenAt _
            have ff3 : wq.frozen? ⟨g, k * 9 + 3, none⟩ = false := HO.out.frozenAt _
            have ef4 : wq.frozen? ⟨g, (k - 1) * 9 + 4, none⟩ = false := HO.out.frozenAt _
            have ff4 : wq.frozen? ⟨g, k * 9 + 4, none⟩ = false := HO.out.frozenAt _
            have ef5 : wq.frozen? ⟨g, (k - 1) * 9 + 5, none⟩ = false := HO.out.frozenAt _
            have ff5 : wq.frozen? ⟨g, k * 9 + 5, none⟩ = false := HO.out.frozenAt _
            have ef6 : wq.frozen? ⟨g, (k - 1) * 9 + 6, none⟩ = false := HO.out.frozenAt _
            have ff6 : wq.frozen? ⟨g, k * 9 + 6, none⟩ = false := HO.out.frozenAt _
            have ef7 : wq.frozen? ⟨g, (k - 1) * 9 + 7, none⟩ = false := HO.out.frozenAt _
            have ff7 : wq.frozen? ⟨g, k * 9 + 7, none⟩ = false := HO.out.frozenAt _
            have ef8 : wq.frozen? ⟨g, (k - 1) * 9 + 8, none⟩ = false := HO.out.frozenAt _
            have ff8 : wq.frozen? ⟨g, k * 9 + 8, none⟩ = false := HO.out.frozenAt _
            go_region
            clear e0 f0 ef0 ff0 e1 f1 ef1 ff1 e2 f2 ef2 ff2 e3 f3 ef3 ff3 e4 f4 ef4 ff4 e5 f5 ef5 ff5 e6 f6 ef6 ff6 e7 f7 ef7 ff7 e8 f8 ef8 ff8
            have HO2 : Hid (((((((((((((((((((wq.setCell ⟨g, (k - 1) * 9, none⟩ (.int .i64 key)).setCell ⟨g, (k - 1) * 9 + 1, none⟩ (.string d)).setCell ⟨g, (k - 1) * 9 + 2, none⟩ (.int .i64 a)).setCell ⟨g, (k - 1) * 9 + 3, none⟩ (.int .i64 s)).setCell ⟨g, (k - 1) * 9 + 4, none⟩ (.bool dead)).setCell ⟨g, (k - 1) * 9 + 5, none⟩ (.int .i64 x)).setCell ⟨g, (k - 1) * 9 + 6, none⟩ (.int .i64 y)).setCell ⟨g, (k - 1) * 9 + 7, none⟩ (.string text)).setCell ⟨g, (k - 1) * 9 + 8, none⟩ (.bool held)).setCell ⟨g, k * 9, none⟩ (.int .i64 key3)).setCell ⟨g, k * 9 + 1, none⟩ (.string d3)).setCell ⟨g, k * 9 + 2, none⟩ (.int .i64 a3)).setCell ⟨g, k * 9 + 3, none⟩ (.int .i64 s3)).setCell ⟨g, k * 9 + 4, none⟩ (.bool dead3)).setCell ⟨g, k * 9 + 5, none⟩ (.int .i64 x3)).setCell ⟨g, k * 9 + 6, none⟩ (.int .i64 y3)).setCell ⟨g, k * 9 + 7, none⟩ (.string text3)).setCell ⟨g, k * 9 + 8, none⟩ (.bool held3)).drew.ownsRow w.heap.size 28 9 (.slice (some ⟨g, 0, none⟩) (ds.length + 1) c3) (ds.length + 1) (rowCells cellsI (midF ds x0 (k - 1)))) := by
              have h := own_put rowI HO.out (k := k - 1) (by rw [midF_len hk]; omega) x0
              rw [HX.out, wsets9] at h
              have h' := own_put rowI h (k := k) (by rw [List.length_set, midF_len hk]; omega) yy
              rw [HYC.out, HSW.out, wsets9] at h'
              exact h'.drew
            replace HB : Hid (Below w.heap.size w ((((((((((((((((((wq.setCell ⟨g, (k - 1) * 9, none⟩ (.int .i64 key)).setCell ⟨g, (k - 1) * 9 + 1, none⟩ (.string d)).setCell ⟨g, (k - 1) * 9 + 2, none⟩ (.int .i64 a)).setCell ⟨g, (k - 1) * 9 + 3, none⟩ (.int .i64 s)).setCell ⟨g, (k - 1) * 9 + 4, none⟩ (.bool dead)).setCell ⟨g, (k - 1) * 9 + 5, none⟩ (.int .i64 x)).setCell ⟨g, (k - 1) * 9 + 6, none⟩ (.int .i64 y)).setCell ⟨g, (k - 1) * 9 + 7, none⟩ (.string text)).setCell ⟨g, (k - 1) * 9 + 8, none⟩ (.bool held)).setCell ⟨g, k * 9, none⟩ (.int .i64 key3)).setCell ⟨g, k * 9 + 1, none⟩ (.string d3)).setCell ⟨g, k * 9 + 2, none⟩ (.int .i64 a3)).setCell ⟨g, k * 9 + 3, none⟩ (.int .i64 s3)).setCell ⟨g, k * 9 + 4, none⟩ (.bool dead3)).setCell ⟨g, k * 9 + 5, none⟩ (.int .i64 x3)).setCell ⟨g, k * 9 + 6, none⟩ (.int .i64 y3)).setCell ⟨g, k * 9 + 7, none⟩ (.string text3)).setCell ⟨g, k * 9 + 8, none⟩ (.bool held3)).drew) := by
              have h := below_wsets hgB [.int .i64 key, .string d, .int .i64 a, .int .i64 s, .bool dead, .int .i64 x, .int .i64 y, .string text, .bool held] ((k - 1) * 9) wq HB.out
              rw [wsets9] at h
              have h' := below_wsets hgB [.int .i64 key3, .string d3, .int .i64 a3, .int .i64 s3, .bool dead3, .int .i64 x3, .int .i64 y3, .string text3, .bool held3] (k * 9) _ h
              rw [wsets9] at h'
              exact h'.drew
            clear HO
            generalize ((((((((((((((((((wq.setCell ⟨g, (k - 1) * 9, none⟩ (.int .i64 key)).setCell ⟨g, (k - 1) * 9 + 1, none⟩ (.string d)).setCell ⟨g, (k - 1) * 9 + 2, none⟩ (.int .i64 a)).setCell ⟨g, (k - 1) * 9 + 3, none⟩ (.int .i64 s)).setCell ⟨g, (k - 1) * 9 + 4, none⟩ (.bool dead)).setCell ⟨g, (k - 1) * 9 + 5, none⟩ (.int .i64 x)).setCell ⟨g, (k - 1) * 9 + 6, none⟩ (.int .i64 y)).setCell ⟨g, (k - 1) * 9 + 7, none⟩ (.string text)).setCell ⟨g, (k - 1) * 9 + 8, none⟩ (.bool held)).setCell ⟨g, k * 9, none⟩ (.int .i64 key3)).setCell ⟨g, k * 9 + 1, none⟩ (.string d3)).setCell ⟨g, k * 9 + 2, none⟩ (.int .i64 a3)).setCell ⟨g, k * 9 + 3, none⟩ (.int .i64 s3)).setCell ⟨g, k * 9 + 4, none⟩ (.bool dead3)).setCell ⟨g, k * 9 + 5, none⟩ (.int .i64 x3)).setCell ⟨g, k * 9 + 6, none⟩ (.int .i64 y3)).setCell ⟨g, k * 9 + 7, none⟩ (.string text3)).setCell ⟨g, k * 9 + 8, none⟩ (.bool held3)).drew = wb at *
            go_wp2
            go_roundw
            case rel => exact ⟨k - 1, by first | rfl | go_num | (congr 1; omega), by omega, HHN.out hgt, HO2, HB⟩
            case measure => simp [intOf]; omega
          · have HE := Lib.hid (HMD.out k hk (fun y h1 h2 => by have := HLO.out hgt y h1 h2; omega) HHI.out)
            have hgt' : decide (key < key3) = false := by simpa using hgt
            go_wp2
            go_quiet (fail)
            go_wp2
            go_ret2
            exact rput_ret HG0.out (by rw [← HE.out, midF_len hk]) (by rw [← HE.out]; exact HO.out) (HB.out.trans ⟨rfl, rfl, rfl, Nat.le_refl _, fun _ _ => rfl⟩)
    · skip
      go_simp
      have hb1 : Below v.heap.size v (v.alloc (.cells #[.int .i64 key, .string d, .int .i64 a, .int .i64 s, .bool dead, .int .i64 x, .int .i64 y, .string text, .bool held] 28)).drew := ((Below.refl _ _).alloc (Nat.le_refl _) _).drew
      replace HB := Lib.hid (HB.out.trans (hb1.mono HB.out.size))
      have HX1 : Hid (RowAt cellsI 9 (v.alloc (.cells #[.int .i64 key, .string d, .int .i64 a, .int .i64 s, .bool dead, .int .i64 x, .int .i64 y, .string text, .bool held] 28)).drew (v.heap.size + 1) (some ⟨v.heap.size, 0, none⟩) 1 [x0]) := one_row rowI (by rw [HX.out]; exact heap_alloc_new v _)
      have hX : v.heap.size + 1 ≤ (v.alloc (.cells #[.int .i64 key, .string d, .int .i64 a, .int .i64 s, .bool dead, .int .i64 x, .int .i64 y, .string text, .bool held] 28)).drew.heap.size := by show _ ≤ (v.alloc _).heap.size; simp
      replace k0 := (hb1.cell (p := ⟨w.heap.size, 0, none⟩) kz).trans k0
      replace k1 := (hb1.cell (p := ⟨w.heap.size, 1, none⟩) kz).trans k1
      replace k2 := (hb1.cell (p := ⟨w.heap.size, 2, none⟩) kz).trans k2
      replace k3 := (hb1.cell (p := ⟨w.heap.size, 3, none⟩) kz).trans k3
      replace k4 := (hb1.cell (p := ⟨w.heap.size, 4, none⟩) kz).trans k4
      replace k5 := (hb1.cell (p := ⟨w.heap.size, 5, none⟩) kz).trans k5
      replace k6 := (hb1.cell (p := ⟨w.heap.size, 6, none⟩) kz).trans k6
      replace k7 := (hb1.cell (p := ⟨w.heap.size, 7, none⟩) kz).trans k7
      replace k8 := (hb1.cell (p := ⟨w.heap.size, 8, none⟩) kz).trans k8
      replace kz := Nat.lt_of_lt_of_le kz hb1.size
      have kz0' := kz0
      clear hb1 kz0'
      generalize (v.alloc (.cells #[.int .i64 key, .string d, .int .i64 a, .int .i64 s, .bool dead, .int .i64 x, .int .i64 y, .string text, .bool held] 28)).drew = u1 at *
      generalize v.heap.size = G1 at *
      have kz0 := kz
      refine hK.out _ _ ⟨k0, k1, k2, k3, k4, k5, k6, k7, k8⟩ (fun hHeld => ?_)
      clear hK K
      try simp only [Act.put, List.setIfInBounds_toArray, List.set_cons_zero, List.set_cons_succ]
      refine wpAnyH_ready (rs := [3]) (by kernel_rfl) (by simp) ?_
      refine (AllReadyH.cons (o := { dst := some 54, op := Go.Op.call { callee := Go.Callee.value (Go.Operand.func 24), args := #[Go.Operand.tmp 51, Go.Operand.tmp 53], argTypes := #[22, 3] }, type := 22, pos := "ref.go:46", after := #[{ on := 0, ground := Go.Ground.data }, { on := 2, ground := Go.Ground.data }], guard := none }) rfl (fun K hK => ?_) AllReadyH.nil)
      go_simp
      go_at_call 24
      have HZv := Lib.hid (HZ.out.keep (HB.out.mono hB))
      refine (rdrop_any A n c zs key B _ (Nat.le_trans hB (by exact HB.out.size)) (by exact HZv.out) (by omega)).mono ?_
      rintro e u2 ⟨Ad, cd, rfl, ho, hb⟩
      replace k0 := (hb.cell (p := ⟨w.heap.size, 0, none⟩) kz).trans k0
      replace k1 := (hb.cell (p := ⟨w.heap.size, 1, none⟩) kz).trans k1
      replace k2 := (hb.cell (p := ⟨w.heap.size, 2, none⟩) kz).trans k2
      replace k3 := (hb.cell (p := ⟨w.heap.size, 3, none⟩) kz).trans k3
      replace k4 := (hb.cell (p := ⟨w.heap.size, 4, none⟩) kz).trans k4
      replace k5 := (hb.cell (p := ⟨w.heap.size, 5, none⟩) kz).trans k5
      replace k6 := (hb.cell (p := ⟨w.heap.size, 6, none⟩) kz).trans k6
      replace k7 := (hb.cell (p := ⟨w.heap.size, 7, none⟩) kz).trans k7
      replace k8 := (hb.cell (p := ⟨w.heap.size, 8, none⟩) kz).trans k8
      replace kz := Nat.lt_of_lt_of_le kz hb.size
      replace HX1 := Lib.hid ((HX1.out.more hX).keep (by exact hb))
      have HO := Lib.hid (rown_base ho (by exact HB.out.size))
      have hgk : ∀ g, Value.ownBlock (.slice Ad (rdropF zs key).length cd) = some g → w.heap.size + 1 ≤ g := fun g e => by have h1 : u1.heap.size ≤ g := (ho.lt g e).1; have := kz0; omega
      replace HB := Lib.hid (below_via HB.out hb HB.out.size ⟨rfl, rfl, rfl, rfl⟩)
      clear ho hb
      replace hX := Nat.le_refl u2.heap.size
      refine hK.out _ _ ⟨k0, k1, k2, k3, k4, k5, k6, k7, k8⟩ (fun hHeld => ?_)
      clear hK K
      try simp only [Act.put, List.setIfInBounds_toArray, List.set_cons_zero, List.set_cons_succ]
      refine wpAnyH_ready (rs := [6]) (by kernel_rfl) (by simp) ?_
      refine (AllReadyH.cons (o := { dst := some 57, op := Go.Op.call { callee := Go.Callee.builtin Go.Builtin.append, args := #[Go.Operand.tmp 54, Go.Operand.tmp 56], argTypes := #[22, 22] }, type := 22, pos := "ref.go:46", after := #[{ on := 3, ground := Go.Ground.data }, { on := 5, ground := Go.Ground.data }, { on := 3, ground := Go.Ground.chain }], guard := none }) rfl (fun K hK => ?_) AllReadyH.nil)
      refine step_append_row rowI (B := w.heap.size) (v := .slice Ad (rdropF zs key).length cd) (n := (rdropF zs key).length) (zs := rdropF zs key) (m := 1) (ys := [x0]) (by rfl) _ _ (by rfl) (by rfl) HO.out (by rfl) HX1.out (by omega) (by exact HB.out.size) ?_
      intro A3 c3 w3 hown3 hg3 hat3
      have nk : some w.heap.size ≠ Value.ownBlock (.slice Ad (rdropF zs key).length cd) := fun e => by have := hgk _ e.symm; omega
      replace k0 := (World.cell?_of_block (a := ⟨w.heap.size, 0, none⟩) (hg3.block w.heap.size kz nk)).trans k0
      replace k1 := (World.cell?_of_block (a := ⟨w.heap.size, 1, none⟩) (hg3.block w.heap.size kz nk)).trans k1
      replace k2 := (World.cell?_of_block (a := ⟨w.heap.size, 2, none⟩) (hg3.block w.heap.size kz nk)).trans k2
      replace k3 := (World.cell?_of_block (a := ⟨w.heap.size, 3, none⟩) (hg3.block w.heap.size kz nk)).trans k3
      replace k4 := (World.cell?_of_block (a := ⟨w.heap.size, 4, none⟩) (hg3.block w.heap.size kz nk)).trans k4
      replace k5 := (World.cell?_of_block (a := ⟨w.heap.size, 5, none⟩) (hg3.block w.heap.size kz nk)).trans k5
      replace k6 := (World.cell?_of_block (a := ⟨w.heap.size, 6, none⟩) (hg3.block w.heap.size kz nk)).trans k6
      replace k7 := (World.cell?_of_block (a := ⟨w.heap.size, 7, none⟩) (hg3.block w.heap.size kz nk)).trans k7
      replace k8 := (World.cell?_of_block (a := ⟨w.heap.size, 8, none⟩) (hg3.block w.heap.size kz nk)).trans k8
      replace HB := Lib.hid (HB.out.grown hg3 HB.out.size (fun g e => by have := hgk _ e; omega))
      have HO3 := Lib.hid hown3
      clear hown3 hg3 hat3 nk
      refine hK.out _ _ ⟨k0, k1, k2, k3, k4, k5, k6, k7, k8⟩ (fun hHeld => ?_)
      clear hK K
      try simp only [Act.put, List.setIfInBounds_toArray, List.set_cons_zero, List.set_cons_succ]
      refine wpAnyH_take (i := 7) (oi := { dst := some 8, op := Go.Op.assign (Go.Operand.tmp 57), type := 22, pos := "ref.go:46", after := #[{ on := 6, ground := Go.Ground.data }, { on := 6, ground := Go.Ground.chain }, { on := 0, ground := Go.Ground.phase }, { on := 1, ground := Go.Ground.phase }, { on := 2, ground := Go.Ground.phase }, { on := 3, ground := Go.Ground.phase }, { on := 4, ground := Go.Ground.phase }, { on := 5, ground := Go.Ground.phase }, { on := 6, ground := Go.Ground.phase }], guard := none }) (v := ?_) rfl (by kernel_rfl) (by kernel_rfl) (by kernel_rfl) (fun _ _ _ h => h) (Or.inl ⟨rfl, ?_⟩) (by assumption) ?_
      rotate_left
      · intro wz hSw; (try dsimp only at hSw); go_simp; try (with_reducible rfl)
      try simp only [Act.put, List.setIfInBounds_toArray, List.set_cons_zero, List.set_cons_succ]
      refine wpAnyH_done (by kernel_rfl) ?_ _
      clear kz kz0 hHeld HO HX1 hX hgk HZv
      clear k0 k1 k2 k3 k4 k5 k6 k7 k8
      obtain ⟨g, hgA, hgB⟩ : ∃ g, A3 = some ⟨g, 0, none⟩ ∧ w.heap.size ≤ g := by
        obtain ⟨g, cap, hv, h1, h2⟩ := HO3.out.form (by omega)
        injection hv with hA
        exact ⟨g, hA, h1⟩
      subst hgA
      rw [← midF_last] at HO3
      generalize rdropF zs key = ds at *
      go_wp2
      go_loopw [9] (fun i wr => ∃ k : Nat, i = .int .i64 k ∧ k ≤ ds.length ∧ Hid (∀ j y, k ≤ j → ds[j]? = some y → key < y.key) ∧ Hid (wr.ownsRow w.heap.size 28 9 (.slice (some ⟨g, 0, none⟩) (ds.length + 1) c3) (ds.length + 1) (rowCells cellsI (midF ds x0 k))) ∧ Hid (Below w.heap.size w wr)) (fun i _ => (intOf i).toNat)
      case atStart => exact ⟨ds.length, by go_num, Nat.le_refl _, fun j y hj h => (by have := (List.getElem?_eq_some_iff.mp h).1; omega), HO3, HB⟩
      case round =>
        clear HO3 HB
        obtain ⟨k, rfl, hk, HHI, HO, HB⟩ := hrel
        by_cases h0 : k = 0
        · have HE := Lib.hid (HMD.out k hk (fun y h => absurd h (by omega)) HHI.out)
          have hk0 : decide (0 < k) = false := by simp; omega
          clear h0
          go_wp2
          go_quiet (fail)
          go_wp2
          go_ret2
          exact rput_ret HG0.out (by rw [← HE.out, midF_len hk]) (by rw [← HE.out]; exact HO.out) (HB.out.trans ⟨rfl, rfl, rfl, Nat.le_refl _, fun _ _ => rfl⟩)
        · have hkd : k - 1 < ds.length := by omega
          obtain ⟨yy, hyy⟩ : ∃ yy, ds[k - 1]? = some yy := ⟨_, List.getElem?_eq_getElem hkd⟩
          have hml := midF_len (x := x0) hk
          have HRW := own_row rowI HO.out
          obtain ⟨b1, o1, hA1, hb1, z1, hz1, hc1⟩ := HRW.get (k := k - 1) (by omega)
          obtain ⟨b2, o2, hA2, hb2, z2, hz2, hc2⟩ := HRW.get (k := k) (by omega)
          injection hA1 with hA1
          injection hA1 with q1 q2
          injection hA2 with hA2
          injection hA2 with q3 q4
          subst q1 q2 q3 q4
          obtain rfl : yy = z1 := by rw [midF_before hk (by omega) hyy] at hz1; injection hz1
          obtain rfl : x0 = z2 := by rw [midF_at hk] at hz2; injection hz2
          rw [HX.out] at hc2
          have HSW := Lib.hid (midF_swap (x := x0) hk (by omega) hyy)
          clear HRW hz1 hz2
          have f0 := hc2 0 _ rfl
          have f1 := hc2 1 _ rfl
          have f2 := hc2 2 _ rfl
          have f3 := hc2 3 _ rfl
          have f4 := hc2 4 _ rfl
          have f5 := hc2 5 _ rfl
          have f6 := hc2 6 _ rfl
          have f7 := hc2 7 _ rfl
          have f8 := hc2 8 _ rfl
          obtain ⟨e0, e1, e2, e3, e4, e5, e6, e7, e8⟩ := cellsI_at hc1
          replace e0 : wr.cell? ⟨g, (k - 1) * 9, none⟩ = some (.int .i64 yy.key) := (by have h := e0; simpa using h)
          replace f0 : wr.cell? ⟨g, k * 9, none⟩ = some (.int .i64 key) := (by have h := f0; simpa using h)
          replace e1 : wr.cell? ⟨g, (k - 1) * 9 + 1, none⟩ = some (.string yy.ver.id) := (by have h := e1; simpa using h)
          replace f1 : wr.cell? ⟨g, k * 9 + 1, none⟩ = some (.string d) := (by have h := f1; simpa using h)
          replace e2 : wr.cell? ⟨g, (k - 1) * 9 + 2, none⟩ = some (.int .i64 yy.ver.seq) := (by have h := e2; simpa using h)
          replace f2 : wr.cell? ⟨g, k * 9 + 2, none⟩ = some (.int .i64 a) := (by have h := f2; simpa using h)
          replace e3 : wr.cell? ⟨g, (k - 1) * 9 + 3, none⟩ = some (.int .i64 yy.ver.stamp) := (by have h := e3; simpa using h)
          replace f3 : wr.cell? ⟨g, k * 9 + 3, none⟩ = some (.int .i64 s) := (by have h := f3; simpa using h)
          replace e4 : wr.cell? ⟨g, (k - 1) * 9 + 4, none⟩ = some (.bool yy.dead) := (by have h := e4; simpa using h)
          replace f4 : wr.cell? ⟨g, k * 9 + 4, none⟩ = some (.bool dead) := (by have h := f4; simpa using h)
          replace e5 : wr.cell? ⟨g, (k - 1) * 9 + 5, none⟩ = some (.int .i64 yy.x) := (by have h := e5; simpa using h)
          replace f5 : wr.cell? ⟨g, k * 9 + 5, none⟩ = some (.int .i64 x) := (by have h := f5; simpa using h)
          replace e6 : wr.cell? ⟨g, (k - 1) * 9 + 6, none⟩ = some (.int .i64 yy.y) := (by have h := e6; simpa using h)
          replace f6 : wr.cell? ⟨g, k * 9 + 6, none⟩ = some (.int .i64 y) := (by have h := f6; simpa using h)
          replace e7 : wr.cell? ⟨g, (k - 1) * 9 + 7, none⟩ = some (.string yy.text) := (by have h := e7; simpa using h)
          replace f7 : wr.cell? ⟨g, k * 9 + 7, none⟩ = some (.string text) := (by have h := f7; simpa using h)
          replace e8 : wr.cell? ⟨g, (k - 1) * 9 + 8, none⟩ = some (.bool yy.held) := (by have h := e8; simpa using h)
          replace f8 : wr.cell? ⟨g, k * 9 + 8, none⟩ = some (.bool held) := (by have h := f8; simpa using h)
          have HYC := Lib.hid (show cellsI yy = [.int .i64 yy.key, .string yy.ver.id, .int .i64 yy.ver.seq, .int .i64 yy.ver.stamp, .bool yy.dead, .int .i64 yy.x, .int .i64 yy.y, .string yy.text, .bool yy.held] from rfl)
          have HLO : Hid (¬ key < yy.key → ∀ y, 0 < k → ds[k - 1]? = some y → ¬ key < y.key) := fun h y _ he => by rw [hyy] at he; injection he with he; subst he; exact h
          have HHN : Hid (key < yy.key → ∀ j y, k - 1 ≤ j → ds[j]? = some y → key < y.key) := fun h j y hj he => by
            rcases Nat.lt_or_ge j k with h1 | h1
            · obtain rfl : j = k - 1 := by omega
              rw [hyy] at he
              injection he with he
              subst he
              exact h
            · exact HHI.out j y h1 he
          generalize yy.key = key3 at *
          generalize yy.ver.id = d3 at *
          generalize yy.ver.seq = a3 at *
          generalize yy.ver.stamp = s3 at *
          generalize yy.dead = dead3 at *
          generalize yy.x = x3 at *
          generalize yy.y = y3 at *
          generalize yy.text = text3 at *
          generalize yy.held = held3 at *
          have hk0 : decide (0 < k) = true := by simp; omega
          have hks : IntKind.i64.wrap ((k : Int) - 1) = ((k - 1 : Nat) : Int) := by rw [IntWalk.i64_in _ (by omega)]; omega
          have hki : (((k - 1 : Nat) : Int)) < (ds.length : Int) + 1 := by omega
          have hki0 : (0 : Int) ≤ ((k - 1 : Nat) : Int) := by omega
          have hkl : (k : Int) < (ds.length : Int) + 1 := by omega
          have hkiN : k - 1 < ds.length + 1 := by omega
          have hklN : k < ds.length + 1 := by omega
          clear hc1 hc2 hyy hb1 hb2 hkd hml
          by_cases hgt : key < key3
          · have hgt' : decide (key < key3) = true := by simpa using hgt
            go_wp2
            go_quiet (fail)
            go_upto_region 8 with fail
            replace e0 : (wr.drewN nq).cell? ⟨g, (k - 1) * 9, none⟩ = some (.int .i64 key3) := e0
            replace e1 : (wr.drewN nq).cell? ⟨g, (k - 1) * 9 + 1, none⟩ = some (.string d3) := e1
            replace e2 : (wr.drewN nq).cell? ⟨g, (k - 1) * 9 + 2, none⟩ = some (.int .i64 a3) := e2
            replace e3 : (wr.drewN nq).cell? ⟨g, (k - 1) * 9 + 3, none⟩ = some (.int .i64 s3) := e3
            replace e4 : (wr.drewN nq).cell? ⟨g, (k - 1) * 9 + 4, none⟩ = some (.bool dead3) := e4
            replace e5 : (wr.drewN nq).cell? ⟨g, (k - 1) * 9 + 5, none⟩ = some (.int .i64 x3) := e5
            replace e6 : (wr.drewN nq).cell? ⟨g, (k - 1) * 9 + 6, none⟩ = some (.int .i64 y3) := e6
            replace e7 : (wr.drewN nq).cell? ⟨g, (k - 1) * 9 + 7, none⟩ = some (.string text3) := e7
            replace e8 : (wr.drewN nq).cell? ⟨g, (k - 1) * 9 + 8, none⟩ = some (.bool held3) := e8
            replace f0 : (wr.drewN nq).cell? ⟨g, k * 9, none⟩ = some (.int .i64 key) := f0
            replace f1 : (wr.drewN nq).cell? ⟨g, k * 9 + 1, none⟩ = some (.string d) := f1
            replace f2 : (wr.drewN nq).cell? ⟨g, k * 9 + 2, none⟩ = some (.int .i64 a) := f2
            replace f3 : (wr.drewN nq).cell? ⟨g, k * 9 + 3, none⟩ = some (.int .i64 s) := f3
            replace f4 : (wr.drewN nq).cell? ⟨g, k * 9 + 4, none⟩ = some (.bool dead) := f4
            replace f5 : (wr.drewN nq).cell? ⟨g, k * 9 + 5, none⟩ = some (.int .i64 x) := f5
            replace f6 : (wr.drewN nq).cell? ⟨g, k * 9 + 6, none⟩ = some (.int .i64 y) := f6
            replace f7 : (wr.drewN nq).cell? ⟨g, k * 9 + 7, none⟩ = some (.string text) := f7
            replace f8 : (wr.drewN nq).cell? ⟨g, k * 9 + 8, none⟩ = some (.bool held) := f8
            replace HO : Hid ((wr.drewN nq).ownsRow w.heap.size 28 9 (.slice (some ⟨g, 0, none⟩) (ds.length + 1) c3) (ds.length + 1) (rowCells cellsI (midF ds x0 k))) := HO
            replace HB : Hid (Below w.heap.size w (wr.drewN nq)) := HB.out.trans ⟨rfl, rfl, rfl, Nat.le_refl _, fun _ _ => rfl⟩
            generalize wr.drewN nq = wq at *
            have ef0 : wq.frozen? ⟨g, (k - 1) * 9, none⟩ = false := HO.out.frozenAt _
            have ff0 : wq.frozen? ⟨g, k * 9, none⟩ = false := HO.out.frozenAt _
            have ef1 : wq.frozen? ⟨g, (k - 1) * 9 + 1, none⟩ = false := HO.out.frozenAt _
            have ff1 : wq.frozen? ⟨g, k * 9 + 1, none⟩ = false := HO.out.frozenAt _
            have ef2 : wq.frozen? ⟨g, (k - 1) * 9 + 2, none⟩ = false := HO.out.frozenAt _
            have ff2 : wq.frozen? ⟨g, k * 9 + 2, none⟩ = false := HO.out.frozenAt _
            have ef3 : wq.frozen? ⟨g, (k - 1) * 9 + 3, none⟩ = false := HO.out.frozenAt _
            have ff3 : wq.frozen? ⟨g, k * 9 + 3, none⟩ = false := HO.out.frozenAt _
            have ef4 : wq.frozen? ⟨g, (k - 1) * 9 + 4, none⟩ = false := HO.out.frozenAt _
            have ff4 : wq.frozen? ⟨g, k * 9 + 4, none⟩ = false := HO.out.frozenAt _
            have ef5 : wq.frozen? ⟨g, (k - 1) * 9 + 5, none⟩ = false := HO.out.frozenAt _
            have ff5 : wq.frozen? ⟨g, k * 9 + 5, none⟩ = false := HO.out.frozenAt _
            have ef6 : wq.frozen? ⟨g, (k - 1) * 9 + 6, none⟩ = false := HO.out.frozenAt _
            have ff6 : wq.frozen? ⟨g, k * 9 + 6, none⟩ = false := HO.out.frozenAt _
            have ef7 : wq.frozen? ⟨g, (k - 1) * 9 + 7, none⟩ = false := HO.out.frozenAt _
            have ff7 : wq.frozen? ⟨g, k * 9 + 7, none⟩ = false := HO.out.frozenAt _
            have ef8 : wq.frozen? ⟨g, (k - 1) * 9 + 8, none⟩ = false := HO.out.frozenAt _
            have ff8 : wq.frozen? ⟨g, k * 9 + 8, none⟩ = false := HO.out.frozenAt _
            go_region
            clear e0 f0 ef0 ff0 e1 f1 ef1 ff1 e2 f2 ef2 ff2 e3 f3 ef3 ff3 e4 f4 ef4 ff4 e5 f5 ef5 ff5 e6 f6 ef6 ff6 e7 f7 ef7 ff7 e8 f8 ef8 ff8
            have HO2 : Hid (((((((((((((((((((wq.setCell ⟨g, (k - 1) * 9, none⟩ (.int .i64 key)).setCell ⟨g, (k - 1) * 9 + 1, none⟩ (.string d)).setCell ⟨g, (k - 1) * 9 + 2, none⟩ (.int .i64 a)).setCell ⟨g, (k - 1) * 9 + 3, none⟩ (.int .i64 s)).setCell ⟨g, (k - 1) * 9 + 4, none⟩ (.bool dead)).setCell ⟨g, (k - 1) * 9 + 5, none⟩ (.int .i64 x)).setCell ⟨g, (k - 1) * 9 + 6, none⟩ (.int .i64 y)).setCell ⟨g, (k - 1) * 9 + 7, none⟩ (.string text)).setCell ⟨g, (k - 1) * 9 + 8, none⟩ (.bool held)).setCell ⟨g, k * 9, none⟩ (.int .i64 key3)).setCell ⟨g, k * 9 + 1, none⟩ (.string d3)).setCell ⟨g, k * 9 + 2, none⟩ (.int .i64 a3)).setCell ⟨g, k * 9 + 3, none⟩ (.int .i64 s3)).setCell ⟨g, k * 9 + 4, none⟩ (.bool dead3)).setCell ⟨g, k * 9 + 5, none⟩ (.int .i64 x3)).setCell ⟨g, k * 9 + 6, none⟩ (.int .i64 y3)).setCell ⟨g, k * 9 + 7, none⟩ (.string text3)).setCell ⟨g, k * 9 + 8, none⟩ (.bool held3)).drew.ownsRow w.heap.size 28 9 (.slice (some ⟨g, 0, none⟩) (ds.length + 1) c3) (ds.length + 1) (rowCells cellsI (midF ds x0 (k - 1)))) := by
              have h := own_put rowI HO.out (k := k - 1) (by rw [midF_len hk]; omega) x0
              rw [HX.out, wsets9] at h
              have h' := own_put rowI h (k := k) (by rw [List.length_set, midF_len hk]; omega) yy
              rw [HYC.out, HSW.out, wsets9] at h'
              exact h'.drew
            replace HB : Hid (Below w.heap.size w ((((((((((((((((((wq.setCell ⟨g, (k - 1) * 9, none⟩ (.int .i64 key)).setCell ⟨g, (k - 1) * 9 + 1, none⟩ (.string d)).setCell ⟨g, (k - 1) * 9 + 2, none⟩ (.int .i64 a)).setCell ⟨g, (k - 1) * 9 + 3, none⟩ (.int .i64 s)).setCell ⟨g, (k - 1) * 9 + 4, none⟩ (.bool dead)).setCell ⟨g, (k - 1) * 9 + 5, none⟩ (.int .i64 x)).setCell ⟨g, (k - 1) * 9 + 6, none⟩ (.int .i64 y)).setCell ⟨g, (k - 1) * 9 + 7, none⟩ (.string text)).setCell ⟨g, (k - 1) * 9 + 8, none⟩ (.bool held)).setCell ⟨g, k * 9, none⟩ (.int .i64 key3)).setCell ⟨g, k * 9 + 1, none⟩ (.string d3)).setCell ⟨g, k * 9 + 2, none⟩ (.int .i64 a3)).setCell ⟨g, k * 9 + 3, none⟩ (.int .i64 s3)).setCell ⟨g, k * 9 + 4, none⟩ (.bool dead3)).setCell ⟨g, k * 9 + 5, none⟩ (.int .i64 x3)).setCell ⟨g, k * 9 + 6, none⟩ (.int .i64 y3)).setCell ⟨g, k * 9 + 7, none⟩ (.string text3)).setCell ⟨g, k * 9 + 8, none⟩ (.bool held3)).drew) := by
              have h := below_wsets hgB [.int .i64 key, .string d, .int .i64 a, .int .i64 s, .bool dead, .int .i64 x, .int .i64 y, .string text, .bool held] ((k - 1) * 9) wq HB.out
              rw [wsets9] at h
              have h' := below_wsets hgB [.int .i64 key3, .string d3, .int .i64 a3, .int .i64 s3, .bool dead3, .int .i64 x3, .int .i64 y3, .string text3, .bool held3] (k * 9) _ h
              rw [wsets9] at h'
              exact h'.drew
            clear HO
            generalize ((((((((((((((((((wq.setCell ⟨g, (k - 1) * 9, none⟩ (.int .i64 key)).setCell ⟨g, (k - 1) * 9 + 1, none⟩ (.string d)).setCell ⟨g, (k - 1) * 9 + 2, none⟩ (.int .i64 a)).setCell ⟨g, (k - 1) * 9 + 3, none⟩ (.int .i64 s)).setCell ⟨g, (k - 1) * 9 + 4, none⟩ (.bool dead)).setCell ⟨g, (k - 1) * 9 + 5, none⟩ (.int .i64 x)).setCell ⟨g, (k - 1) * 9 + 6, none⟩ (.int .i64 y)).setCell ⟨g, (k - 1) * 9 + 7, none⟩ (.string text)).setCell ⟨g, (k - 1) * 9 + 8, none⟩ (.bool held)).setCell ⟨g, k * 9, none⟩ (.int .i64 key3)).setCell ⟨g, k * 9 + 1, none⟩ (.string d3)).setCell ⟨g, k * 9 + 2, none⟩ (.int .i64 a3)).setCell ⟨g, k * 9 + 3, none⟩ (.int .i64 s3)).setCell ⟨g, k * 9 + 4, none⟩ (.bool dead3)).setCell ⟨g, k * 9 + 5, none⟩ (.int .i64 x3)).setCell ⟨g, k * 9 + 6, none⟩ (.int .i64 y3)).setCell ⟨g, k * 9 + 7, none⟩ (.string text3)).setCell ⟨g, k * 9 + 8, none⟩ (.bool held3)).drew = wb at *
            go_wp2
            go_roundw
            case rel => exact ⟨k - 1, by first | rfl | go_num | (congr 1; omega), by omega, HHN.out hgt, HO2, HB⟩
            case measure => simp [intOf]; omega
          · have HE := Lib.hid (HMD.out k hk (fun y h1 h2 => by have := HLO.out hgt y h1 h2; omega) HHI.out)
            have hgt' : decide (key < key3) = false := by simpa using hgt
            go_wp2
            go_quiet (fail)
            go_wp2
            go_ret2
            exact rput_ret HG0.out (by rw [← HE.out, midF_len hk]) (by rw [← HE.out]; exact HO.out) (HB.out.trans ⟨rfl, rfl, rfl, Nat.le_refl _, fun _ _ => rfl⟩)
  | some yo =>
    have hyo := hidy yo rfl
    have HRN := Lib.hid (rnewer_raw yo.ver.id yo.ver.seq yo.ver.stamp d a s hyo)
    have heq := eql_rver yo.ver.id yo.ver.seq yo.ver.stamp d a s
    have hne := neq_rver yo.ver.id yo.ver.seq yo.ver.stamp d a s
    have HV : Hid (replF x0 yo = if eqV ⟨yo.ver.id, yo.ver.seq, yo.ver.stamp⟩ ⟨d, a, s⟩ then held && !yo.held else !newerF ⟨yo.ver.id, yo.ver.seq, yo.ver.stamp⟩ ⟨d, a, s⟩) := HV0.out yo
    have HPO := Lib.hid (PO.out yo rfl)
    have HPN := Lib.hid (PNO.out yo rfl)
    rw [show GetR (some yo) = .tuple #[.agg #[.int .i64 yo.key, .string yo.ver.id, .int .i64 yo.ver.seq, .int .i64 yo.ver.stamp, .bool yo.dead, .int .i64 yo.x, .int .i64 yo.y, .string yo.text, .bool yo.held], .bool true] from rfl]
    generalize replF x0 yo = R at HV HPO HPN
    generalize eqV ⟨yo.ver.id, yo.ver.seq, yo.ver.stamp⟩ ⟨d, a, s⟩ = eb at *
    generalize newerF ⟨yo.ver.id, yo.ver.seq, yo.ver.stamp⟩ ⟨d, a, s⟩ = nb at *
    clear hyo hidy HV0
    generalize yo.key = key2 at *
    generalize yo.ver.id = d2 at *
    generalize yo.ver.seq = a2 at *
    generalize yo.ver.stamp = s2 at *
    generalize yo.dead = dead2 at *
    generalize yo.x = x2 at *
    generalize yo.y = y2 at *
    generalize yo.text = text2 at *
    generalize yo.held = held2 at *
    go_upto_region 2 with fail
    replace k0 : (w1.alloc (.cells #[.int .i64 key2, .string d2, .int .i64 a2, .int .i64 s2, .bool dead2, .int .i64 x2, .int .i64 y2, .string text2, .bool held2] 28)).cell? ⟨w.heap.size, 0, none⟩ = some (.int .i64 key) := by simp [go_sem, k0, kz]
    replace kf0 : (w1.alloc (.cells #[.int .i64 key2, .string d2, .int .i64 a2, .int .i64 s2, .bool dead2, .int .i64 x2, .int .i64 y2, .string text2, .bool held2] 28)).frozen? ⟨w.heap.size, 0, none⟩ = false := by simp [go_sem, kf0, kz]
    replace k1 : (w1.alloc (.cells #[.int .i64 key2, .string d2, .int .i64 a2, .int .i64 s2, .bool dead2, .int .i64 x2, .int .i64 y2, .string text2, .bool held2] 28)).cell? ⟨w.heap.size, 1, none⟩ = some (.string d) := by simp [go_sem, k1, kz]
    replace kf1 : (w1.alloc (.cells #[.int .i64 key2, .string d2, .int .i64 a2, .int .i64 s2, .bool dead2, .int .i64 x2, .int .i64 y2, .string text2, .bool held2] 28)).frozen? ⟨w.heap.size, 1, none⟩ = false := by simp [go_sem, kf1, kz]
    replace k2 : (w1.alloc (.cells #[.int .i64 key2, .string d2, .int .i64 a2, .int .i64 s2, .bool dead2, .int .i64 x2, .int .i64 y2, .string text2, .bool held2] 28)).cell? ⟨w.heap.size, 2, none⟩ = some (.int .i64 a) := by simp [go_sem, k2, kz]
    replace kf2 : (w1.alloc (.cells #[.int .i64 key2, .string d2, .int .i64 a2, .int .i64 s2, .bool dead2, .int .i64 x2, .int .i64 y2, .string text2, .bool held2] 28)).frozen? ⟨w.heap.size, 2, none⟩ = false := by simp [go_sem, kf2, kz]
    replace k3 : (w1.alloc (.cells #[.int .i64 key2, .string d2, .int .i64 a2, .int .i64 s2, .bool dead2, .int .i64 x2, .int .i64 y2, .string text2, .bool held2] 28)).cell? ⟨w.heap.size, 3, none⟩ = some (.int .i64 s) := by simp [go_sem, k3, kz]
    replace kf3 : (w1.alloc (.cells #[.int .i64 key2, .string d2, .int .i64 a2, .int .i64 s2, .bool dead2, .int .i64 x2, .int .i64 y2, .string text2, .bool held2] 28)).frozen? ⟨w.heap.size, 3, none⟩ = false := by simp [go_sem, kf3, kz]
    replace k4 : (w1.alloc (.cells #[.int .i64 key2, .string d2, .int .i64 a2, .int .i64 s2, .bool dead2, .int .i64 x2, .int .i64 y2, .string text2, .bool held2] 28)).cell? ⟨w.heap.size, 4, none⟩ = some (.bool dead) := by simp [go_sem, k4, kz]
    replace kf4 : (w1.alloc (.cells #[.int .i64 key2, .string d2, .int .i64 a2, .int .i64 s2, .bool dead2, .int .i64 x2, .int .i64 y2, .string text2, .bool held2] 28)).frozen? ⟨w.heap.size, 4, none⟩ = false := by simp [go_sem, kf4, kz]
    replace k5 : (w1.alloc (.cells #[.int .i64 key2, .string d2, .int .i64 a2, .int .i64 s2, .bool dead2, .int .i64 x2, .int .i64 y2, .string text2, .bool held2] 28)).cell? ⟨w.heap.size, 5, none⟩ = some (.int .i64 x) := by simp [go_sem, k5, kz]
    replace kf5 : (w1.alloc (.cells #[.int .i64 key2, .string d2, .int .i64 a2, .int .i64 s2, .bool dead2, .int .i64 x2, .int .i64 y2, .string text2, .bool held2] 28)).frozen? ⟨w.heap.size, 5, none⟩ = false := by simp [go_sem, kf5, kz]
    replace k6 : (w1.alloc (.cells #[.int .i64 key2, .string d2, .int .i64 a2, .int .i64 s2, .bool dead2, .int .i64 x2, .int .i64 y2, .string text2, .bool held2] 28)).cell? ⟨w.heap.size, 6, none⟩ = some (.int .i64 y) := by simp [go_sem, k6, kz]
    replace kf6 : (w1.alloc (.cells #[.int .i64 key2, .string d2, .int .i64 a2, .int .i64 s2, .bool dead2, .int .i64 x2, .int .i64 y2, .string text2, .bool held2] 28)).frozen? ⟨w.heap.size, 6, none⟩ = false := by simp [go_sem, kf6, kz]
    replace k7 : (w1.alloc (.cells #[.int .i64 key2, .string d2, .int .i64 a2, .int .i64 s2, .bool dead2, .int .i64 x2, .int .i64 y2, .string text2, .bool held2] 28)).cell? ⟨w.heap.size, 7, none⟩ = some (.string text) := by simp [go_sem, k7, kz]
    replace kf7 : (w1.alloc (.cells #[.int .i64 key2, .string d2, .int .i64 a2, .int .i64 s2, .bool dead2, .int .i64 x2, .int .i64 y2, .string text2, .bool held2] 28)).frozen? ⟨w.heap.size, 7, none⟩ = false := by simp [go_sem, kf7, kz]
    replace k8 : (w1.alloc (.cells #[.int .i64 key2, .string d2, .int .i64 a2, .int .i64 s2, .bool dead2, .int .i64 x2, .int .i64 y2, .string text2, .bool held2] 28)).cell? ⟨w.heap.size, 8, none⟩ = some (.bool held) := by simp [go_sem, k8, kz]
    replace kf8 : (w1.alloc (.cells #[.int .i64 key2, .string d2, .int .i64 a2, .int .i64 s2, .bool dead2, .int .i64 x2, .int .i64 y2, .string text2, .bool held2] 28)).frozen? ⟨w.heap.size, 8, none⟩ = false := by simp [go_sem, kf8, kz]
    replace kz : w.heap.size < (w1.alloc (.cells #[.int .i64 key2, .string d2, .int .i64 a2, .int .i64 s2, .bool dead2, .int .i64 x2, .int .i64 y2, .string text2, .bool held2] 28)).heap.size := by simp <;> omega
    have o0 : (w1.alloc (.cells #[.int .i64 key2, .string d2, .int .i64 a2, .int .i64 s2, .bool dead2, .int .i64 x2, .int .i64 y2, .string text2, .bool held2] 28)).cell? ⟨w1.heap.size, 0, none⟩ = some (.int .i64 key2) := by simp [go_sem]
    have of0 : (w1.alloc (.cells #[.int .i64 key2, .string d2, .int .i64 a2, .int .i64 s2, .bool dead2, .int .i64 x2, .int .i64 y2, .string text2, .bool held2] 28)).frozen? ⟨w1.heap.size, 0, none⟩ = false := by simp [go_sem]
    have o1 : (w1.alloc (.cells #[.int .i64 key2, .string d2, .int .i64 a2, .int .i64 s2, .bool dead2, .int .i64 x2, .int .i64 y2, .string text2, .bool held2] 28)).cell? ⟨w1.heap.size, 1, none⟩ = some (.string d2) := by simp [go_sem]
    have of1 : (w1.alloc (.cells #[.int .i64 key2, .string d2, .int .i64 a2, .int .i64 s2, .bool dead2, .int .i64 x2, .int .i64 y2, .string text2, .bool held2] 28)).frozen? ⟨w1.heap.size, 1, none⟩ = false := by simp [go_sem]
    have o2 : (w1.alloc (.cells #[.int .i64 key2, .string d2, .int .i64 a2, .int .i64 s2, .bool dead2, .int .i64 x2, .int .i64 y2, .string text2, .bool held2] 28)).cell? ⟨w1.heap.size, 2, none⟩ = some (.int .i64 a2) := by simp [go_sem]
    have of2 : (w1.alloc (.cells #[.int .i64 key2, .string d2, .int .i64 a2, .int .i64 s2, .bool dead2, .int .i64 x2, .int .i64 y2, .string text2, .bool held2] 28)).frozen? ⟨w1.heap.size, 2, none⟩ = false := by simp [go_sem]
    have o3 : (w1.alloc (.cells #[.int .i64 key2, .string d2, .int .i64 a2, .int .i64 s2, .bool dead2, .int .i64 x2, .int .i64 y2, .string text2, .bool held2] 28)).cell? ⟨w1.heap.size, 3, none⟩ = some (.int .i64 s2) := by simp [go_sem]
    have of3 : (w1.alloc (.cells #[.int .i64 key2, .string d2, .int .i64 a2, .int .i64 s2, .bool dead2, .int .i64 x2, .int .i64 y2, .string text2, .bool held2] 28)).frozen? ⟨w1.heap.size, 3, none⟩ = false := by simp [go_sem]
    have o4 : (w1.alloc (.cells #[.int .i64 key2, .string d2, .int .i64 a2, .int .i64 s2, .bool dead2, .int .i64 x2, .int .i64 y2, .string text2, .bool held2] 28)).cell? ⟨w1.heap.size, 4, none⟩ = some (.bool dead2) := by simp [go_sem]
    have of4 : (w1.alloc (.cells #[.int .i64 key2, .string d2, .int .i64 a2, .int .i64 s2, .bool dead2, .int .i64 x2, .int .i64 y2, .string text2, .bool held2] 28)).frozen? ⟨w1.heap.size, 4, none⟩ = false := by simp [go_sem]
    have o5 : (w1.alloc (.cells #[.int .i64 key2, .string d2, .int .i64 a2, .int .i64 s2, .bool dead2, .int .i64 x2, .int .i64 y2, .string text2, .bool held2] 28)).cell? ⟨w1.heap.size, 5, none⟩ = some (.int .i64 x2) := by simp [go_sem]
    have of5 : (w1.alloc (.cells #[.int .i64 key2, .string d2, .int .i64 a2, .int .i64 s2, .bool dead2, .int .i64 x2, .int .i64 y2, .string text2, .bool held2] 28)).frozen? ⟨w1.heap.size, 5, none⟩ = false := by simp [go_sem]
    have o6 : (w1.alloc (.cells #[.int .i64 key2, .string d2, .int .i64 a2, .int .i64 s2, .bool dead2, .int .i64 x2, .int .i64 y2, .string text2, .bool held2] 28)).cell? ⟨w1.heap.size, 6, none⟩ = some (.int .i64 y2) := by simp [go_sem]
    have of6 : (w1.alloc (.cells #[.int .i64 key2, .string d2, .int .i64 a2, .int .i64 s2, .bool dead2, .int .i64 x2, .int .i64 y2, .string text2, .bool held2] 28)).frozen? ⟨w1.heap.size, 6, none⟩ = false := by simp [go_sem]
    have o7 : (w1.alloc (.cells #[.int .i64 key2, .string d2, .int .i64 a2, .int .i64 s2, .bool dead2, .int .i64 x2, .int .i64 y2, .string text2, .bool held2] 28)).cell? ⟨w1.heap.size, 7, none⟩ = some (.string text2) := by simp [go_sem]
    have of7 : (w1.alloc (.cells #[.int .i64 key2, .string d2, .int .i64 a2, .int .i64 s2, .bool dead2, .int .i64 x2, .int .i64 y2, .string text2, .bool held2] 28)).frozen? ⟨w1.heap.size, 7, none⟩ = false := by simp [go_sem]
    have o8 : (w1.alloc (.cells #[.int .i64 key2, .string d2, .int .i64 a2, .int .i64 s2, .bool dead2, .int .i64 x2, .int .i64 y2, .string text2, .bool held2] 28)).cell? ⟨w1.heap.size, 8, none⟩ = some (.bool held2) := by simp [go_sem]
    have of8 : (w1.alloc (.cells #[.int .i64 key2, .string d2, .int .i64 a2, .int .i64 s2, .bool dead2, .int .i64 x2, .int .i64 y2, .string text2, .bool held2] 28)).frozen? ⟨w1.heap.size, 8, none⟩ = false := by simp [go_sem]
    have oz : w1.heap.size < (w1.alloc (.cells #[.int .i64 key2, .string d2, .int .i64 a2, .int .i64 s2, .bool dead2, .int .i64 x2, .int .i64 y2, .string text2, .bool held2] 28)).heap.size := by simp <;> omega
    replace HB : Hid (Below w.heap.size w (w1.alloc (.cells #[.int .i64 key2, .string d2, .int .i64 a2, .int .i64 s2, .bool dead2, .int .i64 x2, .int .i64 y2, .string text2, .bool held2] 28))) := HB.out.alloc HB.out.size _
    generalize (w1.alloc (.cells #[.int .i64 key2, .string d2, .int .i64 a2, .int .i64 s2, .bool dead2, .int .i64 x2, .int .i64 y2, .string text2, .bool held2] 28)) = v at *
    generalize w1.heap.size = O at *
    have kz0 := kz
    cases eb
    · rw [if_neg (by decide)] at HV
      go_wp2_with fail
      refine (HRN.out _).mono ?_
      rintro e v1 ⟨rfl, hb⟩
      replace k0 := (hb.cell (p := ⟨w.heap.size, 0, none⟩) kz).trans k0
      replace kf0 := (hb.frozen (p := ⟨w.heap.size, 0, none⟩) kz).trans kf0
      replace k1 := (hb.cell (p := ⟨w.heap.size, 1, none⟩) kz).trans k1
      replace kf1 := (hb.frozen (p := ⟨w.heap.size, 1, none⟩) kz).trans kf1
      replace k2 := (hb.cell (p := ⟨w.heap.size, 2, none⟩) kz).trans k2
      replace kf2 := (hb.frozen (p := ⟨w.heap.size, 2, none⟩) kz).trans kf2
      replace k3 := (hb.cell (p := ⟨w.heap.size, 3, none⟩) kz).trans k3
      replace kf3 := (hb.frozen (p := ⟨w.heap.size, 3, none⟩) kz).trans kf3
      replace k4 := (hb.cell (p := ⟨w.heap.size, 4, none⟩) kz).trans k4
      replace kf4 := (hb.frozen (p := ⟨w.heap.size, 4, none⟩) kz).trans kf4
      replace k5 := (hb.cell (p := ⟨w.heap.size, 5, none⟩) kz).trans k5
      replace kf5 := (hb.frozen (p := ⟨w.heap.size, 5, none⟩) kz).trans kf5
      replace k6 := (hb.cell (p := ⟨w.heap.size, 6, none⟩) kz).trans k6
      replace kf6 := (hb.frozen (p := ⟨w.heap.size, 6, none⟩) kz).trans kf6
      replace k7 := (hb.cell (p := ⟨w.heap.size, 7, none⟩) kz).trans k7
      replace kf7 := (hb.frozen (p := ⟨w.heap.size, 7, none⟩) kz).trans kf7
      replace k8 := (hb.cell (p := ⟨w.heap.size, 8, none⟩) kz).trans k8
      replace kf8 := (hb.frozen (p := ⟨w.heap.size, 8, none⟩) kz).trans kf8
      replace kz := Nat.lt_of_lt_of_le kz hb.size
      replace HB := Lib.hid (HB.out.trans (hb.mono HB.out.size))
      replace kz0 := kz
      clear hb HRN o0 of0 o1 of1 o2 of2 o3 of3 o4 of4 o5 of5 o6 of6 o7 of7 o8 of8 oz
      cases nb
      · obtain rfl : R = true := HV.out
        have HG0 := Lib.hid (HPO.out rfl)
        clear HPO HPN HV heq hne
        clear HOG PN PO PNO
        go_upto_region 4 with fail
        refine wp_region_held_drew (S := fun w' => w'.cell? ⟨w.heap.size, 0, none⟩ = some (.int .i64 key) ∧ w'.cell? ⟨w.heap.size, 1, none⟩ = some (.string d) ∧ w'.cell? ⟨w.heap.size, 2, none⟩ = some (.int .i64 a) ∧ w'.cell? ⟨w.heap.size, 3, none⟩ = some (.int .i64 s) ∧ w'.cell? ⟨w.heap.size, 4, none⟩ = some (.bool dead) ∧ w'.cell? ⟨w.heap.size, 5, none⟩ = some (.int .i64 x) ∧ w'.cell? ⟨w.heap.size, 6, none⟩ = some (.int .i64 y) ∧ w'.cell? ⟨w.heap.size, 7, none⟩ = some (.string text) ∧ w'.cell? ⟨w.heap.size, 8, none⟩ = some (.bool held)) (by kernel_rfl) ⟨k0, k1, k2, k3, k4, k5, k6, k7, k8⟩ (fun hHeld => ?_)
        refine wpAnyH_take (i := 0) (oi := { dst := some 51, op := Go.Op.move (Go.Operand.tmp 0), type := 22, pos := "ref.go:46", after := #[], guard := none }) (v := ?_) rfl (by kernel_rfl) (by kernel_rfl) (by kernel_rfl) (fun _ _ _ h => h) (Or.inl ⟨rfl, ?_⟩) (by assumption) ?_
        rotate_left
        · intro wz hSw; (try dsimp only at hSw); go_simp; try (with_reducible rfl)
        try simp only [Act.put, List.setIfInBounds_toArray, List.set_cons_zero, List.set_cons_succ]
        refine wpAnyH_take (i := 1) (oi := { dst := some 52, op := Go.Op.fieldAddr 28 (Go.Operand.tmp 3) 0, type := 0, pos := "ref.go:46", after := #[], guard := none }) (v := ?_) rfl (by kernel_rfl) (by kernel_rfl) (by kernel_rfl) (fun _ _ _ h => h) (Or.inl ⟨rfl, ?_⟩) (by assumption) ?_
        rotate_left
        · intro wz hSw; (try dsimp only at hSw); go_simp; try (with_reducible rfl)
        try simp only [Act.put, List.setIfInBounds_toArray, List.set_cons_zero, List.set_cons_succ]
        refine wpAnyH_take (i := 2) (oi := { dst := some 53, op := Go.Op.load 3 (Go.Operand.tmp 52), type := 3, pos := "ref.go:46", after := #[{ on := 1, ground := Go.Ground.data }], guard := none }) (v := ?_) rfl (by kernel_rfl) (by kernel_rfl) (by kernel_rfl) (fun _ _ _ h => h) (Or.inl ⟨rfl, ?_⟩) (by assumption) ?_
        rotate_left
        · intro wz hSw; (try dsimp only at hSw); go_simp; try (with_reducible rfl)
        try simp only [Act.put, List.setIfInBounds_toArray, List.set_cons_zero, List.set_cons_succ]
        refine wpAnyH_take (i := 4) (oi := { dst := some 55, op := Go.Op.load 28 (Go.Operand.tmp 3), type := 28, pos := "ref.go:46", after := #[], guard := none }) (v := ?_) rfl (by kernel_rfl) (by kernel_rfl) (by kernel_rfl) (fun _ _ _ h => h) (Or.inl ⟨rfl, ?_⟩) (by assumption) ?_
        rotate_left
        · intro wz hSw; (try dsimp only at hSw); go_simp; try (with_reducible rfl)
        try simp only [Act.put, List.setIfInBounds_toArray, List.set_cons_zero, List.set_cons_succ]
        refine wpAnyH_ready (rs := [3, 5]) (by kernel_rfl) (by simp) ?_
        refine (AllReadyH.cons (o := { dst := some 54, op := Go.Op.call { callee := Go.Callee.value (Go.Operand.func 24), args := #[Go.Operand.tmp 51, Go.Operand.tmp 53], argTypes := #[22, 3] }, type := 22, pos := "ref.go:46", after := #[{ on := 0, ground := Go.Ground.data }, { on := 2, ground := Go.Ground.data }], guard := none }) rfl (fun K hK => ?_) (AllReadyH.cons (o := { dst := some 56, op := Go.Op.buildSlice 22 1 #[(0, Go.Operand.tmp 55)], type := 22, pos := "ref.go:46", after := #[{ on := 4, ground := Go.Ground.data }], guard := none }) rfl (fun K hK => ?_) AllReadyH.nil))
        · skip
          go_simp
          go_at_call 24
          have HZv := Lib.hid (HZ.out.keep (HB.out.mono hB))
          refine (rdrop_any A n c zs key B _ (Nat.le_trans hB (by exact HB.out.size)) (by exact HZv.out) (by omega)).mono ?_
          rintro e u1 ⟨Ad, cd, rfl, ho, hb⟩
          replace k0 := (hb.cell (p := ⟨w.heap.size, 0, none⟩) kz).trans k0
          replace k1 := (hb.cell (p := ⟨w.heap.size, 1, none⟩) kz).trans k1
          replace k2 := (hb.cell (p := ⟨w.heap.size, 2, none⟩) kz).trans k2
          replace k3 := (hb.cell (p := ⟨w.heap.size, 3, none⟩) kz).trans k3
          replace k4 := (hb.cell (p := ⟨w.heap.size, 4, none⟩) kz).trans k4
          replace k5 := (hb.cell (p := ⟨w.heap.size, 5, none⟩) kz).trans k5
          replace k6 := (hb.cell (p := ⟨w.heap.size, 6, none⟩) kz).trans k6
          replace k7 := (hb.cell (p := ⟨w.heap.size, 7, none⟩) kz).trans k7
          replace k8 := (hb.cell (p := ⟨w.heap.size, 8, none⟩) kz).trans k8
          replace kz := Nat.lt_of_lt_of_le kz hb.size
          have HO := Lib.hid (rown_base ho (by exact HB.out.size))
          have hgk : ∀ g, Value.ownBlock (.slice Ad (rdropF zs key).length cd) = some g → w.heap.size + 1 ≤ g := fun g e => by have h1 : v1.heap.size ≤ g := (ho.lt g e).1; have := kz0; omega
          replace HB := Lib.hid (below_via HB.out hb HB.out.size ⟨rfl, rfl, rfl, rfl⟩)
          clear ho hb
          refine hK.out _ _ ⟨k0, k1, k2, k3, k4, k5, k6, k7, k8⟩ (fun hHeld => ?_)
          clear hK K
          try simp only [Act.put, List.setIfInBounds_toArray, List.set_cons_zero, List.set_cons_succ]
          refine wpAnyH_ready (rs := [5]) (by kernel_rfl) (by simp) ?_
          refine (AllReadyH.cons (o := { dst := some 56, op := Go.Op.buildSlice 22 1 #[(0, Go.Operand.tmp 55)], type := 22, pos := "ref.go:46", after := #[{ on := 4, ground := Go.Ground.data }], guard := none }) rfl (fun K hK => ?_) AllReadyH.nil)
          go_simp
          have hb1 : Below u1.heap.size u1 (u1.alloc (.cells #[.int .i64 key, .string d, .int .i64 a, .int .i64 s, .bool dead, .int .i64 x, .int .i64 y, .string text, .bool held] 28)) := (Below.refl _ _).alloc (Nat.le_refl _) _
          replace HB := Lib.hid (HB.out.trans (hb1.mono HB.out.size))
          have HX1 : Hid (RowAt cellsI 9 (u1.alloc (.cells #[.int .i64 key, .string d, .int .i64 a, .int .i64 s, .bool dead, .int .i64 x, .int .i64 y, .string text, .bool held] 28)) (u1.heap.size + 1) (some ⟨u1.heap.size, 0, none⟩) 1 [x0]) := one_row rowI (by rw [HX.out]; exact heap_alloc_new u1 _)
          have hX : u1.heap.size + 1 ≤ (u1.alloc (.cells #[.int .i64 key, .string d, .int .i64 a, .int .i64 s, .bool dead, .int .i64 x, .int .i64 y, .string text, .bool held] 28)).heap.size := by show _ ≤ (u1.alloc _).heap.size; simp
          replace k0 := (hb1.cell (p := ⟨w.heap.size, 0, none⟩) kz).trans k0
          replace k1 := (hb1.cell (p := ⟨w.heap.size, 1, none⟩) kz).trans k1
          replace k2 := (hb1.cell (p := ⟨w.heap.size, 2, none⟩) kz).trans k2
          replace k3 := (hb1.cell (p := ⟨w.heap.size, 3, none⟩) kz).trans k3
          replace k4 := (hb1.cell (p := ⟨w.heap.size, 4, none⟩) kz).trans k4
          replace k5 := (hb1.cell (p := ⟨w.heap.size, 5, none⟩) kz).trans k5
          replace k6 := (hb1.cell (p := ⟨w.heap.size, 6, none⟩) kz).trans k6
          replace k7 := (hb1.cell (p := ⟨w.heap.size, 7, none⟩) kz).trans k7
          replace k8 := (hb1.cell (p := ⟨w.heap.size, 8, none⟩) kz).trans k8
          replace kz := Nat.lt_of_lt_of_le kz hb1.size
          replace HO := Lib.hid (rown_below HO.out hb1)
          clear hb1
          generalize (u1.alloc (.cells #[.int .i64 key, .string d, .int .i64 a, .int .i64 s, .bool dead, .int .i64 x, .int .i64 y, .string text, .bool held] 28)) = u2 at *
          generalize u1.heap.size = G1 at *
          refine hK.out _ _ ⟨k0, k1, k2, k3, k4, k5, k6, k7, k8⟩ (fun hHeld => ?_)
          clear hK K
          try simp only [Act.put, List.setIfInBounds_toArray, List.set_cons_zero, List.set_cons_succ]
          refine wpAnyH_ready (rs := [6]) (by kernel_rfl) (by simp) ?_
          refine (AllReadyH.cons (o := { dst := some 57, op := Go.Op.call { callee := Go.Callee.builtin Go.Builtin.append, args := #[Go.Operand.tmp 54, Go.Operand.tmp 56], argTypes := #[22, 22] }, type := 22, pos := "ref.go:46", after := #[{ on := 3, ground := Go.Ground.data }, { on := 5, ground := Go.Ground.data }, { on := 3, ground := Go.Ground.chain }], guard := none }) rfl (fun K hK => ?_) AllReadyH.nil)
          refine step_append_row rowI (B := w.heap.size) (v := .slice Ad (rdropF zs key).length cd) (n := (rdropF zs key).length) (zs := rdropF zs key) (m := 1) (ys := [x0]) (by rfl) _ _ (by rfl) (by rfl) HO.out (by rfl) HX1.out (by omega) (by exact HB.out.size) ?_
          intro A3 c3 w3 hown3 hg3 hat3
          have nk : some w.heap.size ≠ Value.ownBlock (.slice Ad (rdropF zs key).length cd) := fun e => by have := hgk _ e.symm; omega
          replace k0 := (World.cell?_of_block (a := ⟨w.heap.size, 0, none⟩) (hg3.block w.heap.size kz nk)).trans k0
          replace k1 := (World.cell?_of_block (a := ⟨w.heap.size, 1, none⟩) (hg3.block w.heap.size kz nk)).trans k1
          replace k2 := (World.cell?_of_block (a := ⟨w.heap.size, 2, none⟩) (hg3.block w.heap.size kz nk)).trans k2
          replace k3 := (World.cell?_of_block (a := ⟨w.heap.size, 3, none⟩) (hg3.block w.heap.size kz nk)).trans k3
          replace k4 := (World.cell?_of_block (a := ⟨w.heap.size, 4, none⟩) (hg3.block w.heap.size kz nk)).trans k4
          replace k5 := (World.cell?_of_block (a := ⟨w.heap.size, 5, none⟩) (hg3.block w.heap.size kz nk)).trans k5
          replace k6 := (World.cell?_of_block (a := ⟨w.heap.size, 6, none⟩) (hg3.block w.heap.size kz nk)).trans k6
          replace k7 := (World.cell?_of_block (a := ⟨w.heap.size, 7, none⟩) (hg3.block w.heap.size kz nk)).trans k7
          replace k8 := (World.cell?_of_block (a := ⟨w.heap.size, 8, none⟩) (hg3.block w.heap.size kz nk)).trans k8
          replace HB := Lib.hid (HB.out.grown hg3 HB.out.size (fun g e => by have := hgk _ e; omega))
          have HO3 := Lib.hid hown3
          clear hown3 hg3 hat3 nk
          refine hK.out _ _ ⟨k0, k1, k2, k3, k4, k5, k6, k7, k8⟩ (fun hHeld => ?_)
          clear hK K
          try simp only [Act.put, List.setIfInBounds_toArray, List.set_cons_zero, List.set_cons_succ]
          refine wpAnyH_take (i := 7) (oi := { dst := some 8, op := Go.Op.assign (Go.Operand.tmp 57), type := 22, pos := "ref.go:46", after := #[{ on := 6, ground := Go.Ground.data }, { on := 6, ground := Go.Ground.chain }, { on := 0, ground := Go.Ground.phase }, { on := 1, ground := Go.Ground.phase }, { on := 2, ground := Go.Ground.phase }, { on := 3, ground := Go.Ground.phase }, { on := 4, ground := Go.Ground.phase }, { on := 5, ground := Go.Ground.phase }, { on := 6, ground := Go.Ground.phase }], guard := none }) (v := ?_) rfl (by kernel_rfl) (by kernel_rfl) (by kernel_rfl) (fun _ _ _ h => h) (Or.inl ⟨rfl, ?_⟩) (by assumption) ?_
          rotate_left
          · intro wz hSw; (try dsimp only at hSw); go_simp; try (with_reducible rfl)
          try simp only [Act.put, List.setIfInBounds_toArray, List.set_cons_zero, List.set_cons_succ]
          refine wpAnyH_done (by kernel_rfl) ?_ _
          clear kz kz0 hHeld HO HX1 hX hgk HZv
          clear k0 k1 k2 k3 k4 k5 k6 k7 k8
          obtain ⟨g, hgA, hgB⟩ : ∃ g, A3 = some ⟨g, 0, none⟩ ∧ w.heap.size ≤ g := by
            obtain ⟨g, cap, hv, h1, h2⟩ := HO3.out.form (by omega)
            injection hv with hA
            exact ⟨g, hA, h1⟩
          subst hgA
          rw [← midF_last] at HO3
          generalize rdropF zs key = ds at *
          go_wp2
          go_loopw [9] (fun i wr => ∃ k : Nat, i = .int .i64 k ∧ k ≤ ds.length ∧ Hid (∀ j y, k ≤ j → ds[j]? = some y → key < y.key) ∧ Hid (wr.ownsRow w.heap.size 28 9 (.slice (some ⟨g, 0, none⟩) (ds.length + 1) c3) (ds.length + 1) (rowCells cellsI (midF ds x0 k))) ∧ Hid (Below w.heap.size w wr)) (fun i _ => (intOf i).toNat)
          case atStart => exact ⟨ds.length, by go_num, Nat.le_refl _, fun j y hj h => (by have := (List.getElem?_eq_some_iff.mp h).1; omega), HO3, HB⟩
          case round =>
            clear HO3 HB
            obtain ⟨k, rfl, hk, HHI, HO, HB⟩ := hrel
            by_cases h0 : k = 0
            · have HE := Lib.hid (HMD.out k hk (fun y h => absurd h (by omega)) HHI.out)
              have hk0 : decide (0 < k) = false := by simp; omega
              clear h0
              go_wp2
              go_quiet (fail)
              go_wp2
              go_ret2
              exact rput_ret HG0.out (by rw [← HE.out, midF_len hk]) (by rw [← HE.out]; exact HO.out) (HB.out.trans ⟨rfl, rfl, rfl, Nat.le_refl _, fun _ _ => rfl⟩)
            · have hkd : k - 1 < ds.length := by omega
              obtain ⟨yy, hyy⟩ : ∃ yy, ds[k - 1]? = some yy := ⟨_, List.getElem?_eq_getElem hkd⟩
              have hml := midF_len (x := x0) hk
              have HRW := own_row rowI HO.out
              obtain ⟨b1, o1, hA1, hb1, z1, hz1, hc1⟩ := HRW.get (k := k - 1) (by omega)
              obtain ⟨b2, o2, hA2, hb2, z2, hz2, hc2⟩ := HRW.get (k := k) (by omega)
              injection hA1 with hA1
              injection hA1 with q1 q2
              injection hA2 with hA2
              injection hA2 with q3 q4
              subst q1 q2 q3 q4
              obtain rfl : yy = z1 := by rw [midF_before hk (by omega) hyy] at hz1; injection hz1
              obtain rfl : x0 = z2 := by rw [midF_at hk] at hz2; injection hz2
              rw [HX.out] at hc2
              have HSW := Lib.hid (midF_swap (x := x0) hk (by omega) hyy)
              clear HRW hz1 hz2
              have f0 := hc2 0 _ rfl
              have f1 := hc2 1 _ rfl
              have f2 := hc2 2 _ rfl
              have f3 := hc2 3 _ rfl
              have f4 := hc2 4 _ rfl
              have f5 := hc2 5 _ rfl
              have f6 := hc2 6 _ rfl
              have f7 := hc2 7 _ rfl
              have f8 := hc2 8 _ rfl
              obtain ⟨e0, e1, e2, e3, e4, e5, e6, e7, e8⟩ := cellsI_at hc1
              replace e0 : wr.cell? ⟨g, (k - 1) * 9, none⟩ = some (.int .i64 yy.key) := (by have h := e0; simpa using h)
              replace f0 : wr.cell? ⟨g, k * 9, none⟩ = some (.int .i64 key) := (by have h := f0; simpa using h)
              replace e1 : wr.cell? ⟨g, (k - 1) * 9 + 1, none⟩ = some (.string yy.ver.id) := (by have h := e1; simpa using h)
              replace f1 : wr.cell? ⟨g, k * 9 + 1, none⟩ = some (.string d) := (by have h := f1; simpa using h)
              replace e2 : wr.cell? ⟨g, (k - 1) * 9 + 2, none⟩ = some (.int .i64 yy.ver.seq) := (by have h := e2; simpa using h)
              replace f2 : wr.cell? ⟨g, k * 9 + 2, none⟩ = some (.int .i64 a) := (by have h := f2; simpa using h)
              replace e3 : wr.cell? ⟨g, (k - 1) * 9 + 3, none⟩ = some (.int .i64 yy.ver.stamp) := (by have h := e3; simpa using h)
              replace f3 : wr.cell? ⟨g, k * 9 + 3, none⟩ = some (.int .i64 s) := (by have h := f3; simpa using h)
              replace e4 : wr.cell? ⟨g, (k - 1) * 9 + 4, none⟩ = some (.bool yy.dead) := (by have h := e4; simpa using h)
              replace f4 : wr.cell? ⟨g, k * 9 + 4, none⟩ = some (.bool dead) := (by have h := f4; simpa using h)
              replace e5 : wr.cell? ⟨g, (k - 1) * 9 + 5, none⟩ = some (.int .i64 yy.x) := (by have h := e5; simpa using h)
              replace f5 : wr.cell? ⟨g, k * 9 + 5, none⟩ = some (.int .i64 x) := (by have h := f5; simpa using h)
              replace e6 : wr.cell? ⟨g, (k - 1) * 9 + 6, none⟩ = some (.int .i64 yy.y) := (by have h := e6; simpa using h)
              replace f6 : wr.cell? ⟨g, k * 9 + 6, none⟩ = some (.int .i64 y) := (by have h := f6; simpa using h)
              replace e7 : wr.cell? ⟨g, (k - 1) * 9 + 7, none⟩ = some (.string yy.text) := (by have h := e7; simpa using h)
              replace f7 : wr.cell? ⟨g, k * 9 + 7, none⟩ = some (.string text) := (by have h := f7; simpa using h)
              replace e8 : wr.cell? ⟨g, (k - 1) * 9 + 8, none⟩ = some (.bool yy.held) := (by have h := e8; simpa using h)
              replace f8 : wr.cell? ⟨g, k * 9 + 8, none⟩ = some (.bool held) := (by have h := f8; simpa using h)
              have HYC := Lib.hid (show cellsI yy = [.int .i64 yy.key, .string yy.ver.id, .int .i64 yy.ver.seq, .int .i64 yy.ver.stamp, .bool yy.dead, .int .i64 yy.x, .int .i64 yy.y, .string yy.text, .bool yy.held] from rfl)
              have HLO : Hid (¬ key < yy.key → ∀ y, 0 < k → ds[k - 1]? = some y → ¬ key < y.key) := fun h y _ he => by rw [hyy] at he; injection he with he; subst he; exact h
              have HHN : Hid (key < yy.key → ∀ j y, k - 1 ≤ j → ds[j]? = some y → key < y.key) := fun h j y hj he => by
                rcases Nat.lt_or_ge j k with h1 | h1
                · obtain rfl : j = k - 1 := by omega
                  rw [hyy] at he
                  injection he with he
                  subst he
                  exact h
                · exact HHI.out j y h1 he
              generalize yy.key = key3 at *
              generalize yy.ver.id = d3 at *
              generalize yy.ver.seq = a3 at *
              generalize yy.ver.stamp = s3 at *
              generalize yy.dead = dead3 at *
              generalize yy.x = x3 at *
              generalize yy.y = y3 at *
              generalize yy.text = text3 at *
              generalize yy.held = held3 at *
              have hk0 : decide (0 < k) = true := by simp; omega
              have hks : IntKind.i64.wrap ((k : Int) - 1) = ((k - 1 : Nat) : Int) := by rw [IntWalk.i64_in _ (by omega)]; omega
              have hki : (((k - 1 : Nat) : Int)) < (ds.length : Int) + 1 := by omega
              have hki0 : (0 : Int) ≤ ((k - 1 : Nat) : Int) := by omega
              have hkl : (k : Int) < (ds.length : Int) + 1 := by omega
              have hkiN : k - 1 < ds.length + 1 := by omega
              have hklN : k < ds.length + 1 := by omega
              clear hc1 hc2 hyy hb1 hb2 hkd hml
              by_cases hgt : key < key3
              · have hgt' : decide (key < key3) = true := by simpa using hgt
                go_wp2
                go_quiet (fail)
                go_upto_region 8 with fail
                replace e0 : (wr.drewN nq).cell? ⟨g, (k - 1) * 9, none⟩ = some (.int .i64 key3) := e0
                replace e1 : (wr.drewN nq).cell? ⟨g, (k - 1) * 9 + 1, none⟩ = some (.string d3) := e1
                replace e2 : (wr.drewN nq).cell? ⟨g, (k - 1) * 9 + 2, none⟩ = some (.int .i64 a3) := e2
                replace e3 : (wr.drewN nq).cell? ⟨g, (k - 1) * 9 + 3, none⟩ = some (.int .i64 s3) := e3
                replace e4 : (wr.drewN nq).cell? ⟨g, (k - 1) * 9 + 4, none⟩ = some (.bool dead3) := e4
                replace e5 : (wr.drewN nq).cell? ⟨g, (k - 1) * 9 + 5, none⟩ = some (.int .i64 x3) := e5
                replace e6 : (wr.drewN nq).cell? ⟨g, (k - 1) * 9 + 6, none⟩ = some (.int .i64 y3) := e6
                replace e7 : (wr.drewN nq).cell? ⟨g, (k - 1) * 9 + 7, none⟩ = some (.string text3) := e7
                replace e8 : (wr.drewN nq).cell? ⟨g, (k - 1) * 9 + 8, none⟩ = some (.bool held3) := e8
                replace f0 : (wr.drewN nq).cell? ⟨g, k * 9, none⟩ = some (.int .i64 key) := f0
                replace f1 : (wr.drewN nq).cell? ⟨g, k * 9 + 1, none⟩ = some (.string d) := f1
                replace f2 : (wr.drewN nq).cell? ⟨g, k * 9 + 2, none⟩ = some (.int .i64 a) := f2
                replace f3 : (wr.drewN nq).cell? ⟨g, k * 9 + 3, none⟩ = some (.int .i64 s) := f3
                replace f4 : (wr.drewN nq).cell? ⟨g, k * 9 + 4, none⟩ = some (.bool dead) := f4
                replace f5 : (wr.drewN nq).cell? ⟨g, k * 9 + 5, none⟩ = some (.int .i64 x) := f5
                replace f6 : (wr.drewN nq).cell? ⟨g, k * 9 + 6, none⟩ = some (.int .i64 y) := f6
                replace f7 : (wr.drewN nq).cell? ⟨g, k * 9 + 7, none⟩ = some (.string text) := f7
                replace f8 : (wr.drewN nq).cell? ⟨g, k * 9 + 8, none⟩ = some (.bool held) := f8
                replace HO : Hid ((wr.drewN nq).ownsRow w.heap.size 28 9 (.slice (some ⟨g, 0, none⟩) (ds.length + 1) c3) (ds.length + 1) (rowCells cellsI (midF ds x0 k))) := HO
                replace HB : Hid (Below w.heap.size w (wr.drewN nq)) := HB.out.trans ⟨rfl, rfl, rfl, Nat.le_refl _, fun _ _ => rfl⟩
                generalize wr.drewN nq = wq at *
                have ef0 : wq.frozen? ⟨g, (k - 1) * 9, none⟩ = false := HO.out.frozenAt _
                have ff0 : wq.frozen? ⟨g, k * 9, none⟩ = false := HO.out.frozenAt _
                have ef1 : wq.frozen? ⟨g, (k - 1) * 9 + 1, none⟩ = false := HO.out.frozenAt _
                have ff1 : wq.frozen? ⟨g, k * 9 + 1, none⟩ = false := HO.out.frozenAt _
                have ef2 : wq.frozen? ⟨g, (k - 1) * 9 + 2, none⟩ = false := HO.out.frozenAt _
                have ff2 : wq.frozen? ⟨g, k * 9 + 2, none⟩ = false := HO.out.frozenAt _
                have ef3 : wq.frozen? ⟨g, (k - 1) * 9 + 3, none⟩ = false := HO.out.frozenAt _
                have ff3 : wq.frozen? ⟨g, k * 9 + 3, none⟩ = false := HO.out.frozenAt _
                have ef4 : wq.frozen? ⟨g, (k - 1) * 9 + 4, none⟩ = false := HO.out.frozenAt _
                have ff4 : wq.frozen? ⟨g, k * 9 + 4, none⟩ = false := HO.out.frozenAt _
                have ef5 : wq.frozen? ⟨g, (k - 1) * 9 + 5, none⟩ = false := HO.out.frozenAt _
                have ff5 : wq.frozen? ⟨g, k * 9 + 5, none⟩ = false := HO.out.frozenAt _
                have ef6 : wq.frozen? ⟨g, (k - 1) * 9 + 6, none⟩ = false := HO.out.frozenAt _
                have ff6 : wq.frozen? ⟨g, k * 9 + 6, none⟩ = false := HO.out.frozenAt _
                have ef7 : wq.frozen? ⟨g, (k - 1) * 9 + 7, none⟩ = false := HO.out.frozenAt _
                have ff7 : wq.frozen? ⟨g, k * 9 + 7, none⟩ = false := HO.out.frozenAt _
                have ef8 : wq.frozen? ⟨g, (k - 1) * 9 + 8, none⟩ = false := HO.out.frozenAt _
                have ff8 : wq.frozen? ⟨g, k * 9 + 8, none⟩ = false := HO.out.frozenAt _
                go_region
                clear e0 f0 ef0 ff0 e1 f1 ef1 ff1 e2 f2 ef2 ff2 e3 f3 ef3 ff3 e4 f4 ef4 ff4 e5 f5 ef5 ff5 e6 f6 ef6 ff6 e7 f7 ef7 ff7 e8 f8 ef8 ff8
                have HO2 : Hid (((((((((((((((((((wq.setCell ⟨g, (k - 1) * 9, none⟩ (.int .i64 key)).setCell ⟨g, (k - 1) * 9 + 1, none⟩ (.string d)).setCell ⟨g, (k - 1) * 9 + 2, none⟩ (.int .i64 a)).setCell ⟨g, (k - 1) * 9 + 3, none⟩ (.int .i64 s)).setCell ⟨g, (k - 1) * 9 + 4, none⟩ (.bool dead)).setCell ⟨g, (k - 1) * 9 + 5, none⟩ (.int .i64 x)).setCell ⟨g, (k - 1) * 9 + 6, none⟩ (.int .i64 y)).setCell ⟨g, (k - 1) * 9 + 7, none⟩ (.string text)).setCell ⟨g, (k - 1) * 9 + 8, none⟩ (.bool held)).setCell ⟨g, k * 9, none⟩ (.int .i64 key3)).setCell ⟨g, k * 9 + 1, none⟩ (.string d3)).setCell ⟨g, k * 9 + 2, none⟩ (.int .i64 a3)).setCell ⟨g, k * 9 + 3, none⟩ (.int .i64 s3)).setCell ⟨g, k * 9 + 4, none⟩ (.bool dead3)).setCell ⟨g, k * 9 + 5, none⟩ (.int .i64 x3)).setCell ⟨g, k * 9 + 6, none⟩ (.int .i64 y3)).setCell ⟨g, k * 9 + 7, none⟩ (.string text3)).setCell ⟨g, k * 9 + 8, none⟩ (.bool held3)).drew.ownsRow w.heap.size 28 9 (.slice (some ⟨g, 0, none⟩) (ds.length + 1) c3) (ds.length + 1) (rowCells cellsI (midF ds x0 (k - 1)))) := by
                  have h := own_put rowI HO.out (k := k - 1) (by rw [midF_len hk]; omega) x0
                  rw [HX.out, wsets9] at h
                  have h' := own_put rowI h (k := k) (by rw [List.length_set, midF_len hk]; omega) yy
                  rw [HYC.out, HSW.out, wsets9] at h'
                  exact h'.drew
                replace HB : Hid (Below w.heap.size w ((((((((((((((((((wq.setCell ⟨g, (k - 1) * 9, none⟩ (.int .i64 key)).setCell ⟨g, (k - 1) * 9 + 1, none⟩ (.string d)).setCell ⟨g, (k - 1) * 9 + 2, none⟩ (.int .i64 a)).setCell ⟨g, (k - 1) * 9 + 3, none⟩ (.int .i64 s)).setCell ⟨g, (k - 1) * 9 + 4, none⟩ (.bool dead)).setCell ⟨g, (k - 1) * 9 + 5, none⟩ (.int .i64 x)).setCell ⟨g, (k - 1) * 9 + 6, none⟩ (.int .i64 y)).setCell ⟨g, (k - 1) * 9 + 7, none⟩ (.string text)).setCell ⟨g, (k - 1) * 9 + 8, none⟩ (.bool held)).setCell ⟨g, k * 9, none⟩ (.int .i64 key3)).setCell ⟨g, k * 9 + 1, none⟩ (.string d3)).setCell ⟨g, k * 9 + 2, none⟩ (.int .i64 a3)).setCell ⟨g, k * 9 + 3, none⟩ (.int .i64 s3)).setCell ⟨g, k * 9 + 4, none⟩ (.bool dead3)).setCell ⟨g, k * 9 + 5, none⟩ (.int .i64 x3)).setCell ⟨g, k * 9 + 6, none⟩ (.int .i64 y3)).setCell ⟨g, k * 9 + 7, none⟩ (.string text3)).setCell ⟨g, k * 9 + 8, none⟩ (.bool held3)).drew) := by
                  have h := below_wsets hgB [.int .i64 key, .string d, .int .i64 a, .int .i64 s, .bool dead, .int .i64 x, .int .i64 y, .string text, .bool held] ((k - 1) * 9) wq HB.out
                  rw [wsets9] at h
                  have h' := below_wsets hgB [.int .i64 key3, .string d3, .int .i64 a3, .int .i64 s3, .bool dead3, .int .i64 x3, .int .i64 y3, .string text3, .bool held3] (k * 9) _ h
                  rw [wsets9] at h'
                  exact h'.drew
                clear HO
                generalize ((((((((((((((((((wq.setCell ⟨g, (k - 1) * 9, none⟩ (.int .i64 key)).setCell ⟨g, (k - 1) * 9 + 1, none⟩ (.string d)).setCell ⟨g, (k - 1) * 9 + 2, none⟩ (.int .i64 a)).setCell ⟨g, (k - 1) * 9 + 3, none⟩ (.int .i64 s)).setCell ⟨g, (k - 1) * 9 + 4, none⟩ (.bool dead)).setCell ⟨g, (k - 1) * 9 + 5, none⟩ (.int .i64 x)).setCell ⟨g, (k - 1) * 9 + 6, none⟩ (.int .i64 y)).setCell ⟨g, (k - 1) * 9 + 7, none⟩ (.string text)).setCell ⟨g, (k - 1) * 9 + 8, none⟩ (.bool held)).setCell ⟨g, k * 9, none⟩ (.int .i64 key3)).setCell ⟨g, k * 9 + 1, none⟩ (.string d3)).setCell ⟨g, k * 9 + 2, none⟩ (.int .i64 a3)).setCell ⟨g, k * 9 + 3, none⟩ (.int .i64 s3)).setCell ⟨g, k * 9 + 4, none⟩ (.bool dead3)).setCell ⟨g, k * 9 + 5, none⟩ (.int .i64 x3)).setCell ⟨g, k * 9 + 6, none⟩ (.int .i64 y3)).setCell ⟨g, k * 9 + 7, none⟩ (.string text3)).setCell ⟨g, k * 9 + 8, none⟩ (.bool held3)).drew = wb at *
                go_wp2
                go_roundw
                case rel => exact ⟨k - 1, by first | rfl | go_num | (congr 1; omega), by omega, HHN.out hgt, HO2, HB⟩
                case measure => simp [intOf]; omega
              · have HE := Lib.hid (HMD.out k hk (fun y h1 h2 => by have := HLO.out hgt y h1 h2; omega) HHI.out)
                have hgt' : decide (key < key3) = false := by simpa using hgt
                go_wp2
                go_quiet (fail)
                go_wp2
                go_ret2
                exact rput_ret HG0.out (by rw [← HE.out, midF_len hk]) (by rw [← HE.out]; exact HO.out) (HB.out.trans ⟨rfl, rfl, rfl, Nat.le_refl _, fun _ _ => rfl⟩)
        · skip
          go_simp
          have hb1 : Below v1.heap.size v1 (v1.alloc (.cells #[.int .i64 key, .string d, .int .i64 a, .int .i64 s, .bool dead, .int .i64 x, .int .i64 y, .string text, .bool held] 28)).drew := ((Below.refl _ _).alloc (Nat.le_refl _) _).drew
          replace HB := Lib.hid (HB.out.trans (hb1.mono HB.out.size))
          have HX1 : Hid (RowAt cellsI 9 (v1.alloc (.cells #[.int .i64 key, .string d, .int .i64 a, .int .i64 s, .bool dead, .int .i64 x, .int .i64 y, .string text, .bool held] 28)).drew (v1.heap.size + 1) (some ⟨v1.heap.size, 0, none⟩) 1 [x0]) := one_row rowI (by rw [HX.out]; exact heap_alloc_new v1 _)
          have hX : v1.heap.size + 1 ≤ (v1.alloc (.cells #[.int .i64 key, .string d, .int .i64 a, .int .i64 s, .bool dead, .int .i64 x, .int .i64 y, .string text, .bool held] 28)).drew.heap.size := by show _ ≤ (v1.alloc _).heap.size; simp
          replace k0 := (hb1.cell (p := ⟨w.heap.size, 0, none⟩) kz).trans k0
          replace k1 := (hb1.cell (p := ⟨w.heap.size, 1, none⟩) kz).trans k1
          replace k2 := (hb1.cell (p := ⟨w.heap.size, 2, none⟩) kz).trans k2
          replace k3 := (hb1.cell (p := ⟨w.heap.size, 3, none⟩) kz).trans k3
          replace k4 := (hb1.cell (p := ⟨w.heap.size, 4, none⟩) kz).trans k4
          replace k5 := (hb1.cell (p := ⟨w.heap.size, 5, none⟩) kz).trans k5
          replace k6 := (hb1.cell (p := ⟨w.heap.size, 6, none⟩) kz).trans k6
          replace k7 := (hb1.cell (p := ⟨w.heap.size, 7, none⟩) kz).trans k7
          replace k8 := (hb1.cell (p := ⟨w.heap.size, 8, none⟩) kz).trans k8
          replace kz := Nat.lt_of_lt_of_le kz hb1.size
          have kz0' := kz0
          clear hb1 kz0'
          generalize (v1.alloc (.cells #[.int .i64 key, .string d, .int .i64 a, .int .i64 s, .bool dead, .int .i64 x, .int .i64 y, .string text, .bool held] 28)).drew = u1 at *
          generalize v1.heap.size = G1 at *
          have kz0 := kz
          refine hK.out _ _ ⟨k0, k1, k2, k3, k4, k5, k6, k7, k8⟩ (fun hHeld => ?_)
          clear hK K
          try simp only [Act.put, List.setIfInBounds_toArray, List.set_cons_zero, List.set_cons_succ]
          refine wpAnyH_ready (rs := [3]) (by kernel_rfl) (by simp) ?_
          refine (AllReadyH.cons (o := { dst := some 54, op := Go.Op.call { callee := Go.Callee.value (Go.Operand.func 24), args := #[Go.Operand.tmp 51, Go.Operand.tmp 53], argTypes := #[22, 3] }, type := 22, pos := "ref.go:46", after := #[{ on := 0, ground := Go.Ground.data }, { on := 2, ground := Go.Ground.data }], guard := none }) rfl (fun K hK => ?_) AllReadyH.nil)
          go_simp
          go_at_call 24
          have HZv := Lib.hid (HZ.out.keep (HB.out.mono hB))
          refine (rdrop_any A n c zs key B _ (Nat.le_trans hB (by exact HB.out.size)) (by exact HZv.out) (by omega)).mono ?_
          rintro e u2 ⟨Ad, cd, rfl, ho, hb⟩
          replace k0 := (hb.cell (p := ⟨w.heap.size, 0, none⟩) kz).trans k0
          replace k1 := (hb.cell (p := ⟨w.heap.size, 1, none⟩) kz).trans k1
          replace k2 := (hb.cell (p := ⟨w.heap.size, 2, none⟩) kz).trans k2
          replace k3 := (hb.cell (p := ⟨w.heap.size, 3, none⟩) kz).trans k3
          replace k4 := (hb.cell (p := ⟨w.heap.size, 4, none⟩) kz).trans k4
          replace k5 := (hb.cell (p := ⟨w.heap.size, 5, none⟩) kz).trans k5
          replace k6 := (hb.cell (p := ⟨w.heap.size, 6, none⟩) kz).trans k6
          replace k7 := (hb.cell (p := ⟨w.heap.size, 7, none⟩) kz).trans k7
          replace k8 := (hb.cell (p := ⟨w.heap.size, 8, none⟩) kz).trans k8
          replace kz := Nat.lt_of_lt_of_le kz hb.size
          replace HX1 := Lib.hid ((HX1.out.more hX).keep (by exact hb))
          have HO := Lib.hid (rown_base ho (by exact HB.out.size))
          have hgk : ∀ g, Value.ownBlock (.slice Ad (rdropF zs key).length cd) = some g → w.heap.size + 1 ≤ g := fun g e => by have h1 : u1.heap.size ≤ g := (ho.lt g e).1; have := kz0; omega
          replace HB := Lib.hid (below_via HB.out hb HB.out.size ⟨rfl, rfl, rfl, rfl⟩)
          clear ho hb
          replace hX := Nat.le_refl u2.heap.size
          refine hK.out _ _ ⟨k0, k1, k2, k3, k4, k5, k6, k7, k8⟩ (fun hHeld => ?_)
          clear hK K
          try simp only [Act.put, List.setIfInBounds_toArray, List.set_cons_zero, List.set_cons_succ]
          refine wpAnyH_ready (rs := [6]) (by kernel_rfl) (by simp) ?_
          refine (AllReadyH.cons (o := { dst := some 57, op := Go.Op.call { callee := Go.Callee.builtin Go.Builtin.append, args := #[Go.Operand.tmp 54, Go.Operand.tmp 56], argTypes := #[22, 22] }, type := 22, pos := "ref.go:46", after := #[{ on := 3, ground := Go.Ground.data }, { on := 5, ground := Go.Ground.data }, { on := 3, ground := Go.Ground.chain }], guard := none }) rfl (fun K hK => ?_) AllReadyH.nil)
          refine step_append_row rowI (B := w.heap.size) (v := .slice Ad (rdropF zs key).length cd) (n := (rdropF zs key).length) (zs := rdropF zs key) (m := 1) (ys := [x0]) (by rfl) _ _ (by rfl) (by rfl) HO.out (by rfl) HX1.out (by omega) (by exact HB.out.size) ?_
          intro A3 c3 w3 hown3 hg3 hat3
          have nk : some w.heap.size ≠ Value.ownBlock (.slice Ad (rdropF zs key).length cd) := fun e => by have := hgk _ e.symm; omega
          replace k0 := (World.cell?_of_block (a := ⟨w.heap.size, 0, none⟩) (hg3.block w.heap.size kz nk)).trans k0
          replace k1 := (World.cell?_of_block (a := ⟨w.heap.size, 1, none⟩) (hg3.block w.heap.size kz nk)).trans k1
          replace k2 := (World.cell?_of_block (a := ⟨w.heap.size, 2, none⟩) (hg3.block w.heap.size kz nk)).trans k2
          replace k3 := (World.cell?_of_block (a := ⟨w.heap.size, 3, none⟩) (hg3.block w.heap.size kz nk)).trans k3
          replace k4 := (World.cell?_of_block (a := ⟨w.heap.size, 4, none⟩) (hg3.block w.heap.size kz nk)).trans k4
          replace k5 := (World.cell?_of_block (a := ⟨w.heap.size, 5, none⟩) (hg3.block w.heap.size kz nk)).trans k5
          replace k6 := (World.cell?_of_block (a := ⟨w.heap.size, 6, none⟩) (hg3.block w.heap.size kz nk)).trans k6
          replace k7 := (World.cell?_of_block (a := ⟨w.heap.size, 7, none⟩) (hg3.block w.heap.size kz nk)).trans k7
          replace k8 := (World.cell?_of_block (a := ⟨w.heap.size, 8, none⟩) (hg3.block w.heap.size kz nk)).trans k8
          replace HB := Lib.hid (HB.out.grown hg3 HB.out.size (fun g e => by have := hgk _ e; omega))
          have HO3 := Lib.hid hown3
          clear hown3 hg3 hat3 nk
          refine hK.out _ _ ⟨k0, k1, k2, k3, k4, k5, k6, k7, k8⟩ (fun hHeld => ?_)
          clear hK K
          try simp only [Act.put, List.setIfInBounds_toArray, List.set_cons_zero, List.set_cons_succ]
          refine wpAnyH_take (i := 7) (oi := { dst := some 8, op := Go.Op.assign (Go.Operand.tmp 57), type := 22, pos := "ref.go:46", after := #[{ on := 6, ground := Go.Ground.data }, { on := 6, ground := Go.Ground.chain }, { on := 0, ground := Go.Ground.phase }, { on := 1, ground := Go.Ground.phase }, { on := 2, ground := Go.Ground.phase }, { on := 3, ground := Go.Ground.phase }, { on := 4, ground := Go.Ground.phase }, { on := 5, ground := Go.Ground.phase }, { on := 6, ground := Go.Ground.phase }], guard := none }) (v := ?_) rfl (by kernel_rfl) (by kernel_rfl) (by kernel_rfl) (fun _ _ _ h => h) (Or.inl ⟨rfl, ?_⟩) (by assumption) ?_
          rotate_left
          · intro wz hSw; (try dsimp only at hSw); go_simp; try (with_reducible rfl)
          try simp only [Act.put, List.setIfInBounds_toArray, List.set_cons_zero, List.set_cons_succ]
          refine wpAnyH_done (by kernel_rfl) ?_ _
          clear kz kz0 hHeld HO HX1 hX hgk HZv
          clear k0 k1 k2 k3 k4 k5 k6 k7 k8
          obtain ⟨g, hgA, hgB⟩ : ∃ g, A3 = some ⟨g, 0, none⟩ ∧ w.heap.size ≤ g := by
            obtain ⟨g, cap, hv, h1, h2⟩ := HO3.out.form (by omega)
            injection hv with hA
            exact ⟨g, hA, h1⟩
          subst hgA
          rw [← midF_last] at HO3
          generalize rdropF zs key = ds at *
          go_wp2
          go_loopw [9] (fun i wr => ∃ k : Nat, i = .int .i64 k ∧ k ≤ ds.length ∧ Hid (∀ j y, k ≤ j → ds[j]? = some y → key < y.key) ∧ Hid (wr.ownsRow w.heap.size 28 9 (.slice (some ⟨g, 0, none⟩) (ds.length + 1) c3) (ds.length + 1) (rowCells cellsI (midF ds x0 k))) ∧ Hid (Below w.heap.size w wr)) (fun i _ => (intOf i).toNat)
          case atStart => exact ⟨ds.length, by go_num, Nat.le_refl _, fun j y hj h => (by have := (List.getElem?_eq_some_iff.mp h).1; omega), HO3, HB⟩
          case round =>
            clear HO3 HB
            obtain ⟨k, rfl, hk, HHI, HO, HB⟩ := hrel
            by_cases h0 : k = 0
            · have HE := Lib.hid (HMD.out k hk (fun y h => absurd h (by omega)) HHI.out)
              have hk0 : decide (0 < k) = false := by simp; omega
              clear h0
              go_wp2
              go_quiet (fail)
              go_wp2
              go_ret2
              exact rput_ret HG0.out (by rw [← HE.out, midF_len hk]) (by rw [← HE.out]; exact HO.out) (HB.out.trans ⟨rfl, rfl, rfl, Nat.le_refl _, fun _ _ => rfl⟩)
            · have hkd : k - 1 < ds.length := by omega
              obtain ⟨yy, hyy⟩ : ∃ yy, ds[k - 1]? = some yy := ⟨_, List.getElem?_eq_getElem hkd⟩
              have hml := midF_len (x := x0) hk
              have HRW := own_row rowI HO.out
              obtain ⟨b1, o1, hA1, hb1, z1, hz1, hc1⟩ := HRW.get (k := k - 1) (by omega)
              obtain ⟨b2, o2, hA2, hb2, z2, hz2, hc2⟩ := HRW.get (k := k) (by omega)
              injection hA1 with hA1
              injection hA1 with q1 q2
              injection hA2 with hA2
              injection hA2 with q3 q4
              subst q1 q2 q3 q4
              obtain rfl : yy = z1 := by rw [midF_before hk (by omega) hyy] at hz1; injection hz1
              obtain rfl : x0 = z2 := by rw [midF_at hk] at hz2; injection hz2
              rw [HX.out] at hc2
              have HSW := Lib.hid (midF_swap (x := x0) hk (by omega) hyy)
              clear HRW hz1 hz2
              have f0 := hc2 0 _ rfl
              have f1 := hc2 1 _ rfl
              have f2 := hc2 2 _ rfl
              have f3 := hc2 3 _ rfl
              have f4 := hc2 4 _ rfl
              have f5 := hc2 5 _ rfl
              have f6 := hc2 6 _ rfl
              have f7 := hc2 7 _ rfl
              have f8 := hc2 8 _ rfl
              obtain ⟨e0, e1, e2, e3, e4, e5, e6, e7, e8⟩ := cellsI_at hc1
              replace e0 : wr.cell? ⟨g, (k - 1) * 9, none⟩ = some (.int .i64 yy.key) := (by have h := e0; simpa using h)
              replace f0 : wr.cell? ⟨g, k * 9, none⟩ = some (.int .i64 key) := (by have h := f0; simpa using h)
              replace e1 : wr.cell? ⟨g, (k - 1) * 9 + 1, none⟩ = some (.string yy.ver.id) := (by have h := e1; simpa using h)
              replace f1 : wr.cell? ⟨g, k * 9 + 1, none⟩ = some (.string d) := (by have h := f1; simpa using h)
              replace e2 : wr.cell? ⟨g, (k - 1) * 9 + 2, none⟩ = some (.int .i64 yy.ver.seq) := (by have h := e2; simpa using h)
              replace f2 : wr.cell? ⟨g, k * 9 + 2, none⟩ = some (.int .i64 a) := (by have h := f2; simpa using h)
              replace e3 : wr.cell? ⟨g, (k - 1) * 9 + 3, none⟩ = some (.int .i64 yy.ver.stamp) := (by have h := e3; simpa using h)
              replace f3 : wr.cell? ⟨g, k * 9 + 3, none⟩ = some (.int .i64 s) := (by have h := f3; simpa using h)
              replace e4 : wr.cell? ⟨g, (k - 1) * 9 + 4, none⟩ = some (.bool yy.dead) := (by have h := e4; simpa using h)
              replace f4 : wr.cell? ⟨g, k * 9 + 4, none⟩ = some (.bool dead) := (by have h := f4; simpa using h)
              replace e5 : wr.cell? ⟨g, (k - 1) * 9 + 5, none⟩ = some (.int .i64 yy.x) := (by have h := e5; simpa using h)
              replace f5 : wr.cell? ⟨g, k * 9 + 5, none⟩ = some (.int .i64 x) := (by have h := f5; simpa using h)
              replace e6 : wr.cell? ⟨g, (k - 1) * 9 + 6, none⟩ = some (.int .i64 yy.y) := (by have h := e6; simpa using h)
              replace f6 : wr.cell? ⟨g, k * 9 + 6, none⟩ = some (.int .i64 y) := (by have h := f6; simpa using h)
              replace e7 : wr.cell? ⟨g, (k - 1) * 9 + 7, none⟩ = some (.string yy.text) := (by have h := e7; simpa using h)
              replace f7 : wr.cell? ⟨g, k * 9 + 7, none⟩ = some (.string text) := (by have h := f7; simpa using h)
              replace e8 : wr.cell? ⟨g, (k - 1) * 9 + 8, none⟩ = some (.bool yy.held) := (by have h := e8; simpa using h)
              replace f8 : wr.cell? ⟨g, k * 9 + 8, none⟩ = some (.bool held) := (by have h := f8; simpa using h)
              have HYC := Lib.hid (show cellsI yy = [.int .i64 yy.key, .string yy.ver.id, .int .i64 yy.ver.seq, .int .i64 yy.ver.stamp, .bool yy.dead, .int .i64 yy.x, .int .i64 yy.y, .string yy.text, .bool yy.held] from rfl)
              have HLO : Hid (¬ key < yy.key → ∀ y, 0 < k → ds[k - 1]? = some y → ¬ key < y.key) := fun h y _ he => by rw [hyy] at he; injection he with he; subst he; exact h
              have HHN : Hid (key < yy.key → ∀ j y, k - 1 ≤ j → ds[j]? = some y → key < y.key) := fun h j y hj he => by
                rcases Nat.lt_or_ge j k with h1 | h1
                · obtain rfl : j = k - 1 := by omega
                  rw [hyy] at he
                  injection he with he
                  subst he
                  exact h
                · exact HHI.out j y h1 he
              generalize yy.key = key3 at *
              generalize yy.ver.id = d3 at *
              generalize yy.ver.seq = a3 at *
              generalize yy.ver.stamp = s3 at *
              generalize yy.dead = dead3 at *
              generalize yy.x = x3 at *
              generalize yy.y = y3 at *
              generalize yy.text = text3 at *
              generalize yy.held = held3 at *
              have hk0 : decide (0 < k) = true := by simp; omega
              have hks : IntKind.i64.wrap ((k : Int) - 1) = ((k - 1 : Nat) : Int) := by rw [IntWalk.i64_in _ (by omega)]; omega
              have hki : (((k - 1 : Nat) : Int)) < (ds.length : Int) + 1 := by omega
              have hki0 : (0 : Int) ≤ ((k - 1 : Nat) : Int) := by omega
              have hkl : (k : Int) < (ds.length : Int) + 1 := by omega
              have hkiN : k - 1 < ds.length + 1 := by omega
              have hklN : k < ds.length + 1 := by omega
              clear hc1 hc2 hyy hb1 hb2 hkd hml
              by_cases hgt : key < key3
              · have hgt' : decide (key < key3) = true := by simpa using hgt
                go_wp2
                go_quiet (fail)
                go_upto_region 8 with fail
                replace e0 : (wr.drewN nq).cell? ⟨g, (k - 1) * 9, none⟩ = some (.int .i64 key3) := e0
                replace e1 : (wr.drewN nq).cell? ⟨g, (k - 1) * 9 + 1, none⟩ = some (.string d3) := e1
                replace e2 : (wr.drewN nq).cell? ⟨g, (k - 1) * 9 + 2, none⟩ = some (.int .i64 a3) := e2
                replace e3 : (wr.drewN nq).cell? ⟨g, (k - 1) * 9 + 3, none⟩ = some (.int .i64 s3) := e3
                replace e4 : (wr.drewN nq).cell? ⟨g, (k - 1) * 9 + 4, none⟩ = some (.bool dead3) := e4
                replace e5 : (wr.drewN nq).cell? ⟨g, (k - 1) * 9 + 5, none⟩ = some (.int .i64 x3) := e5
                replace e6 : (wr.drewN nq).cell? ⟨g, (k - 1) * 9 + 6, none⟩ = some (.int .i64 y3) := e6
                replace e7 : (wr.drewN nq).cell? ⟨g, (k - 1) * 9 + 7, none⟩ = some (.string text3) := e7
                replace e8 : (wr.drewN nq).cell? ⟨g, (k - 1) * 9 + 8, none⟩ = some (.bool held3) := e8
                replace f0 : (wr.drewN nq).cell? ⟨g, k * 9, none⟩ = some (.int .i64 key) := f0
                replace f1 : (wr.drewN nq).cell? ⟨g, k * 9 + 1, none⟩ = some (.string d) := f1
                replace f2 : (wr.drewN nq).cell? ⟨g, k * 9 + 2, none⟩ = some (.int .i64 a) := f2
                replace f3 : (wr.drewN nq).cell? ⟨g, k * 9 + 3, none⟩ = some (.int .i64 s) := f3
                replace f4 : (wr.drewN nq).cell? ⟨g, k * 9 + 4, none⟩ = some (.bool dead) := f4
                replace f5 : (wr.drewN nq).cell? ⟨g, k * 9 + 5, none⟩ = some (.int .i64 x) := f5
                replace f6 : (wr.drewN nq).cell? ⟨g, k * 9 + 6, none⟩ = some (.int .i64 y) := f6
                replace f7 : (wr.drewN nq).cell? ⟨g, k * 9 + 7, none⟩ = some (.string text) := f7
                replace f8 : (wr.drewN nq).cell? ⟨g, k * 9 + 8, none⟩ = some (.bool held) := f8
                replace HO : Hid ((wr.drewN nq).ownsRow w.heap.size 28 9 (.slice (some ⟨g, 0, none⟩) (ds.length + 1) c3) (ds.length + 1) (rowCells cellsI (midF ds x0 k))) := HO
                replace HB : Hid (Below w.heap.size w (wr.drewN nq)) := HB.out.trans ⟨rfl, rfl, rfl, Nat.le_refl _, fun _ _ => rfl⟩
                generalize wr.drewN nq = wq at *
                have ef0 : wq.frozen? ⟨g, (k - 1) * 9, none⟩ = false := HO.out.frozenAt _
                have ff0 : wq.frozen? ⟨g, k * 9, none⟩ = false := HO.out.frozenAt _
                have ef1 : wq.frozen? ⟨g, (k - 1) * 9 + 1, none⟩ = false := HO.out.frozenAt _
                have ff1 : wq.frozen? ⟨g, k * 9 + 1, none⟩ = false := HO.out.frozenAt _
                have ef2 : wq.frozen? ⟨g, (k - 1) * 9 + 2, none⟩ = false := HO.out.frozenAt _
                have ff2 : wq.frozen? ⟨g, k * 9 + 2, none⟩ = false := HO.out.frozenAt _
                have ef3 : wq.frozen? ⟨g, (k - 1) * 9 + 3, none⟩ = false := HO.out.frozenAt _
                have ff3 : wq.frozen? ⟨g, k * 9 + 3, none⟩ = false := HO.out.frozenAt _
                have ef4 : wq.frozen? ⟨g, (k - 1) * 9 + 4, none⟩ = false := HO.out.frozenAt _
                have ff4 : wq.frozen? ⟨g, k * 9 + 4, none⟩ = false := HO.out.frozenAt _
                have ef5 : wq.frozen? ⟨g, (k - 1) * 9 + 5, none⟩ = false := HO.out.frozenAt _
                have ff5 : wq.frozen? ⟨g, k * 9 + 5, none⟩ = false := HO.out.frozenAt _
                have ef6 : wq.frozen? ⟨g, (k - 1) * 9 + 6, none⟩ = false := HO.out.frozenAt _
                have ff6 : wq.frozen? ⟨g, k * 9 + 6, none⟩ = false := HO.out.frozenAt _
                have ef7 : wq.frozen? ⟨g, (k - 1) * 9 + 7, none⟩ = false := HO.out.frozenAt _
                have ff7 : wq.frozen? ⟨g, k * 9 + 7, none⟩ = false := HO.out.frozenAt _
                have ef8 : wq.frozen? ⟨g, (k - 1) * 9 + 8, none⟩ = false := HO.out.frozenAt _
                have ff8 : wq.frozen? ⟨g, k * 9 + 8, none⟩ = false := HO.out.frozenAt _
                go_region
                clear e0 f0 ef0 ff0 e1 f1 ef1 ff1 e2 f2 ef2 ff2 e3 f3 ef3 ff3 e4 f4 ef4 ff4 e5 f5 ef5 ff5 e6 f6 ef6 ff6 e7 f7 ef7 ff7 e8 f8 ef8 ff8
                have HO2 : Hid (((((((((((((((((((wq.setCell ⟨g, (k - 1) * 9, none⟩ (.int .i64 key)).setCell ⟨g, (k - 1) * 9 + 1, none⟩ (.string d)).setCell ⟨g, (k - 1) * 9 + 2, none⟩ (.int .i64 a)).setCell ⟨g, (k - 1) * 9 + 3, none⟩ (.int .i64 s)).setCell ⟨g, (k - 1) * 9 + 4, none⟩ (.bool dead)).setCell ⟨g, (k - 1) * 9 + 5, none⟩ (.int .i64 x)).setCell ⟨g, (k - 1) * 9 + 6, none⟩ (.int .i64 y)).setCell ⟨g, (k - 1) * 9 + 7, none⟩ (.string text)).setCell ⟨g, (k - 1) * 9 + 8, none⟩ (.bool held)).setCell ⟨g, k * 9, none⟩ (.int .i64 key3)).setCell ⟨g, k * 9 + 1, none⟩ (.string d3)).setCell ⟨g, k * 9 + 2, none⟩ (.int .i64 a3)).setCell ⟨g, k * 9 + 3, none⟩ (.int .i64 s3)).setCell ⟨g, k * 9 + 4, none⟩ (.bool dead3)).setCell ⟨g, k * 9 + 5, none⟩ (.int .i64 x3)).setCell ⟨g, k * 9 + 6, none⟩ (.int .i64 y3)).setCell ⟨g, k * 9 + 7, none⟩ (.string text3)).setCell ⟨g, k * 9 + 8, none⟩ (.bool held3)).drew.ownsRow w.heap.size 28 9 (.slice (some ⟨g, 0, none⟩) (ds.length + 1) c3) (ds.length + 1) (rowCells cellsI (midF ds x0 (k - 1)))) := by
                  have h := own_put rowI HO.out (k := k - 1) (by rw [midF_len hk]; omega) x0
                  rw [HX.out, wsets9] at h
                  have h' := own_put rowI h (k := k) (by rw [List.length_set, midF_len hk]; omega) yy
                  rw [HYC.out, HSW.out, wsets9] at h'
                  exact h'.drew
                replace HB : Hid (Below w.heap.size w ((((((((((((((((((wq.setCell ⟨g, (k - 1) * 9, none⟩ (.int .i64 key)).setCell ⟨g, (k - 1) * 9 + 1, none⟩ (.string d)).setCell ⟨g, (k - 1) * 9 + 2, none⟩ (.int .i64 a)).setCell ⟨g, (k - 1) * 9 + 3, none⟩ (.int .i64 s)).setCell ⟨g, (k - 1) * 9 + 4, none⟩ (.bool dead)).setCell ⟨g, (k - 1) * 9 + 5, none⟩ (.int .i64 x)).setCell ⟨g, (k - 1) * 9 + 6, none⟩ (.int .i64 y)).setCell ⟨g, (k - 1) * 9 + 7, none⟩ (.string text)).setCell ⟨g, (k - 1) * 9 + 8, none⟩ (.bool held)).setCell ⟨g, k * 9, none⟩ (.int .i64 key3)).setCell ⟨g, k * 9 + 1, none⟩ (.string d3)).setCell ⟨g, k * 9 + 2, none⟩ (.int .i64 a3)).setCell ⟨g, k * 9 + 3, none⟩ (.int .i64 s3)).setCell ⟨g, k * 9 + 4, none⟩ (.bool dead3)).setCell ⟨g, k * 9 + 5, none⟩ (.int .i64 x3)).setCell ⟨g, k * 9 + 6, none⟩ (.int .i64 y3)).setCell ⟨g, k * 9 + 7, none⟩ (.string text3)).setCell ⟨g, k * 9 + 8, none⟩ (.bool held3)).drew) := by
                  have h := below_wsets hgB [.int .i64 key, .string d, .int .i64 a, .int .i64 s, .bool dead, .int .i64 x, .int .i64 y, .string text, .bool held] ((k - 1) * 9) wq HB.out
                  rw [wsets9] at h
                  have h' := below_wsets hgB [.int .i64 key3, .string d3, .int .i64 a3, .int .i64 s3, .bool dead3, .int .i64 x3, .int .i64 y3, .string text3, .bool held3] (k * 9) _ h
                  rw [wsets9] at h'
                  exact h'.drew
                clear HO
                generalize ((((((((((((((((((wq.setCell ⟨g, (k - 1) * 9, none⟩ (.int .i64 key)).setCell ⟨g, (k - 1) * 9 + 1, none⟩ (.string d)).setCell ⟨g, (k - 1) * 9 + 2, none⟩ (.int .i64 a)).setCell ⟨g, (k - 1) * 9 + 3, none⟩ (.int .i64 s)).setCell ⟨g, (k - 1) * 9 + 4, none⟩ (.bool dead)).setCell ⟨g, (k - 1) * 9 + 5, none⟩ (.int .i64 x)).setCell ⟨g, (k - 1) * 9 + 6, none⟩ (.int .i64 y)).setCell ⟨g, (k - 1) * 9 + 7, none⟩ (.string text)).setCell ⟨g, (k - 1) * 9 + 8, none⟩ (.bool held)).setCell ⟨g, k * 9, none⟩ (.int .i64 key3)).setCell ⟨g, k * 9 + 1, none⟩ (.string d3)).setCell ⟨g, k * 9 + 2, none⟩ (.int .i64 a3)).setCell ⟨g, k * 9 + 3, none⟩ (.int .i64 s3)).setCell ⟨g, k * 9 + 4, none⟩ (.bool dead3)).setCell ⟨g, k * 9 + 5, none⟩ (.int .i64 x3)).setCell ⟨g, k * 9 + 6, none⟩ (.int .i64 y3)).setCell ⟨g, k * 9 + 7, none⟩ (.string text3)).setCell ⟨g, k * 9 + 8, none⟩ (.bool held3)).drew = wb at *
                go_wp2
                go_roundw
                case rel => exact ⟨k - 1, by first | rfl | go_num | (congr 1; omega), by omega, HHN.out hgt, HO2, HB⟩
                case measure => simp [intOf]; omega
              · have HE := Lib.hid (HMD.out k hk (fun y h1 h2 => by have := HLO.out hgt y h1 h2; omega) HHI.out)
                have hgt' : decide (key < key3) = false := by simpa using hgt
                go_wp2
                go_quiet (fail)
                go_wp2
                go_ret2
                exact rput_ret HG0.out (by rw [← HE.out, midF_len hk]) (by rw [← HE.out]; exact HO.out) (HB.out.trans ⟨rfl, rfl, rfl, Nat.le_refl _, fun _ _ => rfl⟩)
      · obtain rfl : R = false := HV.out
        clear HV
        have HG0 := Lib.hid (HPN.out rfl)
        clear HPO HPN PO PNO HMD HX
        have HB0 : Hid (Below w.heap.size w (v1.alloc (.cells #[] 28))) := HB.out.alloc HB.out.size _
        have HO0 : Hid ((v1.alloc (.cells #[] 28)).ownsRow v1.heap.size 28 9 (.slice (some ⟨v1.heap.size, 0, none⟩) 0 0) 0 (rowCells cellsI [])) := rown_empty 28 v1
        have HZ0 : Hid (RowAt cellsI 9 (v1.alloc (.cells #[] 28)) B A n zs) := HZ.out.keep (HB0.out.mono hB)
        have hw1 := HB.out.size
        go_wp2_with (at_builtin; refine wpList_append_row rowI (B := v1.heap.size) (v := .slice (some ⟨v1.heap.size, 0, none⟩) 0 0) (n := 0) (zs := []) (m := n) (ys := zs) rfl _ _ rfl rfl HO0.out rfl HZ0.out (by omega) (by simp) ?_; intro A3 c3 w3 hown3 hg3 _; have HO3 := Lib.hid hown3; have HB3 : Hid (Below w.heap.size w w3) := HB0.out.grown hg3 HB0.out.size (fun k e => by simp [Value.ownBlock] at e; omega); clear hown3 hg3)
        go_ret2
        have h3 := rown_base HO3.out hw1
        rw [Nat.zero_add, List.nil_append] at h3
        exact rput_ret HG0.out HL.out h3 HB3.out
    · rw [if_pos rfl] at HV
      clear HRN
      cases held2
      · cases held
        · obtain rfl : R = false := HV.out
          clear HV
          have HG0 := Lib.hid (HPN.out rfl)
          clear HPO HPN PO PNO HMD HX
          have HB0 : Hid (Below w.heap.size w (v.alloc (.cells #[] 28))) := HB.out.alloc HB.out.size _
          have HO0 : Hid ((v.alloc (.cells #[] 28)).ownsRow v.heap.size 28 9 (.slice (some ⟨v.heap.size, 0, none⟩) 0 0) 0 (rowCells cellsI [])) := rown_empty 28 v
          have HZ0 : Hid (RowAt cellsI 9 (v.alloc (.cells #[] 28)) B A n zs) := HZ.out.keep (HB0.out.mono hB)
          have hw1 := HB.out.size
          go_wp2_with (at_builtin; refine wpList_append_row rowI (B := v.heap.size) (v := .slice (some ⟨v.heap.size, 0, none⟩) 0 0) (n := 0) (zs := []) (m := n) (ys := zs) rfl _ _ rfl rfl HO0.out rfl HZ0.out (by omega) (by simp) ?_; intro A3 c3 w3 hown3 hg3 _; have HO3 := Lib.hid hown3; have HB3 : Hid (Below w.heap.size w w3) := HB0.out.grown hg3 HB0.out.size (fun k e => by simp [Value.ownBlock] at e; omega); clear hown3 hg3)
          go_ret2
          have h3 := rown_base HO3.out hw1
          rw [Nat.zero_add, List.nil_append] at h3
          exact rput_ret HG0.out HL.out h3 HB3.out
        · obtain rfl : R = true := HV.out
          have HG0 := Lib.hid (HPO.out rfl)
          clear HPO HPN HV
          go_upto_region 4 with fail
          clear heq hne o0 of0 o1 of1 o2 of2 o3 of3 o4 of4 o5 of5 o6 of6 o7 of7 o8 of8 oz
          clear HOG PN PO PNO
          go_upto_region 4 with fail
          refine wp_region_held_drew (S := fun w' => w'.cell? ⟨w.heap.size, 0, none⟩ = some (.int .i64 key) ∧ w'.cell? ⟨w.heap.size, 1, none⟩ = some (.string d) ∧ w'.cell? ⟨w.heap.size, 2, none⟩ = some (.int .i64 a) ∧ w'.cell? ⟨w.heap.size, 3, none⟩ = some (.int .i64 s) ∧ w'.cell? ⟨w.heap.size, 4, none⟩ = some (.bool dead) ∧ w'.cell? ⟨w.heap.size, 5, none⟩ = some (.int .i64 x) ∧ w'.cell? ⟨w.heap.size, 6, none⟩ = some (.int .i64 y) ∧ w'.cell? ⟨w.heap.size, 7, none⟩ = some (.string text) ∧ w'.cell? ⟨w.heap.size, 8, none⟩ = some (.bool true)) (by kernel_rfl) ⟨k0, k1, k2, k3, k4, k5, k6, k7, k8⟩ (fun hHeld => ?_)
          refine wpAnyH_take (i := 0) (oi := { dst := some 51, op := Go.Op.move (Go.Operand.tmp 0), type := 22, pos := "ref.go:46", after := #[], guard := none }) (v := ?_) rfl (by kernel_rfl) (by kernel_rfl) (by kernel_rfl) (fun _ _ _ h => h) (Or.inl ⟨rfl, ?_⟩) (by assumption) ?_
          rotate_left
          · intro wz hSw; (try dsimp only at hSw); go_simp; try (with_reducible rfl)
          try simp only [Act.put, List.setIfInBounds_toArray, List.set_cons_zero, List.set_cons_succ]
          refine wpAnyH_take (i := 1) (oi := { dst := some 52, op := Go.Op.fieldAddr 28 (Go.Operand.tmp 3) 0, type := 0, pos := "ref.go:46", after := #[], guard := none }) (v := ?_) rfl (by kernel_rfl) (by kernel_rfl) (by kernel_rfl) (fun _ _ _ h => h) (Or.inl ⟨rfl, ?_⟩) (by assumption) ?_
          rotate_left
          · intro wz hSw; (try dsimp only at hSw); go_simp; try (with_reducible rfl)
          try simp only [Act.put, List.setIfInBounds_toArray, List.set_cons_zero, List.set_cons_succ]
          refine wpAnyH_take (i := 2) (oi := { dst := some 53, op := Go.Op.load 3 (Go.Operand.tmp 52), type := 3, pos := "ref.go:46", after := #[{ on := 1, ground := Go.Ground.data }], guard := none }) (v := ?_) rfl (by kernel_rfl) (by kernel_rfl) (by kernel_rfl) (fun _ _ _ h => h) (Or.inl ⟨rfl, ?_⟩) (by assumption) ?_
          rotate_left
          · intro wz hSw; (try dsimp only at hSw); go_simp; try (with_reducible rfl)
          try simp only [Act.put, List.setIfInBounds_toArray, List.set_cons_zero, List.set_cons_succ]
          refine wpAnyH_take (i := 4) (oi := { dst := some 55, op := Go.Op.load 28 (Go.Operand.tmp 3), type := 28, pos := "ref.go:46", after := #[], guard := none }) (v := ?_) rfl (by kernel_rfl) (by kernel_rfl) (by kernel_rfl) (fun _ _ _ h => h) (Or.inl ⟨rfl, ?_⟩) (by assumption) ?_
          rotate_left
          · intro wz hSw; (try dsimp only at hSw); go_simp; try (with_reducible rfl)
          try simp only [Act.put, List.setIfInBounds_toArray, List.set_cons_zero, List.set_cons_succ]
          refine wpAnyH_ready (rs := [3, 5]) (by kernel_rfl) (by simp) ?_
          refine (AllReadyH.cons (o := { dst := some 54, op := Go.Op.call { callee := Go.Callee.value (Go.Operand.func 24), args := #[Go.Operand.tmp 51, Go.Operand.tmp 53], argTypes := #[22, 3] }, type := 22, pos := "ref.go:46", after := #[{ on := 0, ground := Go.Ground.data }, { on := 2, ground := Go.Ground.data }], guard := none }) rfl (fun K hK => ?_) (AllReadyH.cons (o := { dst := some 56, op := Go.Op.buildSlice 22 1 #[(0, Go.Operand.tmp 55)], type := 22, pos := "ref.go:46", after := #[{ on := 4, ground := Go.Ground.data }], guard := none }) rfl (fun K hK => ?_) AllReadyH.nil))
          · skip
            go_simp
            go_at_call 24
            have HZv := Lib.hid (HZ.out.keep (HB.out.mono hB))
            refine (rdrop_any A n c zs key B _ (Nat.le_trans hB (by exact HB.out.size)) (by exact HZv.out) (by omega)).mono ?_
            rintro e u1 ⟨Ad, cd, rfl, ho, hb⟩
            replace k0 := (hb.cell (p := ⟨w.heap.size, 0, none⟩) kz).trans k0
            replace k1 := (hb.cell (p := ⟨w.heap.size, 1, none⟩) kz).trans k1
            replace k2 := (hb.cell (p := ⟨w.heap.size, 2, none⟩) kz).trans k2
            replace k3 := (hb.cell (p := ⟨w.heap.size, 3, none⟩) kz).trans k3
            replace k4 := (hb.cell (p := ⟨w.heap.size, 4, none⟩) kz).trans k4
            replace k5 := (hb.cell (p := ⟨w.heap.size, 5, none⟩) kz).trans k5
            replace k6 := (hb.cell (p := ⟨w.heap.size, 6, none⟩) kz).trans k6
            replace k7 := (hb.cell (p := ⟨w.heap.size, 7, none⟩) kz).trans k7
            replace k8 := (hb.cell (p := ⟨w.heap.size, 8, none⟩) kz).trans k8
            replace kz := Nat.lt_of_lt_of_le kz hb.size
            have HO := Lib.hid (rown_base ho (by exact HB.out.size))
            have hgk : ∀ g, Value.ownBlock (.slice Ad (rdropF zs key).length cd) = some g → w.heap.size + 1 ≤ g := fun g e => by have h1 : v.heap.size ≤ g := (ho.lt g e).1; have := kz0; omega
            replace HB := Lib.hid (below_via HB.out hb HB.out.size ⟨rfl, rfl, rfl, rfl⟩)
            clear ho hb
            refine hK.out _ _ ⟨k0, k1, k2, k3, k4, k5, k6, k7, k8⟩ (fun hHeld => ?_)
            clear hK K
            try simp only [Act.put, List.setIfInBounds_toArray, List.set_cons_zero, List.set_cons_succ]
            refine wpAnyH_ready (rs := [5]) (by kernel_rfl) (by simp) ?_
            refine (AllReadyH.cons (o := { dst := some 56, op := Go.Op.buildSlice 22 1 #[(0, Go.Operand.tmp 55)], type := 22, pos := "ref.go:46", after := #[{ on := 4, ground := Go.Ground.data }], guard := none }) rfl (fun K hK => ?_) AllReadyH.nil)
            go_simp
            have hb1 : Below u1.heap.size u1 (u1.alloc (.cells #[.int .i64 key, .string d, .int .i64 a, .int .i64 s, .bool dead, .int .i64 x, .int .i64 y, .string text, .bool true] 28)) := (Below.refl _ _).alloc (Nat.le_refl _) _
            replace HB := Lib.hid (HB.out.trans (hb1.mono HB.out.size))
            have HX1 : Hid (RowAt cellsI 9 (u1.alloc (.cells #[.int .i64 key, .string d, .int .i64 a, .int .i64 s, .bool dead, .int .i64 x, .int .i64 y, .string text, .bool true] 28)) (u1.heap.size + 1) (some ⟨u1.heap.size, 0, none⟩) 1 [x0]) := one_row rowI (by rw [HX.out]; exact heap_alloc_new u1 _)
            have hX : u1.heap.size + 1 ≤ (u1.alloc (.cells #[.int .i64 key, .string d, .int .i64 a, .int .i64 s, .bool dead, .int .i64 x, .int .i64 y, .string text, .bool true] 28)).heap.size := by show _ ≤ (u1.alloc _).heap.size; simp
            replace k0 := (hb1.cell (p := ⟨w.heap.size, 0, none⟩) kz).trans k0
            replace k1 := (hb1.cell (p := ⟨w.heap.size, 1, none⟩) kz).trans k1
            replace k2 := (hb1.cell (p := ⟨w.heap.size, 2, none⟩) kz).trans k2
            replace k3 := (hb1.cell (p := ⟨w.heap.size, 3, none⟩) kz).trans k3
            replace k4 := (hb1.cell (p := ⟨w.heap.size, 4, none⟩) kz).trans k4
            replace k5 := (hb1.cell (p := ⟨w.heap.size, 5, none⟩) kz).trans k5
            replace k6 := (hb1.cell (p := ⟨w.heap.size, 6, none⟩) kz).trans k6
            replace k7 := (hb1.cell (p := ⟨w.heap.size, 7, none⟩) kz).trans k7
            replace k8 := (hb1.cell (p := ⟨w.heap.size, 8, none⟩) kz).trans k8
            replace kz := Nat.lt_of_lt_of_le kz hb1.size
            replace HO := Lib.hid (rown_below HO.out hb1)
            clear hb1
            generalize (u1.alloc (.cells #[.int .i64 key, .string d, .int .i64 a, .int .i64 s, .bool dead, .int .i64 x, .int .i64 y, .string text, .bool true] 28)) = u2 at *
            generalize u1.heap.size = G1 at *
            refine hK.out _ _ ⟨k0, k1, k2, k3, k4, k5, k6, k7, k8⟩ (fun hHeld => ?_)
            clear hK K
            try simp only [Act.put, List.setIfInBounds_toArray, List.set_cons_zero, List.set_cons_succ]
            refine wpAnyH_ready (rs := [6]) (by kernel_rfl) (by simp) ?_
            refine (AllReadyH.cons (o := { dst := some 57, op := Go.Op.call { callee := Go.Callee.builtin Go.Builtin.append, args := #[Go.Operand.tmp 54, Go.Operand.tmp 56], argTypes := #[22, 22] }, type := 22, pos := "ref.go:46", after := #[{ on := 3, ground := Go.Ground.data }, { on := 5, ground := Go.Ground.data }, { on := 3, ground := Go.Ground.chain }], guard := none }) rfl (fun K hK => ?_) AllReadyH.nil)
            refine step_append_row rowI (B := w.heap.size) (v := .slice Ad (rdropF zs key).length cd) (n := (rdropF zs key).length) (zs := rdropF zs key) (m := 1) (ys := [x0]) (by rfl) _ _ (by rfl) (by rfl) HO.out (by rfl) HX1.out (by omega) (by exact HB.out.size) ?_
            intro A3 c3 w3 hown3 hg3 hat3
            have nk : some w.heap.size ≠ Value.ownBlock (.slice Ad (rdropF zs key).length cd) := fun e => by have := hgk _ e.symm; omega
            replace k0 := (World.cell?_of_block (a := ⟨w.heap.size, 0, none⟩) (hg3.block w.heap.size kz nk)).trans k0
            replace k1 := (World.cell?_of_block (a := ⟨w.heap.size, 1, none⟩) (hg3.block w.heap.size kz nk)).trans k1
            replace k2 := (World.cell?_of_block (a := ⟨w.heap.size, 2, none⟩) (hg3.block w.heap.size kz nk)).trans k2
            replace k3 := (World.cell?_of_block (a := ⟨w.heap.size, 3, none⟩) (hg3.block w.heap.size kz nk)).trans k3
            replace k4 := (World.cell?_of_block (a := ⟨w.heap.size, 4, none⟩) (hg3.block w.heap.size kz nk)).trans k4
            replace k5 := (World.cell?_of_block (a := ⟨w.heap.size, 5, none⟩) (hg3.block w.heap.size kz nk)).trans k5
            replace k6 := (World.cell?_of_block (a := ⟨w.heap.size, 6, none⟩) (hg3.block w.heap.size kz nk)).trans k6
            replace k7 := (World.cell?_of_block (a := ⟨w.heap.size, 7, none⟩) (hg3.block w.heap.size kz nk)).trans k7
            replace k8 := (World.cell?_of_block (a := ⟨w.heap.size, 8, none⟩) (hg3.block w.heap.size kz nk)).trans k8
            replace HB := Lib.hid (HB.out.grown hg3 HB.out.size (fun g e => by have := hgk _ e; omega))
            have HO3 := Lib.hid hown3
            clear hown3 hg3 hat3 nk
            refine hK.out _ _ ⟨k0, k1, k2, k3, k4, k5, k6, k7, k8⟩ (fun hHeld => ?_)
            clear hK K
            try simp only [Act.put, List.setIfInBounds_toArray, List.set_cons_zero, List.set_cons_succ]
            refine wpAnyH_take (i := 7) (oi := { dst := some 8, op := Go.Op.assign (Go.Operand.tmp 57), type := 22, pos := "ref.go:46", after := #[{ on := 6, ground := Go.Ground.data }, { on := 6, ground := Go.Ground.chain }, { on := 0, ground := Go.Ground.phase }, { on := 1, ground := Go.Ground.phase }, { on := 2, ground := Go.Ground.phase }, { on := 3, ground := Go.Ground.phase }, { on := 4, ground := Go.Ground.phase }, { on := 5, ground := Go.Ground.phase }, { on := 6, ground := Go.Ground.phase }], guard := none }) (v := ?_) rfl (by kernel_rfl) (by kernel_rfl) (by kernel_rfl) (fun _ _ _ h => h) (Or.inl ⟨rfl, ?_⟩) (by assumption) ?_
            rotate_left
            · intro wz hSw; (try dsimp only at hSw); go_simp; try (with_reducible rfl)
            try simp only [Act.put, List.setIfInBounds_toArray, List.set_cons_zero, List.set_cons_succ]
            refine wpAnyH_done (by kernel_rfl) ?_ _
            clear kz kz0 hHeld HO HX1 hX hgk HZv
            clear k0 k1 k2 k3 k4 k5 k6 k7 k8
            obtain ⟨g, hgA, hgB⟩ : ∃ g, A3 = some ⟨g, 0, none⟩ ∧ w.heap.size ≤ g := by
              obtain ⟨g, cap, hv, h1, h2⟩ := HO3.out.form (by omega)
              injection hv with hA
              exact ⟨g, hA, h1⟩
            subst hgA
            rw [← midF_last] at HO3
            generalize rdropF zs key = ds at *
            go_wp2
            go_loopw [9] (fun i wr => ∃ k : Nat, i = .int .i64 k ∧ k ≤ ds.length ∧ Hid (∀ j y, k ≤ j → ds[j]? = some y → key < y.key) ∧ Hid (wr.ownsRow w.heap.size 28 9 (.slice (some ⟨g, 0, none⟩) (ds.length + 1) c3) (ds.length + 1) (rowCells cellsI (midF ds x0 k))) ∧ Hid (Below w.heap.size w wr)) (fun i _ => (intOf i).toNat)
            case atStart => exact ⟨ds.length, by go_num, Nat.le_refl _, fun j y hj h => (by have := (List.getElem?_eq_some_iff.mp h).1; omega), HO3, HB⟩
            case round =>
              clear HO3 HB
              obtain ⟨k, rfl, hk, HHI, HO, HB⟩ := hrel
              by_cases h0 : k = 0
              · have HE := Lib.hid (HMD.out k hk (fun y h => absurd h (by omega)) HHI.out)
                have hk0 : decide (0 < k) = false := by simp; omega
                clear h0
                go_wp2
                go_quiet (fail)
                go_wp2
                go_ret2
                exact rput_ret HG0.out (by rw [← HE.out, midF_len hk]) (by rw [← HE.out]; exact HO.out) (HB.out.trans ⟨rfl, rfl, rfl, Nat.le_refl _, fun _ _ => rfl⟩)
              · have hkd : k - 1 < ds.length := by omega
                obtain ⟨yy, hyy⟩ : ∃ yy, ds[k - 1]? = some yy := ⟨_, List.getElem?_eq_getElem hkd⟩
                have hml := midF_len (x := x0) hk
                have HRW := own_row rowI HO.out
                obtain ⟨b1, o1, hA1, hb1, z1, hz1, hc1⟩ := HRW.get (k := k - 1) (by omega)
                obtain ⟨b2, o2, hA2, hb2, z2, hz2, hc2⟩ := HRW.get (k := k) (by omega)
                injection hA1 with hA1
                injection hA1 with q1 q2
                injection hA2 with hA2
                injection hA2 with q3 q4
                subst q1 q2 q3 q4
                obtain rfl : yy = z1 := by rw [midF_before hk (by omega) hyy] at hz1; injection hz1
                obtain rfl : x0 = z2 := by rw [midF_at hk] at hz2; injection hz2
                rw [HX.out] at hc2
                have HSW := Lib.hid (midF_swap (x := x0) hk (by omega) hyy)
                clear HRW hz1 hz2
                have f0 := hc2 0 _ rfl
                have f1 := hc2 1 _ rfl
                have f2 := hc2 2 _ rfl
                have f3 := hc2 3 _ rfl
                have f4 := hc2 4 _ rfl
                have f5 := hc2 5 _ rfl
                have f6 := hc2 6 _ rfl
                have f7 := hc2 7 _ rfl
                have f8 := hc2 8 _ rfl
                obtain ⟨e0, e1, e2, e3, e4, e5, e6, e7, e8⟩ := cellsI_at hc1
                replace e0 : wr.cell? ⟨g, (k - 1) * 9, none⟩ = some (.int .i64 yy.key) := (by have h := e0; simpa using h)
                replace f0 : wr.cell? ⟨g, k * 9, none⟩ = some (.int .i64 key) := (by have h := f0; simpa using h)
                replace e1 : wr.cell? ⟨g, (k - 1) * 9 + 1, none⟩ = some (.string yy.ver.id) := (by have h := e1; simpa using h)
                replace f1 : wr.cell? ⟨g, k * 9 + 1, none⟩ = some (.string d) := (by have h := f1; simpa using h)
                replace e2 : wr.cell? ⟨g, (k - 1) * 9 + 2, none⟩ = some (.int .i64 yy.ver.seq) := (by have h := e2; simpa using h)
                replace f2 : wr.cell? ⟨g, k * 9 + 2, none⟩ = some (.int .i64 a) := (by have h := f2; simpa using h)
                replace e3 : wr.cell? ⟨g, (k - 1) * 9 + 3, none⟩ = some (.int .i64 yy.ver.stamp) := (by have h := e3; simpa using h)
                replace f3 : wr.cell? ⟨g, k * 9 + 3, none⟩ = some (.int .i64 s) := (by have h := f3; simpa using h)
                replace e4 : wr.cell? ⟨g, (k - 1) * 9 + 4, none⟩ = some (.bool yy.dead) := (by have h := e4; simpa using h)
                replace f4 : wr.cell? ⟨g, k * 9 + 4, none⟩ = some (.bool dead) := (by have h := f4; simpa using h)
                replace e5 : wr.cell? ⟨g, (k - 1) * 9 + 5, none⟩ = some (.int .i64 yy.x) := (by have h := e5; simpa using h)
                replace f5 : wr.cell? ⟨g, k * 9 + 5, none⟩ = some (.int .i64 x) := (by have h := f5; simpa using h)
                replace e6 : wr.cell? ⟨g, (k - 1) * 9 + 6, none⟩ = some (.int .i64 yy.y) := (by have h := e6; simpa using h)
                replace f6 : wr.cell? ⟨g, k * 9 + 6, none⟩ = some (.int .i64 y) := (by have h := f6; simpa using h)
                replace e7 : wr.cell? ⟨g, (k - 1) * 9 + 7, none⟩ = some (.string yy.text) := (by have h := e7; simpa using h)
                replace f7 : wr.cell? ⟨g, k * 9 + 7, none⟩ = some (.string text) := (by have h := f7; simpa using h)
                replace e8 : wr.cell? ⟨g, (k - 1) * 9 + 8, none⟩ = some (.bool yy.held) := (by have h := e8; simpa using h)
                replace f8 : wr.cell? ⟨g, k * 9 + 8, none⟩ = some (.bool true) := (by have h := f8; simpa using h)
                have HYC := Lib.hid (show cellsI yy = [.int .i64 yy.key, .string yy.ver.id, .int .i64 yy.ver.seq, .int .i64 yy.ver.stamp, .bool yy.dead, .int .i64 yy.x, .int .i64 yy.y, .string yy.text, .bool yy.held] from rfl)
                have HLO : Hid (¬ key < yy.key → ∀ y, 0 < k → ds[k - 1]? = some y → ¬ key < y.key) := fun h y _ he => by rw [hyy] at he; injection he with he; subst he; exact h
                have HHN : Hid (key < yy.key → ∀ j y, k - 1 ≤ j → ds[j]? = some y → key < y.key) := fun h j y hj he => by
                  rcases Nat.lt_or_ge j k with h1 | h1
                  · obtain rfl : j = k - 1 := by omega
                    rw [hyy] at he
                    injection he with he
                    subst he
                    exact h
                  · exact HHI.out j y h1 he
                generalize yy.key = key3 at *
                generalize yy.ver.id = d3 at *
                generalize yy.ver.seq = a3 at *
                generalize yy.ver.stamp = s3 at *
                generalize yy.dead = dead3 at *
                generalize yy.x = x3 at *
                generalize yy.y = y3 at *
                generalize yy.text = text3 at *
                generalize yy.held = held3 at *
                have hk0 : decide (0 < k) = true := by simp; omega
                have hks : IntKind.i64.wrap ((k : Int) - 1) = ((k - 1 : Nat) : Int) := by rw [IntWalk.i64_in _ (by omega)]; omega
                have hki : (((k - 1 : Nat) : Int)) < (ds.length : Int) + 1 := by omega
                have hki0 : (0 : Int) ≤ ((k - 1 : Nat) : Int) := by omega
                have hkl : (k : Int) < (ds.length : Int) + 1 := by omega
                have hkiN : k - 1 < ds.length + 1 := by omega
                have hklN : k < ds.length + 1 := by omega
                clear hc1 hc2 hyy hb1 hb2 hkd hml
                by_cases hgt : key < key3
                · have hgt' : decide (key < key3) = true := by simpa using hgt
                  go_wp2
                  go_quiet (fail)
                  go_upto_region 8 with fail
                  replace e0 : (wr.drewN nq).cell? ⟨g, (k - 1) * 9, none⟩ = some (.int .i64 key3) := e0
                  replace e1 : (wr.drewN nq).cell? ⟨g, (k - 1) * 9 + 1, none⟩ = some (.string d3) := e1
                  replace e2 : (wr.drewN nq).cell? ⟨g, (k - 1) * 9 + 2, none⟩ = some (.int .i64 a3) := e2
                  replace e3 : (wr.drewN nq).cell? ⟨g, (k - 1) * 9 + 3, none⟩ = some (.int .i64 s3) := e3
                  replace e4 : (wr.drewN nq).cell? ⟨g, (k - 1) * 9 + 4, none⟩ = some (.bool dead3) := e4
                  replace e5 : (wr.drewN nq).cell? ⟨g, (k - 1) * 9 + 5, none⟩ = some (.int .i64 x3) := e5
                  replace e6 : (wr.drewN nq).cell? ⟨g, (k - 1) * 9 + 6, none⟩ = some (.int .i64 y3) := e6
                  replace e7 : (wr.drewN nq).cell? ⟨g, (k - 1) * 9 + 7, none⟩ = some (.string text3) := e7
                  replace e8 : (wr.drewN nq).cell? ⟨g, (k - 1) * 9 + 8, none⟩ = some (.bool held3) := e8
                  replace f0 : (wr.drewN nq).cell? ⟨g, k * 9, none⟩ = some (.int .i64 key) := f0
                  replace f1 : (wr.drewN nq).cell? ⟨g, k * 9 + 1, none⟩ = some (.string d) := f1
                  replace f2 : (wr.drewN nq).cell? ⟨g, k * 9 + 2, none⟩ = some (.int .i64 a) := f2
                  replace f3 : (wr.drewN nq).cell? ⟨g, k * 9 + 3, none⟩ = some (.int .i64 s) := f3
                  replace f4 : (wr.drewN nq).cell? ⟨g, k * 9 + 4, none⟩ = some (.bool dead) := f4
                  replace f5 : (wr.drewN nq).cell? ⟨g, k * 9 + 5, none⟩ = some (.int .i64 x) := f5
                  replace f6 : (wr.drewN nq).cell? ⟨g, k * 9 + 6, none⟩ = some (.int .i64 y) := f6
                  replace f7 : (wr.drewN nq).cell? ⟨g, k * 9 + 7, none⟩ = some (.string text) := f7
                  replace f8 : (wr.drewN nq).cell? ⟨g, k * 9 + 8, none⟩ = some (.bool true) := f8
                  replace HO : Hid ((wr.drewN nq).ownsRow w.heap.size 28 9 (.slice (some ⟨g, 0, none⟩) (ds.length + 1) c3) (ds.length + 1) (rowCells cellsI (midF ds x0 k))) := HO
                  replace HB : Hid (Below w.heap.size w (wr.drewN nq)) := HB.out.trans ⟨rfl, rfl, rfl, Nat.le_refl _, fun _ _ => rfl⟩
                  generalize wr.drewN nq = wq at *
                  have ef0 : wq.frozen? ⟨g, (k - 1) * 9, none⟩ = false := HO.out.frozenAt _
                  have ff0 : wq.frozen? ⟨g, k * 9, none⟩ = false := HO.out.frozenAt _
                  have ef1 : wq.frozen? ⟨g, (k - 1) * 9 + 1, none⟩ = false := HO.out.frozenAt _
                  have ff1 : wq.frozen? ⟨g, k * 9 + 1, none⟩ = false := HO.out.frozenAt _
                  have ef2 : wq.frozen? ⟨g, (k - 1) * 9 + 2, none⟩ = false := HO.out.frozenAt _
                  have ff2 : wq.frozen? ⟨g, k * 9 + 2, none⟩ = false := HO.out.frozenAt _
                  have ef3 : wq.frozen? ⟨g, (k - 1) * 9 + 3, none⟩ = false := HO.out.frozenAt _
                  have ff3 : wq.frozen? ⟨g, k * 9 + 3, none⟩ = false := HO.out.frozenAt _
                  have ef4 : wq.frozen? ⟨g, (k - 1) * 9 + 4, none⟩ = false := HO.out.frozenAt _
                  have ff4 : wq.frozen? ⟨g, k * 9 + 4, none⟩ = false := HO.out.frozenAt _
                  have ef5 : wq.frozen? ⟨g, (k - 1) * 9 + 5, none⟩ = false := HO.out.frozenAt _
                  have ff5 : wq.frozen? ⟨g, k * 9 + 5, none⟩ = false := HO.out.frozenAt _
                  have ef6 : wq.frozen? ⟨g, (k - 1) * 9 + 6, none⟩ = false := HO.out.frozenAt _
                  have ff6 : wq.frozen? ⟨g, k * 9 + 6, none⟩ = false := HO.out.frozenAt _
                  have ef7 : wq.frozen? ⟨g, (k - 1) * 9 + 7, none⟩ = false := HO.out.frozenAt _
                  have ff7 : wq.frozen? ⟨g, k * 9 + 7, none⟩ = false := HO.out.frozenAt _
                  have ef8 : wq.frozen? ⟨g, (k - 1) * 9 + 8, none⟩ = false := HO.out.frozenAt _
                  have ff8 : wq.frozen? ⟨g, k * 9 + 8, none⟩ = false := HO.out.frozenAt _
                  go_region
                  clear e0 f0 ef0 ff0 e1 f1 ef1 ff1 e2 f2 ef2 ff2 e3 f3 ef3 ff3 e4 f4 ef4 ff4 e5 f5 ef5 ff5 e6 f6 ef6 ff6 e7 f7 ef7 ff7 e8 f8 ef8 ff8
                  have HO2 : Hid (((((((((((((((((((wq.setCell ⟨g, (k - 1) * 9, none⟩ (.int .i64 key)).setCell ⟨g, (k - 1) * 9 + 1, none⟩ (.string d)).setCell ⟨g, (k - 1) * 9 + 2, none⟩ (.int .i64 a)).setCell ⟨g, (k - 1) * 9 + 3, none⟩ (.int .i64 s)).setCell ⟨g, (k - 1) * 9 + 4, none⟩ (.bool dead)).setCell ⟨g, (k - 1) * 9 + 5, none⟩ (.int .i64 x)).setCell ⟨g, (k - 1) * 9 + 6, none⟩ (.int .i64 y)).setCell ⟨g, (k - 1) * 9 + 7, none⟩ (.string text)).setCell ⟨g, (k - 1) * 9 + 8, none⟩ (.bool true)).setCell ⟨g, k * 9, none⟩ (.int .i64 key3)).setCell ⟨g, k * 9 + 1, none⟩ (.string d3)).setCell ⟨g, k * 9 + 2, none⟩ (.int .i64 a3)).setCell ⟨g, k * 9 + 3, none⟩ (.int .i64 s3)).setCell ⟨g, k * 9 + 4, none⟩ (.bool dead3)).setCell ⟨g, k * 9 + 5, none⟩ (.int .i64 x3)).setCell ⟨g, k * 9 + 6, none⟩ (.int .i64 y3)).setCell ⟨g, k * 9 + 7, none⟩ (.string text3)).setCell ⟨g, k * 9 + 8, none⟩ (.bool held3)).drew.ownsRow w.heap.size 28 9 (.slice (some ⟨g, 0, none⟩) (ds.length + 1) c3) (ds.length + 1) (rowCells cellsI (midF ds x0 (k - 1)))) := by
                    have h := own_put rowI HO.out (k := k - 1) (by rw [midF_len hk]; omega) x0
                    rw [HX.out, wsets9] at h
                    have h' := own_put rowI h (k := k) (by rw [List.length_set, midF_len hk]; omega) yy
                    rw [HYC.out, HSW.out, wsets9] at h'
                    exact h'.drew
                  replace HB : Hid (Below w.heap.size w ((((((((((((((((((wq.setCell ⟨g, (k - 1) * 9, none⟩ (.int .i64 key)).setCell ⟨g, (k - 1) * 9 + 1, none⟩ (.string d)).setCell ⟨g, (k - 1) * 9 + 2, none⟩ (.int .i64 a)).setCell ⟨g, (k - 1) * 9 + 3, none⟩ (.int .i64 s)).setCell ⟨g, (k - 1) * 9 + 4, none⟩ (.bool dead)).setCell ⟨g, (k - 1) * 9 + 5, none⟩ (.int .i64 x)).setCell ⟨g, (k - 1) * 9 + 6, none⟩ (.int .i64 y)).setCell ⟨g, (k - 1) * 9 + 7, none⟩ (.string text)).setCell ⟨g, (k - 1) * 9 + 8, none⟩ (.bool true)).setCell ⟨g, k * 9, none⟩ (.int .i64 key3)).setCell ⟨g, k * 9 + 1, none⟩ (.string d3)).setCell ⟨g, k * 9 + 2, none⟩ (.int .i64 a3)).setCell ⟨g, k * 9 + 3, none⟩ (.int .i64 s3)).setCell ⟨g, k * 9 + 4, none⟩ (.bool dead3)).setCell ⟨g, k * 9 + 5, none⟩ (.int .i64 x3)).setCell ⟨g, k * 9 + 6, none⟩ (.int .i64 y3)).setCell ⟨g, k * 9 + 7, none⟩ (.string text3)).setCell ⟨g, k * 9 + 8, none⟩ (.bool held3)).drew) := by
                    have h := below_wsets hgB [.int .i64 key, .string d, .int .i64 a, .int .i64 s, .bool dead, .int .i64 x, .int .i64 y, .string text, .bool true] ((k - 1) * 9) wq HB.out
                    rw [wsets9] at h
                    have h' := below_wsets hgB [.int .i64 key3, .string d3, .int .i64 a3, .int .i64 s3, .bool dead3, .int .i64 x3, .int .i64 y3, .string text3, .bool held3] (k * 9) _ h
                    rw [wsets9] at h'
                    exact h'.drew
                  clear HO
                  generalize ((((((((((((((((((wq.setCell ⟨g, (k - 1) * 9, none⟩ (.int .i64 key)).setCell ⟨g, (k - 1) * 9 + 1, none⟩ (.string d)).setCell ⟨g, (k - 1) * 9 + 2, none⟩ (.int .i64 a)).setCell ⟨g, (k - 1) * 9 + 3, none⟩ (.int .i64 s)).setCell ⟨g, (k - 1) * 9 + 4, none⟩ (.bool dead)).setCell ⟨g, (k - 1) * 9 + 5, none⟩ (.int .i64 x)).setCell ⟨g, (k - 1) * 9 + 6, none⟩ (.int .i64 y)).setCell ⟨g, (k - 1) * 9 + 7, none⟩ (.string text)).setCell ⟨g, (k - 1) * 9 + 8, none⟩ (.bool true)).setCell ⟨g, k * 9, none⟩ (.int .i64 key3)).setCell ⟨g, k * 9 + 1, none⟩ (.string d3)).setCell ⟨g, k * 9 + 2, none⟩ (.int .i64 a3)).setCell ⟨g, k * 9 + 3, none⟩ (.int .i64 s3)).setCell ⟨g, k * 9 + 4, none⟩ (.bool dead3)).setCell ⟨g, k * 9 + 5, none⟩ (.int .i64 x3)).setCell ⟨g, k * 9 + 6, none⟩ (.int .i64 y3)).setCell ⟨g, k * 9 + 7, none⟩ (.string text3)).setCell ⟨g, k * 9 + 8, none⟩ (.bool held3)).drew = wb at *
                  go_wp2
                  go_roundw
                  case rel => exact ⟨k - 1, by first | rfl | go_num | (congr 1; omega), by omega, HHN.out hgt, HO2, HB⟩
                  case measure => simp [intOf]; omega
                · have HE := Lib.hid (HMD.out k hk (fun y h1 h2 => by have := HLO.out hgt y h1 h2; omega) HHI.out)
                  have hgt' : decide (key < key3) = false := by simpa using hgt
                  go_wp2
                  go_quiet (fail)
                  go_wp2
                  go_ret2
                  exact rput_ret HG0.out (by rw [← HE.out, midF_len hk]) (by rw [← HE.out]; exact HO.out) (HB.out.trans ⟨rfl, rfl, rfl, Nat.le_refl _, fun _ _ => rfl⟩)
          · skip
            go_simp
            have hb1 : Below v.heap.size v (v.alloc (.cells #[.int .i64 key, .string d, .int .i64 a, .int .i64 s, .bool dead, .int .i64 x, .int .i64 y, .string text, .bool true] 28)).drew := ((Below.refl _ _).alloc (Nat.le_refl _) _).drew
            replace HB := Lib.hid (HB.out.trans (hb1.mono HB.out.size))
            have HX1 : Hid (RowAt cellsI 9 (v.alloc (.cells #[.int .i64 key, .string d, .int .i64 a, .int .i64 s, .bool dead, .int .i64 x, .int .i64 y, .string text, .bool true] 28)).drew (v.heap.size + 1) (some ⟨v.heap.size, 0, none⟩) 1 [x0]) := one_row rowI (by rw [HX.out]; exact heap_alloc_new v _)
            have hX : v.heap.size + 1 ≤ (v.alloc (.cells #[.int .i64 key, .string d, .int .i64 a, .int .i64 s, .bool dead, .int .i64 x, .int .i64 y, .string text, .bool true] 28)).drew.heap.size := by show _ ≤ (v.alloc _).heap.size; simp
            replace k0 := (hb1.cell (p := ⟨w.heap.size, 0, none⟩) kz).trans k0
            replace k1 := (hb1.cell (p := ⟨w.heap.size, 1, none⟩) kz).trans k1
            replace k2 := (hb1.cell (p := ⟨w.heap.size, 2, none⟩) kz).trans k2
            replace k3 := (hb1.cell (p := ⟨w.heap.size, 3, none⟩) kz).trans k3
            replace k4 := (hb1.cell (p := ⟨w.heap.size, 4, none⟩) kz).trans k4
            replace k5 := (hb1.cell (p := ⟨w.heap.size, 5, none⟩) kz).trans k5
            replace k6 := (hb1.cell (p := ⟨w.heap.size, 6, none⟩) kz).trans k6
            replace k7 := (hb1.cell (p := ⟨w.heap.size, 7, none⟩) kz).trans k7
            replace k8 := (hb1.cell (p := ⟨w.heap.size, 8, none⟩) kz).trans k8
            replace kz := Nat.lt_of_lt_of_le kz hb1.size
            have kz0' := kz0
            clear hb1 kz0'
            generalize (v.alloc (.cells #[.int .i64 key, .string d, .int .i64 a, .int .i64 s, .bool dead, .int .i64 x, .int .i64 y, .string text, .bool true] 28)).drew = u1 at *
            generalize v.heap.size = G1 at *
            have kz0 := kz
            refine hK.out _ _ ⟨k0, k1, k2, k3, k4, k5, k6, k7, k8⟩ (fun hHeld => ?_)
            clear hK K
            try simp only [Act.put, List.setIfInBounds_toArray, List.set_cons_zero, List.set_cons_succ]
            refine wpAnyH_ready (rs := [3]) (by kernel_rfl) (by simp) ?_
            refine (AllReadyH.cons (o := { dst := some 54, op := Go.Op.call { callee := Go.Callee.value (Go.Operand.func 24), args := #[Go.Operand.tmp 51, Go.Operand.tmp 53], argTypes := #[22, 3] }, type := 22, pos := "ref.go:46", after := #[{ on := 0, ground := Go.Ground.data }, { on := 2, ground := Go.Ground.data }], guard := none }) rfl (fun K hK => ?_) AllReadyH.nil)
            go_simp
            go_at_call 24
            have HZv := Lib.hid (HZ.out.keep (HB.out.mono hB))
            refine (rdrop_any A n c zs key B _ (Nat.le_trans hB (by exact HB.out.size)) (by exact HZv.out) (by omega)).mono ?_
            rintro e u2 ⟨Ad, cd, rfl, ho, hb⟩
            replace k0 := (hb.cell (p := ⟨w.heap.size, 0, none⟩) kz).trans k0
            replace k1 := (hb.cell (p := ⟨w.heap.size, 1, none⟩) kz).trans k1
            replace k2 := (hb.cell (p := ⟨w.heap.size, 2, none⟩) kz).trans k2
            replace k3 := (hb.cell (p := ⟨w.heap.size, 3, none⟩) kz).trans k3
            replace k4 := (hb.cell (p := ⟨w.heap.size, 4, none⟩) kz).trans k4
            replace k5 := (hb.cell (p := ⟨w.heap.size, 5, none⟩) kz).trans k5
            replace k6 := (hb.cell (p := ⟨w.heap.size, 6, none⟩) kz).trans k6
            replace k7 := (hb.cell (p := ⟨w.heap.size, 7, none⟩) kz).trans k7
            replace k8 := (hb.cell (p := ⟨w.heap.size, 8, none⟩) kz).trans k8
            replace kz := Nat.lt_of_lt_of_le kz hb.size
            replace HX1 := Lib.hid ((HX1.out.more hX).keep (by exact hb))
            have HO := Lib.hid (rown_base ho (by exact HB.out.size))
            have hgk : ∀ g, Value.ownBlock (.slice Ad (rdropF zs key).length cd) = some g → w.heap.size + 1 ≤ g := fun g e => by have h1 : u1.heap.size ≤ g := (ho.lt g e).1; have := kz0; omega
            replace HB := Lib.hid (below_via HB.out hb HB.out.size ⟨rfl, rfl, rfl, rfl⟩)
            clear ho hb
            replace hX := Nat.le_refl u2.heap.size
            refine hK.out _ _ ⟨k0, k1, k2, k3, k4, k5, k6, k7, k8⟩ (fun hHeld => ?_)
            clear hK K
            try simp only [Act.put, List.setIfInBounds_toArray, List.set_cons_zero, List.set_cons_succ]
            refine wpAnyH_ready (rs := [6]) (by kernel_rfl) (by simp) ?_
            refine (AllReadyH.cons (o := { dst := some 57, op := Go.Op.call { callee := Go.Callee.builtin Go.Builtin.append, args := #[Go.Operand.tmp 54, Go.Operand.tmp 56], argTypes := #[22, 22] }, type := 22, pos := "ref.go:46", after := #[{ on := 3, ground := Go.Ground.data }, { on := 5, ground := Go.Ground.data }, { on := 3, ground := Go.Ground.chain }], guard := none }) rfl (fun K hK => ?_) AllReadyH.nil)
            refine step_append_row rowI (B := w.heap.size) (v := .slice Ad (rdropF zs key).length cd) (n := (rdropF zs key).length) (zs := rdropF zs key) (m := 1) (ys := [x0]) (by rfl) _ _ (by rfl) (by rfl) HO.out (by rfl) HX1.out (by omega) (by exact HB.out.size) ?_
            intro A3 c3 w3 hown3 hg3 hat3
            have nk : some w.heap.size ≠ Value.ownBlock (.slice Ad (rdropF zs key).length cd) := fun e => by have := hgk _ e.symm; omega
            replace k0 := (World.cell?_of_block (a := ⟨w.heap.size, 0, none⟩) (hg3.block w.heap.size kz nk)).trans k0
            replace k1 := (World.cell?_of_block (a := ⟨w.heap.size, 1, none⟩) (hg3.block w.heap.size kz nk)).trans k1
            replace k2 := (World.cell?_of_block (a := ⟨w.heap.size, 2, none⟩) (hg3.block w.heap.size kz nk)).trans k2
            replace k3 := (World.cell?_of_block (a := ⟨w.heap.size, 3, none⟩) (hg3.block w.heap.size kz nk)).trans k3
            replace k4 := (World.cell?_of_block (a := ⟨w.heap.size, 4, none⟩) (hg3.block w.heap.size kz nk)).trans k4
            replace k5 := (World.cell?_of_block (a := ⟨w.heap.size, 5, none⟩) (hg3.block w.heap.size kz nk)).trans k5
            replace k6 := (World.cell?_of_block (a := ⟨w.heap.size, 6, none⟩) (hg3.block w.heap.size kz nk)).trans k6
            replace k7 := (World.cell?_of_block (a := ⟨w.heap.size, 7, none⟩) (hg3.block w.heap.size kz nk)).trans k7
            replace k8 := (World.cell?_of_block (a := ⟨w.heap.size, 8, none⟩) (hg3.block w.heap.size kz nk)).trans k8
            replace HB := Lib.hid (HB.out.grown hg3 HB.out.size (fun g e => by have := hgk _ e; omega))
            have HO3 := Lib.hid hown3
            clear hown3 hg3 hat3 nk
            refine hK.out _ _ ⟨k0, k1, k2, k3, k4, k5, k6, k7, k8⟩ (fun hHeld => ?_)
            clear hK K
            try simp only [Act.put, List.setIfInBounds_toArray, List.set_cons_zero, List.set_cons_succ]
            refine wpAnyH_take (i := 7) (oi := { dst := some 8, op := Go.Op.assign (Go.Operand.tmp 57), type := 22, pos := "ref.go:46", after := #[{ on := 6, ground := Go.Ground.data }, { on := 6, ground := Go.Ground.chain }, { on := 0, ground := Go.Ground.phase }, { on := 1, ground := Go.Ground.phase }, { on := 2, ground := Go.Ground.phase }, { on := 3, ground := Go.Ground.phase }, { on := 4, ground := Go.Ground.phase }, { on := 5, ground := Go.Ground.phase }, { on := 6, ground := Go.Ground.phase }], guard := none }) (v := ?_) rfl (by kernel_rfl) (by kernel_rfl) (by kernel_rfl) (fun _ _ _ h => h) (Or.inl ⟨rfl, ?_⟩) (by assumption) ?_
            rotate_left
            · intro wz hSw; (try dsimp only at hSw); go_simp; try (with_reducible rfl)
            try simp only [Act.put, List.setIfInBounds_toArray, List.set_cons_zero, List.set_cons_succ]
            refine wpAnyH_done (by kernel_rfl) ?_ _
            clear kz kz0 hHeld HO HX1 hX hgk HZv
            clear k0 k1 k2 k3 k4 k5 k6 k7 k8
            obtain ⟨g, hgA, hgB⟩ : ∃ g, A3 = some ⟨g, 0, none⟩ ∧ w.heap.size ≤ g := by
              obtain ⟨g, cap, hv, h1, h2⟩ := HO3.out.form (by omega)
              injection hv with hA
              exact ⟨g, hA, h1⟩
            subst hgA
            rw [← midF_last] at HO3
            generalize rdropF zs key = ds at *
            go_wp2
            go_loopw [9] (fun i wr => ∃ k : Nat, i = .int .i64 k ∧ k ≤ ds.length ∧ Hid (∀ j y, k ≤ j → ds[j]? = some y → key < y.key) ∧ Hid (wr.ownsRow w.heap.size 28 9 (.slice (some ⟨g, 0, none⟩) (ds.length + 1) c3) (ds.length + 1) (rowCells cellsI (midF ds x0 k))) ∧ Hid (Below w.heap.size w wr)) (fun i _ => (intOf i).toNat)
            case atStart => exact ⟨ds.length, by go_num, Nat.le_refl _, fun j y hj h => (by have := (List.getElem?_eq_some_iff.mp h).1; omega), HO3, HB⟩
            case round =>
              clear HO3 HB
              obtain ⟨k, rfl, hk, HHI, HO, HB⟩ := hrel
              by_cases h0 : k = 0
              · have HE := Lib.hid (HMD.out k hk (fun y h => absurd h (by omega)) HHI.out)
                have hk0 : decide (0 < k) = false := by simp; omega
                clear h0
                go_wp2
                go_quiet (fail)
                go_wp2
                go_ret2
                exact rput_ret HG0.out (by rw [← HE.out, midF_len hk]) (by rw [← HE.out]; exact HO.out) (HB.out.trans ⟨rfl, rfl, rfl, Nat.le_refl _, fun _ _ => rfl⟩)
              · have hkd : k - 1 < ds.length := by omega
                obtain ⟨yy, hyy⟩ : ∃ yy, ds[k - 1]? = some yy := ⟨_, List.getElem?_eq_getElem hkd⟩
                have hml := midF_len (x := x0) hk
                have HRW := own_row rowI HO.out
                obtain ⟨b1, o1, hA1, hb1, z1, hz1, hc1⟩ := HRW.get (k := k - 1) (by omega)
                obtain ⟨b2, o2, hA2, hb2, z2, hz2, hc2⟩ := HRW.get (k := k) (by omega)
                injection hA1 with hA1
                injection hA1 with q1 q2
                injection hA2 with hA2
                injection hA2 with q3 q4
                subst q1 q2 q3 q4
                obtain rfl : yy = z1 := by rw [midF_before hk (by omega) hyy] at hz1; injection hz1
                obtain rfl : x0 = z2 := by rw [midF_at hk] at hz2; injection hz2
                rw [HX.out] at hc2
                have HSW := Lib.hid (midF_swap (x := x0) hk (by omega) hyy)
                clear HRW hz1 hz2
                have f0 := hc2 0 _ rfl
                have f1 := hc2 1 _ rfl
                have f2 := hc2 2 _ rfl
                have f3 := hc2 3 _ rfl
                have f4 := hc2 4 _ rfl
                have f5 := hc2 5 _ rfl
                have f6 := hc2 6 _ rfl
                have f7 := hc2 7 _ rfl
                have f8 := hc2 8 _ rfl
                obtain ⟨e0, e1, e2, e3, e4, e5, e6, e7, e8⟩ := cellsI_at hc1
                replace e0 : wr.cell? ⟨g, (k - 1) * 9, none⟩ = some (.int .i64 yy.key) := (by have h := e0; simpa using h)
                replace f0 : wr.cell? ⟨g, k * 9, none⟩ = some (.int .i64 key) := (by have h := f0; simpa using h)
                replace e1 : wr.cell? ⟨g, (k - 1) * 9 + 1, none⟩ = some (.string yy.ver.id) := (by have h := e1; simpa using h)
                replace f1 : wr.cell? ⟨g, k * 9 + 1, none⟩ = some (.string d) := (by have h := f1; simpa using h)
                replace e2 : wr.cell? ⟨g, (k - 1) * 9 + 2, none⟩ = some (.int .i64 yy.ver.seq) := (by have h := e2; simpa using h)
                replace f2 : wr.cell? ⟨g, k * 9 + 2, none⟩ = some (.int .i64 a) := (by have h := f2; simpa using h)
                replace e3 : wr.cell? ⟨g, (k - 1) * 9 + 3, none⟩ = some (.int .i64 yy.ver.stamp) := (by have h := e3; simpa using h)
                replace f3 : wr.cell? ⟨g, k * 9 + 3, none⟩ = some (.int .i64 s) := (by have h := f3; simpa using h)
                replace e4 : wr.cell? ⟨g, (k - 1) * 9 + 4, none⟩ = some (.bool yy.dead) := (by have h := e4; simpa using h)
                replace f4 : wr.cell? ⟨g, k * 9 + 4, none⟩ = some (.bool dead) := (by have h := f4; simpa using h)
                replace e5 : wr.cell? ⟨g, (k - 1) * 9 + 5, none⟩ = some (.int .i64 yy.x) := (by have h := e5; simpa using h)
                replace f5 : wr.cell? ⟨g, k * 9 + 5, none⟩ = some (.int .i64 x) := (by have h := f5; simpa using h)
                replace e6 : wr.cell? ⟨g, (k - 1) * 9 + 6, none⟩ = some (.int .i64 yy.y) := (by have h := e6; simpa using h)
                replace f6 : wr.cell? ⟨g, k * 9 + 6, none⟩ = some (.int .i64 y) := (by have h := f6; simpa using h)
                replace e7 : wr.cell? ⟨g, (k - 1) * 9 + 7, none⟩ = some (.string yy.text) := (by have h := e7; simpa using h)
                replace f7 : wr.cell? ⟨g, k * 9 + 7, none⟩ = some (.string text) := (by have h := f7; simpa using h)
                replace e8 : wr.cell? ⟨g, (k - 1) * 9 + 8, none⟩ = some (.bool yy.held) := (by have h := e8; simpa using h)
                replace f8 : wr.cell? ⟨g, k * 9 + 8, none⟩ = some (.bool true) := (by have h := f8; simpa using h)
                have HYC := Lib.hid (show cellsI yy = [.int .i64 yy.key, .string yy.ver.id, .int .i64 yy.ver.seq, .int .i64 yy.ver.stamp, .bool yy.dead, .int .i64 yy.x, .int .i64 yy.y, .string yy.text, .bool yy.held] from rfl)
                have HLO : Hid (¬ key < yy.key → ∀ y, 0 < k → ds[k - 1]? = some y → ¬ key < y.key) := fun h y _ he => by rw [hyy] at he; injection he with he; subst he; exact h
                have HHN : Hid (key < yy.key → ∀ j y, k - 1 ≤ j → ds[j]? = some y → key < y.key) := fun h j y hj he => by
                  rcases Nat.lt_or_ge j k with h1 | h1
                  · obtain rfl : j = k - 1 := by omega
                    rw [hyy] at he
                    injection he with he
                    subst he
                    exact h
                  · exact HHI.out j y h1 he
                generalize yy.key = key3 at *
                generalize yy.ver.id = d3 at *
                generalize yy.ver.seq = a3 at *
                generalize yy.ver.stamp = s3 at *
                generalize yy.dead = dead3 at *
                generalize yy.x = x3 at *
                generalize yy.y = y3 at *
                generalize yy.text = text3 at *
                generalize yy.held = held3 at *
                have hk0 : decide (0 < k) = true := by simp; omega
                have hks : IntKind.i64.wrap ((k : Int) - 1) = ((k - 1 : Nat) : Int) := by rw [IntWalk.i64_in _ (by omega)]; omega
                have hki : (((k - 1 : Nat) : Int)) < (ds.length : Int) + 1 := by omega
                have hki0 : (0 : Int) ≤ ((k - 1 : Nat) : Int) := by omega
                have hkl : (k : Int) < (ds.length : Int) + 1 := by omega
                have hkiN : k - 1 < ds.length + 1 := by omega
                have hklN : k < ds.length + 1 := by omega
                clear hc1 hc2 hyy hb1 hb2 hkd hml
                by_cases hgt : key < key3
                · have hgt' : decide (key < key3) = true := by simpa using hgt
                  go_wp2
                  go_quiet (fail)
                  go_upto_region 8 with fail
                  replace e0 : (wr.drewN nq).cell? ⟨g, (k - 1) * 9, none⟩ = some (.int .i64 key3) := e0
                  replace e1 : (wr.drewN nq).cell? ⟨g, (k - 1) * 9 + 1, none⟩ = some (.string d3) := e1
                  replace e2 : (wr.drewN nq).cell? ⟨g, (k - 1) * 9 + 2, none⟩ = some (.int .i64 a3) := e2
                  replace e3 : (wr.drewN nq).cell? ⟨g, (k - 1) * 9 + 3, none⟩ = some (.int .i64 s3) := e3
                  replace e4 : (wr.drewN nq).cell? ⟨g, (k - 1) * 9 + 4, none⟩ = some (.bool dead3) := e4
                  replace e5 : (wr.drewN nq).cell? ⟨g, (k - 1) * 9 + 5, none⟩ = some (.int .i64 x3) := e5
                  replace e6 : (wr.drewN nq).cell? ⟨g, (k - 1) * 9 + 6, none⟩ = some (.int .i64 y3) := e6
                  replace e7 : (wr.drewN nq).cell? ⟨g, (k - 1) * 9 + 7, none⟩ = some (.string text3) := e7
                  replace e8 : (wr.drewN nq).cell? ⟨g, (k - 1) * 9 + 8, none⟩ = some (.bool held3) := e8
                  replace f0 : (wr.drewN nq).cell? ⟨g, k * 9, none⟩ = some (.int .i64 key) := f0
                  replace f1 : (wr.drewN nq).cell? ⟨g, k * 9 + 1, none⟩ = some (.string d) := f1
                  replace f2 : (wr.drewN nq).cell? ⟨g, k * 9 + 2, none⟩ = some (.int .i64 a) := f2
                  replace f3 : (wr.drewN nq).cell? ⟨g, k * 9 + 3, none⟩ = some (.int .i64 s) := f3
                  replace f4 : (wr.drewN nq).cell? ⟨g, k * 9 + 4, none⟩ = some (.bool dead) := f4
                  replace f5 : (wr.drewN nq).cell? ⟨g, k * 9 + 5, none⟩ = some (.int .i64 x) := f5
                  replace f6 : (wr.drewN nq).cell? ⟨g, k * 9 + 6, none⟩ = some (.int .i64 y) := f6
                  replace f7 : (wr.drewN nq).cell? ⟨g, k * 9 + 7, none⟩ = some (.string text) := f7
                  replace f8 : (wr.drewN nq).cell? ⟨g, k * 9 + 8, none⟩ = some (.bool true) := f8
                  replace HO : Hid ((wr.drewN nq).ownsRow w.heap.size 28 9 (.slice (some ⟨g, 0, none⟩) (ds.length + 1) c3) (ds.length + 1) (rowCells cellsI (midF ds x0 k))) := HO
                  replace HB : Hid (Below w.heap.size w (wr.drewN nq)) := HB.out.trans ⟨rfl, rfl, rfl, Nat.le_refl _, fun _ _ => rfl⟩
                  generalize wr.drewN nq = wq at *
                  have ef0 : wq.frozen? ⟨g, (k - 1) * 9, none⟩ = false := HO.out.frozenAt _
                  have ff0 : wq.frozen? ⟨g, k * 9, none⟩ = false := HO.out.frozenAt _
                  have ef1 : wq.frozen? ⟨g, (k - 1) * 9 + 1, none⟩ = false := HO.out.frozenAt _
                  have ff1 : wq.frozen? ⟨g, k * 9 + 1, none⟩ = false := HO.out.frozenAt _
                  have ef2 : wq.frozen? ⟨g, (k - 1) * 9 + 2, none⟩ = false := HO.out.frozenAt _
                  have ff2 : wq.frozen? ⟨g, k * 9 + 2, none⟩ = false := HO.out.frozenAt _
                  have ef3 : wq.frozen? ⟨g, (k - 1) * 9 + 3, none⟩ = false := HO.out.frozenAt _
                  have ff3 : wq.frozen? ⟨g, k * 9 + 3, none⟩ = false := HO.out.frozenAt _
                  have ef4 : wq.frozen? ⟨g, (k - 1) * 9 + 4, none⟩ = false := HO.out.frozenAt _
                  have ff4 : wq.frozen? ⟨g, k * 9 + 4, none⟩ = false := HO.out.frozenAt _
                  have ef5 : wq.frozen? ⟨g, (k - 1) * 9 + 5, none⟩ = false := HO.out.frozenAt _
                  have ff5 : wq.frozen? ⟨g, k * 9 + 5, none⟩ = false := HO.out.frozenAt _
                  have ef6 : wq.frozen? ⟨g, (k - 1) * 9 + 6, none⟩ = false := HO.out.frozenAt _
                  have ff6 : wq.frozen? ⟨g, k * 9 + 6, none⟩ = false := HO.out.frozenAt _
                  have ef7 : wq.frozen? ⟨g, (k - 1) * 9 + 7, none⟩ = false := HO.out.frozenAt _
                  have ff7 : wq.frozen? ⟨g, k * 9 + 7, none⟩ = false := HO.out.frozenAt _
                  have ef8 : wq.frozen? ⟨g, (k - 1) * 9 + 8, none⟩ = false := HO.out.frozenAt _
                  have ff8 : wq.frozen? ⟨g, k * 9 + 8, none⟩ = false := HO.out.frozenAt _
                  go_region
                  clear e0 f0 ef0 ff0 e1 f1 ef1 ff1 e2 f2 ef2 ff2 e3 f3 ef3 ff3 e4 f4 ef4 ff4 e5 f5 ef5 ff5 e6 f6 ef6 ff6 e7 f7 ef7 ff7 e8 f8 ef8 ff8
                  have HO2 : Hid (((((((((((((((((((wq.setCell ⟨g, (k - 1) * 9, none⟩ (.int .i64 key)).setCell ⟨g, (k - 1) * 9 + 1, none⟩ (.string d)).setCell ⟨g, (k - 1) * 9 + 2, none⟩ (.int .i64 a)).setCell ⟨g, (k - 1) * 9 + 3, none⟩ (.int .i64 s)).setCell ⟨g, (k - 1) * 9 + 4, none⟩ (.bool dead)).setCell ⟨g, (k - 1) * 9 + 5, none⟩ (.int .i64 x)).setCell ⟨g, (k - 1) * 9 + 6, none⟩ (.int .i64 y)).setCell ⟨g, (k - 1) * 9 + 7, none⟩ (.string text)).setCell ⟨g, (k - 1) * 9 + 8, none⟩ (.bool true)).setCell ⟨g, k * 9, none⟩ (.int .i64 key3)).setCell ⟨g, k * 9 + 1, none⟩ (.string d3)).setCell ⟨g, k * 9 + 2, none⟩ (.int .i64 a3)).setCell ⟨g, k * 9 + 3, none⟩ (.int .i64 s3)).setCell ⟨g, k * 9 + 4, none⟩ (.bool dead3)).setCell ⟨g, k * 9 + 5, none⟩ (.int .i64 x3)).setCell ⟨g, k * 9 + 6, none⟩ (.int .i64 y3)).setCell ⟨g, k * 9 + 7, none⟩ (.string text3)).setCell ⟨g, k * 9 + 8, none⟩ (.bool held3)).drew.ownsRow w.heap.size 28 9 (.slice (some ⟨g, 0, none⟩) (ds.length + 1) c3) (ds.length + 1) (rowCells cellsI (midF ds x0 (k - 1)))) := by
                    have h := own_put rowI HO.out (k := k - 1) (by rw [midF_len hk]; omega) x0
                    rw [HX.out, wsets9] at h
                    have h' := own_put rowI h (k := k) (by rw [List.length_set, midF_len hk]; omega) yy
                    rw [HYC.out, HSW.out, wsets9] at h'
                    exact h'.drew
                  replace HB : Hid (Below w.heap.size w ((((((((((((((((((wq.setCell ⟨g, (k - 1) * 9, none⟩ (.int .i64 key)).setCell ⟨g, (k - 1) * 9 + 1, none⟩ (.string d)).setCell ⟨g, (k - 1) * 9 + 2, none⟩ (.int .i64 a)).setCell ⟨g, (k - 1) * 9 + 3, none⟩ (.int .i64 s)).setCell ⟨g, (k - 1) * 9 + 4, none⟩ (.bool dead)).setCell ⟨g, (k - 1) * 9 + 5, none⟩ (.int .i64 x)).setCell ⟨g, (k - 1) * 9 + 6, none⟩ (.int .i64 y)).setCell ⟨g, (k - 1) * 9 + 7, none⟩ (.string text)).setCell ⟨g, (k - 1) * 9 + 8, none⟩ (.bool true)).setCell ⟨g, k * 9, none⟩ (.int .i64 key3)).setCell ⟨g, k * 9 + 1, none⟩ (.string d3)).setCell ⟨g, k * 9 + 2, none⟩ (.int .i64 a3)).setCell ⟨g, k * 9 + 3, none⟩ (.int .i64 s3)).setCell ⟨g, k * 9 + 4, none⟩ (.bool dead3)).setCell ⟨g, k * 9 + 5, none⟩ (.int .i64 x3)).setCell ⟨g, k * 9 + 6, none⟩ (.int .i64 y3)).setCell ⟨g, k * 9 + 7, none⟩ (.string text3)).setCell ⟨g, k * 9 + 8, none⟩ (.bool held3)).drew) := by
                    have h := below_wsets hgB [.int .i64 key, .string d, .int .i64 a, .int .i64 s, .bool dead, .int .i64 x, .int .i64 y, .string text, .bool true] ((k - 1) * 9) wq HB.out
                    rw [wsets9] at h
                    have h' := below_wsets hgB [.int .i64 key3, .string d3, .int .i64 a3, .int .i64 s3, .bool dead3, .int .i64 x3, .int .i64 y3, .string text3, .bool held3] (k * 9) _ h
                    rw [wsets9] at h'
                    exact h'.drew
                  clear HO
                  generalize ((((((((((((((((((wq.setCell ⟨g, (k - 1) * 9, none⟩ (.int .i64 key)).setCell ⟨g, (k - 1) * 9 + 1, none⟩ (.string d)).setCell ⟨g, (k - 1) * 9 + 2, none⟩ (.int .i64 a)).setCell ⟨g, (k - 1) * 9 + 3, none⟩ (.int .i64 s)).setCell ⟨g, (k - 1) * 9 + 4, none⟩ (.bool dead)).setCell ⟨g, (k - 1) * 9 + 5, none⟩ (.int .i64 x)).setCell ⟨g, (k - 1) * 9 + 6, none⟩ (.int .i64 y)).setCell ⟨g, (k - 1) * 9 + 7, none⟩ (.string text)).setCell ⟨g, (k - 1) * 9 + 8, none⟩ (.bool true)).setCell ⟨g, k * 9, none⟩ (.int .i64 key3)).setCell ⟨g, k * 9 + 1, none⟩ (.string d3)).setCell ⟨g, k * 9 + 2, none⟩ (.int .i64 a3)).setCell ⟨g, k * 9 + 3, none⟩ (.int .i64 s3)).setCell ⟨g, k * 9 + 4, none⟩ (.bool dead3)).setCell ⟨g, k * 9 + 5, none⟩ (.int .i64 x3)).setCell ⟨g, k * 9 + 6, none⟩ (.int .i64 y3)).setCell ⟨g, k * 9 + 7, none⟩ (.string text3)).setCell ⟨g, k * 9 + 8, none⟩ (.bool held3)).drew = wb at *
                  go_wp2
                  go_roundw
                  case rel => exact ⟨k - 1, by first | rfl | go_num | (congr 1; omega), by omega, HHN.out hgt, HO2, HB⟩
                  case measure => simp [intOf]; omega
                · have HE := Lib.hid (HMD.out k hk (fun y h1 h2 => by have := HLO.out hgt y h1 h2; omega) HHI.out)
                  have hgt' : decide (key < key3) = false := by simpa using hgt
                  go_wp2
                  go_quiet (fail)
                  go_wp2
                  go_ret2
                  exact rput_ret HG0.out (by rw [← HE.out, midF_len hk]) (by rw [← HE.out]; exact HO.out) (HB.out.trans ⟨rfl, rfl, rfl, Nat.le_refl _, fun _ _ => rfl⟩)
      · obtain rfl : R = false := by have := HV.out; cases held <;> exact this
        clear HV
        have HG0 := Lib.hid (HPN.out rfl)
        clear HPO HPN PO PNO HMD HX
        have HB0 : Hid (Below w.heap.size w (v.alloc (.cells #[] 28))) := HB.out.alloc HB.out.size _
        have HO0 : Hid ((v.alloc (.cells #[] 28)).ownsRow v.heap.size 28 9 (.slice (some ⟨v.heap.size, 0, none⟩) 0 0) 0 (rowCells cellsI [])) := rown_empty 28 v
        have HZ0 : Hid (RowAt cellsI 9 (v.alloc (.cells #[] 28)) B A n zs) := HZ.out.keep (HB0.out.mono hB)
        have hw1 := HB.out.size
        go_wp2_with (at_builtin; refine wpList_append_row rowI (B := v.heap.size) (v := .slice (some ⟨v.heap.size, 0, none⟩) 0 0) (n := 0) (zs := []) (m := n) (ys := zs) rfl _ _ rfl rfl HO0.out rfl HZ0.out (by omega) (by simp) ?_; intro A3 c3 w3 hown3 hg3 _; have HO3 := Lib.hid hown3; have HB3 : Hid (Below w.heap.size w w3) := HB0.out.grown hg3 HB0.out.size (fun k e => by simp [Value.ownBlock] at e; omega); clear hown3 hg3)
        go_ret2
        have h3 := rown_base HO3.out hw1
        rw [Nat.zero_add, List.nil_append] at h3
        exact rput_ret HG0.out HL.out h3 HB3.out
end Go.Proofs.Ytpaiigminmakgaa
