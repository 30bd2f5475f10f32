/- know.find, Of and Has. -/
import Derived.Test.YthfdjebeblmmdaaHEc
namespace Go.Proofs.Ythfdjebeblmmdaa
open Go.RowKit

/-- The ids. -/
def keyL (m : Mat) : List At := m.map fun x => (x.1, 0)
def RisingM (m : Mat) : Prop := Rising (keyL m)
theorem keyL_len (m : Mat) : (keyL m).length = m.length := by simp [keyL]
theorem keyL_get {m : Mat} {k : Nat} {x : ByteArray × (Int × List Int)} (h : m[k]? = some x) : (keyL m).getD k atNil = (x.1, 0) := by
  rw [List.getD_eq_getElem?_getD]
  simp [keyL, h]
theorem risingM_iff (m : Mat) : RisingM m ↔ m.Pairwise fun x y => cmpId x.1 y.1 < 0 := by
  unfold RisingM Rising keyL
  rw [List.pairwise_map]
theorem RisingM.tail {x : ByteArray × (Int × List Int)} {m : Mat} (h : RisingM (x :: m)) : RisingM m := by
  rw [risingM_iff] at *
  exact (List.pairwise_cons.mp h).2
/-- One's numbers. -/
def mOf : Mat → ByteArray → Int × List Int
  | [], _ => (0, [])
  | x :: r, a => if x.1 = a then x.2 else mOf r a
theorem mOf_none : ∀ {m : Mat} {a : ByteArray}, (∀ x ∈ m, x.1 ≠ a) → mOf m a = (0, [])
  | [], _, _ => rfl
  | x :: r, a, h => by rw [mOf, if_neg (h x (by simp))]; exact mOf_none fun y hy => h y (by simp [hy])
theorem mOf_mem : ∀ {m : Mat} {x : ByteArray × (Int × List Int)}, RisingM m → x ∈ m → mOf m x.1 = x.2
  | y :: r, x, h, hx => by
    rcases List.mem_cons.mp hx with rfl | hx'
    · rw [mOf, if_pos rfl]
    · have h1 := (List.pairwise_cons.mp ((risingM_iff _).mp h)).1 x hx'
      rw [mOf, if_neg (fun e => by rw [e, cmpId_self] at h1; omega)]
      exact mOf_mem h.tail hx'
theorem keyL_no {m : Mat} {a : ByteArray} (h : ∀ x ∈ keyL m, x.1 ≠ a) : ∀ x ∈ m, x.1 ≠ a := fun x hx => h (x.1, 0) (by simp only [keyL, List.mem_map]; exact ⟨x, hx, rfl⟩)

set_option maxRecDepth 100000 in
set_option maxHeartbeats 1000000 in
theorem searchM_any (A : Option Addr) (n c : Nat) (m : Mat) (a : ByteArray) (B : Nat) (w : World) (hB : B ≤ w.heap.size) (hz : MatAt w B A n m) (hn : n ≤ 1099511627776) (hs : RisingM m) :
    Calls Try.prog 81 #[.slice A n c, .string a, .func (.func 66) #[] #[]] w fun e w' => Found a (keyL m) e ∧ Below w.heap.size w w' := by
  have hl : (keyL m).length = n := by rw [keyL_len]; exact hz.len
  have HL := Lib.hid hl
  have HS : Hid (Rising (keyL m)) := hs
  have HZ := Lib.hid hz
  clear hl hs hz
  go_enter Try.func81, Try.ntmps81
  go_wp2
  go_loopw [9, 10, 11] (fun i j _ wr => ∃ p q : Nat, p ≤ q ∧ q ≤ n ∧ i = .int .i64 p ∧ j = .int .i64 q ∧ Hid (Parts (keyL m) a p q) ∧ Hid (Below w.heap.size w wr)) (fun i j _ _ => ((intOf j) - (intOf i)).toNat)
  case atStart => exact ⟨0, n, by omega, by omega, rfl, rfl, by show Parts _ _ _ _; rw [← HL.out]; exact parts_start (keyL m) a, Below.refl _ _⟩
  case round =>
    obtain ⟨p, q, hpq, hqn, rfl, rfl, HQ, HB⟩ := hrel
    by_cases hlt : p < q
    · obtain ⟨blk, off, r, rfl, hbB, hmk, hc1, hc2, hc3, _⟩ := HZ.out.get (HB.out.mono hB) (k := (p + q) / 2) (by omega)
      have hm : (p + q) / 2 < (keyL m).length := by have := HL.out; omega
      have hkg := keyL_get hmk
      obtain ⟨y, hy⟩ : ∃ y, cmpId r.id a = y := ⟨_, rfl⟩
      by_cases hx : y < 0
      · have HN : Hid (Parts (keyL m) a ((p + q) / 2 + 1) q) := parts_lo HS.out HQ.out hm (by rw [hkg]; show cmpId r.id a < 0; omega)
        have HY := Lib.hid hy
        obtain ⟨id, u, Ar, cr, v⟩ := r
        simp only at hc1 hc2 hc3 HY
        clear hm hy hmk hkg
        go_wp2_with fail
        refine (orderM_is _ _ _ _ _ _ _ HY _).mono ?_
        rintro e w1 ⟨rfl, hb1⟩
        have HB1 : Hid (Below w.heap.size w w1) := HB.out.trans (hb1.mono HB.out.size)
        clear hb1
        go_wp2
        go_roundw
        case rel => exact ⟨(p + q) / 2 + 1, q, by omega, by omega, by go_num, rfl, HN, HB1⟩
        case measure => simp [intOf]; omega
      · have HN : Hid (Parts (keyL m) a p ((p + q) / 2)) := parts_hi HS.out HQ.out (by rw [hkg]; show ¬ cmpId r.id a < 0; omega)
        have HY := Lib.hid hy
        obtain ⟨id, u, Ar, cr, v⟩ := r
        simp only at hc1 hc2 hc3 HY
        clear hm hy hmk hkg
        go_wp2_with fail
        refine (orderM_is _ _ _ _ _ _ _ HY _).mono ?_
        rintro e w1 ⟨rfl, hb1⟩
        have HB1 : Hid (Below w.heap.size w w1) := HB.out.trans (hb1.mono HB.out.size)
        clear hb1
        go_wp2
        go_roundw
        case rel => exact ⟨p, (p + q) / 2, by omega, by omega, rfl, by go_num, HN, HB1⟩
        case measure => simp [intOf]; omega
    · obtain rfl : p = q := by omega
      by_cases hpn : p < n
      · obtain ⟨blk, off, r, rfl, hbB, hmk, hc1, hc2, hc3, _⟩ := HZ.out.get (HB.out.mono hB) (k := p) hpn
        have hkg := keyL_get hmk
        obtain ⟨y, hy⟩ : ∃ y, cmpId r.id a = y := ⟨_, rfl⟩
        by_cases hx : y = 0
        · have HF : Hid (((keyL m).getD p atNil).1 = a) := by show _ = _; rw [hkg]; exact (cmpId_zero _ _).mp (by show cmpId r.id a = 0; omega)
          have hx' : (y == 0) = true := by simp [hx]
          have HY := Lib.hid hy
          obtain ⟨id, u, Ar, cr, v⟩ := r
          simp only at hc1 hc2 hc3 HY
          clear hy hx hmk hkg
          go_wp2_with fail
          refine (orderM_is _ _ _ _ _ _ _ HY _).mono ?_
          rintro e w1 ⟨rfl, hb1⟩
          have HB1 : Hid (Below w.heap.size w w1) := HB.out.trans (hb1.mono HB.out.size)
          clear hb1
          go_wp2
          go_ret2
          exact ⟨Or.inl ⟨p, by have := HL.out; omega, HF.out, rfl⟩, HB1.out⟩
        · have HF : Hid (∀ x ∈ keyL m, x.1 ≠ a) := parts_none HS.out HQ.out (fun h => by rw [hkg] at h; have := h.2; change cmpId r.id a = 0 at this; omega)
          have hx' : (y == 0) = false := by simp [hx]
          have HY := Lib.hid hy
          obtain ⟨id, u, Ar, cr, v⟩ := r
          simp only at hc1 hc2 hc3 HY
          clear hy hx hmk hkg
          go_wp2_with fail
          refine (orderM_is _ _ _ _ _ _ _ HY _).mono ?_
          rintro e w1 ⟨rfl, hb1⟩
          have HB1 : Hid (Below w.heap.size w w1) := HB.out.trans (hb1.mono HB.out.size)
          clear hb1
          go_wp2
          go_ret2
          exact ⟨Or.inr ⟨HF.out, p, rfl⟩, HB1.out⟩
      · have HF : Hid (∀ x ∈ keyL m, x.1 ≠ a) := parts_none HS.out HQ.out (fun h => by have := HL.out; omega)
        go_wp2
        go_ret2
        exact ⟨Or.inr ⟨HF.out, p, rfl⟩, HB.out⟩
/-- A Span that lies below B is answered. -/
def SeeS (B : Nat) (s : Int × List Int) (w : World) (e : Ending) (w' : World) : Prop := ∃ A c, e = .returned (.agg #[.int .i64 s.1, .slice A s.2.length c]) ∧ s.2.length ≤ c ∧ Sp.IntsAt w' B A s.2.length s.2 ∧ Below w.heap.size w w'
set_option maxRecDepth 100000 in
set_option maxHeartbeats 1000000 in
theorem findM_any (A : Option Addr) (n c : Nat) (m : Mat) (a : ByteArray) (B : Nat) (w : World) (hB : B ≤ w.heap.size) (hz : MatAt w B A n m) (hn : n ≤ 1099511627776) (hs : RisingM m) :
    Calls Try.prog 63 #[.slice A n c, .string a] w (SeeS B (mOf m a) w) := by
  have HS := Lib.hid hs
  have HZ := Lib.hid hz
  clear hs hz
  go_enter Try.func63, Try.ntmps63
  go_wp2_with fail
  refine (searchM_any A n c m a B _ (by simp; omega) (HZ.out.keep ((Below.refl _ _).alloc hB _)) hn HS.out).mono ?_
  rintro e w1 ⟨hf, hb1⟩
  have HB1 : Hid (Below w.heap.size w w1) := ((Below.refl _ _).alloc (Nat.le_refl _) _).trans (hb1.mono (by simp))
  obtain ⟨hcc, hff⟩ := Sp.below_cells hb1
  have hsz : w.heap.size < w1.heap.size := by have := hb1.size; simp at this; omega
  have k0 : w1.cell? ⟨w.heap.size, 0, none⟩ = some (.int .i64 0) := (hcc _ _ (by simp)).trans (by simp [go_sem])
  have k1 : w1.cell? ⟨w.heap.size, 1, none⟩ = some (.slice none 0 0) := (hcc _ _ (by simp)).trans (by simp [go_sem])
  have f0 : w1.frozen? ⟨w.heap.size, 0, none⟩ = false := (hff _ _ (by simp)).trans (by simp [go_sem])
  have f1 : w1.frozen? ⟨w.heap.size, 1, none⟩ = false := (hff _ _ (by simp)).trans (by simp [go_sem])
  clear hb1 hcc hff
  rcases hf with ⟨k, hk, hka, rfl⟩ | ⟨hno, k, rfl⟩
  · have hkn : k < n := by rw [keyL_len] at hk; have := HZ.out.len; omega
    obtain ⟨blk, off, r, rfl, hbB, hmk, hc1, hc2, hc3, hf⟩ := HZ.out.get (HB1.out.mono hB) (k := k) hkn
    have HR : Hid (mOf m a = (r.u, r.v)) := by
      show _ = _
      rw [keyL_get hmk] at hka
      rw [← hka]
      exact mOf_mem HS.out (List.mem_of_getElem? hmk)
    have HF := Lib.hid hf
    obtain ⟨id, u, Ar, cr, v⟩ := r
    simp only at hc1 hc2 hc3 HR
    clear hka hk hmk hf
    go_wp2
    refine bodyPost_ret (v := .agg #[.int .i64 u, .slice Ar v.length cr]) ?_ rfl ?_
    · simp [results, Try.results63, go_sem, k0, k1]
    · unfold SeeS
      rw [HR.out]
      exact ⟨Ar, cr, rfl, HF.out.cap, HF.out.vec.keep (((Below.refl _ _).setCell (p := ⟨w.heap.size, 0, none⟩) hB _).setCell (p := ⟨w.heap.size, 1, none⟩) hB _), (HB1.out.setCell (p := ⟨w.heap.size, 0, none⟩) (Nat.le_refl _) _).setCell (p := ⟨w.heap.size, 1, none⟩) (Nat.le_refl _) _⟩
  · have HR : Hid (mOf m a = (0, [])) := mOf_none (keyL_no hno)
    clear hno
    go_wp2
    refine bodyPost_ret (v := .agg #[.int .i64 0, .slice none 0 0]) ?_ rfl ?_
    · simp [results, Try.results63, go_sem, k0, k1]
    · unfold SeeS
      rw [HR.out]
      exact ⟨none, 0, rfl, Nat.le_refl _, Sp.IntsAt.nil _ _ _, (HB1.out.setCell (p := ⟨w.heap.size, 0, none⟩) (Nat.le_refl _) _).setCell (p := ⟨w.heap.size, 1, none⟩) (Nat.le_refl _) _⟩
theorem okS_nil : OkS (0, []) := ⟨⟨Int.le_refl _, List.Pairwise.nil, by simp⟩, by simp, by simp⟩
theorem mOf_okS {m : Mat} (hs : RisingM m) (h : ∀ x ∈ m, OkS x.2) (a : ByteArray) : OkS (mOf m a) := by
  by_cases he : ∃ x ∈ m, x.1 = a
  · obtain ⟨x, hx, rfl⟩ := he
    rw [mOf_mem hs hx]; exact h x hx
  · rw [mOf_none (fun x hx e => he ⟨x, hx, e⟩)]; exact okS_nil
set_option maxRecDepth 100000 in
set_option maxHeartbeats 1000000 in
theorem ofM_any (A : Option Addr) (n c : Nat) (m : Mat) (a : ByteArray) (B : Nat) (w : World) (hB : B ≤ w.heap.size) (hz : MatAt w B A n m) (hn : n ≤ 1099511627776) (hs : RisingM m) (hl : OkS (mOf m a)) :
    Calls Try.prog 22 #[.slice A n c, .string a] w (OwnS (mOf m a) w) := by
  have HF : Hid (∀ w2, Below w.heap.size w w2 → Calls Try.prog 63 #[.slice A n c, .string a] w2 (SeeS B (mOf m a) w2)) := fun w2 hb => findM_any A n c m a B w2 (Nat.le_trans hB hb.size) (hz.keep (hb.mono hB)) hn hs
  have HL := Lib.hid hl
  generalize mOf m a = s at *
  clear hs hz hl
  obtain ⟨u, v⟩ := s
  go_enter Try.func22, Try.ntmps22
  go_wp2_with fail
  refine (HF.out _ ((Below.refl _ _).alloc (Nat.le_refl _) _)).mono ?_
  rintro e w1 ⟨A1, c1, rfl, hc1, hv, hb⟩
  dsimp only at hc1 hv ⊢
  have HB0 : Hid (Below w.heap.size w w1) := ((Below.refl _ _).alloc (Nat.le_refl _) _).trans (hb.mono (by simp))
  obtain ⟨hcc, hff⟩ := Sp.below_cells hb
  have hsz : w.heap.size < w1.heap.size := by have := hb.size; simp at this; omega
  have k0 : w1.cell? ⟨w.heap.size, 0, none⟩ = some (.int .i64 0) := (hcc _ _ (by simp)).trans (by simp [go_sem])
  have k1 : w1.cell? ⟨w.heap.size, 1, none⟩ = some (.slice none 0 0) := (hcc _ _ (by simp)).trans (by simp [go_sem])
  have f0 : w1.frozen? ⟨w.heap.size, 0, none⟩ = false := (hff _ _ (by simp)).trans (by simp [go_sem])
  have f1 : w1.frozen? ⟨w.heap.size, 1, none⟩ = false := (hff _ _ (by simp)).trans (by simp [go_sem])
  have HV := Lib.hid hv
  clear hv hb HF hcc hff
  go_wp2_with fail
  refine (cloneS_any u A1 c1 v B w1 (by omega) HV.out hc1 HL.out).mono ?_
  rintro e w2 ⟨A2, c2, rfl, hc2, ho, hb⟩
  dsimp only at hc2 ho ⊢
  have HO := Lib.hid ho
  have HB2 := Lib.hid (HB0.out.trans (hb.mono (Nat.le_of_lt hsz)))
  replace k0 := (hb.cell (p := ⟨w.heap.size, 0, none⟩) hsz).trans k0
  replace k1 := (hb.cell (p := ⟨w.heap.size, 1, none⟩) hsz).trans k1
  replace f0 := (hb.frozen (p := ⟨w.heap.size, 0, none⟩) hsz).trans f0
  replace f1 := (hb.frozen (p := ⟨w.heap.size, 1, none⟩) hsz).trans f1
  clear ho hb HV
  go_wp2
  refine bodyPost_ret (v := .agg #[.int .i64 u, .slice A2 v.length c2]) ?_ rfl ?_
  · simp [results, Try.results22, go_sem, k0, k1]
  · have hne : ∀ p : Addr, p.block = w.heap.size → Value.ownBlock (.slice A2 v.length c2) ≠ some p.block := fun p hp e => by
      have := (HO.out.lt _ e).1
      omega
    exact ⟨A2, c2, rfl, hc2, rown_base (Sp.own_setCell (Sp.own_setCell HO.out (p := ⟨w.heap.size, 0, none⟩) (hne _ rfl) _) (p := ⟨w.heap.size, 1, none⟩) (hne _ rfl) _) (Nat.le_of_lt hsz), (HB2.out.setCell (p := ⟨w.heap.size, 0, none⟩) (Nat.le_refl _) _).setCell (p := ⟨w.heap.size, 1, none⟩) (Nat.le_refl _) _⟩
set_option maxRecDepth 100000 in
set_option maxHeartbeats 1000000 in
theorem hasM_any (A : Option Addr) (n c : Nat) (m : Mat) (a : ByteArray) (t : Int) (B : Nat) (w : World) (hB : B ≤ w.heap.size) (hz : MatAt w B A n m) (hn : n ≤ 1099511627776) (hs : RisingM m) (hl : OkS (mOf m a)) :
    Calls Try.prog 24 #[.slice A n c, .string a, .int .i64 t] w fun e w' => e = .returned (.bool (Sp.hasOf (mOf m a).1 (mOf m a).2 t)) ∧ Below w.heap.size w w' := by
  have HF := Lib.hid (findM_any A n c m a B w hB hz hn hs)
  have HL := Lib.hid hl
  generalize mOf m a = s at *
  clear hs hz hl
  obtain ⟨u, v⟩ := s
  have HP : Hid (∀ w2 A2 c2, Sp.IntsAt w2 B A2 v.length v → B ≤ w2.heap.size → Calls Try.prog 64 #[.agg #[.int .i64 u, .slice A2 v.length c2], .int .i64 t] w2 fun e w' => e = .returned (.bool (Sp.hasOf u v t)) ∧ Below w2.heap.size w2 w') := fun w2 A2 c2 h hb => Sp.has_any u A2 v.length c2 v t B w2 hb h (by have := HL.out.len; simp at this; omega) HL.out.ok.2.1
  dsimp only
  generalize Sp.hasOf u v t = d at *
  go_enter Try.func24, Try.ntmps24
  go_wp2_with fail
  refine HF.out.mono ?_
  rintro e w1 ⟨A1, c1, rfl, hc1, hv, hb⟩
  dsimp only at hc1 hv ⊢
  have HQ := Lib.hid (HP.out w1 A1 c1 hv (Nat.le_trans hB hb.size))
  have HB := Lib.hid hb
  clear hv hb HF HP HL
  go_wp2_with fail
  refine HQ.out.mono ?_
  rintro e w2 ⟨rfl, hb⟩
  have HB2 := Lib.hid (HB.out.trans (hb.mono HB.out.size))
  clear hb HQ
  go_wp2
  go_ret
  exact ⟨rfl, HB2.out⟩
end Go.Proofs.Ythfdjebeblmmdaa
