/- matrix.find, Of, Put and Drop. -/
import Derived.Test.YtbbcifcdimfdgaaMc
namespace Go.Proofs.Ytbbcifcdimfdgaa
open Go.RowKit

/-- The ids. -/
def keyL (m : Mat) : List At := m.map fun x => (x.1, 0)
def RisingM (m : Mat) : Prop := Rising (keyL m)
theorem keyL_len (m : Mat) : (keyL m).length = m.length := by simp [keyL]
theorem keyL_get {m : Mat} {k : Nat} {x : ByteArray × List At} (h : m[k]? = some x) : (keyL m).getD k atNil = (x.1, 0) := by
  rw [List.getD_eq_getElem?_getD]
  simp [keyL, h]
theorem risingM_iff (m : Mat) : RisingM m ↔ m.Pairwise fun x y => cmpId x.1 y.1 < 0 := by
  unfold RisingM Rising keyL
  rw [List.pairwise_map]
theorem RisingM.tail {x : ByteArray × List At} {m : Mat} (h : RisingM (x :: m)) : RisingM m := by
  rw [risingM_iff] at *
  exact (List.pairwise_cons.mp h).2
/-- One's Vec. -/
def mOf : Mat → ByteArray → List At
  | [], _ => []
  | x :: r, a => if x.1 = a then x.2 else mOf r a
theorem mOf_none : ∀ {m : Mat} {a : ByteArray}, (∀ x ∈ m, x.1 ≠ a) → mOf m a = []
  | [], _, _ => rfl
  | x :: r, a, h => by rw [mOf, if_neg (h x (by simp))]; exact mOf_none fun y hy => h y (by simp [hy])
theorem mOf_mem : ∀ {m : Mat} {x : ByteArray × List At}, RisingM m → x ∈ m → mOf m x.1 = x.2
  | y :: r, x, h, hx => by
    rcases List.mem_cons.mp hx with rfl | hx'
    · rw [mOf, if_pos rfl]
    · have h1 := (List.pairwise_cons.mp ((risingM_iff _).mp h)).1 x hx'
      rw [mOf, if_neg (fun e => by rw [e, cmpId_self] at h1; omega)]
      exact mOf_mem h.tail hx'
theorem keyL_no {m : Mat} {a : ByteArray} (h : ∀ x ∈ keyL m, x.1 ≠ a) : ∀ x ∈ m, x.1 ≠ a := fun x hx => h (x.1, 0) (by simp only [keyL, List.mem_map]; exact ⟨x, hx, rfl⟩)

set_option maxRecDepth 100000 in
set_option maxHeartbeats 1000000 in
theorem searchM_any (A : Option Addr) (n c : Nat) (m : Mat) (a : ByteArray) (B : Nat) (w : World) (hB : B ≤ w.heap.size) (hz : MatAt w B A n m) (hn : n ≤ 1099511627776) (hs : RisingM m) :
    Calls Try.prog 61 #[.slice A n c, .string a, .func (.func 47) #[] #[]] w fun e w' => Found a (keyL m) e ∧ Below w.heap.size w w' := by
  have hl : (keyL m).length = n := by rw [keyL_len]; exact hz.len
  have HL := Lib.hid hl
  have HS : Hid (Rising (keyL m)) := hs
  have HZ := Lib.hid hz
  clear hl hs hz
  go_enter Try.func61, Try.ntmps61
  go_wp2
  go_loopw [9, 10, 11] (fun i j _ wr => ∃ p q : Nat, p ≤ q ∧ q ≤ n ∧ i = .int .i64 p ∧ j = .int .i64 q ∧ Hid (Parts (keyL m) a p q) ∧ Hid (Below w.heap.size w wr)) (fun i j _ _ => ((intOf j) - (intOf i)).toNat)
  case atStart => exact ⟨0, n, by omega, by omega, rfl, rfl, by show Parts _ _ _ _; rw [← HL.out]; exact parts_start (keyL m) a, Below.refl _ _⟩
  case round =>
    obtain ⟨p, q, hpq, hqn, rfl, rfl, HQ, HB⟩ := hrel
    by_cases hlt : p < q
    · obtain ⟨blk, off, r, rfl, hbB, hmk, hc1, hc2, _⟩ := HZ.out.get (HB.out.mono hB) (k := (p + q) / 2) (by omega)
      have hm : (p + q) / 2 < (keyL m).length := by have := HL.out; omega
      have hkg := keyL_get hmk
      obtain ⟨y, hy⟩ : ∃ y, cmpId r.id a = y := ⟨_, rfl⟩
      by_cases hx : y < 0
      · have HN : Hid (Parts (keyL m) a ((p + q) / 2 + 1) q) := parts_lo HS.out HQ.out hm (by rw [hkg]; show cmpId r.id a < 0; omega)
        have HY := Lib.hid hy
        obtain ⟨id, Ar, cr, v⟩ := r
        simp only at hc1 hc2 HY
        clear hm hy hmk hkg
        go_wp2_with fail
        refine (orderM_is _ _ _ _ _ _ HY _).mono ?_
        rintro e w1 ⟨rfl, hb1⟩
        have HB1 : Hid (Below w.heap.size w w1) := HB.out.trans (hb1.mono HB.out.size)
        clear hb1
        go_wp2
        go_roundw
        case rel => exact ⟨(p + q) / 2 + 1, q, by omega, by omega, by go_num, rfl, HN, HB1⟩
        case measure => simp [intOf]; omega
      · have HN : Hid (Parts (keyL m) a p ((p + q) / 2)) := parts_hi HS.out HQ.out (by rw [hkg]; show ¬ cmpId r.id a < 0; omega)
        have HY := Lib.hid hy
        obtain ⟨id, Ar, cr, v⟩ := r
        simp only at hc1 hc2 HY
        clear hm hy hmk hkg
        go_wp2_with fail
        refine (orderM_is _ _ _ _ _ _ HY _).mono ?_
        rintro e w1 ⟨rfl, hb1⟩
        have HB1 : Hid (Below w.heap.size w w1) := HB.out.trans (hb1.mono HB.out.size)
        clear hb1
        go_wp2
        go_roundw
        case rel => exact ⟨p, (p + q) / 2, by omega, by omega, rfl, by go_num, HN, HB1⟩
        case measure => simp [intOf]; omega
    · obtain rfl : p = q := by omega
      by_cases hpn : p < n
      · obtain ⟨blk, off, r, rfl, hbB, hmk, hc1, hc2, _⟩ := HZ.out.get (HB.out.mono hB) (k := p) hpn
        have hkg := keyL_get hmk
        obtain ⟨y, hy⟩ : ∃ y, cmpId r.id a = y := ⟨_, rfl⟩
        by_cases hx : y = 0
        · have HF : Hid (((keyL m).getD p atNil).1 = a) := by show _ = _; rw [hkg]; exact (cmpId_zero _ _).mp (by show cmpId r.id a = 0; omega)
          have hx' : (y == 0) = true := by simp [hx]
          have HY := Lib.hid hy
          obtain ⟨id, Ar, cr, v⟩ := r
          simp only at hc1 hc2 HY
          clear hy hx hmk hkg
          go_wp2_with fail
          refine (orderM_is _ _ _ _ _ _ HY _).mono ?_
          rintro e w1 ⟨rfl, hb1⟩
          have HB1 : Hid (Below w.heap.size w w1) := HB.out.trans (hb1.mono HB.out.size)
          clear hb1
          go_wp2
          go_ret2
          exact ⟨Or.inl ⟨p, by have := HL.out; omega, HF.out, rfl⟩, HB1.out⟩
        · have HF : Hid (∀ x ∈ keyL m, x.1 ≠ a) := parts_none HS.out HQ.out (fun h => by rw [hkg] at h; have := h.2; change cmpId r.id a = 0 at this; omega)
          have hx' : (y == 0) = false := by simp [hx]
          have HY := Lib.hid hy
          obtain ⟨id, Ar, cr, v⟩ := r
          simp only at hc1 hc2 HY
          clear hy hx hmk hkg
          go_wp2_with fail
          refine (orderM_is _ _ _ _ _ _ HY _).mono ?_
          rintro e w1 ⟨rfl, hb1⟩
          have HB1 : Hid (Below w.heap.size w w1) := HB.out.trans (hb1.mono HB.out.size)
          clear hb1
          go_wp2
          go_ret2
          exact ⟨Or.inr ⟨HF.out, p, rfl⟩, HB1.out⟩
      · have HF : Hid (∀ x ∈ keyL m, x.1 ≠ a) := parts_none HS.out HQ.out (fun h => by have := HL.out; omega)
        go_wp2
        go_ret2
        exact ⟨Or.inr ⟨HF.out, p, rfl⟩, HB.out⟩
/-- A Vec that lies below B is answered. -/
def SeeVec (B : Nat) (v : List At) (w : World) (e : Ending) (w' : World) : Prop := ∃ A c, e = .returned (.slice A v.length c) ∧ v.length ≤ c ∧ VecAt w' B A v.length v ∧ Below w.heap.size w w'
set_option maxRecDepth 100000 in
set_option maxHeartbeats 1000000 in
theorem findM_any (A : Option Addr) (n c : Nat) (m : Mat) (a : ByteArray) (B : Nat) (w : World) (hB : B ≤ w.heap.size) (hz : MatAt w B A n m) (hn : n ≤ 1099511627776) (hs : RisingM m) :
    Calls Try.prog 46 #[.slice A n c, .string a] w (SeeVec B (mOf m a) w) := by
  have HS := Lib.hid hs
  have HZ := Lib.hid hz
  clear hs hz
  go_enter Try.func46, Try.ntmps46
  go_wp2_with fail
  refine (searchM_any A n c m a B _ hB HZ.out hn HS.out).mono ?_
  rintro e w1 ⟨hf, hb1⟩
  have HB1 := Lib.hid hb1
  clear hb1
  rcases hf with ⟨k, hk, hka, rfl⟩ | ⟨hno, k, rfl⟩
  · have hkn : k < n := by rw [keyL_len] at hk; have := HZ.out.len; omega
    obtain ⟨blk, off, r, rfl, hbB, hmk, hc1, hc2, hf⟩ := HZ.out.get (HB1.out.mono hB) (k := k) hkn
    have HR : Hid (mOf m a = r.v) := by
      show _ = _
      rw [keyL_get hmk] at hka
      rw [← hka]
      exact mOf_mem HS.out (List.mem_of_getElem? hmk)
    have HF := Lib.hid hf
    obtain ⟨id, Ar, cr, v⟩ := r
    simp only at hc1 hc2 HR
    clear hka hk hmk hf
    go_wp2
    go_ret
    unfold SeeVec
    rw [HR.out]
    exact ⟨Ar, cr, rfl, HF.out.cap, HF.out.vec, HB1.out⟩
  · have HR : Hid (mOf m a = []) := mOf_none (keyL_no hno)
    clear hno
    go_wp2
    go_ret
    unfold SeeVec
    rw [HR.out]
    exact ⟨none, 0, rfl, Nat.le_refl _, VecAt.nil _ _ _, HB1.out⟩
set_option maxRecDepth 100000 in
set_option maxHeartbeats 1000000 in
theorem ofM_any (A : Option Addr) (n c : Nat) (m : Mat) (a : ByteArray) (B : Nat) (w : World) (hB : B ≤ w.heap.size) (hz : MatAt w B A n m) (hn : n ≤ 1099511627776) (hs : RisingM m) (hl : (mOf m a).length ≤ 1000000) :
    Calls Try.prog 23 #[.slice A n c, .string a] w (OwnVec w.heap.size 67 (mOf m a) w) := by
  have HF := Lib.hid (findM_any A n c m a B w hB hz hn hs)
  generalize mOf m a = v at *
  clear hs hz
  go_enter Try.func23, Try.ntmps23
  go_wp2_with fail
  refine HF.out.mono ?_
  rintro e w1 ⟨A1, c1, rfl, hc1, hv, hb⟩
  have HV := Lib.hid hv
  have HB := Lib.hid hb
  clear hv hb HF
  go_wp2_with fail
  refine (cloneV_any A1 v.length c1 v B w1 (Nat.le_trans hB HB.out.size) HV.out (by omega)).mono ?_
  rintro e w2 ⟨A2, c2, rfl, hc2, ho, hb⟩
  have HO := Lib.hid (own_base ho HB.out.size)
  have HB2 := Lib.hid (HB.out.trans (hb.mono HB.out.size))
  clear ho hb
  go_wp2
  go_ret
  exact ⟨A2, c2, rfl, hc2, HO.out, HB2.out⟩

/-- With one's Vec. -/
def putM (m : Mat) (a : ByteArray) (v : List At) : Mat := if rightL a.data.toList = true ∧ v ≠ [] then mergeF m [(a, v)] else m
theorem one_mat {w : World} {a : ByteArray} {A : Option Addr} {c : Nat} {v : List At} (hv : VecAt w w.heap.size A v.length v) (hc : v.length ≤ c) :
    MatAt (w.alloc (.cells #[.string a, .slice A v.length c] 63)) (w.heap.size + 1) (some ⟨w.heap.size, 0, none⟩) 1 [(a, v)] :=
  ⟨[⟨a, A, c, v⟩], rfl, one_row rowM (heap_alloc_new w _), fun r hr => by
    simp at hr
    subst hr
    exact ⟨(hv.keep ((Below.refl _ _).alloc (Nat.le_refl _) _)).more (by omega), hc⟩⟩
theorem putM_len (m : Mat) (a : ByteArray) (v : List At) : (putM m a v).length ≤ m.length + 1 := by
  unfold putM
  split
  · have := merge_len m [(a, v)]; simpa using this
  · omega
set_option maxRecDepth 100000 in
set_option maxHeartbeats 2000000 in
theorem putM_any (A : Option Addr) (n c : Nat) (m : Mat) (a : ByteArray) (A' : Option Addr) (c' : Nat) (v : List At) (w : World) (hz : MatAt w w.heap.size A n m) (hy : VecAt w w.heap.size A' v.length v) (hnc : n ≤ c) (hvc : v.length ≤ c') (hn : n ≤ 100000) (hv : ∀ x ∈ m, x.2.length ≤ 100000) (hvl : v.length ≤ 100000) :
    Calls Try.prog 14 #[.slice A n c, .string a, .slice A' v.length c'] w (OwnMat 63 (putM m a v) w) := by
  have hb : Below w.heap.size w (w.alloc (.cells #[.string a, .slice A' v.length c'] 63)) := (Below.refl _ _).alloc (Nat.le_refl _) _
  have HM0 := Lib.hid (mergeM_any A n c m none 0 0 [] w.heap.size w (Nat.le_refl _) hz (MatAt.nil _ _ _) hnc (Nat.le_refl _) (by omega) hv (by simp))
  have HM1 := Lib.hid (mergeM_any A n c m (some ⟨w.heap.size, 0, none⟩) 1 1 [(a, v)] (w.heap.size + 1) (w.alloc (.cells #[.string a, .slice A' v.length c'] 63)) (by simp) ((hz.keep hb).more (by omega)) (one_mat hy hvc) hnc (Nat.le_refl _) (by omega) hv (fun x hx => by simp at hx; subst hx; exact hvl))
  have HB := Lib.hid hb
  rw [mergeF_nil] at HM0
  have HP : Hid (putM m a v = if rightL a.data.toList = true ∧ v ≠ [] then mergeF m [(a, v)] else m) := rfl
  generalize putM m a v = r at *
  generalize mergeF m [(a, v)] = t at *
  clear hz hy hb
  obtain ⟨b, hb⟩ : ∃ b, rightL a.data.toList = b := ⟨_, rfl⟩
  have HR := Lib.hid hb
  rw [hb] at HP
  clear hb
  cases b with
  | false =>
    have HE : Hid (r = m) := by show _ = _; rw [HP.out, if_neg (by simp)]
    rw [HE.out]
    clear HM1 HP HE
    go_enter Try.func14, Try.ntmps14
    go_wp2_with (go_at_call 36; refine (right_is _ false HR _).mono ?_; rintro e w' ⟨rfl, rfl⟩)
    refine HM0.out.mono ?_
    rintro e w1 ⟨A1, c1, rfl, ho, hb⟩
    have HO := Lib.hid ho
    have HB1 := Lib.hid hb
    clear ho hb
    go_wp2
    go_ret
    exact ⟨A1, c1, rfl, HO.out, HB1.out⟩
  | true =>
    rcases Nat.eq_zero_or_pos v.length with h0 | h0
    · have HE : Hid (r = m) := by show _ = _; rw [HP.out, if_neg (fun h => h.2 (List.eq_nil_of_length_eq_zero h0))]
      rw [HE.out, h0]
      clear HM1 HP HE
      go_enter Try.func14, Try.ntmps14
      go_wp2_with (go_at_call 36; refine (right_is _ true HR _).mono ?_; rintro e w' ⟨rfl, rfl⟩)
      refine HM0.out.mono ?_
      rintro e w1 ⟨A1, c1, rfl, ho, hb⟩
      have HO := Lib.hid ho
      have HB1 := Lib.hid hb
      clear ho hb
      go_wp2
      go_ret
      exact ⟨A1, c1, rfl, HO.out, HB1.out⟩
    · have HE : Hid (r = t) := by show _ = _; rw [HP.out, if_pos ⟨rfl, fun e => by rw [e] at h0; simp at h0⟩]
      rw [HE.out]
      have hg : ((v.length : Int) == 0) = false := by simp; intro e; rw [e] at h0; simp at h0
      generalize v.length = L at *
      clear HM0 HP HE
      go_enter Try.func14, Try.ntmps14
      go_wp2_with (go_at_call 36; refine (right_is _ true HR _).mono ?_; rintro e w' ⟨rfl, rfl⟩)
      refine HM1.out.mono ?_
      rintro e w1 ⟨A1, c1, rfl, ho, hb⟩
      have HO := Lib.hid (ho.base HB.out.size)
      have HB1 := Lib.hid (HB.out.trans (hb.mono HB.out.size))
      clear ho hb
      go_wp2
      go_ret
      exact ⟨A1, c1, rfl, HO.out, HB1.out⟩
end Go.Proofs.Ytbbcifcdimfdgaa
