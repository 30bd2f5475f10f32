/- The law KnowParts walked. -/
import Derived.Test.YthfdjebeblmmdaaHEw
import Derived.Test.YthfdjebeblmmdaaHEt
namespace Go.Proofs.Ythfdjebeblmmdaa
open Go.RowKit

/-- Without some. -/
def restM (m : Mat) (l : List ByteArray) : Mat := m.filter fun x => !hasT l x.1
theorem restM_len (m : Mat) (l : List ByteArray) : (restM m l).length ≤ m.length := List.length_filter_le _ _
theorem restM_nil (m : Mat) : restM m [] = m := by unfold restM hasT; simp
theorem restM_step (m : Mat) {l : List ByteArray} {k : Nat} {s : ByteArray} (h : l[k]? = some s) : dropM (restM m (l.take k)) s = restM m (l.take (k + 1)) := by
  unfold dropM restM
  rw [List.filter_filter]
  refine List.filter_congr fun x _ => ?_
  rw [Bool.eq_iff_iff]
  simp only [Bool.and_eq_true, decide_eq_true_eq, Bool.not_eq_true', Bool.eq_false_iff, ne_eq, hasT_iff, take_mem h, not_or]
  exact And.comm
theorem mOf_filter (p : ByteArray → Bool) (a : ByteArray) : ∀ m : Mat, mOf (m.filter fun x => p x.1) a = if p a = true then mOf m a else (0, [])
  | [] => by simp [mOf]
  | x :: r => by
    rw [List.filter_cons, mOf]
    by_cases e : x.1 = a
    · subst e
      cases hp : p x.1 with
      | true => simp [mOf]
      | false => rw [if_neg (by simp), mOf_filter p x.1 r]; simp [hp]
    · rw [if_neg e, ← mOf_filter p a r]
      cases hp : p x.1 with
      | true => rw [if_pos rfl, mOf, if_neg e]
      | false => rw [if_neg (by simp)]
theorem parts_union {k : Nat} {m : Mat} (h : GK k m) (l : List ByteArray) : mergeF (onlyM m l) (restM m l) = m := by
  have h1 : GK k (onlyM m l) := h.filter _
  have h2 : GK k (restM m l) := h.filter _
  refine (h1.merge h2).ext h fun a => ?_
  rw [mOf_merge h1 h2]
  unfold onlyM restM
  rw [mOf_filter (fun s => hasT l s) a m, mOf_filter (fun s => !hasT l s) a m]
  cases hasT l a with
  | true => simp only [if_true, Bool.not_true, Bool.false_eq_true, if_false]; exact (h.of a).union_nil
  | false => simp only [if_true, Bool.not_false, Bool.false_eq_true, if_false]; exact (h.of a).nil_union
theorem sum_parts (f : ByteArray × (Int × List Int) → Int) (p : ByteArray × (Int × List Int) → Bool) : ∀ m : Mat, ((m.filter p).map f).sum + ((m.filter fun x => !p x).map f).sum = (m.map f).sum
  | [] => by simp
  | x :: r => by
    have ih := sum_parts f p r
    rw [List.filter_cons, List.filter_cons]
    cases hp : p x with
    | true => simp only [if_true, Bool.not_true, Bool.false_eq_true, if_false, List.map_cons, List.sum_cons]; omega
    | false => simp only [if_true, Bool.not_false, Bool.false_eq_true, if_false, List.map_cons, List.sum_cons]; omega
theorem extras_bd {k : Nat} {m : Mat} (h : GK k m) (hk : k ≤ 100000) (hl : List.length m ≤ 10) : 0 ≤ extrasM m ∧ extrasM m ≤ 20000000 := by
  have h1 := sum_bd (fun x => (x.2.2.length : Int)) 2000000 (by omega) m (fun x hx => by have := (h.okS hk x hx).len; omega)
  unfold extrasM
  omega
/-- Texts of the call's own, no longer than a machine may have them. -/
structure OwnTs (w : World) (B : Nat) (A : Option Addr) (c : Nat) (l : List ByteArray) : Prop where
  own : w.ownsRow B 9 1 (.slice A l.length c) l.length (rowCells cellsT l)
  short : ∀ s ∈ l, s.size ≤ 9223372036854775807
set_option maxRecDepth 100000 in
set_option maxHeartbeats 16000000 in
theorem knowParts_walk (A0 : Option Addr) (n0 c0 : Nat) (z0 : Mat) (A1 : Option Addr) (n1 c1 : Nat) (z1 : List ByteArray) (w : World) (hz0 : MatAt w w.heap.size A0 n0 z0) (_hc0 : n0 ≤ c0) (hs0 : ShortM z0) (_hn0 : c0 ≤ 9223372036854775807) (hz1 : RowAt cellsT 1 w w.heap.size A1 n1 z1) (_hc1 : n1 ≤ c1) (hs1 : ∀ s ∈ z1, s.size ≤ 9223372036854775807) (_hn1 : c1 ≤ 9223372036854775807) :
    Calls Try.prog 8 #[.slice A0 n0 c0, .slice A1 n1 c1] w fun e w' => e = .returned (.bool true) ∧ Below w.heap.size w w' := by
  have HZ0 := Lib.hid hz0
  have HS0 := Lib.hid hs0
  have HZ1 := Lib.hid hz1
  have HS1 := Lib.hid hs1
  clear hz0 hs0 hz1 hs1
  go_enter Try.func8, Try.ntmps8
  go_wp2_with fail
  refine (rfixM_any A0 n0 c0 z0 w.heap.size _ (Nat.le_refl _) HZ0.out HS0.out).mono ?_
  rintro e w1 ⟨r, sr, lr, Ar, cr, rfl, ho, hb⟩
  have hcr := ho.cap
  have Sr := Lib.hid sr
  have Gr := Lib.hid sr.gk
  clear sr
  have HM1 : Hid (Ms w1 [(Ar, r)]) := (Ms.nil _).ownM ho hb
  have HB1 : Hid (Below w.heap.size w w1) := hb
  clear hb ho
  go_wp2_with fail
  refine (toM_any Ar (List.length r) cr r w1.heap.size _ (Nat.le_refl _) (HM1.out.get (by simp)) (by omega) (fun z hz => by have := Gr.out.len z hz; omega)).mono ?_
  rintro e w2 ⟨Ax, cx, rfl, ho, hb⟩
  have hcx := ho.cap
  have HM2 : Hid (Ms w2 [(Ax, r), (Ar, r)]) := HM1.out.ownM ho hb
  clear HM1
  have HB2 : Hid (Below w.heap.size w w2) := HB1.out.trans (hb.mono HB1.out.size)
  clear HB1
  clear hb ho
  go_upto_block 0 with fail
  go_cut [6, 7] (fun v i wr => ∃ (k : Nat) (Av : Option Addr) (cv : Nat) (sm : List ByteArray), i = .int .i64 k ∧ k ≤ 9 ∧ sm.length ≤ 9 ∧ v = .slice Av sm.length cv ∧ Hid (OwnTs wr w.heap.size Av cv sm) ∧ Hid (Ms wr [(Ax, r), (Ar, r)]) ∧ Hid (Below w.heap.size w wr))
  case first =>
    go_wp2_with fail
    go_loopw [6, 7] (fun v i wr => ∃ (k : Nat) (Av : Option Addr) (cv : Nat) (sm : List ByteArray), i = .int .i64 k ∧ k ≤ n1 ∧ k ≤ 9 ∧ sm.length ≤ k ∧ v = .slice Av sm.length cv ∧ Hid (OwnTs wr w.heap.size Av cv sm) ∧ Hid (Ms wr [(Ax, r), (Ar, r)]) ∧ Hid (Below w.heap.size w wr)) (fun _ i _ => 9 - (intOf i).toNat)
    case atStart => exact ⟨0, none, 0, [], rfl, by omega, by omega, by simp, rfl, ⟨rown_nil _ _, by simp⟩, HM2, HB2⟩
    case round =>
      clear HM2 HB2
      obtain ⟨k, Av, cv, sm, rfl, hkn, hk9, hsl, rfl, HO, HM, HB⟩ := hrel
      by_cases hlt : k < n1
      · by_cases hl9 : k < 9
        · obtain ⟨blk, off, t, rfl, hbB, hzk, e0⟩ := HZ1.out.text HB.out hlt
          have q1 : (k : Int) < n1 := by omega
          have q2 : (k : Int) < 9 := by omega
          have q0 : (0 : Int) ≤ k := by omega
          have hts : t.size ≤ 9223372036854775807 := HS1.out t (List.mem_of_getElem? hzk)
          have hbw : Below wr.heap.size wr (wr.alloc (.cells #[.string t] 9)) := (Below.refl _ _).alloc (Nat.le_refl _) _
          have hsz := HB.out.size
          have HU := Lib.hid (runion_any Av sm.length cv sm (some ⟨wr.heap.size, 0, none⟩) 1 1 [t] (wr.heap.size + 1) (wr.alloc (.cells #[.string t] 9)) (by simp) (((own_row rowR HO.out.own).keep hbw).more (by omega)) (one_row rowR (heap_alloc_new wr _)) (by omega) (fun s hs => by
            rcases List.mem_append.mp hs with hs | hs
            · exact HO.out.short s hs
            · simp at hs; subst hs; exact hts))
          have HL : Hid ((unionF (sm ++ [t])).length ≤ k + 1) := by
            have := unionF_len (sm ++ [t])
            simp at this
            exact Nat.le_trans this (by omega)
          have HSH : Hid (∀ s ∈ unionF (sm ++ [t]), s.size ≤ 9223372036854775807) := fun s hs => by
            rcases List.mem_append.mp (((unionF_is _).2 s).mp hs) with hs | hs
            · exact HO.out.short s hs
            · simp at hs; subst hs; exact hts
          have HM1 := Lib.hid (HM.out.keep hbw)
          have HB1 := Lib.hid (HB.out.trans (hbw.mono hsz))
          generalize unionF (sm ++ [t]) = sn at *
          clear hzk hbw hts HM HB HO
          go_wp2_with fail
          refine HU.out.mono ?_
          rintro e w1 ⟨A3, c3, rfl, ho, hb⟩
          have HO3 : Hid (OwnTs w1 w.heap.size A3 c3 sn) := ⟨rown_base ho HB1.out.size, HSH.out⟩
          have HM3 := Lib.hid (HM1.out.keep hb)
          have HB3 := Lib.hid (HB1.out.trans (hb.mono HB1.out.size))
          have hl := HL.out
          clear ho hb HU HM1 HB1 HSH HL e0
          go_wp2
          go_roundw
          case rel => exact ⟨k + 1, A3, c3, sn, by go_num, by omega, by omega, by omega, rfl, HO3, HM3, HB3⟩
          case measure => simp [intOf]; omega
        · have q1 : (k : Int) < n1 := by omega
          have q2 : ¬ ((k : Int) < 9) := by omega
          go_wp2
          go_meet
          case rel => exact ⟨k, Av, cv, sm, rfl, by omega, by omega, rfl, HO, HM, HB⟩
      · have q1 : ¬ ((k : Int) < n1) := by omega
        go_wp2
        go_meet
        case rel => exact ⟨k, Av, cv, sm, rfl, by omega, by omega, rfl, HO, HM, HB⟩
  case rest =>
    clear HM2 HB2
    obtain ⟨k0, As, cs, sm, rfl, hk09, hsl, rfl, HO, HM, HB⟩ := hcut
    clear hk09
    have HTS := Lib.hid (own_row rowR HO.out.own)
    obtain ⟨o, ho⟩ : ∃ o, onlyM r sm = o := ⟨_, rfl⟩
    obtain ⟨d, hd⟩ : ∃ d, restM r sm = d := ⟨_, rfl⟩
    have HON := Lib.hid ho
    have Go : Hid (GK 60 o) := ho ▸ Gr.out.filter _
    have Gd : Hid (GK 60 d) := hd ▸ Gr.out.filter _
    have lo : List.length o ≤ 10 := by have := onlyM_len r sm; rw [ho] at this; omega
    have ld : List.length d ≤ 10 := by have := restM_len r sm; rw [hd] at this; omega
    have HUN : Hid (mergeF o d = r) := by show _ = _; rw [← ho, ← hd]; exact parts_union Gr.out sm
    have hcs : countM o + countM d = countM r := by rw [← ho, ← hd]; exact sum_parts _ _ r
    have hes : extrasM o + extrasM d = extrasM r := by rw [← ho, ← hd]; exact sum_parts _ _ r
    have b1 := countM_nonneg Go.out
    have b2 := countM_nonneg Gd.out
    have b3 := count_bd Gr.out (by omega) lr
    have b4 := extras_bd Go.out (by omega) lo
    have b5 := extras_bd Gd.out (by omega) ld
    have HD := Lib.hid hd
    clear ho hd
    go_wp2_with fail
    refine (idTo_any As sm.length cs sm wc.heap.size _ (Nat.le_refl _) HTS.out (by omega)).mono ?_
    rintro e w51 ⟨Ai, ci, rfl, ho, hb⟩
    have HID := Lib.hid (own_row rowT ho)
    clear ho
    have HM51 : Hid (Ms w51 [(Ax, r), (Ar, r)]) := HM.out.keep hb
    clear HM
    replace HTS := Lib.hid ((HTS.out.keep hb).more hb.size)
    have HB51 : Hid (Below w.heap.size w w51) := HB.out.trans (hb.mono HB.out.size)
    clear HB
    clear hb
    go_wp2_with fail
    refine (onlyM_any Ax (List.length r) cx r Ai sm.length ci sm w51.heap.size _ (Nat.le_refl _) (HM51.out.get (by simp)) HID.out (by omega) (by omega) (Gr.out.okS (by omega))).mono ?_
    rw [HON.out]
    rintro e w52 ⟨Ao, co, rfl, ho, hb⟩
    have hco := ho.cap
    have HM52 : Hid (Ms w52 [(Ao, o), (Ax, r), (Ar, r)]) := HM51.out.ownM ho hb
    clear HM51
    replace HTS := Lib.hid ((HTS.out.keep hb).more hb.size)
    have HB52 : Hid (Below w.heap.size w w52) := HB51.out.trans (hb.mono HB51.out.size)
    clear HB51
    clear hb ho
    clear HID
    go_upto_block 2 with fail
    go_wp2_with fail
    go_loopw [9, 10] (fun v i wr => ∃ (k : Nat) (Av : Option Addr) (cv : Nat), i = .int .i64 k ∧ k ≤ sm.length ∧ v = .slice Av (restM r (sm.take k)).length cv ∧ (restM r (sm.take k)).length ≤ cv ∧ Hid (MatAt wr wr.heap.size Av (restM r (sm.take k)).length (restM r (sm.take k))) ∧ Hid (RowAt cellsT 1 wr wr.heap.size As sm.length sm) ∧ Hid (Ms wr [(Ao, o), (Ax, r), (Ar, r)]) ∧ Hid (Below w.heap.size w wr)) (fun _ i _ => sm.length - (intOf i).toNat)
    case atStart => exact ⟨0, Ax, cx, rfl, by omega, by rw [List.take_zero, restM_nil], by rw [List.take_zero, restM_nil]; exact hcx, by rw [List.take_zero, restM_nil]; exact (HM52.out.get (by simp)), HTS, HM52, HB52⟩
    case round =>
      clear HM52 HB52 HTS
      obtain ⟨k, Av, cv, rfl, hks, rfl, hvc, HR, HTS, HM, HB⟩ := hrel
      by_cases hlt : k < sm.length
      · obtain ⟨blk, off, t, rfl, hbB, hzk, e0⟩ := HTS.out.text (Below.refl _ _) hlt
        have q1 : (k : Int) < (sm.length : Int) := by omega
        have q0 : (0 : Int) ≤ (k : Int) := by omega
        have HST := Lib.hid (restM_step r hzk)
        have hrl : (restM r (sm.take k)).length ≤ 10 := Nat.le_trans (restM_len _ _) (by omega)
        have GR : Hid (GK 60 (restM r (sm.take k))) := Gr.out.filter _
        generalize restM r (sm.take k) = f at *
        clear hzk
        go_wp2_with fail
        refine (dropM_any Av (List.length f) cv f t wr.heap.size _ (Nat.le_refl _) HR.out (by omega) (GR.out.okS (by omega))).mono ?_
        rw [HST.out]
        rintro e w1 ⟨A3, c3, rfl, ho, hb⟩
        have HR3 := Lib.hid ho.mat
        have hc3 := ho.cap
        replace HTS := Lib.hid ((HTS.out.keep hb).more hb.size)
        have HM3 := Lib.hid (HM.out.keep hb)
        have HB3 := Lib.hid (HB.out.trans (hb.mono HB.out.size))
        clear ho hb HR HM HB e0
        go_wp2
        go_roundw
        case rel => exact ⟨k + 1, A3, c3, by go_num, by omega, rfl, hc3, HR3, HTS, HM3, HB3⟩
        case measure => simp [intOf]; omega
      · obtain rfl : k = sm.length := by omega
        rw [List.take_length, HD.out] at HR hvc ⊢
        have HM' : Hid (Ms wr ((Av, d) :: [(Ao, o), (Ax, r), (Ar, r)])) := fun v hv => by
          rcases List.mem_cons.mp hv with rfl | hv
          · exact HR.out
          · exact HM.out v hv
        clear HM HR HD HON HTS HO
        have hcd : List.length d ≤ cv := hvc
        go_wp2_with fail
        refine (ktold_any _).mono ?_
        rintro e w81 ⟨rfl, hb⟩
        have HM81 : Hid (Ms w81 [(Av, d), (Ao, o), (Ax, r), (Ar, r)]) := HM'.out.keep hb
        clear HM'
        have HB81 : Hid (Below w.heap.size w w81) := HB.out.trans (hb.mono HB.out.size)
        clear HB
        clear hb
        go_wp2_with fail
        refine (mergeM_any Ao (List.length o) co o Av (List.length d) cv d w81.heap.size _ (Nat.le_refl _) (HM81.out.get (by simp)) (HM81.out.get (by simp)) hco hcd (by omega) (Go.out.okS (by omega)) (Gd.out.okS (by omega))).mono ?_
        rw [HUN.out]
        rintro e w82 ⟨Au, cu, rfl, ho, hb⟩
        have hcu := ho.cap
        have HM82 : Hid (Ms w82 [(Au, r), (Av, d), (Ao, o), (Ax, r), (Ar, r)]) := HM81.out.ownM ho hb
        clear HM81
        have HB82 : Hid (Below w.heap.size w w82) := HB81.out.trans (hb.mono HB81.out.size)
        clear HB81
        clear hb ho
        go_wp2_with fail
        refine (sameM_any Au (List.length r) cu r Ax (List.length r) cx r w82.heap.size _ (Nat.le_refl _) (HM82.out.get (by simp)) (HM82.out.get (by simp)) (by omega) (fun z hz => by have := Gr.out.len z hz; omega)).mono ?_
        rw [sameM_self]
        rintro e w83 ⟨rfl, hb⟩
        have HM83 : Hid (Ms w83 [(Au, r), (Av, d), (Ao, o), (Ax, r), (Ar, r)]) := HM82.out.keep hb
        clear HM82
        have HB83 : Hid (Below w.heap.size w w83) := HB82.out.trans (hb.mono HB82.out.size)
        clear HB82
        clear hb
        go_wp2_with fail
        refine (countM_any Ao (List.length o) co o w83.heap.size _ (Nat.le_refl _) (HM83.out.get (by simp)) (by omega) (Go.out.okS (by omega))).mono ?_
        rintro e w84 ⟨rfl, hb⟩
        have HM84 : Hid (Ms w84 [(Au, r), (Av, d), (Ao, o), (Ax, r), (Ar, r)]) := HM83.out.keep hb
        clear HM83
        have HB84 : Hid (Below w.heap.size w w84) := HB83.out.trans (hb.mono HB83.out.size)
        clear HB83
        clear hb
        go_wp2_with fail
        refine (countM_any Av (List.length d) cv d w84.heap.size _ (Nat.le_refl _) (HM84.out.get (by simp)) (by omega) (Gd.out.okS (by omega))).mono ?_
        rintro e w85 ⟨rfl, hb⟩
        have HM85 : Hid (Ms w85 [(Au, r), (Av, d), (Ao, o), (Ax, r), (Ar, r)]) := HM84.out.keep hb
        clear HM84
        have HB85 : Hid (Below w.heap.size w w85) := HB84.out.trans (hb.mono HB84.out.size)
        clear HB84
        clear hb
        go_wp2_with fail
        refine (countM_any Ax (List.length r) cx r w85.heap.size _ (Nat.le_refl _) (HM85.out.get (by simp)) (by omega) (Gr.out.okS (by omega))).mono ?_
        rintro e w86 ⟨rfl, hb⟩
        have HM86 : Hid (Ms w86 [(Au, r), (Av, d), (Ao, o), (Ax, r), (Ar, r)]) := HM85.out.keep hb
        clear HM85
        have HB86 : Hid (Below w.heap.size w w86) := HB85.out.trans (hb.mono HB85.out.size)
        clear HB85
        clear hb
        go_wp2_with fail
        refine (extrasM_any Ao (List.length o) co o w86.heap.size _ (Nat.le_refl _) (HM86.out.get (by simp)) (by omega) (Go.out.okS (by omega))).mono ?_
        rintro e w87 ⟨rfl, hb⟩
        have HM87 : Hid (Ms w87 [(Au, r), (Av, d), (Ao, o), (Ax, r), (Ar, r)]) := HM86.out.keep hb
        clear HM86
        have HB87 : Hid (Below w.heap.size w w87) := HB86.out.trans (hb.mono HB86.out.size)
        clear HB86
        clear hb
        go_wp2_with fail
        refine (extrasM_any Av (List.length d) cv d w87.heap.size _ (Nat.le_refl _) (HM87.out.get (by simp)) (by omega) (Gd.out.okS (by omega))).mono ?_
        rintro e w88 ⟨rfl, hb⟩
        have HM88 : Hid (Ms w88 [(Au, r), (Av, d), (Ao, o), (Ax, r), (Ar, r)]) := HM87.out.keep hb
        clear HM87
        have HB88 : Hid (Below w.heap.size w w88) := HB87.out.trans (hb.mono HB87.out.size)
        clear HB87
        clear hb
        go_wp2_with fail
        refine (extrasM_any Ax (List.length r) cx r w88.heap.size _ (Nat.le_refl _) (HM88.out.get (by simp)) (by omega) (Gr.out.okS (by omega))).mono ?_
        rintro e w89 ⟨rfl, hb⟩
        have HM89 : Hid (Ms w89 [(Au, r), (Av, d), (Ao, o), (Ax, r), (Ar, r)]) := HM88.out.keep hb
        clear HM88
        have HB89 : Hid (Below w.heap.size w w89) := HB88.out.trans (hb.mono HB88.out.size)
        clear HB88
        clear hb
        go_wp2_with fail
        refine (rightM_any Ao (List.length o) co o w89.heap.size _ (Nat.le_refl _) (HM89.out.get (by simp)) (by omega) (fun z hz => by have := Go.out.len z hz; omega)).mono ?_
        rw [Go.out.right (by omega)]
        rintro e w90 ⟨rfl, hb⟩
        have HM90 : Hid (Ms w90 [(Au, r), (Av, d), (Ao, o), (Ax, r), (Ar, r)]) := HM89.out.keep hb
        clear HM89
        have HB90 : Hid (Below w.heap.size w w90) := HB89.out.trans (hb.mono HB89.out.size)
        clear HB89
        clear hb
        go_wp2_with fail
        refine (rightM_any Av (List.length d) cv d w90.heap.size _ (Nat.le_refl _) (HM90.out.get (by simp)) (by omega) (fun z hz => by have := Gd.out.len z hz; omega)).mono ?_
        rw [Gd.out.right (by omega)]
        rintro e w91 ⟨rfl, hb⟩
        have HM91 : Hid (Ms w91 [(Au, r), (Av, d), (Ao, o), (Ax, r), (Ar, r)]) := HM90.out.keep hb
        clear HM90
        have HB91 : Hid (Below w.heap.size w w91) := HB90.out.trans (hb.mono HB90.out.size)
        clear HB90
        clear hb
        go_wp2
        go_ret
        exact ⟨rfl, HB91.out⟩
end Go.Proofs.Ythfdjebeblmmdaa
