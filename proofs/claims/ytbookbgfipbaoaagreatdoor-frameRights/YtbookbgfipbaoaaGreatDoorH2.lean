/- wire.first: the number that bytes begin with (a label and a goto). -/
import Derived.Test.YtbookbgfipbaoaaGreatDoorH1
import Derived.ScopeJumps
import Derived.OwnWalk
namespace Go.Proofs.YtbookbgfipbaoaaGreatDoor.By
open Go.RowKit

set_option maxRecDepth 100000 in
set_option maxHeartbeats 4000000 in
theorem first_any (A : Option Addr) (c g n : Nat) (bs : List UInt8) (w : World) (hz : BytesAt w g A n bs) (hn : n ≤ 1099511627776) :
    Calls Tryz.prog 172 #[.slice A n c] w fun e w' => e = .returned (.tuple #[.int .i64 (firstF bs 0 0).1, .int .i64 (firstF bs 0 0).2.1, .int .i64 (firstF bs 0 0).2.2]) ∧ w = w' := by
  have HZ := Lib.hid hz
  clear hz
  obtain ⟨T, hT⟩ : ∃ T, T = firstF bs 0 0 := ⟨_, rfl⟩
  rw [← hT]
  have HT := Lib.hid hT
  clear hT
  go_enter Tryz.func172, Tryz.ntmps172
  go_wp2
  refine wp_scope_jumps 0 (fun a' w' => w = w' ∧ ∃ (k acc : Nat) (u7 u8 u9 u10 u11 u12 u13 u14 u15 u16 u17 u18 u19 u20 u21 u22 u23 u24 u25 u26 u27 u28 u29 u30 u31 u32 u33 u34 u35 u36 u37 u38 u39 u40 u41 u42 : Value), a' = { tmps := #[.slice A n c, undef, .int .i64 0, .int .i64 0, .int .i64 0, .int .i64 (acc : Int), .int .i64 (k : Int), u7, u8, u9, u10, u11, u12, u13, u14, u15, u16, u17, u18, u19, u20, u21, u22, u23, u24, u25, u26, u27, u28, u29, u30, u31, u32, u33, u34, u35, u36, u37, u38, u39, u40, u41, u42], defers := [] } ∧ k ≤ 8 ∧ k ≤ n ∧ acc < 128 ^ k ∧ Hid (firstF (bs.drop k) k acc = T)) (fun a' _ => 9 - (intOf (a'.tmps.getD 6 undef)).toNat) rfl ?_ ?_
  · have HF : Hid (firstF bs 0 0 = T) := HT.out.symm
    rcases Nat.lt_or_ge 0 n with hlt | hge
    · obtain ⟨off, rfl, hc⟩ := HZ.out.2 (by omega)
      have h1 : ((0 : Int) == n) = false := by simp; omega
      have hc1 := hc 0 hlt
      rw [Nat.add_zero] at hc1
      have hlt1 : (0 : Int) < n := by omega
      have hdr : bs = bs.getD 0 0 :: bs.drop 1 := by
        have hl := HZ.out.1
        conv => lhs; rw [← List.drop_zero (l := bs), List.drop_eq_getElem_cons (by omega)]
        simp [List.getD_eq_getElem?_getD, List.getElem?_eq_getElem (show 0 < bs.length by omega)]
      rw [hdr] at HF
      have HDR := Lib.hid hdr
      clear hdr hc
      unfold firstF at HF
      have hd : (bs.getD 0 0).toNat < 256 := (bs.getD 0 0).toNat_lt
      generalize (bs.getD 0 0).toNat = d at *
      clear HDR
      by_cases h128 : 128 ≤ d
      · rw [if_pos h128, if_neg (by omega)] at HF
        have h128' : (128 : Int) ≤ d := by omega
        go_wp2
        go_step3
        go_wp2
        go_step3
        simp only [Nat.pow_zero, Nat.mul_one, Nat.zero_add] at HF
        exact ⟨rfl, rfl, 1, d % 128, _, _, _, _, _, _, _, _, _, _, _, _, _, _, _, _, _, _, _, _, _, _, _, _, _, _, _, _, _, _, _, _, _, _, _, _, rfl, by omega, by omega, by omega, HF⟩
      · rw [if_neg h128, if_neg (by omega)] at HF
        have h128' : ¬ ((128 : Int) ≤ d) := by omega
        by_cases hd0 : d = 0
        · subst hd0
          go_wp2
          go_step3
          go_wp2
          simp only [Exit.jump]
          go_ret3
          exact ⟨by rw [← HF.out]; rfl, rfl⟩
        · have hd1 : ((d : Int) == 0) = false := by simp; omega
          go_wp2
          go_step3
          go_wp2
          simp only [Exit.jump]
          go_ret3
          simp only [Nat.pow_zero, Nat.mul_one, Nat.zero_add] at HF
          exact ⟨by rw [← HF.out]; rfl, rfl⟩
    · obtain rfl : n = 0 := by omega
      have hb : bs = [] := List.eq_nil_of_length_eq_zero HZ.out.1
      subst hb
      unfold firstF at HF
      go_wp2
      go_step3
      go_wp2
      simp only [Exit.jump]
      go_ret3
      exact ⟨by rw [← HF.out]; rfl, rfl⟩
  · rintro a' w' ⟨rfl, k, acc, u7, u8, u9, u10, u11, u12, u13, u14, u15, u16, u17, u18, u19, u20, u21, u22, u23, u24, u25, u26, u27, u28, u29, u30, u31, u32, u33, u34, u35, u36, u37, u38, u39, u40, u41, u42, rfl, hk, hkn, ha, HF⟩
    rcases Nat.lt_or_ge k n with hlt | hge
    · obtain ⟨off, rfl, hc⟩ := HZ.out.2 (by omega)
      have h1 : ((k : Int) == n) = false := by simp; omega
      have hc1 := hc k hlt
      have hlt1 : (k : Int) < n := by omega
      have hdr : bs.drop k = bs.getD k 0 :: bs.drop (k + 1) := by
        have hl := HZ.out.1
        rw [List.drop_eq_getElem_cons (by omega)]
        simp [List.getD_eq_getElem?_getD, List.getElem?_eq_getElem (show k < bs.length by omega)]
      rw [hdr] at HF
      clear hdr hc
      unfold firstF at HF
      have hd : (bs.getD k 0).toNat < 256 := (bs.getD k 0).toNat_lt
      generalize (bs.getD k 0).toNat = d at *
      obtain ⟨x, hx⟩ : ∃ x, x = d % 128 * 128 ^ k := ⟨_, rfl⟩
      have hxe : (d : Int) % 128 * 2 ^ (7 * k) = (x : Int) := by
        rw [hx, show (128 : Nat) ^ k = 2 ^ (7 * k) by rw [Nat.pow_mul]]
        push_cast
        rfl
      have ha2 : acc + x < 128 ^ (k + 1) := by
        rw [hx, Nat.pow_succ]
        have h2 : d % 128 * 128 ^ k ≤ 127 * 128 ^ k := Nat.mul_le_mul_right _ (by omega)
        omega
      have hb : acc + x ≤ 9223372036854775807 := by
        have h2 : 128 ^ (k + 1) ≤ 128 ^ 9 := Nat.pow_le_pow_right (by omega) (by omega)
        have h3 : (128 : Nat) ^ 9 = 9223372036854775808 := by decide
        omega
      rw [← hx] at HF
      clear hx
      have HA2 := Lib.hid ha2
      clear ha ha2
      by_cases h128 : 128 ≤ d
      · rw [if_pos h128] at HF
        have h128' : (128 : Int) ≤ d := by omega
        by_cases h9 : k = 8
        · subst h9
          rw [if_pos rfl] at HF
          go_wp2
          simp only [Exit.jump]
          go_ret3
          exact ⟨by rw [← HF.out]; rfl, rfl⟩
        · rw [if_neg (by omega)] at HF
          have HN := HF
          have h9' : ((k : Int) + 1 == 9) = false := by simp; omega
          go_wp2
          go_step3
          first | refine ⟨rfl, ⟨rfl, k + 1, acc + x, ⟨_, _, _, _, _, _, _, _, _, _, _, _, _, _, _, _, _, _, _, _, _, _, _, _, _, _, _, _, _, _, _, _, _, _, _, _, rfl⟩, by omega, by omega, HA2.out, HN⟩, ?_⟩ | refine ⟨rfl, ⟨rfl, k + 1, acc + x, _, _, _, _, _, _, _, _, _, _, _, _, _, _, _, _, _, _, _, _, _, _, _, _, _, _, _, _, _, _, _, _, _, _, _, _, rfl, by omega, by omega, HA2.out, HN⟩, ?_⟩
          simp [intOf]; omega
      · rw [if_neg h128] at HF
        have h128' : ¬ ((128 : Int) ≤ d) := by omega
        by_cases h0 : d = 0 ∧ 0 < k
        · rw [if_pos h0] at HF
          obtain ⟨hd0, hk0⟩ := h0
          have hd1 : ((d : Int) == 0) = true := by simpa using hd0
          have hk1 : (1 : Int) < k + 1 := by omega
          clear hd0
          go_wp2
          simp only [Exit.jump]
          go_ret3
          exact ⟨by rw [← HF.out]; rfl, rfl⟩
        · rw [if_neg h0] at HF
          by_cases hd0 : d = 0
          · have hd1 : ((d : Int) == 0) = true := by simpa using hd0
            have hk1 : ¬ ((1 : Int) < k + 1) := by omega
            clear hd0
            go_wp2
            simp only [Exit.jump]
            go_ret3
            exact ⟨by rw [← HF.out]; rfl, rfl⟩
          · have hd1 : ((d : Int) == 0) = false := by simp; omega
            go_wp2
            simp only [Exit.jump]
            go_ret3
            exact ⟨by rw [← HF.out]; rfl, rfl⟩
    · obtain rfl : k = n := by omega
      rw [List.drop_eq_nil_of_le (by have := HZ.out.1; omega)] at HF
      unfold firstF at HF
      go_wp2
      simp only [Exit.jump]
      go_ret3
      exact ⟨by rw [← HF.out]; rfl, rfl⟩
end Go.Proofs.YtbookbgfipbaoaaGreatDoor.By

/- wire's Reader: Read, Err, End, Num, Text. -/
namespace Go.Proofs.YtbookbgfipbaoaaGreatDoor.By
open Go.RowKit

/-- In w there is a Reader in the block R, whose bytes lie in the block g. -/
structure ReaderAt (w : World) (R g : Nat) (st : Rd) : Prop where
  ne : st.1 ≠ [] → g ≠ R
  lt : R < w.heap.size
  f0 : w.frozen? ⟨R, 0, none⟩ = false
  f1 : w.frozen? ⟨R, 1, none⟩ = false
  c1 : w.cell? ⟨R, 1, none⟩ = some (.int .i64 (st.2 : Int))
  c0 : ∃ A c, w.cell? ⟨R, 0, none⟩ = some (.slice A st.1.length c) ∧ BytesAt w g A st.1.length st.1 ∧ st.1.length ≤ c ∧ c ≤ 9223372036854775807 ∧ st.1.length ≤ 1099511627776

theorem ReaderAt.keep {w w' : World} {R g : Nat} {st : Rd} (h : ReaderAt w R g st) (hb : Below w.heap.size w w') : ReaderAt w' R g st := by
  obtain ⟨A, c, h0, hz, r⟩ := h.c0
  exact ⟨h.ne, Nat.lt_of_lt_of_le h.lt hb.size, (hb.frozen (p := ⟨R, 0, none⟩) h.lt).trans h.f0, (hb.frozen (p := ⟨R, 1, none⟩) h.lt).trans h.f1, (hb.cell (p := ⟨R, 1, none⟩) h.lt).trans h.c1, A, c, (hb.cell (p := ⟨R, 0, none⟩) h.lt).trans h0, hz.keep hb, r⟩
/-- Another Reader's being read turns nothing here. -/
theorem ReaderAt.other {w w' : World} {R g R' : Nat} {st : Rd} (h : ReaderAt w R g st) (hg : w.grownBy w' (some R')) (h1 : R ≠ R') (h2 : st.1 ≠ [] → g ≠ R') : ReaderAt w' R g st := by
  obtain ⟨A, c, h0, hz, r⟩ := h.c0
  have hb := hg.block R h.lt (fun e => by injection e with e; exact h1 e)
  refine ⟨h.ne, Nat.lt_of_lt_of_le h.lt hg.size, (World.frozen?_of_block (a := ⟨R, 0, none⟩) hb).trans h.f0, (World.frozen?_of_block (a := ⟨R, 1, none⟩) hb).trans h.f1, (World.cell?_of_block (a := ⟨R, 1, none⟩) hb).trans h.c1, A, c, (World.cell?_of_block (a := ⟨R, 0, none⟩) hb).trans h0, hz.grown hg (fun hn e => ?_), r⟩
  injection e with e
  exact h2 (by intro e; rw [e] at hn; simp at hn) e.symm

set_option maxRecDepth 100000 in
set_option maxHeartbeats 1000000 in
theorem err_any {R g : Nat} {st : Rd} (w : World) (h : ReaderAt w R g st) : Calls Tryz.prog 66 #[.pointer (some ⟨R, 0, none⟩)] w fun e w' => e = .returned (.int .i64 (st.2 : Int)) ∧ w = w' := by
  have c1 := h.c1
  go_enter Tryz.func66, Tryz.ntmps66
  go_wp2
  go_ret
  exact ⟨rfl, rfl⟩
set_option maxRecDepth 100000 in
set_option maxHeartbeats 1000000 in
theorem end_any {R g : Nat} {st : Rd} (w : World) (h : ReaderAt w R g st) : Calls Tryz.prog 67 #[.pointer (some ⟨R, 0, none⟩)] w fun e w' => e = .returned (.int .i64 (endF st : Int)) ∧ w = w' := by
  obtain ⟨A, c, h0, _, _⟩ := h.c0
  have HR := Lib.hid h
  clear h
  have HE := Lib.hid (show endF st = if st.2 ≠ 0 then st.2 else if st.1 = [] then 0 else 3 from rfl)
  go_enter Tryz.func67, Tryz.ntmps67
  go_wp2_with fail
  refine (err_any _ HR.out).mono ?_
  rintro e w1 ⟨rfl, rfl⟩
  by_cases h2 : st.2 = 0
  · rw [if_neg (by simpa using h2)] at HE
    rw [h2]
    by_cases h1 : st.1 = []
    · rw [if_pos h1] at HE
      rw [h1] at h0
      go_wp2
      go_ret
      exact ⟨ret_int (by rw [HE.out]; rfl), rfl⟩
    · rw [if_neg h1] at HE
      have h3 : 0 < st.1.length := List.length_pos_iff.mpr h1
      have h4 : (0 : Int) < st.1.length := by omega
      go_wp2
      go_ret
      exact ⟨ret_int (by rw [HE.out]; rfl), rfl⟩
  · rw [if_pos h2] at HE
    have h3 : ((st.2 : Int) != 0) = true := by simpa using h2
    go_wp2
    go_ret
    exact ⟨ret_int (by rw [HE.out]), rfl⟩
/-- A Reader is made: in a block of its own, whose bytes are a copy. -/
def ReadRet (bs : List UInt8) (w : World) (e : Ending) (w' : World) : Prop := ∃ R g, e = .returned (.pointer (some ⟨R, 0, none⟩)) ∧ ReaderAt w' R g (bs, 0) ∧ w.heap.size ≤ R ∧ (bs ≠ [] → w.heap.size ≤ g) ∧ Below w.heap.size w w'

set_option maxRecDepth 100000 in
set_option maxHeartbeats 1000000 in
theorem read_any (A : Option Addr) (c g : Nat) (bs : List UInt8) (w : World) (hz : BytesAt w g A bs.length bs) (hn : bs.length ≤ 1099511627776) :
    Calls Tryz.prog 64 #[.slice A bs.length c] w (ReadRet bs w) := by
  have HZ := Lib.hid hz
  clear hz
  go_enter Tryz.func64, Tryz.ntmps64
  go_wp2_with fail
  refine (clone_any A c g bs _ HZ.out hn).mono ?_
  rintro e w1 ⟨A1, c1, rfl, hown, hb⟩
  have HO := Lib.hid hown
  have HB := Lib.hid hb
  clear hown hb
  go_wp2
  go_ret
  have hsz := HB.out.size
  obtain ⟨g1, hz1, _, hg1, hc1⟩ := own_bytes HO.out
  have hcap : c1 ≤ 9223372036854775807 := by
    rcases HO.out.2 with ⟨e, _⟩ | ⟨g', cap, cur, e, _, _, _, hm, _⟩
    · injection e with _ _ e; omega
    · injection e with _ _ e; unfold maxLen at hm; omega
  have hbel : Below w1.heap.size w1 (w1.alloc (.cells #[.slice A1 bs.length c1, .int .i64 0] 189)) := (Below.refl _ _).alloc (Nat.le_refl _) _
  have hnil : bs ≠ [] → 0 < bs.length := fun h => List.length_pos_iff.mpr h
  refine ⟨w1.heap.size, g1, rfl, ⟨fun h => ?_, ?_, ?_, ?_, ?_, A1, c1, ?_, hz1.keep hbel, hc1, hcap, hn⟩, hsz, fun h => (hg1 (hnil h)).1, HB.out.alloc hsz _⟩
  · have := hg1 (hnil h); omega
  · simp
  · simp [go_sem]
  · simp [go_sem]
  · simp [go_sem]
  · simp [go_sem]

/-- The Reader has gone on to st; nothing else that was there has turned. -/
def NumRet (v : Value) (R g : Nat) (st : Rd) (w : World) (e : Ending) (w' : World) : Prop := e = .returned v ∧ ReaderAt w' R g st ∧ w.grownBy w' (some R) ∧ w'.heap.size = w.heap.size

theorem grown_set {w : World} {p : Addr} (u : Value) : w.grownBy (w.setCell p u) (some p.block) :=
  ⟨rfl, rfl, rfl, by simp [World.setCell], fun k _ hne => Below.heap_setCell w p u k (fun e => hne (by rw [e]))⟩
theorem ReaderAt.setErr {w : World} {R g : Nat} {st : Rd} (h : ReaderAt w R g st) (e : Nat) : ReaderAt (w.setCell ⟨R, 1, none⟩ (.int .i64 (e : Int))) R g (st.1, e) := by
  obtain ⟨A, c, h0, hz, r⟩ := h.c0
  have hc1 := h.c1
  have hf0 := h.f0
  have hf1 := h.f1
  refine ⟨h.ne, by simpa [World.setCell] using h.lt, by simpa [go_sem] using hf0, by simpa [go_sem] using hf1, ?_, A, c, ?_, hz.grown (grown_set _) (fun hn e => ?_), r⟩
  · simp [go_sem, hc1]
  · simp [go_sem, h0]
  · injection e with e
    exact h.ne (by intro e; rw [e] at hn; simp at hn) e.symm

theorem ReaderAt.setRest {w : World} {R g : Nat} {st : Rd} (h : ReaderAt w R g st) {c t : Nat} {A : Option Addr} (h0 : w.cell? ⟨R, 0, none⟩ = some (.slice A st.1.length c)) (ht : t ≤ st.1.length) {A' : Option Addr} (hA : A' = A.map (fun x => x.add t) ∨ t = c) :
    ReaderAt (w.setCell ⟨R, 0, none⟩ (.slice A' (st.1.length - t) (c - t))) R g (st.1.drop t, st.2) := by
  obtain ⟨A1, c', h0', hz, hlc, hc63, hl⟩ := h.c0
  rw [h0] at h0'
  injection h0' with h0'
  injection h0' with e1 _ e2
  subst e1 e2
  have hc1 := h.c1
  have hf0 := h.f0
  have hf1 := h.f1
  have hnil : st.1.drop t ≠ [] → st.1 ≠ [] := fun hn e => hn (by rw [e]; simp)
  refine ⟨fun hn => h.ne (hnil hn), by simpa [World.setCell] using h.lt, by simpa [go_sem] using hf0, by simpa [go_sem] using hf1, ?_, A', c - t, ?_, ?_, ?_, by omega, ?_⟩
  · simp [go_sem, hc1]
  · simp [go_sem, h0]
  · simp only [List.length_drop]
    have hz1 : BytesAt w g A' (st.1.length - t) (st.1.drop t) := by
      rcases hA with rfl | rfl
      · rcases Nat.eq_zero_or_pos (st.1.length - t) with hz0 | hz0
        · exact ⟨by simp, fun hn => by omega⟩
        · obtain ⟨off, rfl, _⟩ := hz.2 (by omega)
          rw [Option.map_some, addr_add]
          exact hz.drop t ht
      · exact ⟨by simp, fun hn => by omega⟩
    refine hz1.grown (grown_set _) (fun hn e => ?_)
    injection e with e
    exact h.ne (by intro e; rw [e] at hn; simp at hn) e.symm
  · simp only [List.length_drop]; omega
  · simp only [List.length_drop]; omega

set_option maxRecDepth 100000 in
set_option maxHeartbeats 2000000 in
theorem num_any {R g : Nat} {st : Rd} (most : Int) (w : World) (h : ReaderAt w R g st) : Calls Tryz.prog 123 #[.pointer (some ⟨R, 0, none⟩), .int .i64 most] w (NumRet (.int .i64 (numF st most).1) R g (numF st most).2 w) := by
  obtain ⟨A, c, h0, hz, hlc, hc63, hl⟩ := h.c0
  have c1 := h.c1
  have f0 := h.f0
  have f1 := h.f1
  have HR := Lib.hid h
  have HZ := Lib.hid hz
  clear h hz
  have HN := Lib.hid (show numF st most = if st.2 ≠ 0 then (0, st) else
    if (firstF st.1 0 0).2.2 ≠ 0 then (0, (st.1, (firstF st.1 0 0).2.2)) else
    if most < ((firstF st.1 0 0).1 : Int) then (0, (st.1, 3)) else (((firstF st.1 0 0).1 : Int), (st.1.drop (firstF st.1 0 0).2.1, 0)) from rfl)
  generalize numF st most = N at HN ⊢
  go_enter Tryz.func123, Tryz.ntmps123
  go_wp2_with fail
  refine (err_any _ HR.out).mono ?_
  rintro e w1 ⟨rfl, rfl⟩
  by_cases h2 : st.2 = 0
  · rw [if_neg (by simpa using h2)] at HN
    rw [h2]
    go_wp2_with fail
    refine (first_any A c g st.1.length st.1 _ HZ.out hl).mono ?_
    rintro e w1 ⟨rfl, rfl⟩
    have HF := Lib.hid (first_back st.1 0 0)
    generalize firstF st.1 0 0 = T at HN HF ⊢
    obtain ⟨t0, t1, t2⟩ := T
    simp only at HN ⊢
    by_cases ht : t2 = 0
    · subst ht
      rw [if_neg (by simp)] at HN
      by_cases hm : most < (t0 : Int)
      · rw [if_pos hm] at HN
        go_wp2
        go_ret
        rw [HN.out]
        exact ⟨rfl, HR.out.setErr 3, grown_set _, by simp [World.setCell]⟩
      · rw [if_neg hm] at HN
        obtain ⟨m, hm0, hm1, htk, hle, _⟩ := HF.out t0 t1 rfl
        rw [Nat.zero_add] at hm1
        have hpos := digitsF_pos m
        have h1l : t1 ≤ st.1.length := by omega
        obtain ⟨off, rfl, hcc⟩ := HZ.out.2 (by omega)
        clear htk hm0 hm1 hle hpos hcc HF
        go_wp2
        · go_ret
          rw [HN.out]
          have := HR.out.setRest h0 h1l (A' := some ⟨g, off, none⟩) (.inr (by omega))
          rw [h2] at this
          rw [show c - t1 = 0 by omega] at this
          exact ⟨rfl, this, grown_set _, by simp [World.setCell]⟩
        · go_ret
          rw [HN.out]
          have := HR.out.setRest h0 h1l (A' := some ⟨g, off + t1, none⟩) (.inl (by rw [Option.map_some, addr_add]))
          rw [h2] at this
          exact ⟨rfl, this, grown_set _, by simp [World.setCell]⟩
    · rw [if_pos ht] at HN
      have ht1 : ((t2 : Int) == 0) = false := by simpa using ht
      have ht2 : ((t2 : Int) != 0) = true := by simpa using ht
      go_wp2
      go_ret
      rw [HN.out]
      exact ⟨rfl, HR.out.setErr t2, grown_set _, by simp [World.setCell]⟩
  · rw [if_pos h2] at HN
    have h3 : ((st.2 : Int) != 0) = true := by simpa using h2
    go_wp2
    go_ret
    rw [HN.out]
    exact ⟨rfl, HR.out, World.grownBy.refl _ _, rfl⟩

set_option maxRecDepth 100000 in
set_option maxHeartbeats 2000000 in
theorem text_any {R g : Nat} {st : Rd} (most : Int) (w : World) (h : ReaderAt w R g st) : Calls Tryz.prog 173 #[.pointer (some ⟨R, 0, none⟩), .int .i64 most] w (NumRet (.string ⟨(textF st most).1.toArray⟩) R g (textF st most).2 w) := by
  have HR := Lib.hid h
  clear h
  have HN := Lib.hid (show textF st most = if (numF st most).2.2 ≠ 0 then ([], (numF st most).2) else
    if ((numF st most).2.1.length : Int) < (numF st most).1 then ([], ((numF st most).2.1, 2)) else
    ((numF st most).2.1.take (numF st most).1.toNat, ((numF st most).2.1.drop (numF st most).1.toNat, 0)) from rfl)
  have hnn : 0 ≤ (numF st most).1 := by unfold numF; split <;> (try split) <;> (try split) <;> simp <;> omega
  generalize textF st most = N at HN ⊢
  go_enter Tryz.func173, Tryz.ntmps173
  go_wp2_with fail
  refine (num_any most _ HR.out).mono ?_
  generalize numF st most = M at HN hnn ⊢
  obtain ⟨n, rs, er⟩ := M
  rintro e w1 ⟨rfl, hR, hg, hsz⟩
  simp only at HN hR hnn ⊢
  obtain ⟨A, c, h0, hz, hlc, hc63, hl⟩ := hR.c0
  simp only at h0 hz hlc hl
  have c1 := hR.c1
  have f0 := hR.f0
  have f1 := hR.f1
  have HR1 := Lib.hid hR
  have HG := Lib.hid hg
  have HZ := Lib.hid hz
  have HSZ := Lib.hid hsz
  clear hR hg hz HR hsz
  go_wp2_with fail
  refine (err_any _ HR1.out).mono ?_
  rintro e w2 ⟨rfl, rfl⟩
  by_cases h2 : er = 0
  · subst h2
    rw [if_neg (by simp)] at HN
    by_cases hm : (rs.length : Int) < n
    · rw [if_pos hm] at HN
      go_wp2
      go_ret
      rw [HN.out]
      exact ⟨rfl, HR1.out.setErr 2, HG.out.trans (grown_set _), by simpa [World.setCell] using HSZ.out⟩
    · rw [if_neg hm] at HN
      obtain ⟨t, rfl⟩ : ∃ t : Nat, n = (t : Int) := ⟨n.toNat, by omega⟩
      rw [Int.toNat_natCast] at HN
      have hle : t ≤ rs.length := by omega
      have htx : ∀ A' c', (A' = A ∧ t ≤ rs.length) → (convert 48 9 (.slice A' t c')).run Tryz.prog w1 = .ok (.string ⟨(rs.take t).toArray⟩) w1 := by
        rintro A' c' ⟨rfl, _⟩
        exact run_text c' (HZ.out.take t hle)
      go_wp2
      · go_ret
        rw [HN.out]
        have := HR1.out.setRest h0 hle (A' := A) (.inr (by omega))
        rw [show c - t = 0 by omega] at this
        exact ⟨rfl, this, HG.out.trans (grown_set _), by simpa [World.setCell] using HSZ.out⟩
      · go_ret
        rw [HN.out]
        exact ⟨rfl, HR1.out.setRest h0 hle (.inl rfl), HG.out.trans (grown_set _), by simpa [World.setCell] using HSZ.out⟩
  · rw [if_pos h2] at HN
    have h3 : ((er : Int) != 0) = true := by simpa using h2
    go_wp2
    go_ret
    rw [HN.out]
    exact ⟨rfl, HR1.out, HG.out, HSZ.out⟩
end Go.Proofs.YtbookbgfipbaoaaGreatDoor.By

/- zone.Whole of a place whose parts are whole numbers. -/
namespace Go.Proofs.YtbookbgfipbaoaaGreatDoor.By
open Go.RowKit

theorem trunc_fl (n : Int) (h : n.natAbs < 2 ^ 53) : FloatKind.f64.encode ((FloatKind.f64.decode (fl n)).integral .zero) = fl n := by
  obtain ⟨s, e, hs⟩ := integral_num (read_fl n h)
  show Ieee.double.write ((Ieee.double.read (fl n)).integral .zero) = fl n
  by_cases h0 : n = 0
  · subst h0
    decide
  · rw [e, hs h0]; rfl
theorem trunc_aux (x : Nat) (s : Bool) (m : Nat) (e : Int) (hd : FloatKind.f64.decode x = .number s m e) : Extern.MathFloor.toIntegral "math.archTrunc" .zero #[.float .f64 x] = pure (.float .f64 (FloatKind.f64.encode ((Ieee.Datum.number s m e).integral .zero))) := by
  obtain ⟨f, hf⟩ : ∃ f : Bool → Nat → Sem Value, Extern.MathFloor.toIntegral "math.archTrunc" .zero #[.float .f64 x] = (match FloatKind.f64.decode x with | .nan s t => f s t | d => pure (.float .f64 (FloatKind.f64.encode (d.integral .zero)))) := ⟨_, rfl⟩
  rw [hf, hd]
theorem run_trunc (n : Int) (h : n.natAbs < 2 ^ 53) (w : World) : (Extern.MathFloor.toIntegral "math.archTrunc" .zero #[.float .f64 (fl n)]).run Tryz.prog w = .ok (.float .f64 (fl n)) w := by
  have ht := trunc_fl n h
  obtain ⟨s, j, e, _⟩ := read_fl n h
  have e' : FloatKind.f64.decode (fl n) = .number s (n.natAbs * 2 ^ j) (-(j : Int)) := e
  rw [e'] at ht
  rw [trunc_aux _ _ _ _ e', ht]
  rfl
/-- How two floats of whole numbers stand. -/
theorem order_fl (a b : Int) (ha : a.natAbs < 2 ^ 53) (hb : b.natAbs < 2 ^ 53) : FloatKind.f64.format.order (fl a) (fl b) = some (compare a b) := order_num (read_fl a ha) (read_fl b hb)
theorem fl_lo : (13875379345695965184 : Nat) = fl (-1000) := by decide
theorem fl_hi : (4652007308841189376 : Nat) = fl 1000 := by decide
theorem leq_fl (a b : Int) (ha : a.natAbs < 2 ^ 53) (hb : b.natAbs < 2 ^ 53) : (FloatKind.f64.format.order (fl a) (fl b) == some .lt || FloatKind.f64.format.order (fl a) (fl b) == some .eq) = decide (a ≤ b) := by
  rw [order_fl a b ha hb]
  rcases Int.lt_trichotomy a b with h | h | h
  · rw [Int.compare_eq_lt.mpr h]; simp; omega
  · subst h; simp
  · rw [Int.compare_eq_gt.mpr h]; simp; omega
theorem eql_fl (a b : Int) (ha : a.natAbs < 2 ^ 53) (hb : b.natAbs < 2 ^ 53) : (FloatKind.f64.format.order (fl a) (fl b) == some .eq) = decide (a = b) := by
  rw [order_fl a b ha hb]
  rcases Int.lt_trichotomy a b with h | h | h
  · rw [Int.compare_eq_lt.mpr h]; simp; omega
  · subst h; simp
  · rw [Int.compare_eq_gt.mpr h]; simp; omega

set_option maxRecDepth 100000 in
set_option maxHeartbeats 1000000 in
theorem trunc_any (n : Int) (h : n.natAbs < 2 ^ 53) (w : World) : Calls Tryz.prog 182 #[.float .f64 (fl n)] w fun e w' => e = .returned (.float .f64 (fl n)) ∧ w = w' := by
  have HR := Lib.hid (run_trunc n h)
  generalize fl n = x at *
  go_enter Tryz.func182, Tryz.ntmps182
  go_wp2
  rw [run_callFunc_extern Tryz.func197 (by kernel_rfl) (by kernel_rfl) (by kernel_rfl) (e := Extern.MathFloor.toIntegral "math.archTrunc" .zero) (by kernel_rfl), HR.out]
  simp only [Result.andThen]
  rw [Oper.upon_value]
  go_wp2
  go_ret
  exact ⟨rfl, rfl⟩

def withinF (n lo hi : Int) : Bool := decide (lo ≤ n) && decide (n ≤ hi)

set_option maxRecDepth 100000 in
set_option maxHeartbeats 1000000 in
theorem wholeWithin_any (n lo hi : Int) (hn : n.natAbs < 2 ^ 53) (hl : lo.natAbs < 2 ^ 53) (hh : hi.natAbs < 2 ^ 53) (w : World) :
    Calls Tryz.prog 154 #[.float .f64 (fl n), .float .f64 (fl lo), .float .f64 (fl hi)] w fun e w' => e = .returned (.bool (withinF n lo hi)) ∧ w = w' := by
  have h1 := leq_fl lo n hl hn
  have h2 := leq_fl n hi hn hh
  have h3 := eql_fl n n hn hn
  have HT := Lib.hid (trunc_any n hn)
  have HW := Lib.hid (show withinF n lo hi = (decide (lo ≤ n) && decide (n ≤ hi)) from rfl)
  generalize fl n = x at *
  generalize fl lo = l at *
  generalize fl hi = u at *
  by_cases c1 : lo ≤ n
  · rw [decide_eq_true c1] at h1 HW
    by_cases c2 : n ≤ hi
    · rw [decide_eq_true c2] at h2 HW
      rw [show decide (n = n) = true by simp] at h3
      clear c1 c2
      go_enter Tryz.func154, Tryz.ntmps154
      go_wp2_with fail
      refine (HT.out _).mono ?_
      rintro e w1 ⟨rfl, rfl⟩
      go_wp2
      go_ret
      exact ⟨ret_bool (by rw [HW.out]; rfl), rfl⟩
    · rw [decide_eq_false c2] at h2 HW
      clear c1 c2
      go_enter Tryz.func154, Tryz.ntmps154
      go_wp2
      go_ret
      exact ⟨ret_bool (by rw [HW.out]; rfl), rfl⟩
  · rw [decide_eq_false c1] at h1 HW
    clear c1
    go_enter Tryz.func154, Tryz.ntmps154
    go_wp2
    go_ret
    exact ⟨ret_bool (by rw [HW.out]; rfl), rfl⟩

/-- Is a place one? -/
def wholeF (x y : Int) : Bool := withinF x (-1000) 1000 && withinF y (-1000) 1000

set_option maxRecDepth 100000 in
set_option maxHeartbeats 1000000 in
theorem whole_any (x y : Int) (hx : x.natAbs < 2 ^ 53) (hy : y.natAbs < 2 ^ 53) (w : World) :
    Calls Tryz.prog 153 #[.complex .f64 (fl x) (fl y)] w fun e w' => e = .returned (.bool (wholeF x y)) ∧ w = w' := by
  have H1 := Lib.hid (wholeWithin_any x (-1000) 1000 hx (by decide) (by decide))
  have H2 := Lib.hid (wholeWithin_any y (-1000) 1000 hy (by decide) (by decide))
  rw [← fl_lo, ← fl_hi] at H1 H2
  have HW := Lib.hid (show wholeF x y = (withinF x (-1000) 1000 && withinF y (-1000) 1000) from rfl)
  generalize fl x = fx at *
  generalize fl y = fy at *
  generalize withinF x (-1000) 1000 = b1 at *
  generalize withinF y (-1000) 1000 = b2 at *
  go_enter Tryz.func153, Tryz.ntmps153
  go_wp2_with fail
  refine (H1.out _).mono ?_
  rintro e w1 ⟨rfl, rfl⟩
  cases b1
  · go_wp2
    go_ret
    exact ⟨ret_bool (by rw [HW.out]; rfl), rfl⟩
  · go_wp2_with fail
    refine (H2.out _).mono ?_
    rintro e w1 ⟨rfl, rfl⟩
    go_wp2
    go_ret
    exact ⟨ret_bool (by rw [HW.out]; rfl), rfl⟩
end Go.Proofs.YtbookbgfipbaoaaGreatDoor.By

/- Plain mathematics of the names of layer 1: prefixes, the order, the document's Fix. -/
namespace Go.Proofs.YtbookbgfipbaoaaGreatDoor

theorem cmp_prefix : ∀ (a b : List UInt8), a <+: b → a.length < b.length → Lib.compareBytes a b = -1
  | [], _ :: _, _, _ => by simp [Lib.compareBytes]
  | x :: a, y :: b, h, l => by
    obtain ⟨rfl, h2⟩ := List.cons_prefix_cons.mp h
    unfold Lib.compareBytes
    simp only [UInt8.lt_irrefl, if_false]
    exact cmp_prefix a b h2 (by simpa using l)
theorem cmp_three : ∀ (a b : List UInt8), Lib.compareBytes a b = -1 ∨ Lib.compareBytes a b = 0 ∨ Lib.compareBytes a b = 1
  | [], [] => by simp [Lib.compareBytes]
  | [], _ :: _ => by simp [Lib.compareBytes]
  | _ :: _, [] => by simp [Lib.compareBytes]
  | x :: a, y :: b => by
    unfold Lib.compareBytes
    split
    · simp
    · split
      · simp
      · exact cmp_three a b
theorem cmp_zero : ∀ (a b : List UInt8), Lib.compareBytes a b = 0 ↔ a = b
  | [], [] => by simp [Lib.compareBytes]
  | [], _ :: _ => by simp [Lib.compareBytes]
  | _ :: _, [] => by simp [Lib.compareBytes]
  | x :: a, y :: b => by
    unfold Lib.compareBytes
    split
    · rename_i h
      have : x ≠ y := fun e => UInt8.lt_irrefl _ (e ▸ h)
      simp [this]
    · split
      · rename_i h
        have : x ≠ y := fun e => UInt8.lt_irrefl _ (e ▸ h)
        simp [this]
      · rename_i h1 h2
        have : x = y := by
          apply UInt8.toNat_inj.mp
          rw [UInt8.lt_iff_toNat_lt] at h1 h2
          omega
        rw [cmp_zero a b, this]; simp
theorem cmp_neg : ∀ (a b : List UInt8), Lib.compareBytes b a = - Lib.compareBytes a b
  | [], [] => by simp [Lib.compareBytes]
  | [], _ :: _ => by simp [Lib.compareBytes]
  | _ :: _, [] => by simp [Lib.compareBytes]
  | x :: a, y :: b => by
    unfold Lib.compareBytes
    by_cases h1 : x < y
    · have h2 : ¬ y < x := fun h => UInt8.lt_irrefl _ (UInt8.lt_trans h h1)
      simp [h1, h2]
    · by_cases h2 : y < x
      · simp [h1, h2]
      · simp [h1, h2, cmp_neg a b]
theorem cmp_trans : ∀ (a b c : List UInt8), Lib.compareBytes a b ≤ 0 → Lib.compareBytes b c ≤ 0 → Lib.compareBytes a c ≤ 0
  | [], _, [], _, _ => by simp [Lib.compareBytes]
  | [], _, _ :: _, _, _ => by simp [Lib.compareBytes]
  | _ :: _, [], _, h, _ => by simp [Lib.compareBytes] at h
  | _ :: _, _ :: _, [], _, h => by simp [Lib.compareBytes] at h
  | x :: a, y :: b, z :: c, h1, h2 => by
    unfold Lib.compareBytes at h1 h2 ⊢
    have key : ¬ y < x ∧ ¬ z < y ∧ (x < y ∨ Lib.compareBytes a b ≤ 0) ∧ (y < z ∨ Lib.compareBytes b c ≤ 0) := by
      refine ⟨fun h => ?_, fun h => ?_, ?_, ?_⟩
      · have h' : ¬ x < y := fun h' => UInt8.lt_irrefl _ (UInt8.lt_trans h h')
        simp [h, h'] at h1
      · have h' : ¬ y < z := fun h' => UInt8.lt_irrefl _ (UInt8.lt_trans h h')
        simp [h, h'] at h2
      · by_cases h : x < y
        · exact Or.inl h
        · right; by_cases h' : y < x
          · simp [h, h'] at h1
          · simpa [h, h'] using h1
      · by_cases h : y < z
        · exact Or.inl h
        · right; by_cases h' : z < y
          · simp [h, h'] at h2
          · simpa [h, h'] using h2
    obtain ⟨n1, n2, k1, k2⟩ := key
    by_cases hxz : x < z
    · simp [hxz]
    · have e1 : x = y := by apply UInt8.toNat_inj.mp; rw [UInt8.lt_iff_toNat_lt] at n1 n2 hxz; omega
      have e2 : y = z := by apply UInt8.toNat_inj.mp; rw [UInt8.lt_iff_toNat_lt] at n1 n2 hxz; omega
      subst e1 e2
      simp only [UInt8.lt_irrefl, false_or, if_false] at k1 k2 ⊢
      exact cmp_trans a b c k1 k2

/-- The order from a place on. -/
theorem cmp_lo {a b : List UInt8} {k : Nat} (ha : k < a.length) (hb : k < b.length) (h : at8 a k < at8 b k) : Lib.compareBytes (a.drop k) (b.drop k) = -1 := by
  rw [List.drop_eq_getElem_cons ha, List.drop_eq_getElem_cons hb]
  unfold Lib.compareBytes
  have : a[k] < b[k] := by
    rw [UInt8.lt_iff_toNat_lt]
    simpa [at8, List.getD_eq_getElem?_getD, ha, hb] using h
  simp [this]
theorem cmp_hi {a b : List UInt8} {k : Nat} (ha : k < a.length) (hb : k < b.length) (h : at8 b k < at8 a k) : Lib.compareBytes (a.drop k) (b.drop k) = 1 := by
  have := cmp_lo hb ha h
  rw [cmp_neg] at this
  omega
theorem cmp_eq {a b : List UInt8} {k : Nat} (ha : k < a.length) (hb : k < b.length) (h : at8 a k = at8 b k) : Lib.compareBytes (a.drop k) (b.drop k) = Lib.compareBytes (a.drop (k + 1)) (b.drop (k + 1)) := by
  rw [List.drop_eq_getElem_cons ha, List.drop_eq_getElem_cons hb]
  have : a[k] = b[k] := by
    apply UInt8.toNat_inj.mp
    simpa [at8, List.getD_eq_getElem?_getD, ha, hb] using h
  rw [Lib.compareBytes, this]
  simp [UInt8.lt_irrefl]
theorem cmp_end {a b : List UInt8} {k : Nat} (h : a.length ≤ k ∨ b.length ≤ k) (ha : k ≤ a.length) (hb : k ≤ b.length) : Lib.compareBytes (a.drop k) (b.drop k) = if a.length < b.length then -1 else if b.length < a.length then 1 else 0 := by
  rcases h with h | h
  · have e : a.length = k := by omega
    rw [List.drop_of_length_le (by omega)]
    by_cases hk : k < b.length
    · rw [List.drop_eq_getElem_cons hk]; simp [Lib.compareBytes]; omega
    · rw [List.drop_of_length_le (by omega)]; simp [Lib.compareBytes]
      rw [if_neg (by omega), if_neg (by omega)]
  · have e : b.length = k := by omega
    rw [List.drop_of_length_le (l := b) (by omega)]
    by_cases hk : k < a.length
    · rw [List.drop_eq_getElem_cons hk]; simp [Lib.compareBytes]; rw [if_neg (by omega), if_pos (by omega)]
    · rw [List.drop_of_length_le (by omega)]; simp [Lib.compareBytes]
      rw [if_neg (by omega), if_neg (by omega)]

end Go.Proofs.YtbookbgfipbaoaaGreatDoor

/- The names of layer 1: what Compare and the document's Compare answer. -/
namespace Go.Proofs.YtbookbgfipbaoaaGreatDoor
open Go.RowKit

set_option maxRecDepth 100000 in
set_option maxHeartbeats 400000 in
theorem compare_in (a b : ByteArray) (w : World) :
    Calls Tryz.prog 195 #[.string a, .string b] w fun e w' => e = .returned (.int .i64 (Lib.compareBytes a.data.toList b.data.toList)) ∧ w = w' := by
  go_enter Tryz.func195, Tryz.ntmps195
  go_wp2
  rw [run_callFunc_extern Tryz.func207 (by kernel_rfl) (by kernel_rfl) (by kernel_rfl) (e := Extern.BytealgCompare.compare) (by kernel_rfl), Lib.run_compareString]
  simp only [Result.andThen]
  rw [Oper.upon_value]
  go_wp2
  go_ret
  exact ⟨rfl, rfl⟩
set_option maxRecDepth 100000 in
set_option maxHeartbeats 400000 in
theorem compare_mid (a b : ByteArray) (w : World) :
    Calls Tryz.prog 180 #[.string a, .string b] w fun e w' => e = .returned (.int .i64 (Lib.compareBytes a.data.toList b.data.toList)) ∧ w = w' := by
  go_enter Tryz.func180, Tryz.ntmps180
  go_wp2_with (go_at_call 195; refine (compare_in _ _ _).mono ?_; rintro e w' ⟨rfl, rfl⟩)
  go_ret
  exact ⟨rfl, rfl⟩
set_option maxRecDepth 100000 in
set_option maxHeartbeats 400000 in
theorem compare_any (a b : ByteArray) (w : World) :
    Calls Tryz.prog 150 #[.string a, .string b] w fun e w' => e = .returned (.int .i64 (Lib.compareBytes a.data.toList b.data.toList)) ∧ w = w' := by
  go_enter Tryz.func150, Tryz.ntmps150
  go_wp2_with (go_at_call 180; refine (compare_mid _ _ _).mono ?_; rintro e w' ⟨rfl, rfl⟩)
  go_ret
  exact ⟨rfl, rfl⟩
theorem compare_is (a b : ByteArray) (x : Int) (h : Hid (Lib.compareBytes a.data.toList b.data.toList = x)) (w : World) :
    Calls Tryz.prog 150 #[.string a, .string b] w fun e w' => e = .returned (.int .i64 x) ∧ w = w' := by
  rw [← h.out]; exact compare_any a b w

/-- A world with some draws more. -/
def Drawn (w w' : World) : Prop := ∃ n, w' = w.drewN n
theorem Drawn.refl (w : World) : Drawn w w := ⟨0, rfl⟩
theorem Drawn.more {w w1 : World} (h : Drawn w w1) (n : Nat) : Drawn w (w1.drewN n) := by
  obtain ⟨m, rfl⟩ := h
  exact ⟨m + n, by simp [World.drewN]; omega⟩

set_option maxRecDepth 100000 in
set_option maxHeartbeats 1000000 in
theorem rcompare_any (a b : ByteArray) (w : World) (ha : a.size ≤ 9223372036854775807) :
    Calls Tryz.prog 104 #[.string a, .string b] w fun e w' => e = .returned (.int .i64 (Lib.compareBytes a.data.toList b.data.toList)) ∧ Hid (Drawn w w') := by
  have la : a.data.toList.length = a.size := by simp
  have lb : b.data.toList.length = b.size := by simp
  have LA := Lib.hid la
  have LB := Lib.hid lb
  clear la lb
  go_enter Tryz.func104, Tryz.ntmps104
  go_wp2
  go_loopw [5] (fun i wr => ∃ k : Nat, k ≤ a.size ∧ k ≤ b.size ∧ i = .int .i64 k ∧ Hid (Lib.compareBytes a.data.toList b.data.toList = Lib.compareBytes (a.data.toList.drop k) (b.data.toList.drop k)) ∧ Hid (Drawn w wr)) (fun i _ => a.size - (intOf i).toNat)
  case atStart => exact ⟨0, by omega, by omega, rfl, rfl, Drawn.refl w⟩
  case round =>
    obtain ⟨k, hka, hkb, rfl, HC, HD⟩ := hrel
    by_cases h1 : k < a.size
    · by_cases h2 : k < b.size
      · have ea := Lib.hid (at8_lt a k h1)
        have eb := Lib.hid (at8_lt b k h2)
        by_cases c1 : (a[k].toNat : Int) < (b[k].toNat : Int)
        · go_wp2
          go_quiet (fail)
          go_wp2
          go_ret
          exact ⟨ret_int (by rw [HC.out, cmp_lo (by have := LA.out; omega) (by have := LB.out; omega) (by have := ea.out; have := eb.out; omega)]), HD.out.more _⟩
        · by_cases c2 : (b[k].toNat : Int) < (a[k].toNat : Int)
          · go_wp2
            go_quiet (fail)
            go_wp2
            go_quiet (fail)
            go_wp2
            go_ret
            exact ⟨ret_int (by rw [HC.out, cmp_hi (by have := LA.out; omega) (by have := LB.out; omega) (by have := ea.out; have := eb.out; omega)]), (HD.out.more _).more _⟩
          · go_wp2
            go_quiet (fail)
            go_wp2
            go_quiet (fail)
            go_wp2
            go_roundw
            case rel =>
              exact ⟨k + 1, by omega, by omega, by go_num, by show _ = _; rw [HC.out, cmp_eq (by have := LA.out; omega) (by have := LB.out; omega) (by have := ea.out; have := eb.out; omega)], HD.out.more _⟩
            case measure => simp [intOf]; omega
      · have HE : Hid (Lib.compareBytes a.data.toList b.data.toList = if a.data.toList.length < b.data.toList.length then -1 else if b.data.toList.length < a.data.toList.length then 1 else 0) := by
          show _ = _
          rw [HC.out]; exact cmp_end (Or.inr (by have := LB.out; omega)) (by have := LA.out; omega) (by have := LB.out; omega)
        have c1 : ¬ a.size < b.size := by omega
        have c2 : b.size < a.size := by omega
        go_wp2
        go_ret
        exact ⟨ret_int (by rw [HE.out, if_neg (by have := LA.out; have := LB.out; omega), if_pos (by have := LA.out; have := LB.out; omega)]), HD.out⟩
    · have HE : Hid (Lib.compareBytes a.data.toList b.data.toList = if a.data.toList.length < b.data.toList.length then -1 else if b.data.toList.length < a.data.toList.length then 1 else 0) := by
        show _ = _
        rw [HC.out]; exact cmp_end (Or.inl (by have := LA.out; omega)) (by have := LA.out; omega) (by have := LB.out; omega)
      by_cases c1 : a.size < b.size
      · go_wp2
        go_ret
        exact ⟨ret_int (by rw [HE.out, if_pos (by have := LA.out; have := LB.out; omega)]), HD.out⟩
      · have c2 : ¬ b.size < a.size := by omega
        go_wp2
        go_ret
        exact ⟨ret_int (by rw [HE.out, if_neg (by have := LA.out; have := LB.out; omega), if_neg (by have := LA.out; have := LB.out; omega)]), HD.out⟩

end Go.Proofs.YtbookbgfipbaoaaGreatDoor

/- item: what an item is as a value; counts, rightVersion, kindOf, shifted, Right. -/
namespace Go.Proofs.YtbookbgfipbaoaaGreatDoor.By
open Go.RowKit

/-- A version. -/
structure Vrs where
  id : ByteArray
  seq : Int
  stamp : Int
/-- An item whose place has whole parts. -/
structure Itm where
  key : Int
  ver : Vrs
  dead : Bool
  x : Int
  y : Int
  text : ByteArray
  held : Bool
def vrsV (v : Vrs) : Value := .agg #[.string v.id, .int .i64 v.seq, .int .i64 v.stamp]
def itmV (i : Itm) : Value := .agg #[.int .i64 i.key, .string i.ver.id, .int .i64 i.ver.seq, .int .i64 i.ver.stamp, .bool i.dead, .complex .f64 (fl i.x) (fl i.y), .string i.text, .bool i.held]

def countsF (n : Int) : Bool := decide (1 ≤ n) && decide (n ≤ 1048576)
def rightV (v : Vrs) : Bool := rightL v.id.data.toList && (countsF v.seq && countsF v.stamp)
def kindF (i : Itm) : Int := if i.dead then 0 else if i.held then 2 else 1

set_option maxRecDepth 100000 in
theorem counts_any (n : Int) (w : World) : Calls Tryz.prog 196 #[.int .i64 n] w fun e w' => e = .returned (.bool (countsF n)) ∧ w = w' := by
  have HC := Lib.hid (show countsF n = (decide (1 ≤ n) && decide (n ≤ 1048576)) from rfl)
  by_cases h : 1 ≤ n
  · rw [decide_eq_true h] at HC
    go_enter Tryz.func196, Tryz.ntmps196
    go_wp2
    go_ret
    exact ⟨ret_bool (by rw [HC.out]; rfl), rfl⟩
  · rw [decide_eq_false h] at HC
    have h' : decide (1 ≤ n) = false := by simpa using h
    go_enter Tryz.func196, Tryz.ntmps196
    go_wp2
    go_ret
    exact ⟨ret_bool (by rw [HC.out]; rfl), rfl⟩

set_option maxRecDepth 100000 in
set_option maxHeartbeats 1000000 in
theorem rightVersion_any (v : Vrs) (w : World) : Calls Tryz.prog 181 #[vrsV v] w fun e w' => e = .returned (.bool (rightV v)) ∧ Below w.heap.size w w' := by
  obtain ⟨d, a, s⟩ := v
  have HC := Lib.hid (show rightV ⟨d, a, s⟩ = (rightL d.data.toList && (countsF a && countsF s)) from rfl)
  have H1 := Lib.hid (counts_any a)
  have H2 := Lib.hid (counts_any s)
  have H3 := Lib.hid (right_any d)
  generalize rightL d.data.toList = b1 at *
  generalize countsF a = b2 at *
  generalize countsF s = b3 at *
  unfold vrsV
  go_enter Tryz.func181, Tryz.ntmps181
  go_wp2_with fail
  refine (H3.out _).mono ?_
  rintro e w1 ⟨rfl, rfl⟩
  cases b1
  · go_wp2
    go_ret
    exact ⟨ret_bool (by rw [HC.out]; rfl), (Below.refl _ _).alloc (Nat.le_refl _) _⟩
  · go_wp2_with fail
    refine (H1.out _).mono ?_
    rintro e w1 ⟨rfl, rfl⟩
    cases b2
    · go_wp2
      go_ret
      exact ⟨ret_bool (by rw [HC.out]; rfl), (Below.refl _ _).alloc (Nat.le_refl _) _⟩
    · go_wp2_with fail
      refine (H2.out _).mono ?_
      rintro e w1 ⟨rfl, rfl⟩
      go_wp2
      go_ret
      exact ⟨ret_bool (by rw [HC.out]; rfl), (Below.refl _ _).alloc (Nat.le_refl _) _⟩

set_option maxRecDepth 100000 in
set_option maxHeartbeats 1000000 in
theorem kindOf_any (i : Itm) (w : World) : Calls Tryz.prog 187 #[itmV i] w fun e w' => e = .returned (.int .i64 (kindF i)) ∧ Below w.heap.size w w' := by
  obtain ⟨key, ⟨d, a, s⟩, dead, x, y, text, held⟩ := i
  unfold itmV kindF
  simp only
  generalize fl x = fx
  generalize fl y = fy
  cases dead
  · cases held
    · go_enter Tryz.func187, Tryz.ntmps187
      go_wp2
      go_ret
      exact ⟨rfl, (Below.refl _ _).alloc (Nat.le_refl _) _⟩
    · go_enter Tryz.func187, Tryz.ntmps187
      go_wp2
      go_ret
      exact ⟨rfl, (Below.refl _ _).alloc (Nat.le_refl _) _⟩
  · go_enter Tryz.func187, Tryz.ntmps187
    go_wp2
    go_ret
    exact ⟨rfl, (Below.refl _ _).alloc (Nat.le_refl _) _⟩

theorem int_fl (n : Int) (h : n.natAbs < 2 ^ 53) : floatToIntVal .f64 (fl n) .i64 = some n := by
  unfold floatToIntVal
  have : (FloatKind.f64.decode (fl n)).toInt .zero = some n := toInt_num (read_fl n h)
  rw [this]
  simp only
  rw [if_pos]
  have e1 : IntKind.i64.min = -9223372036854775808 := rfl
  have e2 : IntKind.i64.max = 9223372036854775807 := rfl
  omega

set_option maxRecDepth 100000 in
set_option maxHeartbeats 1000000 in
theorem shifted_any (n : Int) (h : n.natAbs < 2 ^ 53) (w : World) : Calls Tryz.prog 188 #[.float .f64 (fl n)] w fun e w' => e = .returned (.int .i64 (n + 1000)) ∧ w = w' := by
  have hc : ∀ w, (convert 163 3 (.float .f64 (fl n))).run Tryz.prog w = .ok (.int .i64 n) w := fun w => run_convert_float_int w 163 3 .f64 .i64 _ n (by kernel_rfl) Tryz.underlying3 (int_fl n h)
  have hb : -9007199254740992 < n ∧ n < 9007199254740992 := by
    have : (2 : Nat) ^ 53 = 9007199254740992 := by decide
    omega
  generalize fl n = x at *
  obtain ⟨h1, h2⟩ := hb
  clear h
  go_enter Tryz.func188, Tryz.ntmps188
  go_wp2
  go_ret
  exact ⟨rfl, rfl⟩

theorem empty_size (s : ByteArray) : s.toList.isEmpty = decide (s.size = 0) := by
  rw [Lib.toList_data]
  have hl : s.data.toList.length = s.size := by simp
  rw [← hl]
  cases s.data.toList <;> simp
/-- May it be? -/
def rightI (i : Itm) : Bool := decide (0 ≤ i.key) && (decide (i.key < 32) && (rightV i.ver && (wholeF i.x i.y && (decide (i.text.size ≤ 16) && (!(i.dead && (!(decide (i.x = 0) && decide (i.y = 0)) || i.held)) && (i.held || decide (i.text.size = 0)))))))

theorem fl_zero : (0 : Nat) = fl 0 := by decide
theorem eql_zero (n : Int) (h : n.natAbs < 2 ^ 53) : (FloatKind.f64.format.order (fl n) 0 == some .eq) = decide (n = 0) := by
  have := eql_fl n 0 h (by decide)
  rwa [← fl_zero] at this

set_option maxRecDepth 100000 in
set_option maxHeartbeats 4000000 in
theorem itemRight_any (i : Itm) (hx : i.x.natAbs < 2 ^ 53) (hy : i.y.natAbs < 2 ^ 53) (w : World) : Calls Tryz.prog 152 #[itmV i] w fun e w' => e = .returned (.bool (rightI i)) ∧ Below w.heap.size w w' := by
  obtain ⟨key, v, dead, x, y, text, held⟩ := i
  have HC := Lib.hid (show rightI ⟨key, v, dead, x, y, text, held⟩ = (decide (0 ≤ key) && (decide (key < 32) && (rightV v && (wholeF x y && (decide (text.size ≤ 16) && (!(dead && (!(decide (x = 0) && decide (y = 0)) || held)) && (held || decide (text.size = 0)))))))) from rfl)
  have H1 := Lib.hid (rightVersion_any v)
  have H2 := Lib.hid (whole_any x y hx hy)
  have z1 := eql_zero x hx
  have z2 := eql_zero y hy
  unfold itmV
  simp only at hx hy ⊢
  unfold vrsV at H1
  obtain ⟨d, a, s⟩ := v
  simp only at H1 ⊢
  generalize rightV ⟨d, a, s⟩ = b1 at *
  generalize wholeF x y = b2 at *
  generalize fl x = fx at *
  generalize fl y = fy at *
  generalize decide (x = 0) = b3 at *
  generalize decide (y = 0) = b4 at *
  clear hx hy
  by_cases k0 : key < 0
  · rw [decide_eq_false (by omega)] at HC
    go_enter Tryz.func152, Tryz.ntmps152
    go_wp2
    go_ret
    exact ⟨ret_bool (by rw [HC.out]; rfl), (Below.refl _ _).alloc (Nat.le_refl _) _⟩
  · rw [decide_eq_true (show 0 ≤ key by omega)] at HC
    by_cases k1 : 32 ≤ key
    · rw [decide_eq_false (show ¬ key < 32 by omega)] at HC
      go_enter Tryz.func152, Tryz.ntmps152
      go_wp2
      go_ret
      exact ⟨ret_bool (by rw [HC.out]; rfl), (Below.refl _ _).alloc (Nat.le_refl _) _⟩
    · rw [decide_eq_true (show key < 32 by omega)] at HC
      go_enter Tryz.func152, Tryz.ntmps152
      go_wp2_with fail
      refine (H1.out _).mono ?_
      rintro e w1 ⟨rfl, hb⟩
      have q4 : w1.cell? ⟨w.heap.size, 4, none⟩ = some (.bool dead) := (hb.cell (by simp)).trans (by simp [go_sem])
      have q5 : w1.cell? ⟨w.heap.size, 5, none⟩ = some (.complex .f64 fx fy) := (hb.cell (by simp)).trans (by simp [go_sem])
      have q6 : w1.cell? ⟨w.heap.size, 6, none⟩ = some (.string text) := (hb.cell (by simp)).trans (by simp [go_sem])
      have q7 : w1.cell? ⟨w.heap.size, 7, none⟩ = some (.bool held) := (hb.cell (by simp)).trans (by simp [go_sem])
      have HB : Hid (Below w.heap.size w w1) := ((Below.refl _ _).alloc (Nat.le_refl _) _).trans (hb.mono (by simp))
      clear hb H1 k0 k1
      cases b1
      · go_wp2
        go_ret
        exact ⟨ret_bool (by rw [HC.out]; rfl), HB.out⟩
      · go_wp2_with fail
        refine (H2.out _).mono ?_
        rintro e w2 ⟨rfl, rfl⟩
        cases b2
        · go_wp2
          go_ret
          exact ⟨ret_bool (by rw [HC.out]; rfl), HB.out⟩
        · by_cases t16 : 16 < text.size
          · have t16' : (16 : Int) < text.size := by omega
            rw [decide_eq_false (show ¬ text.size ≤ 16 by omega)] at HC
            go_wp2
            go_ret
            exact ⟨ret_bool (by rw [HC.out]; rfl), HB.out⟩
          · have t16' : ¬ ((16 : Int) < text.size) := by omega
            rw [decide_eq_true (show text.size ≤ 16 by omega)] at HC
            have HE := Lib.hid (empty_size text)
            rw [← HE.out] at HC
            clear t16
            cases dead <;> cases held <;> cases b3 <;> cases b4
            all_goals
              go_wp2
              go_ret
              exact ⟨ret_bool (by rw [HC.out]; simp), HB.out⟩
end Go.Proofs.YtbookbgfipbaoaaGreatDoor.By
