/- wire's Reader: Read, Err, End, Num, Text. -/
import Derived.Test.YtophhjknbanafaaBd
namespace Go.Proofs.Ytophhjknbanafaa
open Go.RowKit

/-- In w there is a Reader in the block R, whose bytes lie in the block g. -/
structure ReaderAt (w : World) (R g : Nat) (st : Rd) : Prop where
  ne : st.1 ≠ [] → g ≠ R
  lt : R < w.heap.size
  f0 : w.frozen? ⟨R, 0, none⟩ = false
  f1 : w.frozen? ⟨R, 1, none⟩ = false
  c1 : w.cell? ⟨R, 1, none⟩ = some (.int .i64 (st.2 : Int))
  c0 : ∃ A c, w.cell? ⟨R, 0, none⟩ = some (.slice A st.1.length c) ∧ BytesAt w g A st.1.length st.1 ∧ st.1.length ≤ c ∧ c ≤ 9223372036854775807 ∧ st.1.length ≤ 1099511627776

theorem ReaderAt.keep {w w' : World} {R g : Nat} {st : Rd} (h : ReaderAt w R g st) (hb : Below w.heap.size w w') : ReaderAt w' R g st := by
  obtain ⟨A, c, h0, hz, r⟩ := h.c0
  exact ⟨h.ne, Nat.lt_of_lt_of_le h.lt hb.size, (hb.frozen (p := ⟨R, 0, none⟩) h.lt).trans h.f0, (hb.frozen (p := ⟨R, 1, none⟩) h.lt).trans h.f1, (hb.cell (p := ⟨R, 1, none⟩) h.lt).trans h.c1, A, c, (hb.cell (p := ⟨R, 0, none⟩) h.lt).trans h0, hz.keep hb, r⟩
/-- Another Reader's being read turns nothing here. -/
theorem ReaderAt.other {w w' : World} {R g R' : Nat} {st : Rd} (h : ReaderAt w R g st) (hg : w.grownBy w' (some R')) (h1 : R ≠ R') (h2 : st.1 ≠ [] → g ≠ R') : ReaderAt w' R g st := by
  obtain ⟨A, c, h0, hz, r⟩ := h.c0
  have hb := hg.block R h.lt (fun e => by injection e with e; exact h1 e)
  refine ⟨h.ne, Nat.lt_of_lt_of_le h.lt hg.size, (World.frozen?_of_block (a := ⟨R, 0, none⟩) hb).trans h.f0, (World.frozen?_of_block (a := ⟨R, 1, none⟩) hb).trans h.f1, (World.cell?_of_block (a := ⟨R, 1, none⟩) hb).trans h.c1, A, c, (World.cell?_of_block (a := ⟨R, 0, none⟩) hb).trans h0, hz.grown hg (fun hn e => ?_), r⟩
  injection e with e
  exact h2 (by intro e; rw [e] at hn; simp at hn) e.symm

set_option maxRecDepth 100000 in
set_option maxHeartbeats 1000000 in
theorem err_any {R g : Nat} {st : Rd} (w : World) (h : ReaderAt w R g st) : Calls Try.prog 28 #[.pointer (some ⟨R, 0, none⟩)] w fun e w' => e = .returned (.int .i64 (st.2 : Int)) ∧ w = w' := by
  have c1 := h.c1
  go_enter Try.func28, Try.ntmps28
  go_wp2
  go_ret
  exact ⟨rfl, rfl⟩
set_option maxRecDepth 100000 in
theorem err_nil (w : World) : Calls Try.prog 28 #[.pointer none] w fun e w' => e = .returned (.int .i64 1) ∧ w = w' := by
  go_enter Try.func28, Try.ntmps28
  go_wp2
  go_ret
  exact ⟨rfl, rfl⟩
set_option maxRecDepth 100000 in
set_option maxHeartbeats 1000000 in
theorem end_any {R g : Nat} {st : Rd} (w : World) (h : ReaderAt w R g st) : Calls Try.prog 26 #[.pointer (some ⟨R, 0, none⟩)] w fun e w' => e = .returned (.int .i64 (endF st : Int)) ∧ w = w' := by
  obtain ⟨A, c, h0, _, _⟩ := h.c0
  have HR := Lib.hid h
  clear h
  have HE := Lib.hid (show endF st = if st.2 ≠ 0 then st.2 else if st.1 = [] then 0 else 3 from rfl)
  go_enter Try.func26, Try.ntmps26
  go_wp2_with fail
  refine (err_any _ HR.out).mono ?_
  rintro e w1 ⟨rfl, rfl⟩
  by_cases h2 : st.2 = 0
  · rw [if_neg (by simpa using h2)] at HE
    rw [h2]
    by_cases h1 : st.1 = []
    · rw [if_pos h1] at HE
      rw [h1] at h0
      go_wp2
      go_ret
      exact ⟨ret_int (by rw [HE.out]; rfl), rfl⟩
    · rw [if_neg h1] at HE
      have h3 : 0 < st.1.length := List.length_pos_iff.mpr h1
      have h4 : (0 : Int) < st.1.length := by omega
      go_wp2
      go_ret
      exact ⟨ret_int (by rw [HE.out]; rfl), rfl⟩
  · rw [if_pos h2] at HE
    have h3 : ((st.2 : Int) != 0) = true := by simpa using h2
    go_wp2
    go_ret
    exact ⟨ret_int (by rw [HE.out]), rfl⟩
set_option maxRecDepth 100000 in
theorem end_nil (w : World) : Calls Try.prog 26 #[.pointer none] w fun e w' => e = .returned (.int .i64 1) ∧ w = w' := by
  go_enter Try.func26, Try.ntmps26
  go_wp2_with fail
  refine (err_nil _).mono ?_
  rintro e w1 ⟨rfl, rfl⟩
  go_wp2
  go_ret
  exact ⟨rfl, rfl⟩
set_option maxRecDepth 100000 in
theorem num_nil (most : Int) (w : World) : Calls Try.prog 44 #[.pointer none, .int .i64 most] w fun e w' => e = .returned (.int .i64 0) ∧ w = w' := by
  go_enter Try.func44, Try.ntmps44
  go_wp2_with fail
  refine (err_nil _).mono ?_
  rintro e w1 ⟨rfl, rfl⟩
  go_wp2
  go_ret
  exact ⟨rfl, rfl⟩
set_option maxRecDepth 100000 in
theorem text_nil (most : Int) (w : World) : Calls Try.prog 47 #[.pointer none, .int .i64 most] w fun e w' => e = .returned (.string ⟨#[]⟩) ∧ w = w' := by
  go_enter Try.func47, Try.ntmps47
  go_wp2_with fail
  refine (num_nil most _).mono ?_
  rintro e w1 ⟨rfl, rfl⟩
  go_wp2_with fail
  refine (err_nil _).mono ?_
  rintro e w1 ⟨rfl, rfl⟩
  go_wp2
  go_ret
  exact ⟨rfl, rfl⟩

/-- A Reader is made: in a block of its own, whose bytes are a copy. -/
def ReadRet (bs : List UInt8) (w : World) (e : Ending) (w' : World) : Prop := ∃ R g, e = .returned (.pointer (some ⟨R, 0, none⟩)) ∧ ReaderAt w' R g (bs, 0) ∧ w.heap.size ≤ R ∧ (bs ≠ [] → w.heap.size ≤ g) ∧ Below w.heap.size w w'

set_option maxRecDepth 100000 in
set_option maxHeartbeats 1000000 in
theorem read_any (A : Option Addr) (c g : Nat) (bs : List UInt8) (w : World) (hz : BytesAt w g A bs.length bs) (hn : bs.length ≤ 1099511627776) :
    Calls Try.prog 24 #[.slice A bs.length c] w (ReadRet bs w) := by
  have HZ := Lib.hid hz
  clear hz
  go_enter Try.func24, Try.ntmps24
  go_wp2_with fail
  refine (clone_any A c g bs _ HZ.out hn).mono ?_
  rintro e w1 ⟨A1, c1, rfl, hown, hb⟩
  have HO := Lib.hid hown
  have HB := Lib.hid hb
  clear hown hb
  go_wp2
  go_ret
  have hsz := HB.out.size
  obtain ⟨g1, hz1, _, hg1, hc1⟩ := own_bytes HO.out
  have hcap : c1 ≤ 9223372036854775807 := by
    rcases HO.out.2 with ⟨e, _⟩ | ⟨g', cap, cur, e, _, _, _, hm, _⟩
    · injection e with _ _ e; omega
    · injection e with _ _ e; unfold maxLen at hm; omega
  have hbel : Below w1.heap.size w1 (w1.alloc (.cells #[.slice A1 bs.length c1, .int .i64 0] 81)) := (Below.refl _ _).alloc (Nat.le_refl _) _
  have hnil : bs ≠ [] → 0 < bs.length := fun h => List.length_pos_iff.mpr h
  refine ⟨w1.heap.size, g1, rfl, ⟨fun h => ?_, ?_, ?_, ?_, ?_, A1, c1, ?_, hz1.keep hbel, hc1, hcap, hn⟩, hsz, fun h => (hg1 (hnil h)).1, HB.out.alloc hsz _⟩
  · have := hg1 (hnil h); omega
  · simp
  · simp [go_sem]
  · simp [go_sem]
  · simp [go_sem]
  · simp [go_sem]

/-- The Reader has gone on to st; nothing else that was there has turned. -/
def NumRet (v : Value) (R g : Nat) (st : Rd) (w : World) (e : Ending) (w' : World) : Prop := e = .returned v ∧ ReaderAt w' R g st ∧ w.grownBy w' (some R) ∧ w'.heap.size = w.heap.size

theorem grown_set {w : World} {p : Addr} (u : Value) : w.grownBy (w.setCell p u) (some p.block) :=
  ⟨rfl, rfl, rfl, by simp [World.setCell], fun k _ hne => Below.heap_setCell w p u k (fun e => hne (by rw [e]))⟩
theorem ReaderAt.setErr {w : World} {R g : Nat} {st : Rd} (h : ReaderAt w R g st) (e : Nat) : ReaderAt (w.setCell ⟨R, 1, none⟩ (.int .i64 (e : Int))) R g (st.1, e) := by
  obtain ⟨A, c, h0, hz, r⟩ := h.c0
  have hc1 := h.c1
  have hf0 := h.f0
  have hf1 := h.f1
  refine ⟨h.ne, by simpa [World.setCell] using h.lt, by simpa [go_sem] using hf0, by simpa [go_sem] using hf1, ?_, A, c, ?_, hz.grown (grown_set _) (fun hn e => ?_), r⟩
  · simp [go_sem, hc1]
  · simp [go_sem, h0]
  · injection e with e
    exact h.ne (by intro e; rw [e] at hn; simp at hn) e.symm

theorem ReaderAt.setRest {w : World} {R g : Nat} {st : Rd} (h : ReaderAt w R g st) {c t : Nat} {A : Option Addr} (h0 : w.cell? ⟨R, 0, none⟩ = some (.slice A st.1.length c)) (ht : t ≤ st.1.length) {A' : Option Addr} (hA : A' = A.map (fun x => x.add t) ∨ t = c) :
    ReaderAt (w.setCell ⟨R, 0, none⟩ (.slice A' (st.1.length - t) (c - t))) R g (st.1.drop t, st.2) := by
  obtain ⟨A1, c', h0', hz, hlc, hc63, hl⟩ := h.c0
  rw [h0] at h0'
  injection h0' with h0'
  injection h0' with e1 _ e2
  subst e1 e2
  have hc1 := h.c1
  have hf0 := h.f0
  have hf1 := h.f1
  have hnil : st.1.drop t ≠ [] → st.1 ≠ [] := fun hn e => hn (by rw [e]; simp)
  refine ⟨fun hn => h.ne (hnil hn), by simpa [World.setCell] using h.lt, by simpa [go_sem] using hf0, by simpa [go_sem] using hf1, ?_, A', c - t, ?_, ?_, ?_, by omega, ?_⟩
  · simp [go_sem, hc1]
  · simp [go_sem, h0]
  · simp only [List.length_drop]
    have hz1 : BytesAt w g A' (st.1.length - t) (st.1.drop t) := by
      rcases hA with rfl | rfl
      · rcases Nat.eq_zero_or_pos (st.1.length - t) with hz0 | hz0
        · exact ⟨by simp, fun hn => by omega⟩
        · obtain ⟨off, rfl, _⟩ := hz.2 (by omega)
          rw [Option.map_some, addr_add]
          exact hz.drop t ht
      · exact ⟨by simp, fun hn => by omega⟩
    refine hz1.grown (grown_set _) (fun hn e => ?_)
    injection e with e
    exact h.ne (by intro e; rw [e] at hn; simp at hn) e.symm
  · simp only [List.length_drop]; omega
  · simp only [List.length_drop]; omega

set_option maxRecDepth 100000 in
set_option maxHeartbeats 2000000 in
theorem num_any {R g : Nat} {st : Rd} (most : Int) (w : World) (h : ReaderAt w R g st) : Calls Try.prog 44 #[.pointer (some ⟨R, 0, none⟩), .int .i64 most] w (NumRet (.int .i64 (numF st most).1) R g (numF st most).2 w) := by
  obtain ⟨A, c, h0, hz, hlc, hc63, hl⟩ := h.c0
  have c1 := h.c1
  have f0 := h.f0
  have f1 := h.f1
  have HR := Lib.hid h
  have HZ := Lib.hid hz
  clear h hz
  have HN := Lib.hid (show numF st most = if st.2 ≠ 0 then (0, st) else
    if (firstF st.1 0 0).2.2 ≠ 0 then (0, (st.1, (firstF st.1 0 0).2.2)) else
    if most < ((firstF st.1 0 0).1 : Int) then (0, (st.1, 3)) else (((firstF st.1 0 0).1 : Int), (st.1.drop (firstF st.1 0 0).2.1, 0)) from rfl)
  generalize numF st most = N at HN ⊢
  go_enter Try.func44, Try.ntmps44
  go_wp2_with fail
  refine (err_any _ HR.out).mono ?_
  rintro e w1 ⟨rfl, rfl⟩
  by_cases h2 : st.2 = 0
  · rw [if_neg (by simpa using h2)] at HN
    rw [h2]
    go_wp2_with fail
    refine (first_any A c g st.1.length st.1 _ HZ.out hl).mono ?_
    rintro e w1 ⟨rfl, rfl⟩
    have HF := Lib.hid (first_back st.1 0 0)
    generalize firstF st.1 0 0 = T at HN HF ⊢
    obtain ⟨t0, t1, t2⟩ := T
    simp only at HN ⊢
    by_cases ht : t2 = 0
    · subst ht
      rw [if_neg (by simp)] at HN
      by_cases hm : most < (t0 : Int)
      · rw [if_pos hm] at HN
        go_wp2
        go_ret
        rw [HN.out]
        exact ⟨rfl, HR.out.setErr 3, grown_set _, by simp [World.setCell]⟩
      · rw [if_neg hm] at HN
        obtain ⟨m, hm0, hm1, htk, hle, _⟩ := HF.out t0 t1 rfl
        rw [Nat.zero_add] at hm1
        have hpos := digitsF_pos m
        have h1l : t1 ≤ st.1.length := by omega
        obtain ⟨off, rfl, hcc⟩ := HZ.out.2 (by omega)
        clear htk hm0 hm1 hle hpos hcc HF
        go_wp2
        · go_ret
          rw [HN.out]
          have := HR.out.setRest h0 h1l (A' := some ⟨g, off, none⟩) (.inr (by omega))
          rw [h2] at this
          rw [show c - t1 = 0 by omega] at this
          exact ⟨rfl, this, grown_set _, by simp [World.setCell]⟩
        · go_ret
          rw [HN.out]
          have := HR.out.setRest h0 h1l (A' := some ⟨g, off + t1, none⟩) (.inl (by rw [Option.map_some, addr_add]))
          rw [h2] at this
          exact ⟨rfl, this, grown_set _, by simp [World.setCell]⟩
    · rw [if_pos ht] at HN
      have ht1 : ((t2 : Int) == 0) = false := by simpa using ht
      have ht2 : ((t2 : Int) != 0) = true := by simpa using ht
      go_wp2
      go_ret
      rw [HN.out]
      exact ⟨rfl, HR.out.setErr t2, grown_set _, by simp [World.setCell]⟩
  · rw [if_pos h2] at HN
    have h3 : ((st.2 : Int) != 0) = true := by simpa using h2
    go_wp2
    go_ret
    rw [HN.out]
    exact ⟨rfl, HR.out, World.grownBy.refl _ _, rfl⟩

set_option maxRecDepth 100000 in
set_option maxHeartbeats 2000000 in
theorem text_any {R g : Nat} {st : Rd} (most : Int) (w : World) (h : ReaderAt w R g st) : Calls Try.prog 47 #[.pointer (some ⟨R, 0, none⟩), .int .i64 most] w (NumRet (.string ⟨(textF st most).1.toArray⟩) R g (textF st most).2 w) := by
  have HR := Lib.hid h
  clear h
  have HN := Lib.hid (show textF st most = if (numF st most).2.2 ≠ 0 then ([], (numF st most).2) else
    if ((numF st most).2.1.length : Int) < (numF st most).1 then ([], ((numF st most).2.1, 2)) else
    ((numF st most).2.1.take (numF st most).1.toNat, ((numF st most).2.1.drop (numF st most).1.toNat, 0)) from rfl)
  have hnn : 0 ≤ (numF st most).1 := by unfold numF; split <;> (try split) <;> (try split) <;> simp <;> omega
  generalize textF st most = N at HN ⊢
  go_enter Try.func47, Try.ntmps47
  go_wp2_with fail
  refine (num_any most _ HR.out).mono ?_
  generalize numF st most = M at HN hnn ⊢
  obtain ⟨n, rs, er⟩ := M
  rintro e w1 ⟨rfl, hR, hg, hsz⟩
  simp only at HN hR hnn ⊢
  obtain ⟨A, c, h0, hz, hlc, hc63, hl⟩ := hR.c0
  simp only at h0 hz hlc hl
  have c1 := hR.c1
  have f0 := hR.f0
  have f1 := hR.f1
  have HR1 := Lib.hid hR
  have HG := Lib.hid hg
  have HZ := Lib.hid hz
  have HSZ := Lib.hid hsz
  clear hR hg hz HR hsz
  go_wp2_with fail
  refine (err_any _ HR1.out).mono ?_
  rintro e w2 ⟨rfl, rfl⟩
  by_cases h2 : er = 0
  · subst h2
    rw [if_neg (by simp)] at HN
    by_cases hm : (rs.length : Int) < n
    · rw [if_pos hm] at HN
      go_wp2
      go_ret
      rw [HN.out]
      exact ⟨rfl, HR1.out.setErr 2, HG.out.trans (grown_set _), by simpa [World.setCell] using HSZ.out⟩
    · rw [if_neg hm] at HN
      obtain ⟨t, rfl⟩ : ∃ t : Nat, n = (t : Int) := ⟨n.toNat, by omega⟩
      rw [Int.toNat_natCast] at HN
      have hle : t ≤ rs.length := by omega
      have htx : ∀ A' c', (A' = A ∧ t ≤ rs.length) → (convert 47 9 (.slice A' t c')).run Try.prog w1 = .ok (.string ⟨(rs.take t).toArray⟩) w1 := by
        rintro A' c' ⟨rfl, _⟩
        exact run_text c' (HZ.out.take t hle)
      go_wp2
      · go_ret
        rw [HN.out]
        have := HR1.out.setRest h0 hle (A' := A) (.inr (by omega))
        rw [show c - t = 0 by omega] at this
        exact ⟨rfl, this, HG.out.trans (grown_set _), by simpa [World.setCell] using HSZ.out⟩
      · go_ret
        rw [HN.out]
        exact ⟨rfl, HR1.out.setRest h0 hle (.inl rfl), HG.out.trans (grown_set _), by simpa [World.setCell] using HSZ.out⟩
  · rw [if_pos h2] at HN
    have h3 : ((er : Int) != 0) = true := by simpa using h2
    go_wp2
    go_ret
    rw [HN.out]
    exact ⟨rfl, HR1.out, HG.out, HSZ.out⟩
end Go.Proofs.Ytophhjknbanafaa
