/- ItemTakes, walked. -/
import Derived.Test.YtophhjknbanafaaKh
import Derived.Deep.CutBlock
import Derived.Deep.DeepCutAuto
namespace Go.Proofs.Ytophhjknbanafaa
open Go.RowKit

theorem new_ref {w : World} {A : Option Addr} {c g : Nat} {zs : List UInt8} {e : TypeId} (hz : BytesAt w g A zs.length zs) (hlc : zs.length ≤ c) (hc : c ≤ 9223372036854775807) (hl : zs.length ≤ 1000000) :
    RefAt (w.alloc (.cells #[.slice A zs.length c, .int .i64 0, .int .i64 0] e)) w.heap.size g ⟨zs, 0, 0⟩ := by
  have hbel : Below w.heap.size w (w.alloc (.cells #[.slice A zs.length c, .int .i64 0, .int .i64 0] e)) := (Below.refl _ _).alloc (Nat.le_refl _) _
  refine ⟨fun h e => ?_, by simp, Nat.zero_le _, by simp [go_sem], by simp [go_sem], by simp [go_sem], by simp [go_sem], A, c, by simp [go_sem], hz.keep hbel, hlc, hc, hl⟩
  have := hz.lt (List.length_pos_iff.mpr h)
  omega
set_option maxRecDepth 100000 in
set_option maxHeartbeats 1000000 in
theorem neq_ref (i : Itm) (w : World) : (binOp .neq 35 (refV i) (refV i)).run Try.prog w = .ok (.bool false) w := by
  obtain ⟨i1, ⟨d1, a1, s1⟩, i3, i4, i5, i6, i7⟩ := i
  unfold refV
  simp only
  rw [run_neq_struct]
  go_simp
theorem take_fact (zs : List UInt8) (ok : Bool) (x : Itm) (hok : okI (zs, 0) = ok) (hx : (if okI (zs, 0) then rawI (zs, 0) else zeroI) = x) : (x.x.natAbs < 2 ^ 53 ∧ x.y.natAbs < 2 ^ 53) ∧ (ok = true → (putItm [] x).length ≤ zs.length ∧ zs.take (putItm [] x).length = putItm [] x) := by
  cases ok with
  | false =>
    rw [hok, if_neg (by decide)] at hx
    subst hx
    exact ⟨⟨by decide, by decide⟩, fun h => by cases h⟩
  | true =>
    rw [hok, if_pos rfl] at hx
    subst hx
    obtain ⟨hr, hz⟩ := take_back hok
    refine ⟨right_small hr, fun _ => ?_⟩
    unfold putItm
    rw [if_pos hr, List.nil_append]
    simp only at hz
    constructor
    · have := congrArg List.length hz
      rw [List.length_append] at this
      omega
    · generalize bytesF (rawI (zs, 0)) = F at *
      rw [hz]
      exact List.take_left

theorem r_num {st r : Rd} {n mo : Int} (e : numF st mo = (n, r)) (h : r.1 ≠ []) : st.1 ≠ [] := by
  have := num_rest (st := st) (mo := mo)
  rw [e] at this
  exact this h
theorem r_text {st r : Rd} {t : List UInt8} {mo : Int} (e : textF st mo = (t, r)) (h : r.1 ≠ []) : st.1 ≠ [] := by
  have := text_rest (st := st) (mo := mo)
  rw [e] at this
  exact this h
theorem tk_rest {st : Rd} (h : (tkE st).1 ≠ []) : st.1 ≠ [] := by
  have r5 : (tk5 st).2.1 ≠ [] → st.1 ≠ [] := fun h => r_num (tk1_eta st) (r_text (tk2_eta st) (r_num (tk3_eta st) (r_num (tk4_eta st) (r_num (tk5_eta st) h))))
  have r7 : (tk7 st).2.1 ≠ [] → st.1 ≠ [] := fun h => r5 (r_num (tk6_eta st) (r_num (tk7_eta st) h))
  have rS : (tkS st).1 ≠ [] → st.1 ≠ [] := fun h => by
    unfold tkS at h
    split at h
    · exact r7 h
    · exact r5 h
  unfold tkE at h
  split at h
  · exact rS (r_text (tk8_eta st) h)
  · exact rS h

set_option maxRecDepth 100000 in
set_option maxHeartbeats 8000000 in
theorem itemTakes_walk (A : Option Addr) (n c g : Nat) (bs : List UInt8) (w : World) (hz : BytesAt w g A n bs) (hc : n ≤ c) (hn : c ≤ 9223372036854775807) :
    Calls Try.prog 6 #[.slice A n c] w fun e w' => e = .returned (.bool true) ∧ Below w.heap.size w w' := by
  go_enter Try.func6, Try.ntmps6
  go_upto_region 1 with fail
  go_cut [0] (fun b wr => ∃ (zs : List UInt8), b = .slice A zs.length c ∧ zs.length ≤ 200 ∧ zs.length ≤ c ∧ w = wr ∧ Hid (BytesAt w g A zs.length zs))
  case first =>
    by_cases h3 : 200 < n
    · have h3' : (200 : Int) < n := by omega
      have HZ : Hid (BytesAt w g A 200 (bs.take 200)) := hz.take 200 (by omega)
      have hl : (bs.take 200).length = 200 := HZ.out.1
      have HL := Lib.hid hl
      clear hz hl
      go_wp2
      go_meet
      case rel => exact ⟨bs.take 200, by rw [HL.out], by rw [HL.out]; omega, by rw [HL.out]; omega, rfl, by rw [HL.out]; exact HZ⟩
    · have h3' : ¬ ((200 : Int) < n) := by omega
      have HZ := Lib.hid hz
      have HL := Lib.hid hz.1
      clear hz
      go_wp2
      go_meet
      case rel => exact ⟨bs, by rw [HL.out], by rw [HL.out]; omega, by rw [HL.out]; omega, rfl, by rw [HL.out]; exact HZ⟩
  case rest =>
    obtain ⟨zs, rfl, hz3, hzc, rfl, HZ⟩ := hcut
    clear hz hc
    obtain ⟨ok, hok⟩ : ∃ ok, okI (zs, 0) = ok := ⟨_, rfl⟩
    obtain ⟨it, hit⟩ : ∃ it, (if okI (zs, 0) then rawI (zs, 0) else zeroI) = it := ⟨_, rfl⟩
    have tf := take_fact zs ok it hok hit
    have HT : Hid (∀ {R g : Nat} (w : World), ReaderAt w R g (zs, 0) → Calls Try.prog 25 #[.pointer (some ⟨R, 0, none⟩)] w (RdRet (.tuple #[itmV it, .bool ok]) R g (tkE (zs, 0)) w)) := fun w h => by
      have := take_any w h
      rwa [hok, ← hok, hit, hok] at this
    have HT2 : Hid (∀ {Q g : Nat} {s : Rf} (w : World), s.B = zs → s.rd = (zs, 0) → RefAt w Q g s → Calls Try.prog 27 #[.pointer (some ⟨Q, 0, none⟩)] w (RefRet (.tuple #[refV it, .bool ok]) Q g zs (tkE (zs, 0)) w)) := fun w h1 h2 h => by
      have := refTake_any w h
      rwa [h2, h1, hok, ← hok, hit, hok] at this
    have HF := Lib.hid (from_any it tf.1.1 tf.1.2)
    have HNE := neq_ref it
    have HP := Lib.hid (itemPut_any none 0 0 [] it · (BytesAt.nil _ _ _) (by simp) tf.1.1 tf.1.2)
    have HTF := Lib.hid tf.2
    generalize putItm [] it = P at *
    have HE : Hid ((tkE (zs, 0)).1 ≠ [] → zs ≠ []) := fun h => tk_rest h
    generalize tkE (zs, 0) = E at *
    clear tf hok hit
    obtain ⟨key, ⟨d, a, s⟩, dead, x, y, text, held⟩ := it
    unfold itmV refV at *
    simp only at HT HT2 HF HNE HP
    generalize fl x = fx at *
    generalize fl y = fy at *
    have hst := store_complex
    go_wp2_with fail
    refine (read_any A c g zs _ HZ.out (by omega)).mono ?_
    rintro e w2 ⟨R, rg, rfl, hR, hlR, hlg, hb2⟩
    have HB2 := Lib.hid hb2
    have HR2 := Lib.hid hR
    have hRl : R < w2.heap.size := hR.lt
    have HRG : Hid (zs ≠ [] → w.heap.size ≤ rg ∧ rg < w2.heap.size) := fun h => by
      obtain ⟨_, _, _, hzz, _⟩ := hR.c0
      exact ⟨hlg h, hzz.lt (List.length_pos_iff.mpr h)⟩
    clear hR hlg hb2
    have HO3 : Hid ((w2.alloc (.cells #[] 5)).ownsRow w2.heap.size 5 1 (.slice (some ⟨w2.heap.size, 0, none⟩) 0 0) 0 (bytesV [])) := own_empty w2
    have HZ3 : Hid (BytesAt (w2.alloc (.cells #[] 5)) g A zs.length zs) := HZ.out.keep (HB2.out.alloc HB2.out.size _)
    have HBB : Hid (Below w2.heap.size w2 (w2.alloc (.cells #[] 5))) := (Below.refl _ _).alloc (Nat.le_refl _) _
    go_wp2_with (at_builtin; refine wpList_append_bytes (B := w2.heap.size) (g := g) (v := .slice (some ⟨w2.heap.size, 0, none⟩) 0 0) (n := 0) (zs := []) (A := A) (m := zs.length) (c := c) (ys := zs) rfl _ _ rfl rfl HO3.out rfl HZ3.out (by omega) HBB.out.size ?_; intro A4 c4 w4 hown4 hg4 _; have HO4 := Lib.hid hown4; have HB4 : Hid (Below w2.heap.size w2 w4) := HBB.out.grown hg4 HBB.out.size (fun i hi => (HO3.out.lt i hi).1); clear hown4 hg4)
    have ho4 := HO4.out
    rw [Nat.zero_add, List.nil_append] at ho4
    obtain ⟨qg, hz4, _, hg4, hc4⟩ := own_bytes ho4
    have hcap : c4 ≤ 9223372036854775807 := by
      rcases ho4.2 with ⟨e, _⟩ | ⟨g', cap, cur, e, _, _, _, hm, _⟩
      · injection e with _ _ e; omega
      · injection e with _ _ e; unfold maxLen at hm; omega
    have hbel : Below w4.heap.size w4 (w4.alloc (.cells #[.slice A4 zs.length c4, .int .i64 0, .int .i64 0] 60)) := (Below.refl _ _).alloc (Nat.le_refl _) _
    have HQ : Hid (RefAt (w4.alloc (.cells #[.slice A4 zs.length c4, .int .i64 0, .int .i64 0] 60)) w4.heap.size qg ⟨zs, 0, 0⟩) := new_ref hz4 hc4 hcap (by omega)
    have HR4 := Lib.hid ((HR2.out.keep HB4.out).keep hbel)
    have hs4 := HB4.out.size
    have HB : Hid (Below w.heap.size w (w4.alloc (.cells #[.slice A4 zs.length c4, .int .i64 0, .int .i64 0] 60))) := (HB2.out.trans (HB4.out.mono HB2.out.size)).alloc (Nat.le_trans HB2.out.size hs4) _
    have hQw : w.heap.size ≤ w4.heap.size := Nat.le_trans HB2.out.size hs4
    have hRQ : R < w4.heap.size := by omega
    have hQl : w4.heap.size < (w4.alloc (.cells #[.slice A4 zs.length c4, .int .i64 0, .int .i64 0] 60)).heap.size := by simp
    have HQG : Hid (zs ≠ [] → w2.heap.size ≤ qg) := fun h => by
      have h2 := hg4 (List.length_pos_iff.mpr h)
      omega
    generalize w4.alloc (.cells #[.slice A4 zs.length c4, .int .i64 0, .int .i64 0] 60) = W4 at *
    generalize w4.heap.size = Q at *
    clear ho4 hz4 hg4 hc4 hcap HO4 HO3 HZ3 HBB HB4 HR2 HB2 hbel
    refine (HT.out _ HR4.out).mono ?_
    rintro e w5 ⟨rfl, hR5, hg5⟩
    have HR := Lib.hid hR5
    replace HQ := Lib.hid (HQ.out.other hg5 (by omega) (fun h e => by have := HQG.out h; omega))
    replace HB := Lib.hid (HB.out.grown hg5 HB.out.size (fun k e => by injection e with e; omega))
    replace hQl := Nat.lt_of_lt_of_le hQl hg5.size
    clear hR5 hg5 HT HR4
    go_upto_region 5 with fail
    have k0 : (w5.alloc (.cells #[.int .i64 key, .string d, .int .i64 a, .int .i64 s, .bool dead, .complex .f64 fx fy, .string text, .bool held] 40)).cell? ⟨w5.heap.size, 0, none⟩ = some (.int .i64 key) := by simp [go_sem]
    have kf0 : (w5.alloc (.cells #[.int .i64 key, .string d, .int .i64 a, .int .i64 s, .bool dead, .complex .f64 fx fy, .string text, .bool held] 40)).frozen? ⟨w5.heap.size, 0, none⟩ = false := by simp [go_sem]
    have k1 : (w5.alloc (.cells #[.int .i64 key, .string d, .int .i64 a, .int .i64 s, .bool dead, .complex .f64 fx fy, .string text, .bool held] 40)).cell? ⟨w5.heap.size, 1, none⟩ = some (.string d) := by simp [go_sem]
    have kf1 : (w5.alloc (.cells #[.int .i64 key, .string d, .int .i64 a, .int .i64 s, .bool dead, .complex .f64 fx fy, .string text, .bool held] 40)).frozen? ⟨w5.heap.size, 1, none⟩ = false := by simp [go_sem]
    have k2 : (w5.alloc (.cells #[.int .i64 key, .string d, .int .i64 a, .int .i64 s, .bool dead, .complex .f64 fx fy, .string text, .bool held] 40)).cell? ⟨w5.heap.size, 2, none⟩ = some (.int .i64 a) := by simp [go_sem]
    have kf2 : (w5.alloc (.cells #[.int .i64 key, .string d, .int .i64 a, .int .i64 s, .bool dead, .complex .f64 fx fy, .string text, .bool held] 40)).frozen? ⟨w5.heap.size, 2, none⟩ = false := by simp [go_sem]
    have k3 : (w5.alloc (.cells #[.int .i64 key, .string d, .int .i64 a, .int .i64 s, .bool dead, .complex .f64 fx fy, .string text, .bool held] 40)).cell? ⟨w5.heap.size, 3, none⟩ = some (.int .i64 s) := by simp [go_sem]
    have kf3 : (w5.alloc (.cells #[.int .i64 key, .string d, .int .i64 a, .int .i64 s, .bool dead, .complex .f64 fx fy, .string text, .bool held] 40)).frozen? ⟨w5.heap.size, 3, none⟩ = false := by simp [go_sem]
    have k4 : (w5.alloc (.cells #[.int .i64 key, .string d, .int .i64 a, .int .i64 s, .bool dead, .complex .f64 fx fy, .string text, .bool held] 40)).cell? ⟨w5.heap.size, 4, none⟩ = some (.bool dead) := by simp [go_sem]
    have kf4 : (w5.alloc (.cells #[.int .i64 key, .string d, .int .i64 a, .int .i64 s, .bool dead, .complex .f64 fx fy, .string text, .bool held] 40)).frozen? ⟨w5.heap.size, 4, none⟩ = false := by simp [go_sem]
    have k5 : (w5.alloc (.cells #[.int .i64 key, .string d, .int .i64 a, .int .i64 s, .bool dead, .complex .f64 fx fy, .string text, .bool held] 40)).cell? ⟨w5.heap.size, 5, none⟩ = some (.complex .f64 fx fy) := by simp [go_sem]
    have kf5 : (w5.alloc (.cells #[.int .i64 key, .string d, .int .i64 a, .int .i64 s, .bool dead, .complex .f64 fx fy, .string text, .bool held] 40)).frozen? ⟨w5.heap.size, 5, none⟩ = false := by simp [go_sem]
    have k6 : (w5.alloc (.cells #[.int .i64 key, .string d, .int .i64 a, .int .i64 s, .bool dead, .complex .f64 fx fy, .string text, .bool held] 40)).cell? ⟨w5.heap.size, 6, none⟩ = some (.string text) := by simp [go_sem]
    have kf6 : (w5.alloc (.cells #[.int .i64 key, .string d, .int .i64 a, .int .i64 s, .bool dead, .complex .f64 fx fy, .string text, .bool held] 40)).frozen? ⟨w5.heap.size, 6, none⟩ = false := by simp [go_sem]
    have k7 : (w5.alloc (.cells #[.int .i64 key, .string d, .int .i64 a, .int .i64 s, .bool dead, .complex .f64 fx fy, .string text, .bool held] 40)).cell? ⟨w5.heap.size, 7, none⟩ = some (.bool held) := by simp [go_sem]
    have kf7 : (w5.alloc (.cells #[.int .i64 key, .string d, .int .i64 a, .int .i64 s, .bool dead, .complex .f64 fx fy, .string text, .bool held] 40)).frozen? ⟨w5.heap.size, 7, none⟩ = false := by simp [go_sem]
    have kz : w5.heap.size < (w5.alloc (.cells #[.int .i64 key, .string d, .int .i64 a, .int .i64 s, .bool dead, .complex .f64 fx fy, .string text, .bool held] 40)).heap.size := by simp <;> omega
    have hb : Below w5.heap.size w5 (w5.alloc (.cells #[.int .i64 key, .string d, .int .i64 a, .int .i64 s, .bool dead, .complex .f64 fx fy, .string text, .bool held] 40)) := (Below.refl _ _).alloc (Nat.le_refl _) _
    replace HR := Lib.hid (HR.out.keep hb)
    replace HQ := Lib.hid (HQ.out.keep hb)
    replace HB := Lib.hid (HB.out.trans (hb.mono HB.out.size))
    have hXQ : w5.heap.size ≠ Q := by omega
    have nk : some w5.heap.size ≠ (some Q : Option Nat) := fun e => by injection e with e; omega
    replace hQl := Nat.lt_of_lt_of_le hQl hb.size
    clear hb hXQ
    generalize (w5.alloc (.cells #[.int .i64 key, .string d, .int .i64 a, .int .i64 s, .bool dead, .complex .f64 fx fy, .string text, .bool held] 40)) = W5 at *
    generalize w5.heap.size = X at *
    go_wp2_with fail
    refine (HT2.out _ rfl rfl HQ.out).mono ?_
    rintro e w6 ⟨rfl, ⟨s6, hB6, hrd6, hQ6⟩, hg6⟩
    replace kf0 := (own_cell hg6 kz nk 0).2.trans kf0
    replace k0 := (own_cell hg6 kz nk 0).1.trans k0
    replace kf1 := (own_cell hg6 kz nk 1).2.trans kf1
    replace k1 := (own_cell hg6 kz nk 1).1.trans k1
    replace kf2 := (own_cell hg6 kz nk 2).2.trans kf2
    replace k2 := (own_cell hg6 kz nk 2).1.trans k2
    replace kf3 := (own_cell hg6 kz nk 3).2.trans kf3
    replace k3 := (own_cell hg6 kz nk 3).1.trans k3
    replace kf4 := (own_cell hg6 kz nk 4).2.trans kf4
    replace k4 := (own_cell hg6 kz nk 4).1.trans k4
    replace kf5 := (own_cell hg6 kz nk 5).2.trans kf5
    replace k5 := (own_cell hg6 kz nk 5).1.trans k5
    replace kf6 := (own_cell hg6 kz nk 6).2.trans kf6
    replace k6 := (own_cell hg6 kz nk 6).1.trans k6
    replace kf7 := (own_cell hg6 kz nk 7).2.trans kf7
    replace k7 := (own_cell hg6 kz nk 7).1.trans k7
    replace kz := Nat.lt_of_lt_of_le kz hg6.size
    replace HR := Lib.hid (HR.out.other hg6 (by omega) (fun h e => by have := HRG.out (HE.out h); omega))
    replace HB := Lib.hid (HB.out.grown hg6 HB.out.size (fun k e => by injection e with e; omega))
    have hbad : s6.bad = E.2 := congrArg Prod.snd hrd6
    have q2 := hQ6.c2
    rw [hbad] at q2
    have qz : Q < w6.heap.size := hQ6.lt
    clear hQ6 hg6 HT2 HQ hrd6 hB6 hbad hQl
    go_upto_region 6 with fail
    replace k0 : (w6.alloc (.cells #[.int .i64 key, .string d, .int .i64 a, .int .i64 s, .bool dead, .int .i64 x, .int .i64 y, .string text, .bool held] 35)).cell? ⟨X, 0, none⟩ = some (.int .i64 key) := by simp [go_sem, k0, kz]
    replace kf0 : (w6.alloc (.cells #[.int .i64 key, .string d, .int .i64 a, .int .i64 s, .bool dead, .int .i64 x, .int .i64 y, .string text, .bool held] 35)).frozen? ⟨X, 0, none⟩ = false := by simp [go_sem, kf0, kz]
    replace k1 : (w6.alloc (.cells #[.int .i64 key, .string d, .int .i64 a, .int .i64 s, .bool dead, .int .i64 x, .int .i64 y, .string text, .bool held] 35)).cell? ⟨X, 1, none⟩ = some (.string d) := by simp [go_sem, k1, kz]
    replace kf1 : (w6.alloc (.cells #[.int .i64 key, .string d, .int .i64 a, .int .i64 s, .bool dead, .int .i64 x, .int .i64 y, .string text, .bool held] 35)).frozen? ⟨X, 1, none⟩ = false := by simp [go_sem, kf1, kz]
    replace k2 : (w6.alloc (.cells #[.int .i64 key, .string d, .int .i64 a, .int .i64 s, .bool dead, .int .i64 x, .int .i64 y, .string text, .bool held] 35)).cell? ⟨X, 2, none⟩ = some (.int .i64 a) := by simp [go_sem, k2, kz]
    replace kf2 : (w6.alloc (.cells #[.int .i64 key, .string d, .int .i64 a, .int .i64 s, .bool dead, .int .i64 x, .int .i64 y, .string text, .bool held] 35)).frozen? ⟨X, 2, none⟩ = false := by simp [go_sem, kf2, kz]
    replace k3 : (w6.alloc (.cells #[.int .i64 key, .string d, .int .i64 a, .int .i64 s, .bool dead, .int .i64 x, .int .i64 y, .string text, .bool held] 35)).cell? ⟨X, 3, none⟩ = some (.int .i64 s) := by simp [go_sem, k3, kz]
    replace kf3 : (w6.alloc (.cells #[.int .i64 key, .string d, .int .i64 a, .int .i64 s, .bool dead, .int .i64 x, .int .i64 y, .string text, .bool held] 35)).frozen? ⟨X, 3, none⟩ = false := by simp [go_sem, kf3, kz]
    replace k4 : (w6.alloc (.cells #[.int .i64 key, .string d, .int .i64 a, .int .i64 s, .bool dead, .int .i64 x, .int .i64 y, .string text, .bool held] 35)).cell? ⟨X, 4, none⟩ = some (.bool dead) := by simp [go_sem, k4, kz]
    replace kf4 : (w6.alloc (.cells #[.int .i64 key, .string d, .int .i64 a, .int .i64 s, .bool dead, .int .i64 x, .int .i64 y, .string text, .bool held] 35)).frozen? ⟨X, 4, none⟩ = false := by simp [go_sem, kf4, kz]
    replace k5 : (w6.alloc (.cells #[.int .i64 key, .string d, .int .i64 a, .int .i64 s, .bool dead, .int .i64 x, .int .i64 y, .string text, .bool held] 35)).cell? ⟨X, 5, none⟩ = some (.complex .f64 fx fy) := by simp [go_sem, k5, kz]
    replace kf5 : (w6.alloc (.cells #[.int .i64 key, .string d, .int .i64 a, .int .i64 s, .bool dead, .int .i64 x, .int .i64 y, .string text, .bool held] 35)).frozen? ⟨X, 5, none⟩ = false := by simp [go_sem, kf5, kz]
    replace k6 : (w6.alloc (.cells #[.int .i64 key, .string d, .int .i64 a, .int .i64 s, .bool dead, .int .i64 x, .int .i64 y, .string text, .bool held] 35)).cell? ⟨X, 6, none⟩ = some (.string text) := by simp [go_sem, k6, kz]
    replace kf6 : (w6.alloc (.cells #[.int .i64 key, .string d, .int .i64 a, .int .i64 s, .bool dead, .int .i64 x, .int .i64 y, .string text, .bool held] 35)).frozen? ⟨X, 6, none⟩ = false := by simp [go_sem, kf6, kz]
    replace k7 : (w6.alloc (.cells #[.int .i64 key, .string d, .int .i64 a, .int .i64 s, .bool dead, .int .i64 x, .int .i64 y, .string text, .bool held] 35)).cell? ⟨X, 7, none⟩ = some (.bool held) := by simp [go_sem, k7, kz]
    replace kf7 : (w6.alloc (.cells #[.int .i64 key, .string d, .int .i64 a, .int .i64 s, .bool dead, .int .i64 x, .int .i64 y, .string text, .bool held] 35)).frozen? ⟨X, 7, none⟩ = false := by simp [go_sem, kf7, kz]
    replace kz : X < (w6.alloc (.cells #[.int .i64 key, .string d, .int .i64 a, .int .i64 s, .bool dead, .int .i64 x, .int .i64 y, .string text, .bool held] 35)).heap.size := by simp <;> omega
    have m0 : (w6.alloc (.cells #[.int .i64 key, .string d, .int .i64 a, .int .i64 s, .bool dead, .int .i64 x, .int .i64 y, .string text, .bool held] 35)).cell? ⟨w6.heap.size, 0, none⟩ = some (.int .i64 key) := by simp [go_sem]
    have mf0 : (w6.alloc (.cells #[.int .i64 key, .string d, .int .i64 a, .int .i64 s, .bool dead, .int .i64 x, .int .i64 y, .string text, .bool held] 35)).frozen? ⟨w6.heap.size, 0, none⟩ = false := by simp [go_sem]
    have m1 : (w6.alloc (.cells #[.int .i64 key, .string d, .int .i64 a, .int .i64 s, .bool dead, .int .i64 x, .int .i64 y, .string text, .bool held] 35)).cell? ⟨w6.heap.size, 1, none⟩ = some (.string d) := by simp [go_sem]
    have mf1 : (w6.alloc (.cells #[.int .i64 key, .string d, .int .i64 a, .int .i64 s, .bool dead, .int .i64 x, .int .i64 y, .string text, .bool held] 35)).frozen? ⟨w6.heap.size, 1, none⟩ = false := by simp [go_sem]
    have m2 : (w6.alloc (.cells #[.int .i64 key, .string d, .int .i64 a, .int .i64 s, .bool dead, .int .i64 x, .int .i64 y, .string text, .bool held] 35)).cell? ⟨w6.heap.size, 2, none⟩ = some (.int .i64 a) := by simp [go_sem]
    have mf2 : (w6.alloc (.cells #[.int .i64 key, .string d, .int .i64 a, .int .i64 s, .bool dead, .int .i64 x, .int .i64 y, .string text, .bool held] 35)).frozen? ⟨w6.heap.size, 2, none⟩ = false := by simp [go_sem]
    have m3 : (w6.alloc (.cells #[.int .i64 key, .string d, .int .i64 a, .int .i64 s, .bool dead, .int .i64 x, .int .i64 y, .string text, .bool held] 35)).cell? ⟨w6.heap.size, 3, none⟩ = some (.int .i64 s) := by simp [go_sem]
    have mf3 : (w6.alloc (.cells #[.int .i64 key, .string d, .int .i64 a, .int .i64 s, .bool dead, .int .i64 x, .int .i64 y, .string text, .bool held] 35)).frozen? ⟨w6.heap.size, 3, none⟩ = false := by simp [go_sem]
    have m4 : (w6.alloc (.cells #[.int .i64 key, .string d, .int .i64 a, .int .i64 s, .bool dead, .int .i64 x, .int .i64 y, .string text, .bool held] 35)).cell? ⟨w6.heap.size, 4, none⟩ = some (.bool dead) := by simp [go_sem]
    have mf4 : (w6.alloc (.cells #[.int .i64 key, .string d, .int .i64 a, .int .i64 s, .bool dead, .int .i64 x, .int .i64 y, .string text, .bool held] 35)).frozen? ⟨w6.heap.size, 4, none⟩ = false := by simp [go_sem]
    have m5 : (w6.alloc (.cells #[.int .i64 key, .string d, .int .i64 a, .int .i64 s, .bool dead, .int .i64 x, .int .i64 y, .string text, .bool held] 35)).cell? ⟨w6.heap.size, 5, none⟩ = some (.int .i64 x) := by simp [go_sem]
    have mf5 : (w6.alloc (.cells #[.int .i64 key, .string d, .int .i64 a, .int .i64 s, .bool dead, .int .i64 x, .int .i64 y, .string text, .bool held] 35)).frozen? ⟨w6.heap.size, 5, none⟩ = false := by simp [go_sem]
    have m6 : (w6.alloc (.cells #[.int .i64 key, .string d, .int .i64 a, .int .i64 s, .bool dead, .int .i64 x, .int .i64 y, .string text, .bool held] 35)).cell? ⟨w6.heap.size, 6, none⟩ = some (.int .i64 y) := by simp [go_sem]
    have mf6 : (w6.alloc (.cells #[.int .i64 key, .string d, .int .i64 a, .int .i64 s, .bool dead, .int .i64 x, .int .i64 y, .string text, .bool held] 35)).frozen? ⟨w6.heap.size, 6, none⟩ = false := by simp [go_sem]
    have m7 : (w6.alloc (.cells #[.int .i64 key, .string d, .int .i64 a, .int .i64 s, .bool dead, .int .i64 x, .int .i64 y, .string text, .bool held] 35)).cell? ⟨w6.heap.size, 7, none⟩ = some (.string text) := by simp [go_sem]
    have mf7 : (w6.alloc (.cells #[.int .i64 key, .string d, .int .i64 a, .int .i64 s, .bool dead, .int .i64 x, .int .i64 y, .string text, .bool held] 35)).frozen? ⟨w6.heap.size, 7, none⟩ = false := by simp [go_sem]
    have m8 : (w6.alloc (.cells #[.int .i64 key, .string d, .int .i64 a, .int .i64 s, .bool dead, .int .i64 x, .int .i64 y, .string text, .bool held] 35)).cell? ⟨w6.heap.size, 8, none⟩ = some (.bool held) := by simp [go_sem]
    have mf8 : (w6.alloc (.cells #[.int .i64 key, .string d, .int .i64 a, .int .i64 s, .bool dead, .int .i64 x, .int .i64 y, .string text, .bool held] 35)).frozen? ⟨w6.heap.size, 8, none⟩ = false := by simp [go_sem]
    have mz : w6.heap.size < (w6.alloc (.cells #[.int .i64 key, .string d, .int .i64 a, .int .i64 s, .bool dead, .int .i64 x, .int .i64 y, .string text, .bool held] 35)).heap.size := by simp <;> omega
    have hb : Below w6.heap.size w6 (w6.alloc (.cells #[.int .i64 key, .string d, .int .i64 a, .int .i64 s, .bool dead, .int .i64 x, .int .i64 y, .string text, .bool held] 35)) := (Below.refl _ _).alloc (Nat.le_refl _) _
    replace HR := Lib.hid (HR.out.keep hb)
    replace HB := Lib.hid (HB.out.trans (hb.mono HB.out.size))
    replace q2 := (hb.cell (p := ⟨Q, 2, none⟩) qz).trans q2
    replace qz := Nat.lt_of_lt_of_le qz hb.size
    clear hb
    generalize (w6.alloc (.cells #[.int .i64 key, .string d, .int .i64 a, .int .i64 s, .bool dead, .int .i64 x, .int .i64 y, .string text, .bool held] 35)) = W6 at *
    generalize w6.heap.size = Y at *
    refine wp_region_held_drew (S := fun w' => w'.cell? ⟨X, 0, none⟩ = some (.int .i64 key) ∧ w'.cell? ⟨X, 1, none⟩ = some (.string d) ∧ w'.cell? ⟨X, 2, none⟩ = some (.int .i64 a) ∧ w'.cell? ⟨X, 3, none⟩ = some (.int .i64 s) ∧ w'.cell? ⟨X, 4, none⟩ = some (.bool dead) ∧ w'.cell? ⟨X, 5, none⟩ = some (.complex .f64 fx fy) ∧ w'.cell? ⟨X, 6, none⟩ = some (.string text) ∧ w'.cell? ⟨X, 7, none⟩ = some (.bool held) ∧ w'.cell? ⟨Y, 0, none⟩ = some (.int .i64 key) ∧ w'.cell? ⟨Y, 1, none⟩ = some (.string d) ∧ w'.cell? ⟨Y, 2, none⟩ = some (.int .i64 a) ∧ w'.cell? ⟨Y, 3, none⟩ = some (.int .i64 s) ∧ w'.cell? ⟨Y, 4, none⟩ = some (.bool dead) ∧ w'.cell? ⟨Y, 5, none⟩ = some (.int .i64 x) ∧ w'.cell? ⟨Y, 6, none⟩ = some (.int .i64 y) ∧ w'.cell? ⟨Y, 7, none⟩ = some (.string text) ∧ w'.cell? ⟨Y, 8, none⟩ = some (.bool held) ∧ w'.cell? ⟨Q, 2, none⟩ = some (.int .i64 (E.2 : Int))) (by kernel_rfl) ⟨k0, k1, k2, k3, k4, k5, k6, k7, m0, m1, m2, m3, m4, m5, m6, m7, m8, q2⟩ (fun hHeld => ?_)
    refine wpAnyH_ready (rs := [0]) (by kernel_rfl) (by simp) ?_
    refine AllReadyH.cons (o := { dst := some 32, op := Go.Op.call { callee := Go.Callee.value (Go.Operand.func 11), args := #[], argTypes := #[] }, type := 4, pos := "law.go:81", after := #[], guard := none }) rfl (fun K hK => ?_) AllReadyH.nil
    go_simp
    go_at_call 11
    refine (told_any _).mono ?_
    rintro e v ⟨rfl, hb⟩
    replace k0 := (hb.cell (p := ⟨X, 0, none⟩) kz).trans k0
    replace kf0 := (hb.frozen (p := ⟨X, 0, none⟩) kz).trans kf0
    replace k1 := (hb.cell (p := ⟨X, 1, none⟩) kz).trans k1
    replace kf1 := (hb.frozen (p := ⟨X, 1, none⟩) kz).trans kf1
    replace k2 := (hb.cell (p := ⟨X, 2, none⟩) kz).trans k2
    replace kf2 := (hb.frozen (p := ⟨X, 2, none⟩) kz).trans kf2
    replace k3 := (hb.cell (p := ⟨X, 3, none⟩) kz).trans k3
    replace kf3 := (hb.frozen (p := ⟨X, 3, none⟩) kz).trans kf3
    replace k4 := (hb.cell (p := ⟨X, 4, none⟩) kz).trans k4
    replace kf4 := (hb.frozen (p := ⟨X, 4, none⟩) kz).trans kf4
    replace k5 := (hb.cell (p := ⟨X, 5, none⟩) kz).trans k5
    replace kf5 := (hb.frozen (p := ⟨X, 5, none⟩) kz).trans kf5
    replace k6 := (hb.cell (p := ⟨X, 6, none⟩) kz).trans k6
    replace kf6 := (hb.frozen (p := ⟨X, 6, none⟩) kz).trans kf6
    replace k7 := (hb.cell (p := ⟨X, 7, none⟩) kz).trans k7
    replace kf7 := (hb.frozen (p := ⟨X, 7, none⟩) kz).trans kf7
    replace kz := Nat.lt_of_lt_of_le kz hb.size
    replace m0 := (hb.cell (p := ⟨Y, 0, none⟩) mz).trans m0
    replace mf0 := (hb.frozen (p := ⟨Y, 0, none⟩) mz).trans mf0
    replace m1 := (hb.cell (p := ⟨Y, 1, none⟩) mz).trans m1
    replace mf1 := (hb.frozen (p := ⟨Y, 1, none⟩) mz).trans mf1
    replace m2 := (hb.cell (p := ⟨Y, 2, none⟩) mz).trans m2
    replace mf2 := (hb.frozen (p := ⟨Y, 2, none⟩) mz).trans mf2
    replace m3 := (hb.cell (p := ⟨Y, 3, none⟩) mz).trans m3
    replace mf3 := (hb.frozen (p := ⟨Y, 3, none⟩) mz).trans mf3
    replace m4 := (hb.cell (p := ⟨Y, 4, none⟩) mz).trans m4
    replace mf4 := (hb.frozen (p := ⟨Y, 4, none⟩) mz).trans mf4
    replace m5 := (hb.cell (p := ⟨Y, 5, none⟩) mz).trans m5
    replace mf5 := (hb.frozen (p := ⟨Y, 5, none⟩) mz).trans mf5
    replace m6 := (hb.cell (p := ⟨Y, 6, none⟩) mz).trans m6
    replace mf6 := (hb.frozen (p := ⟨Y, 6, none⟩) mz).trans mf6
    replace m7 := (hb.cell (p := ⟨Y, 7, none⟩) mz).trans m7
    replace mf7 := (hb.frozen (p := ⟨Y, 7, none⟩) mz).trans mf7
    replace m8 := (hb.cell (p := ⟨Y, 8, none⟩) mz).trans m8
    replace mf8 := (hb.frozen (p := ⟨Y, 8, none⟩) mz).trans mf8
    replace mz := Nat.lt_of_lt_of_le mz hb.size
    replace q2 := (hb.cell (p := ⟨Q, 2, none⟩) qz).trans q2
    replace qz := Nat.lt_of_lt_of_le qz hb.size
    replace HR := Lib.hid (HR.out.keep (below_via (Below.refl _ _) hb (Nat.le_refl _) ⟨rfl, rfl, rfl, rfl⟩))
    replace HB := Lib.hid (below_via HB.out hb HB.out.size ⟨rfl, rfl, rfl, rfl⟩)
    clear hb
    refine hK.out _ _ ⟨k0, k1, k2, k3, k4, k5, k6, k7, m0, m1, m2, m3, m4, m5, m6, m7, m8, q2⟩ (fun hHeld => ?_)
    clear hK K
    try simp only [Act.put, List.setIfInBounds_toArray, List.set_cons_zero, List.set_cons_succ]
    refine wpAnyH_take (i := 1) (oi := { dst := some 33, op := Go.Op.unOp Go.UnOp.not 4 (Go.Operand.tmp 32), type := 4, pos := "law.go:81", after := #[{ on := 0, ground := Go.Ground.data }], guard := none }) (v := ?_) rfl (by kernel_rfl) (by kernel_rfl) (by kernel_rfl) (fun _ _ _ h => h) (Or.inl ⟨rfl, ?_⟩) (by assumption) ?_
    rotate_left
    · intro wz hSw; (try dsimp only at hSw); go_simp; try (with_reducible rfl)
    try simp only [Act.put, List.setIfInBounds_toArray, List.set_cons_zero, List.set_cons_succ]
    refine wpAnyH_take (i := 2) (oi := { dst := some 34, op := Go.Op.move (Go.Operand.tmp 33), type := 4, pos := "law.go:81", after := #[{ on := 1, ground := Go.Ground.data }, { on := 0, ground := Go.Ground.chain }], guard := none }) (v := ?_) rfl (by kernel_rfl) (by kernel_rfl) (by kernel_rfl) (fun _ _ _ h => h) (Or.inl ⟨rfl, ?_⟩) (by assumption) ?_
    rotate_left
    · intro wz hSw; (try dsimp only at hSw); go_simp; try (with_reducible rfl)
    try simp only [Act.put, List.setIfInBounds_toArray, List.set_cons_zero, List.set_cons_succ]
    refine wpAnyH_take (i := 3) (oi := { dst := some 35, op := Go.Op.move (Go.Operand.tmp 6), type := 4, pos := "law.go:81", after := #[{ on := 2, ground := Go.Ground.guard }], guard := some (2, false) }) (v := ?_) rfl (by kernel_rfl) (by kernel_rfl) (by kernel_rfl) (fun _ _ _ h => h) (Or.inl ⟨rfl, ?_⟩) (by assumption) ?_
    rotate_left
    · intro wz hSw; (try dsimp only at hSw); go_simp; try (with_reducible rfl)
    try simp only [Act.put, List.setIfInBounds_toArray, List.set_cons_zero, List.set_cons_succ]
    refine wpAnyH_take (i := 4) (oi := { dst := some 36, op := Go.Op.move (Go.Operand.tmp 8), type := 4, pos := "law.go:81", after := #[{ on := 2, ground := Go.Ground.guard }], guard := some (2, false) }) (v := ?_) rfl (by kernel_rfl) (by kernel_rfl) (by kernel_rfl) (fun _ _ _ h => h) (Or.inl ⟨rfl, ?_⟩) (by assumption) ?_
    rotate_left
    · intro wz hSw; (try dsimp only at hSw); go_simp; try (with_reducible rfl)
    try simp only [Act.put, List.setIfInBounds_toArray, List.set_cons_zero, List.set_cons_succ]
    refine wpAnyH_take (i := 5) (oi := { dst := some 37, op := Go.Op.binOp Go.BinOp.neq 4 (Go.Operand.tmp 35) (Go.Operand.tmp 36) 4, type := 4, pos := "law.go:81", after := #[{ on := 3, ground := Go.Ground.data }, { on := 4, ground := Go.Ground.data }, { on := 2, ground := Go.Ground.guard }], guard := some (2, false) }) (v := ?_) rfl (by kernel_rfl) (by kernel_rfl) (by kernel_rfl) (fun _ _ _ h => h) (Or.inl ⟨rfl, ?_⟩) (by assumption) ?_
    rotate_left
    · intro wz hSw; (try dsimp only at hSw); go_simp; try (with_reducible rfl)
    try simp only [Act.put, List.setIfInBounds_toArray, List.set_cons_zero, List.set_cons_succ]
    refine wpAnyH_take (i := 6) (oi := { dst := some 38, op := Go.Op.pick (Go.Operand.tmp 34) (Go.Operand.const (Go.Value.bool true)) (Go.Operand.tmp 37), type := 4, pos := "law.go:81", after := #[{ on := 2, ground := Go.Ground.data }, { on := 5, ground := Go.Ground.data }], guard := none }) (v := ?_) rfl (by kernel_rfl) (by kernel_rfl) (by kernel_rfl) (fun _ _ _ h => h) (Or.inl ⟨rfl, ?_⟩) (by assumption) ?_
    rotate_left
    · intro wz hSw; (try dsimp only at hSw); go_simp; try (with_reducible rfl)
    try simp only [Act.put, List.setIfInBounds_toArray, List.set_cons_zero, List.set_cons_succ]
    refine wpAnyH_take (i := 7) (oi := { dst := some 39, op := Go.Op.move (Go.Operand.tmp 38), type := 4, pos := "law.go:81", after := #[{ on := 6, ground := Go.Ground.data }, { on := 2, ground := Go.Ground.chain }], guard := none }) (v := ?_) rfl (by kernel_rfl) (by kernel_rfl) (by kernel_rfl) (fun _ _ _ h => h) (Or.inl ⟨rfl, ?_⟩) (by assumption) ?_
    rotate_left
    · intro wz hSw; (try dsimp only at hSw); go_simp; try (with_reducible rfl)
    try simp only [Act.put, List.setIfInBounds_toArray, List.set_cons_zero, List.set_cons_succ]
    refine wpAnyH_take (i := 8) (oi := { dst := some 40, op := Go.Op.load 40 (Go.Operand.tmp 5), type := 40, pos := "law.go:81", after := #[{ on := 7, ground := Go.Ground.guard }], guard := some (7, false) }) (v := ?_) rfl (by kernel_rfl) (by kernel_rfl) (by kernel_rfl) (fun _ _ _ h => h) (Or.inl ⟨rfl, ?_⟩) (by assumption) ?_
    rotate_left
    · intro wz hSw; (try dsimp only at hSw); go_simp; try (with_reducible rfl)
    try simp only [Act.put, List.setIfInBounds_toArray, List.set_cons_zero, List.set_cons_succ]
    refine wpAnyH_take (i := 10) (oi := { dst := some 42, op := Go.Op.load 35 (Go.Operand.tmp 7), type := 35, pos := "law.go:81", after := #[{ on := 7, ground := Go.Ground.guard }], guard := some (7, false) }) (v := ?_) rfl (by kernel_rfl) (by kernel_rfl) (by kernel_rfl) (fun _ _ _ h => h) (Or.inl ⟨rfl, ?_⟩) (by assumption) ?_
    rotate_left
    · intro wz hSw; (try dsimp only at hSw); go_simp; try (with_reducible rfl)
    try simp only [Act.put, List.setIfInBounds_toArray, List.set_cons_zero, List.set_cons_succ]
    refine wpAnyH_ready (rs := [9]) (by kernel_rfl) (by simp) ?_
    refine AllReadyH.cons (o := { dst := some 41, op := Go.Op.call { callee := Go.Callee.value (Go.Operand.func 17), args := #[Go.Operand.tmp 40], argTypes := #[40] }, type := 35, pos := "law.go:81", after := #[{ on := 8, ground := Go.Ground.data }, { on := 7, ground := Go.Ground.chain }, { on := 7, ground := Go.Ground.guard }], guard := some (7, false) }) rfl (fun K hK => ?_) AllReadyH.nil
    go_simp
    go_at_call 17
    refine (HF.out _).mono ?_
    rintro e v ⟨rfl, hb⟩
    replace k0 := (hb.cell (p := ⟨X, 0, none⟩) kz).trans k0
    replace kf0 := (hb.frozen (p := ⟨X, 0, none⟩) kz).trans kf0
    replace k1 := (hb.cell (p := ⟨X, 1, none⟩) kz).trans k1
    replace kf1 := (hb.frozen (p := ⟨X, 1, none⟩) kz).trans kf1
    replace k2 := (hb.cell (p := ⟨X, 2, none⟩) kz).trans k2
    replace kf2 := (hb.frozen (p := ⟨X, 2, none⟩) kz).trans kf2
    replace k3 := (hb.cell (p := ⟨X, 3, none⟩) kz).trans k3
    replace kf3 := (hb.frozen (p := ⟨X, 3, none⟩) kz).trans kf3
    replace k4 := (hb.cell (p := ⟨X, 4, none⟩) kz).trans k4
    replace kf4 := (hb.frozen (p := ⟨X, 4, none⟩) kz).trans kf4
    replace k5 := (hb.cell (p := ⟨X, 5, none⟩) kz).trans k5
    replace kf5 := (hb.frozen (p := ⟨X, 5, none⟩) kz).trans kf5
    replace k6 := (hb.cell (p := ⟨X, 6, none⟩) kz).trans k6
    replace kf6 := (hb.frozen (p := ⟨X, 6, none⟩) kz).trans kf6
    replace k7 := (hb.cell (p := ⟨X, 7, none⟩) kz).trans k7
    replace kf7 := (hb.frozen (p := ⟨X, 7, none⟩) kz).trans kf7
    replace kz := Nat.lt_of_lt_of_le kz hb.size
    replace m0 := (hb.cell (p := ⟨Y, 0, none⟩) mz).trans m0
    replace mf0 := (hb.frozen (p := ⟨Y, 0, none⟩) mz).trans mf0
    replace m1 := (hb.cell (p := ⟨Y, 1, none⟩) mz).trans m1
    replace mf1 := (hb.frozen (p := ⟨Y, 1, none⟩) mz).trans mf1
    replace m2 := (hb.cell (p := ⟨Y, 2, none⟩) mz).trans m2
    replace mf2 := (hb.frozen (p := ⟨Y, 2, none⟩) mz).trans mf2
    replace m3 := (hb.cell (p := ⟨Y, 3, none⟩) mz).trans m3
    replace mf3 := (hb.frozen (p := ⟨Y, 3, none⟩) mz).trans mf3
    replace m4 := (hb.cell (p := ⟨Y, 4, none⟩) mz).trans m4
    replace mf4 := (hb.frozen (p := ⟨Y, 4, none⟩) mz).trans mf4
    replace m5 := (hb.cell (p := ⟨Y, 5, none⟩) mz).trans m5
    replace mf5 := (hb.frozen (p := ⟨Y, 5, none⟩) mz).trans mf5
    replace m6 := (hb.cell (p := ⟨Y, 6, none⟩) mz).trans m6
    replace mf6 := (hb.frozen (p := ⟨Y, 6, none⟩) mz).trans mf6
    replace m7 := (hb.cell (p := ⟨Y, 7, none⟩) mz).trans m7
    replace mf7 := (hb.frozen (p := ⟨Y, 7, none⟩) mz).trans mf7
    replace m8 := (hb.cell (p := ⟨Y, 8, none⟩) mz).trans m8
    replace mf8 := (hb.frozen (p := ⟨Y, 8, none⟩) mz).trans mf8
    replace mz := Nat.lt_of_lt_of_le mz hb.size
    replace q2 := (hb.cell (p := ⟨Q, 2, none⟩) qz).trans q2
    replace qz := Nat.lt_of_lt_of_le qz hb.size
    replace HR := Lib.hid (HR.out.keep (below_via (Below.refl _ _) hb (Nat.le_refl _) ⟨rfl, rfl, rfl, rfl⟩))
    replace HB := Lib.hid (below_via HB.out hb HB.out.size ⟨rfl, rfl, rfl, rfl⟩)
    clear hb
    refine hK.out _ _ ⟨k0, k1, k2, k3, k4, k5, k6, k7, m0, m1, m2, m3, m4, m5, m6, m7, m8, q2⟩ (fun hHeld => ?_)
    clear hK K
    try simp only [Act.put, List.setIfInBounds_toArray, List.set_cons_zero, List.set_cons_succ]
    refine wpAnyH_take (i := 11) (oi := { dst := some 43, op := Go.Op.binOp Go.BinOp.neq 35 (Go.Operand.tmp 41) (Go.Operand.tmp 42) 35, type := 4, pos := "law.go:81", after := #[{ on := 9, ground := Go.Ground.data }, { on := 10, ground := Go.Ground.data }, { on := 7, ground := Go.Ground.guard }], guard := some (7, false) }) (v := ?_) rfl (by kernel_rfl) (by kernel_rfl) (by kernel_rfl) (fun _ _ _ h => h) (Or.inl ⟨rfl, ?_⟩) (by assumption) ?_
    rotate_left
    · intro wz hSw; (try dsimp only at hSw); go_simp; try (with_reducible rfl)
    try simp only [Act.put, List.setIfInBounds_toArray, List.set_cons_zero, List.set_cons_succ]
    refine wpAnyH_take (i := 12) (oi := { dst := some 44, op := Go.Op.pick (Go.Operand.tmp 39) (Go.Operand.const (Go.Value.bool true)) (Go.Operand.tmp 43), type := 4, pos := "law.go:81", after := #[{ on := 7, ground := Go.Ground.data }, { on := 11, ground := Go.Ground.data }], guard := none }) (v := ?_) rfl (by kernel_rfl) (by kernel_rfl) (by kernel_rfl) (fun _ _ _ h => h) (Or.inl ⟨rfl, ?_⟩) (by assumption) ?_
    rotate_left
    · intro wz hSw; (try dsimp only at hSw); go_simp; try (with_reducible rfl)
    try simp only [Act.put, List.setIfInBounds_toArray, List.set_cons_zero, List.set_cons_succ]
    refine wpAnyH_take (i := 13) (oi := { dst := some 45, op := Go.Op.move (Go.Operand.tmp 44), type := 4, pos := "law.go:81", after := #[{ on := 12, ground := Go.Ground.data }, { on := 9, ground := Go.Ground.chain }], guard := none }) (v := ?_) rfl (by kernel_rfl) (by kernel_rfl) (by kernel_rfl) (fun _ _ _ h => h) (Or.inl ⟨rfl, ?_⟩) (by assumption) ?_
    rotate_left
    · intro wz hSw; (try dsimp only at hSw); go_simp; try (with_reducible rfl)
    try simp only [Act.put, List.setIfInBounds_toArray, List.set_cons_zero, List.set_cons_succ]
    refine wpAnyH_take (i := 14) (oi := { dst := some 46, op := Go.Op.move (Go.Operand.tmp 3), type := 51, pos := "law.go:81", after := #[{ on := 13, ground := Go.Ground.guard }], guard := some (13, false) }) (v := ?_) rfl (by kernel_rfl) (by kernel_rfl) (by kernel_rfl) (fun _ _ _ h => h) (Or.inl ⟨rfl, ?_⟩) (by assumption) ?_
    rotate_left
    · intro wz hSw; (try dsimp only at hSw); go_simp; try (with_reducible rfl)
    try simp only [Act.put, List.setIfInBounds_toArray, List.set_cons_zero, List.set_cons_succ]
    refine wpAnyH_take (i := 16) (oi := { dst := some 48, op := Go.Op.move (Go.Operand.tmp 4), type := 58, pos := "law.go:81", after := #[{ on := 13, ground := Go.Ground.guard }], guard := some (13, false) }) (v := ?_) rfl (by kernel_rfl) (by kernel_rfl) (by kernel_rfl) (fun _ _ _ h => h) (Or.inl ⟨rfl, ?_⟩) (by assumption) ?_
    rotate_left
    · intro wz hSw; (try dsimp only at hSw); go_simp; try (with_reducible rfl)
    try simp only [Act.put, List.setIfInBounds_toArray, List.set_cons_zero, List.set_cons_succ]
    refine wpAnyH_take (i := 17) (oi := { dst := some 49, op := Go.Op.nilCheck (Go.Operand.tmp 48), type := 0, pos := "law.go:81", after := #[{ on := 16, ground := Go.Ground.data }, { on := 13, ground := Go.Ground.guard }], guard := some (13, false) }) (v := ?_) rfl (by kernel_rfl) (by kernel_rfl) (by kernel_rfl) (fun _ _ _ h => h) (Or.inl ⟨rfl, ?_⟩) (by assumption) ?_
    rotate_left
    · intro wz hSw; (try dsimp only at hSw); go_simp; try (with_reducible rfl)
    try simp only [Act.put, List.setIfInBounds_toArray, List.set_cons_zero, List.set_cons_succ]
    refine wpAnyH_take (i := 18) (oi := { dst := some 50, op := Go.Op.fieldAddr 60 (Go.Operand.tmp 49) 2, type := 0, pos := "law.go:81", after := #[{ on := 17, ground := Go.Ground.data }, { on := 13, ground := Go.Ground.guard }], guard := some (13, false) }) (v := ?_) rfl (by kernel_rfl) (by kernel_rfl) (by kernel_rfl) (fun _ _ _ h => h) (Or.inl ⟨rfl, ?_⟩) (by assumption) ?_
    rotate_left
    · intro wz hSw; (try dsimp only at hSw); go_simp; try (with_reducible rfl)
    try simp only [Act.put, List.setIfInBounds_toArray, List.set_cons_zero, List.set_cons_succ]
    refine wpAnyH_take (i := 19) (oi := { dst := some 51, op := Go.Op.load 3 (Go.Operand.tmp 50), type := 3, pos := "law.go:81", after := #[{ on := 18, ground := Go.Ground.data }, { on := 13, ground := Go.Ground.guard }], guard := some (13, false) }) (v := ?_) rfl (by kernel_rfl) (by kernel_rfl) (by kernel_rfl) (fun _ _ _ h => h) (Or.inl ⟨rfl, ?_⟩) (by assumption) ?_
    rotate_left
    · intro wz hSw; (try dsimp only at hSw); go_simp; try (with_reducible rfl)
    try simp only [Act.put, List.setIfInBounds_toArray, List.set_cons_zero, List.set_cons_succ]
    refine wpAnyH_ready (rs := [15]) (by kernel_rfl) (by simp) ?_
    refine AllReadyH.cons (o := { dst := some 47, op := Go.Op.call { callee := Go.Callee.value (Go.Operand.func 28), args := #[Go.Operand.tmp 46], argTypes := #[51] }, type := 55, pos := "law.go:81", after := #[{ on := 14, ground := Go.Ground.data }, { on := 13, ground := Go.Ground.chain }, { on := 13, ground := Go.Ground.guard }], guard := some (13, false) }) rfl (fun K hK => ?_) AllReadyH.nil
    go_simp
    go_at_call 28
    refine (err_any _ HR.out).mono ?_
    rintro e v' ⟨rfl, rfl⟩
    refine hK.out _ _ ⟨k0, k1, k2, k3, k4, k5, k6, k7, m0, m1, m2, m3, m4, m5, m6, m7, m8, q2⟩ (fun hHeld => ?_)
    clear hK K
    try simp only [Act.put, List.setIfInBounds_toArray, List.set_cons_zero, List.set_cons_succ]
    refine wpAnyH_take (i := 20) (oi := { dst := some 52, op := Go.Op.binOp Go.BinOp.neq 3 (Go.Operand.tmp 47) (Go.Operand.tmp 51) 3, type := 4, pos := "law.go:81", after := #[{ on := 15, ground := Go.Ground.data }, { on := 19, ground := Go.Ground.data }, { on := 13, ground := Go.Ground.guard }], guard := some (13, false) }) (v := ?_) rfl (by kernel_rfl) (by kernel_rfl) (by kernel_rfl) (fun _ _ _ h => h) (Or.inl ⟨rfl, ?_⟩) (by assumption) ?_
    rotate_left
    · intro wz hSw; (try dsimp only at hSw); go_simp; try (with_reducible rfl)
    try simp only [Act.put, List.setIfInBounds_toArray, List.set_cons_zero, List.set_cons_succ]
    refine wpAnyH_take (i := 21) (oi := { dst := some 53, op := Go.Op.pick (Go.Operand.tmp 45) (Go.Operand.const (Go.Value.bool true)) (Go.Operand.tmp 52), type := 4, pos := "law.go:81", after := #[{ on := 13, ground := Go.Ground.data }, { on := 20, ground := Go.Ground.data }], guard := none }) (v := ?_) rfl (by kernel_rfl) (by kernel_rfl) (by kernel_rfl) (fun _ _ _ h => h) (Or.inl ⟨rfl, ?_⟩) (by assumption) ?_
    rotate_left
    · intro wz hSw; (try dsimp only at hSw); go_simp; try (with_reducible rfl)
    try simp only [Act.put, List.setIfInBounds_toArray, List.set_cons_zero, List.set_cons_succ]
    refine wpAnyH_done (by kernel_rfl) ?_ _
    cases ok
    · go_wp2
      go_ret
      exact ⟨rfl, HB.out⟩
    go_wp2_with fail
    refine (HP.out _).mono ?_
    rintro e v9 ⟨A9, c9, rfl, ho9, hb9⟩
    obtain ⟨g9, hz9, _, _, _⟩ := own_bytes ho9
    have HZ9 := Lib.hid hz9
    replace HB := Lib.hid (HB.out.trans (hb9.mono HB.out.size))
    have htf := HTF.out trivial
    have hle : (P.length : Int) ≤ zs.length := by have := htf.1; omega
    have hlen := htf.1
    have HZb : Hid (BytesAt v9 g A P.length P) := by
      have h1 := (HZ.out.keep HB.out).take P.length htf.1
      rw [htf.2] at h1
      exact h1
    have hPc : P.length ≤ c := by omega
    clear htf ho9 hz9 hb9 HTF HP HR
    go_wp2_with fail
    refine (same_any _ _ _ _ _ _ g9 g P P _ HZ9.out HZb.out).mono ?_
    rw [decide_eq_true rfl]
    rintro e v10 ⟨rfl, rfl⟩
    go_wp2
    go_ret
    exact ⟨rfl, HB.out⟩
end Go.Proofs.Ytophhjknbanafaa
