/- The law VecOnce walked. -/
import Derived.Test.YthjmadlinkcphaaVr
namespace Go.Proofs.Ythjmadlinkcphaa
open Go.RowKit

/-- Is each of xs as far in ys? -/
def likeF (xs ys : List At) : Bool := xs.all fun x => decide (ofF ys x.1 = x.2)
theorem like_iff {a b : List At} (ga : Good a) (gb : Good b) : (likeF a b && likeF b a) = decide (a = b) := by
  rw [Bool.eq_iff_iff, Bool.and_eq_true, decide_eq_true_iff]
  constructor
  · rintro ⟨h1, h2⟩
    unfold likeF at h1 h2
    rw [List.all_eq_true] at h1 h2
    refine ga.ext gb fun c => ?_
    by_cases h0 : ofF a c = 0
    · by_cases h3 : ofF b c = 0
      · omega
      · obtain ⟨y, hy, rfl⟩ := ofF_pos h3
        have := h2 y hy
        simp at this
        rw [ofF_mem gb.1 hy, this]
    · obtain ⟨x, hx, rfl⟩ := ofF_pos h0
      have := h1 x hx
      simp at this
      rw [ofF_mem ga.1 hx, this]
  · rintro rfl
    have : likeF a a = true := by
      unfold likeF; rw [List.all_eq_true]; intro x hx; simp; exact ofF_mem ga.1 hx
    exact ⟨this, this⟩
theorem anti_iff {a b : List At} (ga : Good a) (gb : Good b) : (withinF a b && withinF b a) = decide (a = b) := by
  rw [Bool.eq_iff_iff, Bool.and_eq_true, decide_eq_true_iff, within_iff ga.1 gb.pos, within_iff gb.1 ga.pos]
  constructor
  · rintro ⟨h1, h2⟩
    exact ga.ext gb fun c => by have := h1 c; have := h2 c; omega
  · rintro rfl; exact ⟨fun _ => Int.le_refl _, fun _ => Int.le_refl _⟩
theorem like_take {xs ys : List At} {k : Nat} (hk : k < xs.length) : likeF (xs.take (k + 1)) ys = (likeF (xs.take k) ys && decide (ofF ys (xs.getD k atNil).1 = (xs.getD k atNil).2)) := all_take hk

set_option maxRecDepth 100000 in
set_option maxHeartbeats 16000000 in
theorem vecOnce_walk (A0 : Option Addr) (n0 c0 : Nat) (z0 : List At) (A1 : Option Addr) (n1 c1 : Nat) (z1 : List At) (w : World) (hz0 : VecAt w w.heap.size A0 n0 z0) (_hc0 : n0 ≤ c0) (_hs0 : Short z0) (_hn0 : n0 ≤ 9223372036854775807) (hz1 : VecAt w w.heap.size A1 n1 z1) (_hc1 : n1 ≤ c1) (_hs1 : Short z1) (_hn1 : n1 ≤ 9223372036854775807) :
    Calls Try.prog 7 #[.slice A0 n0 c0, .slice A1 n1 c1] w fun e w' => e = .returned (.bool true) ∧ Below w.heap.size w w' := by
  have HZ0 := Lib.hid hz0
  have HZ1 := Lib.hid hz1
  clear hz0 _hc0 _hs0 _hn0 hz1 _hc1 _hs1 _hn1
  go_enter Try.func7, Try.ntmps7
  go_wp2_with fail
  refine (fixv_any A0 n0 c0 z0 w.heap.size _ (Nat.le_refl _) HZ0.out).mono ?_
  rintro e w1 ⟨a, ga, la, Ba, da, rfl, hda, ho, hb⟩
  have Ga := Lib.hid ga
  clear ga
  have HV1 : Hid (Vs w1 [(Ba, a)]) := Vs.own (Vs.nil _) ho hb
  have HB1 : Hid (Below w.heap.size w w1) := hb
  clear ho hb
  go_wp2_with fail
  refine (fixv_any A1 n1 c1 z1 w.heap.size _ HB1.out.size (HZ1.out.keep HB1.out)).mono ?_
  rintro e w2 ⟨b, gb, lb, Bb, db, rfl, hdb, ho, hb⟩
  have Gb := Lib.hid gb
  clear gb
  have HV2 : Hid (Vs w2 [(Bb, b), (Ba, a)]) := HV1.out.own ho hb
  have HB2 : Hid (Below w.heap.size w w2) := HB1.out.trans (hb.mono HB1.out.size)
  clear ho hb HV1
  go_wp2_with fail
  refine (to_any Ba a.length da a w2.heap.size _ (Nat.le_refl _) (HV2.out.get (by simp)) (by omega)).mono ?_
  rintro e w3 ⟨Ax, cx, rfl, hcx, ho, hb⟩
  have HV3 : Hid (Vs w3 [(Ax, a), (Bb, b), (Ba, a)]) := HV2.out.own ho hb
  have HB3 : Hid (Below w.heap.size w w3) := HB2.out.trans (hb.mono HB2.out.size)
  clear ho hb HV2
  go_wp2_with fail
  refine (to_any Bb b.length db b w3.heap.size _ (Nat.le_refl _) (HV3.out.get (by simp)) (by omega)).mono ?_
  rintro e w4 ⟨Ay, cy, rfl, hcy, ho, hb⟩
  have HV4 : Hid (Vs w4 [(Ay, b), (Ax, a), (Bb, b), (Ba, a)]) := HV3.out.own ho hb
  have HB4 : Hid (Below w.heap.size w w4) := HB3.out.trans (hb.mono HB3.out.size)
  clear ho hb HV3
  go_wp2_with fail
  go_loopw [7, 8] (fun al i wr => ∃ (k : Nat) (p : Bool), k ≤ a.length ∧ i = .int .i64 k ∧ al = .bool p ∧ Hid (p = likeF (a.take k) b) ∧ Hid (Below w4.heap.size w4 wr)) (fun _ i _ => a.length - (intOf i).toNat)
  case atStart => exact ⟨0, true, by omega, rfl, rfl, rfl, Below.refl _ _⟩
  case round =>
    obtain ⟨k, p, hk, rfl, rfl, HP, HR⟩ := hrel
    by_cases hlt : k < a.length
    · cases p
      · have HN : Hid (false = likeF (a.take (k + 1)) b) := by show _ = _; rw [like_take hlt, ← HP.out]; rfl
        go_wp2_with fail
        go_quiet (fail)
        go_wp2
        go_roundw
        case rel => exact ⟨k + 1, false, by omega, by go_num, rfl, HN, below_drewN HR.out _⟩
        case measure => simp [intOf]; omega
      · obtain ⟨blk, off, hA, hbB, hc1, hc2⟩ := (HV4.out.get (A := Ba) (zs := a) (by simp)).cells HR.out (k := k) hlt
        have HVy : Hid (VecAt wr w4.heap.size Ay b.length b) := (HV4.out.get (by simp)).keep HR.out
        have hst := like_take (ys := b) hlt
        generalize a.getD k atNil = u at hc1 hc2 hst
        obtain ⟨o, ho⟩ : ∃ o, ofF b u.1 = o := ⟨_, rfl⟩
        rw [ho, ← HP.out, Bool.true_and] at hst
        have HO := Lib.hid ho
        have hszr : w4.heap.size ≤ wr.heap.size := HR.out.size
        have hblk : blk < wr.heap.size := by omega
        have hi0 : (0 : Int) ≤ (k : Int) := by omega
        have hi1 : (k : Int) < (a.length : Int) := by omega
        by_cases hq : o = u.2
        · have hq' : (o == u.2) = true := by simp [hq]
          have HN : Hid (true = likeF (a.take (k + 1)) b) := by show _ = _; rw [hst, decide_eq_true hq]
          clear ho hst hq
          subst hA
          go_wp2_with fail
          go_region_held3 (fun w' => w'.cell? ⟨blk, off + k * 2, none⟩ = some (.string u.1) ∧ w'.cell? ⟨blk, off + k * 2 + 1, none⟩ = some (.int .i64 u.2))
            (first | go_keep | (go_split_ands; refine ⟨(hbo.cell (by show blk < _; simp; omega)).trans (by assumption), (hbo.cell (by show blk < _; simp; omega)).trans (by assumption)⟩))
            ((go_at_call 15; refine (of_is Ay b.length cy b u.1 w4.heap.size o HO _ (by simp; omega) HVy.out.drew (by omega) Gb.out.1).mono ?_; rintro e wo ⟨rfl, hbo⟩))
          have HR2 : Hid (Below w4.heap.size w4 wo) := HR.out.drew.trans (hbo.mono (by simp; omega))
          clear hbo
          go_wp2
          go_roundw
          case rel => exact ⟨k + 1, true, by omega, by go_num, rfl, HN, HR2⟩
          case measure => simp [intOf]; omega
        · have hq' : (o == u.2) = false := by simp [hq]
          have HN : Hid (false = likeF (a.take (k + 1)) b) := by show _ = _; rw [hst, decide_eq_false hq]
          clear ho hst hq
          subst hA
          go_wp2_with fail
          go_region_held3 (fun w' => w'.cell? ⟨blk, off + k * 2, none⟩ = some (.string u.1) ∧ w'.cell? ⟨blk, off + k * 2 + 1, none⟩ = some (.int .i64 u.2))
            (first | go_keep | (go_split_ands; refine ⟨(hbo.cell (by show blk < _; simp; omega)).trans (by assumption), (hbo.cell (by show blk < _; simp; omega)).trans (by assumption)⟩))
            ((go_at_call 15; refine (of_is Ay b.length cy b u.1 w4.heap.size o HO _ (by simp; omega) HVy.out.drew (by omega) Gb.out.1).mono ?_; rintro e wo ⟨rfl, hbo⟩))
          have HR2 : Hid (Below w4.heap.size w4 wo) := HR.out.drew.trans (hbo.mono (by simp; omega))
          clear hbo
          go_wp2
          go_roundw
          case rel => exact ⟨k + 1, false, by omega, by go_num, rfl, HN, HR2⟩
          case measure => simp [intOf]; omega
    · have HP2 : Hid (p = likeF a b) := by show _ = _; rw [HP.out, List.take_of_length_le (by omega)]
      have HV5 : Hid (Vs wr [(Ay, b), (Ax, a), (Bb, b), (Ba, a)]) := HV4.out.keep HR.out
      have HB5 : Hid (Below w.heap.size w wr) := HB4.out.trans (HR.out.mono HB4.out.size)
      clear HP hk
      go_wp2_with fail
      generalize wr = wq at HR HV5 HB5 ⊢
      go_loopw [7, 9] (fun al i ws => ∃ (k : Nat) (q : Bool), k ≤ b.length ∧ i = .int .i64 k ∧ al = .bool q ∧ Hid (q = (p && likeF (b.take k) a)) ∧ Hid (Below wq.heap.size wq ws)) (fun _ i _ => b.length - (intOf i).toNat)
      case atStart => exact ⟨0, p, by omega, rfl, rfl, (by show _ = _; simp [likeF]), Below.refl _ _⟩
      case round =>
        obtain ⟨k, q, hk, rfl, rfl, HQ, HS⟩ := hrel
        by_cases hlt : k < b.length
        · cases q
          · have HN : Hid (false = (p && likeF (b.take (k + 1)) a)) := by show _ = _; rw [like_take hlt, ← Bool.and_assoc, ← HQ.out]; rfl
            go_wp2_with fail
            go_quiet (fail)
            go_wp2
            go_roundw
            case rel => exact ⟨k + 1, false, by omega, by go_num, rfl, HN, below_drewN HS.out _⟩
            case measure => simp [intOf]; omega
          · obtain ⟨blk, off, hA, hbB, hc1, hc2⟩ := (HV5.out.get (A := Bb) (zs := b) (by simp)).cells HS.out (k := k) hlt
            have HVy : Hid (VecAt wr wq.heap.size Ax a.length a) := (HV5.out.get (by simp)).keep HS.out
            have hst : (p && likeF (b.take (k + 1)) a) = decide (ofF a (b.getD k atNil).1 = (b.getD k atNil).2) := by rw [like_take hlt, ← Bool.and_assoc, ← HQ.out, Bool.true_and]
            generalize b.getD k atNil = u at hc1 hc2 hst
            obtain ⟨o, ho⟩ : ∃ o, ofF a u.1 = o := ⟨_, rfl⟩
            rw [ho] at hst
            have HO := Lib.hid ho
            have hszr : wq.heap.size ≤ wr.heap.size := HS.out.size
            have hblk : blk < wr.heap.size := by omega
            have hi0 : (0 : Int) ≤ (k : Int) := by omega
            have hi1 : (k : Int) < (b.length : Int) := by omega
            by_cases hq : o = u.2
            · have hq' : (o == u.2) = true := by simp [hq]
              have HN : Hid (true = (p && likeF (b.take (k + 1)) a)) := by show _ = _; rw [hst, decide_eq_true hq]
              clear ho hst hq
              subst hA
              go_wp2_with fail
              go_region_held3 (fun w' => w'.cell? ⟨blk, off + k * 2, none⟩ = some (.string u.1) ∧ w'.cell? ⟨blk, off + k * 2 + 1, none⟩ = some (.int .i64 u.2))
                (first | go_keep | (go_split_ands; refine ⟨(hbo.cell (by show blk < _; simp; omega)).trans (by assumption), (hbo.cell (by show blk < _; simp; omega)).trans (by assumption)⟩))
                ((go_at_call 15; refine (of_is Ax a.length cx a u.1 wq.heap.size o HO _ (by simp; omega) HVy.out.drew (by omega) Ga.out.1).mono ?_; rintro e wo ⟨rfl, hbo⟩))
              have HR2 : Hid (Below wq.heap.size wq wo) := HS.out.drew.trans (hbo.mono (by simp; omega))
              clear hbo
              go_wp2
              go_roundw
              case rel => exact ⟨k + 1, true, by omega, by go_num, rfl, HN, HR2⟩
              case measure => simp [intOf]; omega
            · have hq' : (o == u.2) = false := by simp [hq]
              have HN : Hid (false = (p && likeF (b.take (k + 1)) a)) := by show _ = _; rw [hst, decide_eq_false hq]
              clear ho hst hq
              subst hA
              go_wp2_with fail
              go_region_held3 (fun w' => w'.cell? ⟨blk, off + k * 2, none⟩ = some (.string u.1) ∧ w'.cell? ⟨blk, off + k * 2 + 1, none⟩ = some (.int .i64 u.2))
                (first | go_keep | (go_split_ands; refine ⟨(hbo.cell (by show blk < _; simp; omega)).trans (by assumption), (hbo.cell (by show blk < _; simp; omega)).trans (by assumption)⟩))
                ((go_at_call 15; refine (of_is Ax a.length cx a u.1 wq.heap.size o HO _ (by simp; omega) HVy.out.drew (by omega) Ga.out.1).mono ?_; rintro e wo ⟨rfl, hbo⟩))
              have HR2 : Hid (Below wq.heap.size wq wo) := HS.out.drew.trans (hbo.mono (by simp; omega))
              clear hbo
              go_wp2
              go_roundw
              case rel => exact ⟨k + 1, false, by omega, by go_num, rfl, HN, HR2⟩
              case measure => simp [intOf]; omega
        · have HQ2 : Hid (q = decide (a = b)) := by show _ = _; rw [HQ.out, List.take_of_length_le (by omega), HP2.out, like_iff Ga.out Gb.out]
          have HV6 : Hid (Vs wr [(Ay, b), (Ax, a), (Bb, b), (Ba, a)]) := HV5.out.keep HS.out
          have HB6 : Hid (Below w.heap.size w wr) := HB5.out.trans (HS.out.mono HB5.out.size)
          have HAN := Lib.hid (anti_iff Ga.out Gb.out)
          generalize wr = w6 at HS HV6 HB6 ⊢
          clear HQ hk
          go_wp2_with fail
          refine (told_any _).mono ?_
          rintro e w7 ⟨rfl, hb⟩
          have HV7 : Hid (Vs w7 [(Ay, b), (Ax, a), (Bb, b), (Ba, a)]) := HV6.out.keep hb
          have HB7 : Hid (Below w.heap.size w w7) := HB6.out.trans (hb.mono HB6.out.size)
          clear hb HV6
          cases q
          · have HQs : Hid (decide (a = b) = false) := HQ2.out.symm
            obtain ⟨p1, hp1⟩ : ∃ p1, withinF a b = p1 := ⟨_, rfl⟩
            have P1 := Lib.hid hp1
            have h2 := HAN.out
            rw [hp1, HQs.out] at h2
            cases p1
            · clear h2 hp1
              go_wp2_with fail
              refine (same_any Ax a.length cx a Ay b.length cy b w7.heap.size _ (HV7.out.get (by simp)) (HV7.out.get (by simp)) (by omega) (by omega)).mono ?_
              rw [HQs.out]
              rintro e w8 ⟨rfl, hd⟩
              have hb := drawn_below hd.out w7.heap.size
              clear hd
              have HV8 : Hid (Vs w8 [(Ay, b), (Ax, a), (Bb, b), (Ba, a)]) := HV7.out.keep hb
              have HB8 : Hid (Below w.heap.size w w8) := HB7.out.trans (hb.mono HB7.out.size)
              clear hb HV7
              go_wp2_with fail
              refine (within_any Ax a.length cx a Ay b.length cy b w8.heap.size _ (Nat.le_refl _) (HV8.out.get (by simp)) (HV8.out.get (by simp)) (by omega) (by omega) Gb.out.1).mono ?_
              rw [P1.out]
              rintro e w9 ⟨rfl, hb⟩
              have HV9 : Hid (Vs w9 [(Ay, b), (Ax, a), (Bb, b), (Ba, a)]) := HV8.out.keep hb
              have HB9 : Hid (Below w.heap.size w w9) := HB8.out.trans (hb.mono HB8.out.size)
              clear hb HV8
              go_wp2
              go_ret
              exact ⟨rfl, HB9.out⟩
            · have P2 : Hid (withinF b a = false) := by show _ = _; simpa using h2
              clear h2 hp1
              go_wp2_with fail
              refine (same_any Ax a.length cx a Ay b.length cy b w7.heap.size _ (HV7.out.get (by simp)) (HV7.out.get (by simp)) (by omega) (by omega)).mono ?_
              rw [HQs.out]
              rintro e w8 ⟨rfl, hd⟩
              have hb := drawn_below hd.out w7.heap.size
              clear hd
              have HV8 : Hid (Vs w8 [(Ay, b), (Ax, a), (Bb, b), (Ba, a)]) := HV7.out.keep hb
              have HB8 : Hid (Below w.heap.size w w8) := HB7.out.trans (hb.mono HB7.out.size)
              clear hb HV7
              go_wp2_with fail
              refine (within_any Ax a.length cx a Ay b.length cy b w8.heap.size _ (Nat.le_refl _) (HV8.out.get (by simp)) (HV8.out.get (by simp)) (by omega) (by omega) Gb.out.1).mono ?_
              rw [P1.out]
              rintro e w9 ⟨rfl, hb⟩
              have HV9 : Hid (Vs w9 [(Ay, b), (Ax, a), (Bb, b), (Ba, a)]) := HV8.out.keep hb
              have HB9 : Hid (Below w.heap.size w w9) := HB8.out.trans (hb.mono HB8.out.size)
              clear hb HV8
              go_wp2_with fail
              refine (within_any Ay b.length cy b Ax a.length cx a w9.heap.size _ (Nat.le_refl _) (HV9.out.get (by simp)) (HV9.out.get (by simp)) (by omega) (by omega) Ga.out.1).mono ?_
              rw [P2.out]
              rintro e w10 ⟨rfl, hb⟩
              have HV10 : Hid (Vs w10 [(Ay, b), (Ax, a), (Bb, b), (Ba, a)]) := HV9.out.keep hb
              have HB10 : Hid (Below w.heap.size w w10) := HB9.out.trans (hb.mono HB9.out.size)
              clear hb HV9
              go_wp2
              go_ret
              exact ⟨rfl, HB10.out⟩
          · have HQs : Hid (decide (a = b) = true) := HQ2.out.symm
            have h2 := HAN.out
            rw [HQs.out, Bool.and_eq_true] at h2
            have P1 := Lib.hid h2.1
            have P2 := Lib.hid h2.2
            clear h2
            go_wp2_with fail
            refine (same_any Ax a.length cx a Ay b.length cy b w7.heap.size _ (HV7.out.get (by simp)) (HV7.out.get (by simp)) (by omega) (by omega)).mono ?_
            rw [HQs.out]
            rintro e w8 ⟨rfl, hd⟩
            have hb := drawn_below hd.out w7.heap.size
            clear hd
            have HV8 : Hid (Vs w8 [(Ay, b), (Ax, a), (Bb, b), (Ba, a)]) := HV7.out.keep hb
            have HB8 : Hid (Below w.heap.size w w8) := HB7.out.trans (hb.mono HB7.out.size)
            clear hb HV7
            go_wp2_with fail
            refine (within_any Ax a.length cx a Ay b.length cy b w8.heap.size _ (Nat.le_refl _) (HV8.out.get (by simp)) (HV8.out.get (by simp)) (by omega) (by omega) Gb.out.1).mono ?_
            rw [P1.out]
            rintro e w9 ⟨rfl, hb⟩
            have HV9 : Hid (Vs w9 [(Ay, b), (Ax, a), (Bb, b), (Ba, a)]) := HV8.out.keep hb
            have HB9 : Hid (Below w.heap.size w w9) := HB8.out.trans (hb.mono HB8.out.size)
            clear hb HV8
            go_wp2_with fail
            refine (within_any Ay b.length cy b Ax a.length cx a w9.heap.size _ (Nat.le_refl _) (HV9.out.get (by simp)) (HV9.out.get (by simp)) (by omega) (by omega) Ga.out.1).mono ?_
            rw [P2.out]
            rintro e w10 ⟨rfl, hb⟩
            have HV10 : Hid (Vs w10 [(Ay, b), (Ax, a), (Bb, b), (Ba, a)]) := HV9.out.keep hb
            have HB10 : Hid (Below w.heap.size w w10) := HB9.out.trans (hb.mono HB9.out.size)
            clear hb HV9
            go_wp2
            go_ret
            exact ⟨rfl, HB10.out⟩
end Go.Proofs.Ythjmadlinkcphaa
