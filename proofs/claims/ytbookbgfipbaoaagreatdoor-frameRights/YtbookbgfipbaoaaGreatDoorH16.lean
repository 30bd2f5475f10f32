/- The document's Num and Text. -/
import Derived.Test.YtbookbgfipbaoaaGreatDoorH15
import Derived.Test.YtbookbgfipbaoaaGreatDoorH13
namespace Go.Proofs.YtbookbgfipbaoaaGreatDoor.Zo
open Go.RowKit

def decB (u : Nat) : ByteArray := ⟨(Lib.decDigits u).toArray⟩
theorem digit_piece : ∀ u : Fin 10, (ByteArray.mk #[48, 49, 50, 51, 52, 53, 54, 55, 56, 57]).extract u.val (u.val + 1) = ⟨#[UInt8.ofNat (48 + u.val)]⟩ := by decide
theorem digit_dec {u : Nat} (h : u < 10) : (ByteArray.mk #[48, 49, 50, 51, 52, 53, 54, 55, 56, 57]).extract u (u + 1) = decB u := by
  have := digit_piece ⟨u, h⟩
  unfold decB
  rw [Lib.decDigits_one h]
  exact this
theorem dec_step {u : Nat} (h : ¬ u < 10) : decB (u / 10) ++ (ByteArray.mk #[48, 49, 50, 51, 52, 53, 54, 55, 56, 57]).extract (u % 10) (u % 10 + 1) = decB u := by
  have h1 := digit_piece ⟨u % 10, by omega⟩
  have h2 : (ByteArray.mk #[48, 49, 50, 51, 52, 53, 54, 55, 56, 57]).extract (u % 10) (u % 10 + 1) = ⟨#[UInt8.ofNat (48 + u % 10)]⟩ := h1
  rw [h2]
  apply toList_inj
  rw [Lib.toList_data, Lib.toList_data]
  unfold decB
  rw [Lib.decDigits.eq_1 u, dif_neg h]
  simp [ByteArray.data_append]
theorem decB_size {u : Nat} (h : u < 10 ^ 8) : (decB u).size ≤ 8 := by
  show (Lib.decDigits u).toArray.size ≤ 8
  rw [List.size_toArray]
  exact decDigits_le 7 u h
set_option maxRecDepth 100000 in
set_option maxHeartbeats 4000000 in
theorem rnum_small (u : Nat) (h : u < 10) (w : World) : Calls Tryz.prog 115 #[.int .i64 (u : Int)] w fun e w' => e = .returned (.string (decB u)) ∧ Below w.heap.size w w' := by
  have HD := Lib.hid (digit_dec h)
  have h1 : ¬ ((u : Int) < 0) := by omega
  have h2 : (u : Int) < 10 := by omega
  have h3 : max (u : Int) 0 = u := by omega
  go_enter Tryz.func115, Tryz.ntmps115
  go_wp2
  go_ret
  exact ⟨by rw [HD.out]; rfl, Below.refl _ _⟩
set_option maxRecDepth 100000 in
set_option maxHeartbeats 4000000 in
theorem rnum_nat : ∀ (m u : Nat), u ≤ m → u < 10 ^ 8 → ∀ w : World, Calls Tryz.prog 115 #[.int .i64 (u : Int)] w fun e w' => e = .returned (.string (decB u)) ∧ Below w.heap.size w w' := by
  intro m
  induction m with
  | zero => intro u h _ w; exact rnum_small u (by omega) w
  | succ m ih =>
    intro u h h8 w
    by_cases hs : u < 10
    · exact rnum_small u hs w
    · have HI := Lib.hid (ih (u / 10) (by omega) (by omega))
      have HD := Lib.hid (dec_step hs)
      have h1 : ¬ ((u : Int) < 0) := by omega
      have h2 : ¬ ((u : Int) < 10) := by omega
      have q1 : (u : Int) / 10 = ((u / 10 : Nat) : Int) := by omega
      have q2 : (u : Int) % 10 = ((u % 10 : Nat) : Int) := by omega
      have q3 : (u : Int).tdiv 10 = ((u / 10 : Nat) : Int) := by rw [Int.tdiv_eq_ediv_of_nonneg (by omega)]; omega
      have q4 : (u : Int).tmod 10 = ((u % 10 : Nat) : Int) := by rw [Int.tmod_eq_emod_of_nonneg (by omega)]; omega
      have hp := decB_size (show u / 10 < 10 ^ 8 by omega)
      have hr : u % 10 < 10 := by omega
      have hwp : IntKind.i64.wrap ((u / 10 : Nat) : Int) = ((u / 10 : Nat) : Int) := IntWalk.i64_in _ (by omega)
      generalize decB (u / 10) = dp at *
      generalize u / 10 = p at *
      generalize u % 10 = r at *
      have hw : IntKind.i64.wrap ((r : Int) + 1) = ((r + 1 : Nat) : Int) := by rw [IntWalk.i64_in _ (by omega)]; omega
      have hr1 : ((r + 1 : Nat) : Int) ≤ 10 := by omega
      have hr2 : (r : Int) ≤ ((r + 1 : Nat) : Int) := by omega
      have hr3 : r ≤ r + 1 := by omega
      have hr4 : r + 1 ≤ 10 := by omega
      have hcat : ¬ 9223372036854775807 < dp.size + (r + 1 - r) := by omega
      generalize r + 1 = r1 at *
      clear ih h h8 hs
      go_enter Tryz.func115, Tryz.ntmps115
      go_upto_region 5 with fail
      refine wp_region_held_drew (S := fun _ => True) (by kernel_rfl) trivial (fun hHeld => ?_)
      refine tk 0 ?_
      refine tk 1 ?_
      refine tk 3 ?_
      refine tk 4 ?_
      refine tk 5 ?_
      refine tk 6 ?_
      refine tk 7 ?_
      refine tk 8 ?_
      refine wpAnyH_ready (rs := [2]) (by kernel_rfl) (by simp) ?_
      refine (ac (fun K hK => ?_) AllReadyH.nil)
      go_simp
      go_at_call 115
      refine (HI.out _).mono ?_
      rintro e u1 ⟨rfl, hb⟩
      have HB : Hid (Below w.heap.size w u1) := below_via (Below.refl _ _) hb (Nat.le_refl _) ⟨rfl, rfl, rfl, rfl⟩
      clear hb
      refine hK.out _ _ trivial (fun hHeld => ?_)
      clear hK K
      try simp only [Act.put, List.setIfInBounds_toArray, List.set_cons_zero, List.set_cons_succ]
      refine tk 9 ?_
      refine tk 10 ?_
      refine wpAnyH_done (by kernel_rfl) ?_ _
      go_wp2
      go_ret
      exact ⟨by rw [← HD.out]; rfl, HB.out⟩
set_option maxRecDepth 100000 in
set_option maxHeartbeats 4000000 in
theorem rnum_neg (u : Nat) (h0 : 1 ≤ u) (h8 : u < 10 ^ 8) (w : World) : Calls Tryz.prog 115 #[.int .i64 (-(u : Int))] w fun e w' => e = .returned (.string (⟨#[45]⟩ ++ decB u)) ∧ Below w.heap.size w w' := by
  have HI := Lib.hid (rnum_nat u u (Nat.le_refl _) h8)
  have h1 : -(u : Int) < 0 := by omega
  have h2 : -1000000000 < -(u : Int) := by omega
  have hp := decB_size h8
  generalize decB u = dp at *
  go_enter Tryz.func115, Tryz.ntmps115
  go_wp2_with fail
  refine (HI.out _).mono ?_
  rintro e w1 ⟨rfl, hb⟩
  have HB := Lib.hid hb
  clear hb
  go_wp2
  go_ret
  exact ⟨rfl, HB.out⟩
theorem rnum_any (n : Int) (h : n.natAbs < 10 ^ 8) (w : World) : Calls Tryz.prog 115 #[.int .i64 n] w fun e w' => e = .returned (.string (itoaB n)) ∧ Below w.heap.size w w' := by
  by_cases hn : n < 0
  · have e1 : n = -(n.natAbs : Int) := by omega
    have e2 : itoaB n = ⟨#[45]⟩ ++ decB n.natAbs := by
      apply toList_inj
      rw [Lib.toList_data, Lib.toList_data, itoaB_list]
      unfold decB Lib.itoa
      rw [if_pos hn]
      simp [ByteArray.data_append]
    rw [e2]
    have := rnum_neg n.natAbs (by omega) h w
    rwa [← e1] at this
  · have e1 : n = (n.toNat : Int) := by omega
    have e2 : itoaB n = decB n.toNat := by
      unfold itoaB decB Lib.itoa
      rw [if_neg hn]
    rw [e2]
    have := rnum_nat n.toNat n.toNat (Nat.le_refl _) (by omega) w
    rwa [← e1] at this
/-- The text of the first k. -/
def tkF (rs : List RSt) (k : Nat) : ByteArray := ofL (Lib.join (((rs.take k).map stepTextF).map (·.data.toList)) [44])
theorem join_snoc (sep : List UInt8) (y : List UInt8) : ∀ xs : List (List UInt8), xs ≠ [] → Lib.join (xs ++ [y]) sep = Lib.join xs sep ++ (sep ++ y)
  | [], h => absurd rfl h
  | x :: r, _ => by
    rw [List.cons_append, Lib.join_cons, Lib.join_cons]
    unfold Lib.joinTail
    rw [List.map_append, List.flatten_append, List.append_assoc]
    simp
theorem tk_first {rs : List RSt} {r : RSt} (h : rs[0]? = some r) : stepTextF r = tkF rs 1 := by
  unfold tkF
  rw [snocR h, List.take_zero, List.nil_append, List.map_cons, List.map_nil, List.map_cons, List.map_nil, Lib.join_one, ofL_list]
theorem tk_step {rs : List RSt} {r : RSt} {k : Nat} (h : rs[k]? = some r) (hk : 0 < k) : tkF rs k ++ ⟨#[44]⟩ ++ stepTextF r = tkF rs (k + 1) := by
  have hlt := (List.getElem?_eq_some_iff.mp h).1
  unfold tkF
  rw [snocR h, List.map_append, List.map_append, List.map_cons, List.map_nil, List.map_cons, List.map_nil, join_snoc _ _ _ (by
    intro e
    have hl : (((rs.take k).map stepTextF).map (·.data.toList)).length = k := by rw [List.length_map, List.length_map, List.length_take]; omega
    rw [e, List.length_nil] at hl
    omega)]
  apply toList_inj
  rw [Lib.toList_data, Lib.toList_data]
  simp [ofL, ByteArray.data_append]
theorem tk_size {rs : List RSt} (h : rightZ rs = true) (k : Nat) : (tkF rs k).size ≤ 2272 := by
  have h1 := join_len [44] 70 (((rs.take k).map stepTextF).map (·.data.toList)) (fun x hx => by
    obtain ⟨y, hy, rfl⟩ := List.mem_map.mp hx
    obtain ⟨r, hr, rfl⟩ := List.mem_map.mp hy
    obtain ⟨j, hj⟩ := List.getElem?_of_mem (List.mem_of_mem_take hr)
    exact stepText_len (run_step 0 0 h hj).1)
  have h2 := (right_fold h).1
  have h3 : (rs.take k).length ≤ 32 := by rw [List.length_take]; omega
  rw [List.length_map, List.length_map] at h1
  show (Lib.join _ _).toArray.size ≤ _
  rw [List.size_toArray]
  have h4 : (rs.take k).length * (70 + [(44 : UInt8)].length) ≤ 32 * 71 := Nat.mul_le_mul h3 (Nat.le_refl _)
  omega
theorem tk_all {rs : List RSt} (h : rightZ rs = true) : textF rs = tkF rs rs.length := by
  unfold textF tkF
  rw [if_pos h, List.take_length]
  rfl
theorem cat_step {s nm tx ty tz : ByteArray} : s ++ nm ++ ⟨#[32]⟩ ++ tx ++ ⟨#[32]⟩ ++ ty ++ ⟨#[32]⟩ ++ tz = s ++ (nm ++ ⟨#[32]⟩ ++ tx ++ ⟨#[32]⟩ ++ ty ++ ⟨#[32]⟩ ++ tz) := by
  apply toList_inj
  rw [Lib.toList_data, Lib.toList_data]
  simp [ByteArray.data_append]
theorem cat_nil (s : ByteArray) : ⟨#[]⟩ ++ s = s := by
  apply toList_inj
  rw [Lib.toList_data, Lib.toList_data]
  simp [ByteArray.data_append]
set_option maxRecDepth 100000 in
set_option maxHeartbeats 8000000 in
theorem rtext_any (A : Option Addr) (n c : Nat) (rs : List RSt) (B : Nat) (w : World) (hB : B ≤ w.heap.size) (hz : RowAt cellsR 4 w B A n rs) (hn63 : n ≤ 9223372036854775807) :
    Calls Tryz.prog 54 #[.slice A n c] w fun e w' => e = .returned (.string (textF rs)) ∧ Below w.heap.size w w' := by
  have HR := Lib.hid (rright_any A n c rs B w hB hz hn63)
  rcases hr : rightZ rs with _ | _
  · have HF : Hid (textF rs = ⟨#[]⟩) := by show _ = _; unfold textF; rw [hr]; rfl
    rw [hr] at HR
    clear hz hr
    go_enter Tryz.func54, Tryz.ntmps54
    go_wp2_with fail
    refine HR.out.mono ?_
    rintro e w1 ⟨rfl, hb⟩
    go_wp2
    go_ret
    exact ⟨by rw [HF.out]; rfl, hb⟩
  have HRT := Lib.hid hr
  have HZ := Lib.hid hz
  have HLN := Lib.hid hz.1
  have HALL := Lib.hid (tk_all hr)
  have hn32 : n ≤ 32 := by have := (right_fold hr).1; have := hz.1; omega
  rw [hr] at HR
  clear hz hr
  go_enter Tryz.func54, Tryz.ntmps54
  go_wp2_with fail
  refine HR.out.mono ?_
  rintro e w1 ⟨rfl, hb⟩
  have HB := Lib.hid hb
  clear hb HR
  go_upto_region 4 with fail
  have hb : Below w1.heap.size w1 (w1.alloc (.cells #[.string ⟨#[]⟩, .string ⟨#[97, 108, 108]⟩, .string ⟨#[100, 105, 115, 99]⟩, .string ⟨#[104, 97, 108, 102]⟩, .string ⟨#[110, 111, 116]⟩, .string ⟨#[97, 110, 100]⟩, .string ⟨#[111, 114]⟩] 9)) := (Below.refl _ _).alloc (Nat.le_refl _) _
  have HNM : Hid (∀ m : Nat, 1 ≤ m → m ≤ 6 → (w1.alloc (.cells #[.string ⟨#[]⟩, .string ⟨#[97, 108, 108]⟩, .string ⟨#[100, 105, 115, 99]⟩, .string ⟨#[104, 97, 108, 102]⟩, .string ⟨#[110, 111, 116]⟩, .string ⟨#[97, 110, 100]⟩, .string ⟨#[111, 114]⟩] 9)).cell? ⟨w1.heap.size, m, none⟩ = some (.string (nameF m))) := fun m h1 h6 => by
    have : m = 1 ∨ m = 2 ∨ m = 3 ∨ m = 4 ∨ m = 5 ∨ m = 6 := by omega
    rcases this with rfl | rfl | rfl | rfl | rfl | rfl <;> (simp [go_sem]; rfl)
  have hnz : w1.heap.size < (w1.alloc (.cells #[.string ⟨#[]⟩, .string ⟨#[97, 108, 108]⟩, .string ⟨#[100, 105, 115, 99]⟩, .string ⟨#[104, 97, 108, 102]⟩, .string ⟨#[110, 111, 116]⟩, .string ⟨#[97, 110, 100]⟩, .string ⟨#[111, 114]⟩] 9)).heap.size := by simp
  replace HB := Lib.hid (HB.out.trans (hb.mono HB.out.size))
  clear hb
  generalize (w1.alloc (.cells #[.string ⟨#[]⟩, .string ⟨#[97, 108, 108]⟩, .string ⟨#[100, 105, 115, 99]⟩, .string ⟨#[104, 97, 108, 102]⟩, .string ⟨#[110, 111, 116]⟩, .string ⟨#[97, 110, 100]⟩, .string ⟨#[111, 114]⟩] 9)) = W1 at *
  generalize w1.heap.size = P at *
  go_wp2_with fail
  go_loopw [4, 5] (fun s i wr => ∃ k : Nat, i = .int .i64 k ∧ k ≤ n ∧ s = .string (tkF rs k) ∧ Hid (Below W1.heap.size W1 wr)) (fun _ i _ => n - (intOf i).toNat)
  case atStart => exact ⟨0, rfl, by omega, rfl, Below.refl _ _⟩
  case round =>
    obtain ⟨k, rfl, hk, rfl, HB1⟩ := hrel
    by_cases hlt : k < n
    · obtain ⟨b, o, rfl, hbB, r, hr, hc⟩ := HZ.out.get hlt
      obtain ⟨e0, e1, e2, e3⟩ := cellsR_at hc
      have HBT : Below w.heap.size w wr := HB.out.trans (HB1.out.mono HB.out.size)
      have hbl : b < wr.heap.size := by have := HBT.size; omega
      have hf := (run_step 0 0 HRT.out hr).1
      obtain ⟨⟨h1, h6⟩, hx8, hy8, hz8, -⟩ := fits_ops hf
      have HX := Lib.hid (rnum_any r.x hx8)
      have HY := Lib.hid (rnum_any r.y hy8)
      have HZN := Lib.hid (rnum_any r.sz hz8)
      have hsx : (itoaB r.x).size ≤ 21 := Lib.itoa_length_le r.x (by omega) (by omega)
      have hsy : (itoaB r.y).size ≤ 21 := Lib.itoa_length_le r.y (by omega) (by omega)
      have hsz : (itoaB r.sz).size ≤ 21 := Lib.itoa_length_le r.sz (by omega) (by omega)
      have hnl := name_len r.op
      have hsk := tk_size HRT.out k
      have HT : Hid (stepTextF r = if r.op = 2 ∨ r.op = 3 then nameF r.op ++ ⟨#[32]⟩ ++ itoaB r.x ++ ⟨#[32]⟩ ++ itoaB r.y ++ ⟨#[32]⟩ ++ itoaB r.sz else nameF r.op) := rfl
      have HT1 : Hid (k = 0 → stepTextF r = tkF rs (k + 1)) := fun h => by subst h; exact tk_first hr
      have HT0 : Hid (k = 0 → tkF rs k = ⟨#[]⟩) := fun h => by subst h; rfl
      have HT2 : Hid (0 < k → tkF rs k ++ ⟨#[44]⟩ ++ stepTextF r = tkF rs (k + 1)) := tk_step hr
      obtain ⟨m, hm⟩ : ∃ m : Nat, r.op = (m : Int) := ⟨r.op.toNat, by omega⟩
      rw [hm] at hnl HT h1 h6 e0
      have hm1 : 1 ≤ m := by omega
      have hm6 : m ≤ 6 := by omega
      have hnm := (HB1.out.cell (p := ⟨P, m, none⟩) hnz).trans (HNM.out m hm1 hm6)
      replace e0 := ((HBT.mono (Nat.le_refl _)).cell (p := ⟨b, o + k * 4, none⟩) (Nat.lt_of_lt_of_le hbB hB)).trans e0
      replace e1 := ((HBT.mono (Nat.le_refl _)).cell (p := ⟨b, o + k * 4 + 1, none⟩) (Nat.lt_of_lt_of_le hbB hB)).trans e1
      replace e2 := ((HBT.mono (Nat.le_refl _)).cell (p := ⟨b, o + k * 4 + 2, none⟩) (Nat.lt_of_lt_of_le hbB hB)).trans e2
      replace e3 := ((HBT.mono (Nat.le_refl _)).cell (p := ⟨b, o + k * 4 + 3, none⟩) (Nat.lt_of_lt_of_le hbB hB)).trans e3
      clear hc hr hf hx8 hy8 hz8 hm HBT
      generalize itoaB r.x = tx at *
      generalize itoaB r.y = ty at *
      generalize itoaB r.sz = tz at *
      generalize stepTextF r = st at *
      generalize nameF (m : Int) = nm at *
      generalize r.x = x at *
      generalize r.y = y at *
      generalize r.sz = z at *
      generalize tkF rs k = sk at *
      have q1 : (k : Int) < n := by omega
      have q0 : (0 : Int) ≤ (k : Int) := by omega
      have q2 : (m : Int) < 7 := by omega
      have q3 : (0 : Int) ≤ (m : Int) := by omega
      have q4 : m < 7 := by omega
      by_cases hk0 : k = 0
      · subst hk0
        simp only [Nat.zero_mul, Nat.add_zero] at e0 e1 e2 e3
        by_cases h23 : (m : Int) = 2 ∨ (m : Int) = 3
        · rw [if_pos h23] at HT
          have HN : Hid (sk ++ nm ++ ⟨#[32]⟩ ++ tx ++ ⟨#[32]⟩ ++ ty ++ ⟨#[32]⟩ ++ tz = tkF rs (0 + 1)) := by
            show _ = _
            rw [cat_step, ← HT.out]
            rw [HT0.out rfl, cat_nil]; exact HT1.out rfl
          have hss : (sk ++ nm).size ≤ 2300 := by simp only [ByteArray.size_append]; omega
          clear HT HT0 HT1 HT2
          rcases h23 with h2 | h3
          · obtain rfl : m = 2 := by omega
            go_upto_region 12 with fail
            generalize sk ++ nm = s2 at *
            have c1 : ¬ 9223372036854775807 < s2.size + 1 := by omega
            have c2 : ¬ 9223372036854775807 < s2.size + 1 + tx.size := by omega
            have c3 : ¬ 9223372036854775807 < s2.size + 1 + tx.size + 1 := by omega
            have c4 : ¬ 9223372036854775807 < s2.size + 1 + tx.size + 1 + ty.size := by omega
            have c5 : ¬ 9223372036854775807 < s2.size + 1 + tx.size + 1 + ty.size + 1 := by omega
            have c6 : ¬ 9223372036854775807 < s2.size + 1 + tx.size + 1 + ty.size + 1 + tz.size := by omega
            refine wp_region_held_drew (S := fun w' => w'.cell? ⟨b, o + 1, none⟩ = some (.int .i64 x) ∧ w'.cell? ⟨b, o + 2, none⟩ = some (.int .i64 y) ∧ w'.cell? ⟨b, o + 3, none⟩ = some (.int .i64 z)) (by kernel_rfl) ⟨e1, e2, e3⟩ (fun hHeld => ?_)
            refine tk 0 ?_
            refine tk 1 ?_
            refine tk 2 ?_
            refine tk 3 ?_
            refine tk 4 ?_
            refine tk 5 ?_
            refine tk 6 ?_
            refine tk 10 ?_
            refine tk 11 ?_
            refine tk 12 ?_
            refine tk 13 ?_
            refine tk 14 ?_
            refine tk 18 ?_
            refine tk 19 ?_
            refine tk 20 ?_
            refine tk 21 ?_
            refine tk 22 ?_
            refine wpAnyH_ready (rs := [7]) (by kernel_rfl) (by simp) ?_
            refine (ac (fun K hK => ?_) AllReadyH.nil)
            go_simp
            go_at_call 115
            refine (HX.out _).mono ?_
            rintro e v1 ⟨rfl, hb⟩
            replace e1 := (hb.cell (p := ⟨b, o + 1, none⟩) hbl).trans e1
            replace e2 := (hb.cell (p := ⟨b, o + 2, none⟩) hbl).trans e2
            replace e3 := (hb.cell (p := ⟨b, o + 3, none⟩) hbl).trans e3
            replace hbl := Nat.lt_of_lt_of_le hbl hb.size
            replace HB1 := Lib.hid (below_via HB1.out hb HB1.out.size ⟨rfl, rfl, rfl, rfl⟩)
            clear hb
            refine hK.out _ _ ⟨e1, e2, e3⟩ (fun hHeld => ?_)
            clear hK K
            try simp only [Act.put, List.setIfInBounds_toArray, List.set_cons_zero, List.set_cons_succ]
            refine tk 8 ?_
            refine tk 9 ?_
            refine wpAnyH_ready (rs := [15]) (by kernel_rfl) (by simp) ?_
            refine (ac (fun K hK => ?_) AllReadyH.nil)
            go_simp
            go_at_call 115
            refine (HY.out _).mono ?_
            rintro e v2 ⟨rfl, hb⟩
            replace e1 := (hb.cell (p := ⟨b, o + 1, none⟩) hbl).trans e1
            replace e2 := (hb.cell (p := ⟨b, o + 2, none⟩) hbl).trans e2
            replace e3 := (hb.cell (p := ⟨b, o + 3, none⟩) hbl).trans e3
            replace hbl := Nat.lt_of_lt_of_le hbl hb.size
            replace HB1 := Lib.hid (below_via HB1.out hb HB1.out.size ⟨rfl, rfl, rfl, rfl⟩)
            clear hb
            refine hK.out _ _ ⟨e1, e2, e3⟩ (fun hHeld => ?_)
            clear hK K
            try simp only [Act.put, List.setIfInBounds_toArray, List.set_cons_zero, List.set_cons_succ]
            refine tk 16 ?_
            refine tk 17 ?_
            refine wpAnyH_ready (rs := [23]) (by kernel_rfl) (by simp) ?_
            refine (ac (fun K hK => ?_) AllReadyH.nil)
            go_simp
            go_at_call 115
            refine (HZN.out _).mono ?_
            rintro e v3 ⟨rfl, hb⟩
            replace e1 := (hb.cell (p := ⟨b, o + 1, none⟩) hbl).trans e1
            replace e2 := (hb.cell (p := ⟨b, o + 2, none⟩) hbl).trans e2
            replace e3 := (hb.cell (p := ⟨b, o + 3, none⟩) hbl).trans e3
            replace hbl := Nat.lt_of_lt_of_le hbl hb.size
            replace HB1 := Lib.hid (below_via HB1.out hb HB1.out.size ⟨rfl, rfl, rfl, rfl⟩)
            clear hb
            refine hK.out _ _ ⟨e1, e2, e3⟩ (fun hHeld => ?_)
            clear hK K
            try simp only [Act.put, List.setIfInBounds_toArray, List.set_cons_zero, List.set_cons_succ]
            refine tk 24 ?_
            refine tk 25 ?_
            refine wpAnyH_done (by kernel_rfl) ?_ _
            clear hHeld e0 e1 e2 e3 hbl hnm
            go_wp2
            go_roundw
            case rel => exact ⟨0 + 1, by go_num, by omega, by rw [HN.out], HB1⟩
            case measure => simp [intOf]; omega
          · obtain rfl : m = 3 := by omega
            go_upto_region 12 with fail
            generalize sk ++ nm = s2 at *
            have c1 : ¬ 9223372036854775807 < s2.size + 1 := by omega
            have c2 : ¬ 9223372036854775807 < s2.size + 1 + tx.size := by omega
            have c3 : ¬ 9223372036854775807 < s2.size + 1 + tx.size + 1 := by omega
            have c4 : ¬ 9223372036854775807 < s2.size + 1 + tx.size + 1 + ty.size := by omega
            have c5 : ¬ 9223372036854775807 < s2.size + 1 + tx.size + 1 + ty.size + 1 := by omega
            have c6 : ¬ 9223372036854775807 < s2.size + 1 + tx.size + 1 + ty.size + 1 + tz.size := by omega
            refine wp_region_held_drew (S := fun w' => w'.cell? ⟨b, o + 1, none⟩ = some (.int .i64 x) ∧ w'.cell? ⟨b, o + 2, none⟩ = some (.int .i64 y) ∧ w'.cell? ⟨b, o + 3, none⟩ = some (.int .i64 z)) (by kernel_rfl) ⟨e1, e2, e3⟩ (fun hHeld => ?_)
            refine tk 0 ?_
            refine tk 1 ?_
            refine tk 2 ?_
            refine tk 3 ?_
            refine tk 4 ?_
            refine tk 5 ?_
            refine tk 6 ?_
            refine tk 10 ?_
            refine tk 11 ?_
            refine tk 12 ?_
            refine tk 13 ?_
            refine tk 14 ?_
            refine tk 18 ?_
            refine tk 19 ?_
            refine tk 20 ?_
            refine tk 21 ?_
            refine tk 22 ?_
            refine wpAnyH_ready (rs := [7]) (by kernel_rfl) (by simp) ?_
            refine (ac (fun K hK => ?_) AllReadyH.nil)
            go_simp
            go_at_call 115
            refine (HX.out _).mono ?_
            rintro e v1 ⟨rfl, hb⟩
            replace e1 := (hb.cell (p := ⟨b, o + 1, none⟩) hbl).trans e1
            replace e2 := (hb.cell (p := ⟨b, o + 2, none⟩) hbl).trans e2
            replace e3 := (hb.cell (p := ⟨b, o + 3, none⟩) hbl).trans e3
            replace hbl := Nat.lt_of_lt_of_le hbl hb.size
            replace HB1 := Lib.hid (below_via HB1.out hb HB1.out.size ⟨rfl, rfl, rfl, rfl⟩)
            clear hb
            refine hK.out _ _ ⟨e1, e2, e3⟩ (fun hHeld => ?_)
            clear hK K
            try simp only [Act.put, List.setIfInBounds_toArray, List.set_cons_zero, List.set_cons_succ]
            refine tk 8 ?_
            refine tk 9 ?_
            refine wpAnyH_ready (rs := [15]) (by kernel_rfl) (by simp) ?_
            refine (ac (fun K hK => ?_) AllReadyH.nil)
            go_simp
            go_at_call 115
            refine (HY.out _).mono ?_
            rintro e v2 ⟨rfl, hb⟩
            replace e1 := (hb.cell (p := ⟨b, o + 1, none⟩) hbl).trans e1
            replace e2 := (hb.cell (p := ⟨b, o + 2, none⟩) hbl).trans e2
            replace e3 := (hb.cell (p := ⟨b, o + 3, none⟩) hbl).trans e3
            replace hbl := Nat.lt_of_lt_of_le hbl hb.size
            replace HB1 := Lib.hid (below_via HB1.out hb HB1.out.size ⟨rfl, rfl, rfl, rfl⟩)
            clear hb
            refine hK.out _ _ ⟨e1, e2, e3⟩ (fun hHeld => ?_)
            clear hK K
            try simp only [Act.put, List.setIfInBounds_toArray, List.set_cons_zero, List.set_cons_succ]
            refine tk 16 ?_
            refine tk 17 ?_
            refine wpAnyH_ready (rs := [23]) (by kernel_rfl) (by simp) ?_
            refine (ac (fun K hK => ?_) AllReadyH.nil)
            go_simp
            go_at_call 115
            refine (HZN.out _).mono ?_
            rintro e v3 ⟨rfl, hb⟩
            replace e1 := (hb.cell (p := ⟨b, o + 1, none⟩) hbl).trans e1
            replace e2 := (hb.cell (p := ⟨b, o + 2, none⟩) hbl).trans e2
            replace e3 := (hb.cell (p := ⟨b, o + 3, none⟩) hbl).trans e3
            replace hbl := Nat.lt_of_lt_of_le hbl hb.size
            replace HB1 := Lib.hid (below_via HB1.out hb HB1.out.size ⟨rfl, rfl, rfl, rfl⟩)
            clear hb
            refine hK.out _ _ ⟨e1, e2, e3⟩ (fun hHeld => ?_)
            clear hK K
            try simp only [Act.put, List.setIfInBounds_toArray, List.set_cons_zero, List.set_cons_succ]
            refine tk 24 ?_
            refine tk 25 ?_
            refine wpAnyH_done (by kernel_rfl) ?_ _
            clear hHeld e0 e1 e2 e3 hbl hnm
            go_wp2
            go_roundw
            case rel => exact ⟨0 + 1, by go_num, by omega, by rw [HN.out], HB1⟩
            case measure => simp [intOf]; omega
        · rw [if_neg h23] at HT
          have HN : Hid (sk ++ nm = tkF rs (0 + 1)) := by
            show _ = _
            rw [← HT.out]
            rw [HT0.out rfl, cat_nil]; exact HT1.out rfl
          have g2 : ((m : Int) == 2) = false := by simp; omega
          have g3 : ((m : Int) == 3) = false := by simp; omega
          have g4 : ¬ (m : Int) = 2 := fun h => h23 (.inl h)
          have g5 : ¬ (m : Int) = 3 := fun h => h23 (.inr h)
          clear HT HT0 HT1 HT2 h23
          go_wp2
          go_roundw
          case rel => exact ⟨0 + 1, by go_num, by omega, by rw [HN.out], HB1⟩
          case measure => simp [intOf]; omega
      · replace hk0 : 0 < k := by omega
        have hk1 : (0 : Int) < k := by omega
        by_cases h23 : (m : Int) = 2 ∨ (m : Int) = 3
        · rw [if_pos h23] at HT
          have HN : Hid (sk ++ ⟨#[44]⟩ ++ nm ++ ⟨#[32]⟩ ++ tx ++ ⟨#[32]⟩ ++ ty ++ ⟨#[32]⟩ ++ tz = tkF rs (k + 1)) := by
            show _ = _
            rw [cat_step, ← HT.out]
            exact HT2.out hk0
          have hss : (sk ++ ⟨#[44]⟩ ++ nm).size ≤ 2300 := by simp only [ByteArray.size_append, show (ByteArray.mk #[44]).size = 1 from rfl]; omega
          clear HT HT0 HT1 HT2
          rcases h23 with h2 | h3
          · obtain rfl : m = 2 := by omega
            go_upto_region 12 with fail
            generalize sk ++ ⟨#[44]⟩ ++ nm = s2 at *
            have c1 : ¬ 9223372036854775807 < s2.size + 1 := by omega
            have c2 : ¬ 9223372036854775807 < s2.size + 1 + tx.size := by omega
            have c3 : ¬ 9223372036854775807 < s2.size + 1 + tx.size + 1 := by omega
            have c4 : ¬ 9223372036854775807 < s2.size + 1 + tx.size + 1 + ty.size := by omega
            have c5 : ¬ 9223372036854775807 < s2.size + 1 + tx.size + 1 + ty.size + 1 := by omega
            have c6 : ¬ 9223372036854775807 < s2.size + 1 + tx.size + 1 + ty.size + 1 + tz.size := by omega
            refine wp_region_held_drew (S := fun w' => w'.cell? ⟨b, o + k * 4 + 1, none⟩ = some (.int .i64 x) ∧ w'.cell? ⟨b, o + k * 4 + 2, none⟩ = some (.int .i64 y) ∧ w'.cell? ⟨b, o + k * 4 + 3, none⟩ = some (.int .i64 z)) (by kernel_rfl) ⟨e1, e2, e3⟩ (fun hHeld => ?_)
            refine tk 0 ?_
            refine tk 1 ?_
            refine tk 2 ?_
            refine tk 3 ?_
            refine tk 4 ?_
            refine tk 5 ?_
            refine tk 6 ?_
            refine tk 10 ?_
            refine tk 11 ?_
            refine tk 12 ?_
            refine tk 13 ?_
            refine tk 14 ?_
            refine tk 18 ?_
            refine tk 19 ?_
            refine tk 20 ?_
            refine tk 21 ?_
            refine tk 22 ?_
            refine wpAnyH_ready (rs := [7]) (by kernel_rfl) (by simp) ?_
            refine (ac (fun K hK => ?_) AllReadyH.nil)
            go_simp
            go_at_call 115
            refine (HX.out _).mono ?_
            rintro e v1 ⟨rfl, hb⟩
            replace e1 := (hb.cell (p := ⟨b, o + k * 4 + 1, none⟩) hbl).trans e1
            replace e2 := (hb.cell (p := ⟨b, o + k * 4 + 2, none⟩) hbl).trans e2
            replace e3 := (hb.cell (p := ⟨b, o + k * 4 + 3, none⟩) hbl).trans e3
            replace hbl := Nat.lt_of_lt_of_le hbl hb.size
            replace HB1 := Lib.hid (below_via HB1.out hb HB1.out.size ⟨rfl, rfl, rfl, rfl⟩)
            clear hb
            refine hK.out _ _ ⟨e1, e2, e3⟩ (fun hHeld => ?_)
            clear hK K
            try simp only [Act.put, List.setIfInBounds_toArray, List.set_cons_zero, List.set_cons_succ]
            refine tk 8 ?_
            refine tk 9 ?_
            refine wpAnyH_ready (rs := [15]) (by kernel_rfl) (by simp) ?_
            refine (ac (fun K hK => ?_) AllReadyH.nil)
            go_simp
            go_at_call 115
            refine (HY.out _).mono ?_
            rintro e v2 ⟨rfl, hb⟩
            replace e1 := (hb.cell (p := ⟨b, o + k * 4 + 1, none⟩) hbl).trans e1
            replace e2 := (hb.cell (p := ⟨b, o + k * 4 + 2, none⟩) hbl).trans e2
            replace e3 := (hb.cell (p := ⟨b, o + k * 4 + 3, none⟩) hbl).trans e3
            replace hbl := Nat.lt_of_lt_of_le hbl hb.size
            replace HB1 := Lib.hid (below_via HB1.out hb HB1.out.size ⟨rfl, rfl, rfl, rfl⟩)
            clear hb
            refine hK.out _ _ ⟨e1, e2, e3⟩ (fun hHeld => ?_)
            clear hK K
            try simp only [Act.put, List.setIfInBounds_toArray, List.set_cons_zero, List.set_cons_succ]
            refine tk 16 ?_
            refine tk 17 ?_
            refine wpAnyH_ready (rs := [23]) (by kernel_rfl) (by simp) ?_
            refine (ac (fun K hK => ?_) AllReadyH.nil)
            go_simp
            go_at_call 115
            refine (HZN.out _).mono ?_
            rintro e v3 ⟨rfl, hb⟩
            replace e1 := (hb.cell (p := ⟨b, o + k * 4 + 1, none⟩) hbl).trans e1
            replace e2 := (hb.cell (p := ⟨b, o + k * 4 + 2, none⟩) hbl).trans e2
            replace e3 := (hb.cell (p := ⟨b, o + k * 4 + 3, none⟩) hbl).trans e3
            replace hbl := Nat.lt_of_lt_of_le hbl hb.size
            replace HB1 := Lib.hid (below_via HB1.out hb HB1.out.size ⟨rfl, rfl, rfl, rfl⟩)
            clear hb
            refine hK.out _ _ ⟨e1, e2, e3⟩ (fun hHeld => ?_)
            clear hK K
            try simp only [Act.put, List.setIfInBounds_toArray, List.set_cons_zero, List.set_cons_succ]
            refine tk 24 ?_
            refine tk 25 ?_
            refine wpAnyH_done (by kernel_rfl) ?_ _
            clear hHeld e0 e1 e2 e3 hbl hnm
            go_wp2
            go_roundw
            case rel => exact ⟨k + 1, by go_num, by omega, by rw [HN.out], HB1⟩
            case measure => simp [intOf]; omega
          · obtain rfl : m = 3 := by omega
            go_upto_region 12 with fail
            generalize sk ++ ⟨#[44]⟩ ++ nm = s2 at *
            have c1 : ¬ 9223372036854775807 < s2.size + 1 := by omega
            have c2 : ¬ 9223372036854775807 < s2.size + 1 + tx.size := by omega
            have c3 : ¬ 9223372036854775807 < s2.size + 1 + tx.size + 1 := by omega
            have c4 : ¬ 9223372036854775807 < s2.size + 1 + tx.size + 1 + ty.size := by omega
            have c5 : ¬ 9223372036854775807 < s2.size + 1 + tx.size + 1 + ty.size + 1 := by omega
            have c6 : ¬ 9223372036854775807 < s2.size + 1 + tx.size + 1 + ty.size + 1 + tz.size := by omega
            refine wp_region_held_drew (S := fun w' => w'.cell? ⟨b, o + k * 4 + 1, none⟩ = some (.int .i64 x) ∧ w'.cell? ⟨b, o + k * 4 + 2, none⟩ = some (.int .i64 y) ∧ w'.cell? ⟨b, o + k * 4 + 3, none⟩ = some (.int .i64 z)) (by kernel_rfl) ⟨e1, e2, e3⟩ (fun hHeld => ?_)
            refine tk 0 ?_
            refine tk 1 ?_
            refine tk 2 ?_
            refine tk 3 ?_
            refine tk 4 ?_
            refine tk 5 ?_
            refine tk 6 ?_
            refine tk 10 ?_
            refine tk 11 ?_
            refine tk 12 ?_
            refine tk 13 ?_
            refine tk 14 ?_
            refine tk 18 ?_
            refine tk 19 ?_
            refine tk 20 ?_
            refine tk 21 ?_
            refine tk 22 ?_
            refine wpAnyH_ready (rs := [7]) (by kernel_rfl) (by simp) ?_
            refine (ac (fun K hK => ?_) AllReadyH.nil)
            go_simp
            go_at_call 115
            refine (HX.out _).mono ?_
            rintro e v1 ⟨rfl, hb⟩
            replace e1 := (hb.cell (p := ⟨b, o + k * 4 + 1, none⟩) hbl).trans e1
            replace e2 := (hb.cell (p := ⟨b, o + k * 4 + 2, none⟩) hbl).trans e2
            replace e3 := (hb.cell (p := ⟨b, o + k * 4 + 3, none⟩) hbl).trans e3
            replace hbl := Nat.lt_of_lt_of_le hbl hb.size
            replace HB1 := Lib.hid (below_via HB1.out hb HB1.out.size ⟨rfl, rfl, rfl, rfl⟩)
            clear hb
            refine hK.out _ _ ⟨e1, e2, e3⟩ (fun hHeld => ?_)
            clear hK K
            try simp only [Act.put, List.setIfInBounds_toArray, List.set_cons_zero, List.set_cons_succ]
            refine tk 8 ?_
            refine tk 9 ?_
            refine wpAnyH_ready (rs := [15]) (by kernel_rfl) (by simp) ?_
            refine (ac (fun K hK => ?_) AllReadyH.nil)
            go_simp
            go_at_call 115
            refine (HY.out _).mono ?_
            rintro e v2 ⟨rfl, hb⟩
            replace e1 := (hb.cell (p := ⟨b, o + k * 4 + 1, none⟩) hbl).trans e1
            replace e2 := (hb.cell (p := ⟨b, o + k * 4 + 2, none⟩) hbl).trans e2
            replace e3 := (hb.cell (p := ⟨b, o + k * 4 + 3, none⟩) hbl).trans e3
            replace hbl := Nat.lt_of_lt_of_le hbl hb.size
            replace HB1 := Lib.hid (below_via HB1.out hb HB1.out.size ⟨rfl, rfl, rfl, rfl⟩)
            clear hb
            refine hK.out _ _ ⟨e1, e2, e3⟩ (fun hHeld => ?_)
            clear hK K
            try simp only [Act.put, List.setIfInBounds_toArray, List.set_cons_zero, List.set_cons_succ]
            refine tk 16 ?_
            refine tk 17 ?_
            refine wpAnyH_ready (rs := [23]) (by kernel_rfl) (by simp) ?_
            refine (ac (fun K hK => ?_) AllReadyH.nil)
            go_simp
            go_at_call 115
            refine (HZN.out _).mono ?_
            rintro e v3 ⟨rfl, hb⟩
            replace e1 := (hb.cell (p := ⟨b, o + k * 4 + 1, none⟩) hbl).trans e1
            replace e2 := (hb.cell (p := ⟨b, o + k * 4 + 2, none⟩) hbl).trans e2
            replace e3 := (hb.cell (p := ⟨b, o + k * 4 + 3, none⟩) hbl).trans e3
            replace hbl := Nat.lt_of_lt_of_le hbl hb.size
            replace HB1 := Lib.hid (below_via HB1.out hb HB1.out.size ⟨rfl, rfl, rfl, rfl⟩)
            clear hb
            refine hK.out _ _ ⟨e1, e2, e3⟩ (fun hHeld => ?_)
            clear hK K
            try simp only [Act.put, List.setIfInBounds_toArray, List.set_cons_zero, List.set_cons_succ]
            refine tk 24 ?_
            refine tk 25 ?_
            refine wpAnyH_done (by kernel_rfl) ?_ _
            clear hHeld e0 e1 e2 e3 hbl hnm
            go_wp2
            go_roundw
            case rel => exact ⟨k + 1, by go_num, by omega, by rw [HN.out], HB1⟩
            case measure => simp [intOf]; omega
        · rw [if_neg h23] at HT
          have HN : Hid (sk ++ ⟨#[44]⟩ ++ nm = tkF rs (k + 1)) := by
            show _ = _
            rw [← HT.out]
            exact HT2.out hk0
          have g2 : ((m : Int) == 2) = false := by simp; omega
          have g3 : ((m : Int) == 3) = false := by simp; omega
          have g4 : ¬ (m : Int) = 2 := fun h => h23 (.inl h)
          have g5 : ¬ (m : Int) = 3 := fun h => h23 (.inr h)
          clear HT HT0 HT1 HT2 h23
          go_wp2
          go_roundw
          case rel => exact ⟨k + 1, by go_num, by omega, by rw [HN.out], HB1⟩
          case measure => simp [intOf]; omega
    · obtain rfl : k = n := by omega
      have q1 : ¬ ((k : Int) < k) := by omega
      have HE : Hid (textF rs = tkF rs k) := by show _ = _; rw [HALL.out, HLN.out]
      go_wp2
      go_ret
      exact ⟨by rw [HE.out]; rfl, HB.out.trans (HB1.out.mono HB.out.size)⟩
end Go.Proofs.YtbookbgfipbaoaaGreatDoor.Zo
