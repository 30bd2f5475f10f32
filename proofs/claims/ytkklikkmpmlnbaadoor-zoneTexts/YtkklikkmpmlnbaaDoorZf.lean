/- A step out of its words. -/
import Derived.Test.YtkklikkmpmlnbaaDoorZg
import Derived.Test.YtkklikkmpmlnbaaDoorZn
import Derived.Lib.AtoiAllCases
namespace Go.Proofs.YtkklikkmpmlnbaaDoor
open Go.RowKit

def eqW (a b : ByteArray) : Bool := a.toList == b.toList
theorem toList_inj {a b : ByteArray} (h : a.toList = b.toList) : a = b := by
  rw [Lib.toList_data, Lib.toList_data] at h
  obtain ⟨⟨x⟩⟩ := a
  obtain ⟨⟨y⟩⟩ := b
  simpa using h
theorem eqW_iff (a b : ByteArray) : eqW a b = true ↔ a = b := by
  unfold eqW
  rw [beq_iff_eq]
  exact ⟨toList_inj, fun h => by rw [h]⟩
def opFrom : Nat → Int → ByteArray → Int
  | 0, _, _ => 0
  | f + 1, k, s => if eqW (nameF k) s = true then k else opFrom f (k + 1) s
/-- The Op of that name; 0: there is none. -/
def opF (s : ByteArray) : Int := opFrom 6 1 s

set_option maxRecDepth 100000 in
set_option maxHeartbeats 1000000 in
theorem opOf_any (s : ByteArray) (w : World) : Calls Tryd.prog 46 #[.string s] w fun e w' => e = .returned (.int .i64 (opF s)) ∧ w = w' := by
  have HF : Hid (opFrom 6 1 s = opF s) := rfl
  generalize opF s = O at *
  go_enter Tryd.func46, Tryd.ntmps46
  go_wp2
  go_loop [3] (fun i => ∃ k f : Nat, 1 ≤ k ∧ k + f = 7 ∧ i = .int .i64 k ∧ Hid (opFrom f k s = O)) (fun i => 7 - (intOf i).toNat)
  case atStart => exact ⟨1, 6, by omega, by omega, rfl, HF.out⟩
  case round =>
    clear HF
    obtain ⟨k, f, hk1, hkf, rfl, HF⟩ := hrel
    cases f with
    | zero =>
      have hk6 : ¬ ((k : Int) ≤ 6) := by omega
      have HF' : Hid (0 = O) := HF.out
      clear HF
      go_wp2
      go_ret
      exact ⟨ret_int HF'.out, rfl⟩
    | succ f =>
      have hk6 : (k : Int) ≤ 6 := by omega
      have HN := Lib.hid (name_any k)
      have HF' : Hid ((if eqW (nameF k) s = true then (k : Int) else opFrom f (k + 1) s) = O) := HF.out
      clear HF
      rcases he : eqW (nameF k) s with _ | _
      · rw [he] at HF'
        have he' : ((nameF k).toList == s.toList) = false := he
        generalize nameF k = nm at *
        clear he
        go_wp2_with fail
        refine (HN.out _).mono ?_
        rintro e w1 ⟨rfl, rfl⟩
        go_wp2
        go_round
        case rel => exact ⟨k + 1, f, by omega, by omega, by go_num, HF'.out⟩
        case measure => simp [intOf]; omega
      · rw [he] at HF'
        have he' : ((nameF k).toList == s.toList) = true := he
        generalize nameF k = nm at *
        clear he
        go_wp2_with fail
        refine (HN.out _).mono ?_
        rintro e w1 ⟨rfl, rfl⟩
        go_wp2
        go_ret
        exact ⟨ret_int HF'.out, rfl⟩

/-- A number's one text alone. -/
def numF (s : ByteArray) : Option Int := match Lib.atoiAll s.data.toList with
  | .ok v => if eqW (itoaB v) s = true then some v else none
  | _ => none
/-- The float that parseNumber answers. -/
def numX (s : ByteArray) : Nat := match Lib.atoiAll s.data.toList with
  | .ok v => fl v
  | Lib.NumEnd.syntax => fl 0
  | .range => fl (Lib.atoiSat s.data.toList)
theorem num_like {s : ByteArray} {v : Int} (h : numF s = some v) : NumB (numX s) v := by
  unfold numF at h
  unfold numX
  cases e : Lib.atoiAll s.data.toList with
  | ok u =>
    rw [e] at h
    simp only at h
    split at h
    · injection h with h
      subst h
      have := Lib.atoiAll_bounds e
      exact numB_fl u (by omega)
    · cases h
  | range => rw [e] at h; cases h
  | _ => rw [e] at h; cases h
theorem sat_in (l : List UInt8) : -9223372036854775808 ≤ Lib.atoiSat l ∧ Lib.atoiSat l ≤ 9223372036854775807 := by
  unfold Lib.atoiSat
  split <;> omega

set_option maxRecDepth 100000 in
set_option maxHeartbeats 2000000 in
theorem parseNumber_any (s : ByteArray) (hs : s.size ≤ 281474976710656) (w : World) (hg : Glob w) : Calls Tryd.prog 58 #[.string s] w fun e w' => e = .returned (.tuple #[.float .f64 (numX s), .bool (numF s).isSome]) ∧ Below w.heap.size w w' := by
  have hc : ∀ (n : Int) w, (convert 3 47 (.int .i64 n)).run Tryd.prog w = .ok (.float .f64 (fl n)) w := fun n w => run_convert_int_float w 3 47 .i64 .f64 n (by kernel_rfl) Tryd.underlying47
  cases e : Lib.atoiAll s.data.toList with
  | ok v =>
    have hb := Lib.atoiAll_bounds e
    have HA := Lib.hid (Tryd.strconv_Atoi_ok s (by omega) v e w)
    have HX : Hid (numX s = fl v) := by show _ = _; unfold numX; rw [e]
    have HI := Lib.hid (itoa_any v hb.1 hb.2)
    have HG := Lib.hid hg
    rcases hq : eqW (itoaB v) s with _ | _
    all_goals
      have HF : Hid ((numF s).isSome = eqW (itoaB v) s) := by show _ = _; unfold numF; rw [e]; simp only; rw [hq]; rfl
      rw [hq] at HF
      have hq' := hq
      unfold eqW at hq'
      rw [HX.out]
      generalize itoaB v = tv at *
      generalize (numF s).isSome = OK at *
      generalize fl = g at *
      clear e hq HX hg hb
      go_enter Tryd.func58, Tryd.ntmps58
      go_wp2_with fail
      refine HA.out.mono ?_
      rintro e w1 ⟨rfl, hw1⟩
      have HB1 : Hid (Below w.heap.size w w1) := by
        rcases hw1 with rfl | ⟨t, rfl⟩
        · exact Below.refl _ _
        · exact Lib.bytesWorld_below _ _ _
      clear hw1
      go_wp2_with fail
      refine (HI.out _ (HG.out.below HB1.out)).mono ?_
      rintro e w2 ⟨rfl, hb2⟩
      have HB2 := Lib.hid (HB1.out.trans (hb2.mono HB1.out.size))
      clear hb2
      go_wp2
      go_ret2
      exact ⟨by rw [HF.out]; rfl, HB2.out⟩
  | range =>
    obtain ⟨tp, p, hv⟩ := hg.ran
    have HA := Lib.hid (Tryd.strconv_Atoi_range_var s hs e tp p w hv)
    have HX : Hid (numX s = fl (Lib.atoiSat s.data.toList)) := by show _ = _; unfold numX; rw [e]
    have HF : Hid ((numF s).isSome = false) := by show _ = _; unfold numF; rw [e]; rfl
    have hsat := sat_in s.data.toList
    rw [HX.out]
    generalize Lib.atoiSat s.data.toList = sat at *
    generalize (numF s).isSome = OK at *
    generalize fl = g at *
    clear e hv hg HX
    go_enter Tryd.func58, Tryd.ntmps58
    go_wp2_with fail
    refine HA.out.mono ?_
    rintro e w1 ⟨N, rfl, _, _, hb1⟩
    go_wp2
    go_ret2
    exact ⟨by rw [HF.out]; rfl, hb1⟩
  | _ =>
    obtain ⟨tp, p, hv⟩ := hg.syn
    have HA := Lib.hid (Tryd.strconv_Atoi_syntax_var s hs e tp p w hv)
    have HX : Hid (numX s = fl 0) := by show _ = _; unfold numX; rw [e]
    have HF : Hid ((numF s).isSome = false) := by show _ = _; unfold numF; rw [e]; rfl
    rw [HX.out]
    generalize (numF s).isSome = OK at *
    generalize fl = g at *
    clear e hv hg HX
    go_enter Tryd.func58, Tryd.ntmps58
    go_wp2_with fail
    refine HA.out.mono ?_
    rintro e w1 ⟨N, rfl, _, _, hb1⟩
    go_wp2
    go_ret2
    exact ⟨by rw [HF.out]; rfl, hb1⟩
end Go.Proofs.YtkklikkmpmlnbaaDoor
