/- know.Add. -/
import Derived.Test.YthfdjebeblmmdaaHEg
import Derived.Test.YthfdjebeblmmdaaHK3
namespace Go.Proofs.Ythfdjebeblmmdaa
open Go.RowKit

/-- One number alone. -/
def oneS (n : Int) : Int × List Int := Sp.addF (0, []) n
theorem oneS_num (n : Int) : Num 1 (oneS n) ∧ ∀ x, Sp.Mem x (oneS n) ↔ x = n ∧ 1 ≤ n ∧ n ≤ 1048576 := by
  unfold oneS Sp.addF
  split
  · rename_i h
    refine ⟨Num.nil 1, fun x => ⟨fun h => (mem_nil h).elim, fun h2 => by omega⟩⟩
  · rename_i h
    obtain ⟨a, b⟩ := Sp.addF_ok ok_nil (by simp) (m := n) (by omega)
    have hb : ∀ x, Sp.Mem x (Sp.unionF (0, []) (0, [n])) ↔ x = n := fun x => by
      rw [b x]
      exact ⟨fun h => h.elim (fun h => (mem_nil h).elim) id, .inr⟩
    refine ⟨⟨a, fun x hx => by rw [(hb x).mp hx]; omega, by have := union_len (0, []) (0, [n]); simpa using this⟩, fun x => ?_⟩
    rw [hb x]
    exact ⟨fun e => ⟨e, by omega, by omega⟩, fun e => e.1⟩
theorem oneS_ne {n : Int} (h1 : 1 ≤ n) (h2 : n ≤ 1048576) : oneS n ≠ (0, []) := fun e => by
  have := ((oneS_num n).2 n).mpr ⟨rfl, h1, h2⟩
  rw [e] at this
  exact mem_nil this
/-- One event more. -/
def addK (m : Mat) (a : ByteArray) (n : Int) : Mat := if rightL a.data.toList = true ∧ oneS n ≠ (0, []) then mergeF m [(a, oneS n)] else m
theorem one_mat {w : World} {a : ByteArray} {u : Int} {A : Option Addr} {c : Nat} {v : List Int} (hv : Sp.IntsAt w w.heap.size A v.length v) (hc : v.length ≤ c) :
    MatAt (w.alloc (.cells #[.string a, .int .i64 u, .slice A v.length c] 77)) (w.heap.size + 1) (some ⟨w.heap.size, 0, none⟩) 1 [(a, (u, v))] :=
  ⟨[⟨a, u, A, c, v⟩], rfl, one_row rowM (heap_alloc_new w _), fun r hr => by
    simp at hr
    subst hr
    exact ⟨(hv.keep ((Below.refl _ _).alloc (Nat.le_refl _) _)).more (by omega), hc⟩⟩
theorem addOne_any (n : Int) (w : World) : Calls Try.prog 59 #[.agg #[.int .i64 0, .slice none 0 0], .int .i64 n] w (Sp.RetSpan (oneS n) w) :=
  Sp.cAddAny (s := (0, [])) (A := none) (c := 0) ⟨Sp.IntsAt.nil _ _ _, Nat.le_refl _⟩ (by simp) n
set_option maxRecDepth 100000 in
set_option maxHeartbeats 4000000 in
theorem addM_any (A : Option Addr) (n c : Nat) (m : Mat) (a : ByteArray) (x : Int) (B : Nat) (w : World) (hB : B ≤ w.heap.size) (hz : MatAt w B A n m) (hnc : n ≤ c) (hn : n ≤ 100000) (hv : ∀ z ∈ m, OkS z.2) :
    Calls Try.prog 14 #[.slice A n c, .string a, .int .i64 x] w (OwnMat 77 (addK m a x) w) := by
  have HM0 : Hid (∀ W, Below w.heap.size w W → Calls Try.prog 30 #[.slice A n c, .slice none 0 0] W (OwnMat 77 m W)) := fun W hb => by
    have := mergeM_any A n c m none 0 0 [] W.heap.size W (Nat.le_refl _) ((hz.keep (hb.mono hB)).more (Nat.le_trans hB hb.size)) (MatAt.nil _ _ _) hnc (Nat.le_refl _) (by omega) hv (by simp)
    rwa [mergeF_nil] at this
  have hN := (oneS_num x).1
  have HM1 : Hid (∀ W A1 c1, Below w.heap.size w W → Sp.IntsAt W W.heap.size A1 (oneS x).2.length (oneS x).2 → (oneS x).2.length ≤ c1 → Calls Try.prog 30 #[.slice A n c, .slice (some ⟨W.heap.size, 0, none⟩) 1 1] (W.alloc (.cells #[.string a, .int .i64 (oneS x).1, .slice A1 (oneS x).2.length c1] 77)) (OwnMat 77 (mergeF m [(a, oneS x)]) (W.alloc (.cells #[.string a, .int .i64 (oneS x).1, .slice A1 (oneS x).2.length c1] 77)))) := fun W A1 c1 hb hi hc => by
    have hb1 : Below W.heap.size W (W.alloc (.cells #[.string a, .int .i64 (oneS x).1, .slice A1 (oneS x).2.length c1] 77)) := (Below.refl _ _).alloc (Nat.le_refl _) _
    have hBW := Nat.le_trans hB hb.size
    exact mergeM_any A n c m (some ⟨W.heap.size, 0, none⟩) 1 1 [(a, oneS x)] (W.heap.size + 1) _ (by simp) (((hz.keep (hb.mono hB)).keep (hb1.mono hBW)).more (by omega)) (one_mat hi hc) hnc (Nat.le_refl _) (by omega) hv (fun z hz => by simp at hz; subst hz; exact hN.okS (by omega))
  have HP : Hid (addK m a x = if rightL a.data.toList = true ∧ oneS x ≠ (0, []) then mergeF m [(a, oneS x)] else m) := rfl
  have HS := Lib.hid (addOne_any x w)
  have hu0 := hN.ok.1
  have hu1 := hN.hi
  have hl1 := hN.len
  have HC : Hid ((oneS x).1 + ((oneS x).2.length : Int) = 0 ↔ oneS x = (0, [])) := by
    show _ ↔ _
    rw [← num_count hN]
    omega
  generalize addK m a x = r at *
  generalize mergeF m [(a, oneS x)] = t at *
  generalize oneS x = s at *
  clear hz hv hN
  obtain ⟨b, hb⟩ : ∃ b, rightL a.data.toList = b := ⟨_, rfl⟩
  have HR := Lib.hid hb
  rw [hb] at HP
  clear hb
  obtain ⟨su, sl⟩ := s
  simp only at hu0 hu1 hl1 HC HM1
  go_enter Try.func14, Try.ntmps14
  go_wp2_with fail
  refine HS.out.mono ?_
  rintro e w1 ⟨A1, c1, rfl, hi, hb⟩
  dsimp only at hi ⊢
  have HI := Lib.hid hi
  have HB := Lib.hid hb
  have hb2 : Below w1.heap.size w1 (w1.alloc (.cells #[.int .i64 su, .slice A1 sl.length c1] 44)) := (Below.refl _ _).alloc (Nat.le_refl _) _
  have HB2 := Lib.hid (hb.trans (hb2.mono hb.size))
  have HI2 := Lib.hid ((hi.1.keep hb2).more hb2.size)
  have e0 : (w1.alloc (.cells #[.int .i64 su, .slice A1 sl.length c1] 44)).cell? ⟨w1.heap.size, 0, none⟩ = some (.int .i64 su) := by simp [go_sem]
  have e1 : (w1.alloc (.cells #[.int .i64 su, .slice A1 sl.length c1] 44)).cell? ⟨w1.heap.size, 1, none⟩ = some (.slice A1 sl.length c1) := by simp [go_sem]
  have hlt : w1.heap.size < (w1.alloc (.cells #[.int .i64 su, .slice A1 sl.length c1] 44)).heap.size := by simp
  clear hi hb hb2 HS
  cases b with
  | false =>
    have HE : Hid (r = m) := by show _ = _; rw [HP.out, if_neg (by simp)]
    clear HM1 HP
    go_wp2_with (go_at_call 47; refine (right_is _ false HR _).mono ?_; rintro e w' ⟨rfl, rfl⟩)
    refine (HM0.out _ HB2.out).mono ?_
    rintro e w3 ⟨A3, c3, rfl, ho, hb⟩
    have HO := Lib.hid (ho.base HB2.out.size)
    have HB1 := Lib.hid (HB2.out.trans (hb.mono HB2.out.size))
    clear ho hb
    go_wp2
    go_ret
    rw [HE.out]
    exact ⟨A3, c3, rfl, HO.out, HB1.out⟩
  | true =>
    by_cases h0 : su + (sl.length : Int) = 0
    · have HE : Hid (r = m) := by show _ = _; rw [HP.out, if_neg (fun h => h.2 (HC.out.mp h0))]
      have hg : (su + (sl.length : Int) == 0) = true := by rw [beq_iff_eq]; exact h0
      clear HM1 HP h0 HC
      generalize sl.length = L at *
      go_wp2_with fail
      refine (right_is _ true HR _).mono ?_
      rintro e w' ⟨rfl, rfl⟩
      go_wp2_with fail
      refine (Sp.count_any su A1 L c1 _ hu0 hu1 (by omega)).mono ?_
      rintro e w3 ⟨rfl, hb⟩
      have HB3 := Lib.hid (HB2.out.trans (hb.mono HB2.out.size))
      clear hb
      go_wp2_with fail
      refine (HM0.out _ HB3.out).mono ?_
      rintro e w4 ⟨A3, c3, rfl, ho, hb⟩
      have HO := Lib.hid (ho.base HB3.out.size)
      have HB1 := Lib.hid (HB3.out.trans (hb.mono HB3.out.size))
      clear ho hb
      go_wp2
      go_ret
      rw [HE.out]
      exact ⟨A3, c3, rfl, HO.out, HB1.out⟩
    · have HE : Hid (r = t) := by show _ = _; rw [HP.out, if_pos ⟨rfl, fun e => h0 (HC.out.mpr e)⟩]
      have hg : (su + (sl.length : Int) == 0) = false := by rw [beq_eq_false_iff_ne]; exact h0
      clear HM0 HP h0 HC
      go_wp2_with fail
      refine (right_is _ true HR _).mono ?_
      rintro e w' ⟨rfl, rfl⟩
      go_wp2_with fail
      refine (Sp.count_any su A1 sl.length c1 _ hu0 hu1 (by omega)).mono ?_
      rintro e w3 ⟨rfl, hb⟩
      have HB3 := Lib.hid (HB2.out.trans (hb.mono HB2.out.size))
      replace e0 := (hb.cell (p := ⟨w1.heap.size, 0, none⟩) hlt).trans e0
      replace e1 := (hb.cell (p := ⟨w1.heap.size, 1, none⟩) hlt).trans e1
      have HM3 := Lib.hid (HM1.out w3 A1 c1 HB3.out ((HI2.out.keep hb).more hb.size) HI.out.2)
      have HB4 := Lib.hid (HB3.out.trans (((Below.refl w3.heap.size w3).alloc (Nat.le_refl _) (.cells #[.string a, .int .i64 su, .slice A1 sl.length c1] 77)).mono HB3.out.size))
      clear hb HM1 HI HI2
      generalize sl.length = L at *
      go_wp2_with fail
      refine HM3.out.mono ?_
      rintro e w4 ⟨A3, c3, rfl, ho, hb⟩
      have HO := Lib.hid (ho.base HB4.out.size)
      have HB1 := Lib.hid (HB4.out.trans (hb.mono HB4.out.size))
      clear ho hb
      go_wp2
      go_ret
      rw [HE.out]
      exact ⟨A3, c3, rfl, HO.out, HB1.out⟩
end Go.Proofs.Ythfdjebeblmmdaa
