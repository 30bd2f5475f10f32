/- SpanAdds: the walk. -/
import Derived.Test.YtgkheoaajpialaaSt
import Derived.Test.YtgkheoaajpialaaSq
namespace Go.Proofs.Ytgkheoaajpialaa
open Go.RowKit

/-- A variable that is a Span: in block G lies s, its Extra at (A, c). -/
def At (w : World) (G : Nat) (A : Option Addr) (c : Nat) (s : Int × List Int) : Prop := w.cell? ⟨G, 0, none⟩ = some (.int .i64 s.1) ∧ w.cell? ⟨G, 1, none⟩ = some (.slice A s.2.length c) ∧ G < w.heap.size ∧ SpanIn w A c s
theorem At.keep {W w1 : World} {G : Nat} {A : Option Addr} {c : Nat} {s : Int × List Int} (h : At W G A c s) (hb : Below W.heap.size W w1) : At w1 G A c s :=
  ⟨(hb.cell (p := ⟨G, 0, none⟩) h.2.2.1).trans h.1, (hb.cell (p := ⟨G, 1, none⟩) h.2.2.1).trans h.2.1, Nat.lt_of_lt_of_le h.2.2.1 hb.size, h.2.2.2.keep hb⟩
theorem At.alloc {W : World} {G : Nat} {A : Option Addr} {c : Nat} {s : Int × List Int} (h : At W G A c s) (o : Obj) : At (W.alloc o) G A c s := h.keep ((Below.refl _ _).alloc (Nat.le_refl _) o)
theorem At.new {W : World} {A : Option Addr} {c : Nat} {s : Int × List Int} (h : SpanIn W A c s) (T : TypeId) : At (W.alloc (Obj.cells #[.int .i64 s.1, .slice A s.2.length c] T)) W.heap.size A c s :=
  ⟨by simp [go_sem], by simp [go_sem], by simp, h.keep ((Below.refl _ _).alloc (Nat.le_refl _) _)⟩

theorem right_of {s : Int × List Int} (h : Ok s) (hb : s.1 ≤ 1048576) (hl : s.2.length ≤ 4096) (hm : ∀ z ∈ s.2, z ≤ 1048576) : rightF s.1 s.2 = true := by
  have hc : ∀ (l : List Int) (a : Int), l.Pairwise (· < ·) → (∀ z ∈ l, a < z ∧ z ≤ 1048576) → chainB a l = true := by
    intro l
    induction l with
    | nil => intro a _ _; rfl
    | cons z t ih =>
      intro a hs hb
      rw [List.pairwise_cons] at hs
      have h1 := hb z (by simp)
      unfold chainB
      rw [decide_eq_true (by omega), ih z hs.2 (fun y hy => ⟨hs.1 y hy, (hb y (by simp [hy])).2⟩)]
      rfl
  unfold rightF
  have h0 := h.1
  rw [decide_eq_true (by omega), hc s.2 (s.1 + 1) h.2.1 (fun z hz => ⟨h.2.2 z hz, hm z hz⟩)]
  rfl

/-- What the law's numbers come to: s as Fix makes it, r the Span with m. -/
theorem adds_facts {s r : Int × List Int} {m : Int} (hs : Small s) (hr : refAddF s m = r) : Ok r ∧ r.1 ≤ 100000 ∧ r.2.length ≤ 4096 ∧ rightF r.1 r.2 = true ∧ (hasOf r.1 r.2 m = true ↔ 1 ≤ m ∧ m ≤ 1048576) := by
  subst hr
  obtain ⟨a, b⟩ := refAdd_ok hs.1 m
  have hbd := refAdd_bd s m
  have h1 := hs.2.2.1
  have h2 := hs.2.2.2
  refine ⟨a, by omega, by omega, right_of a (by omega) (by omega) (fun z hz => ?_), ?_⟩
  · rcases (b z).1 (.inr hz) with h | h
    · have := hs.2.1 z h; omega
    · omega
  · rw [has_mem a, b m]
    constructor
    · rintro (h | h)
      · have h3 := hs.2.1 m h
        rcases h with h | h
        · omega
        · have := hs.1.2.2 m h; have := hs.1.1; omega
      · exact h.2
    · intro h
      exact .inr ⟨rfl, h⟩

set_option maxRecDepth 100000 in
set_option maxHeartbeats 8000000 in
theorem spanAdds_walk (u : Int) (A : Option Addr) (n c : Nat) (zs : List Int) (m : Int) (w : World) (hz : IntsAt w w.heap.size A n zs) (_hnc : n ≤ c) (hn : n ≤ 9223372036854775807) :
    Calls Try.prog 4 #[.agg #[.int .i64 u, .slice A n c], .int .i64 m] w fun e w' => e = .returned (.bool true) ∧ Below w.heap.size w w' := by
  have HZ := Lib.hid hz
  clear hz
  have hsm := fix_small u zs
  obtain ⟨s, HFx⟩ : ∃ s, Hid (fixF u zs = s) := ⟨_, rfl⟩
  rw [HFx.out] at hsm
  obtain ⟨r, HRr0⟩ : ∃ r, Hid (refAddF s m = r) := ⟨_, rfl⟩
  obtain ⟨hok, hur, hlr, hrr, hhm⟩ := adds_facts hsm HRr0.out
  have HRy : Hid (addF s m = r) := (addF_ref hsm.1 (by have := hsm.2.2.1; omega) m).trans HRr0.out
  have HOs := Lib.hid hsm.1
  have HOr := Lib.hid hok
  have HRr := Lib.hid hrr
  have hs0 := hsm.1.1
  have hUs : s.1 ≤ 100000 := by have := hsm.2.2.1; omega
  have hLs : s.2.length ≤ 100000 := by have := hsm.2.2.2; omega
  have hr0 := hok.1
  have hUr := hur
  have hLr : r.2.length ≤ 100000 := by omega
  have HHm0 := Lib.hid hhm
  clear hsm hok hur hlr hrr hhm
  go_enter Try.func4, Try.ntmps4
  go_upto_region 1 with fail
  go_cut [] (fun wx => ∃ (A1 : Option Addr) (c1 : Nat), At wx w.heap.size A1 c1 s ∧ Below w.heap.size w wx)
  case first =>
    go_wp2_with fail
    refine (fix_any u A n c zs w.heap.size _ (by simp) (HZ.out.keep ((Below.refl _ _).alloc (Nat.le_refl _) _)) hn).mono ?_
    rw [HFx.out]
    rintro e w1 ⟨A1, c1, rfl, hown, hg, _⟩
    have hb := grown_none hg
    have k0 : w1.cell? ⟨w.heap.size, 0, none⟩ = some (.int .i64 u) := (hb.cell (by simp)).trans (by simp [go_sem])
    have k1 : w1.cell? ⟨w.heap.size, 1, none⟩ = some (.slice A n c) := (hb.cell (by simp)).trans (by simp [go_sem])
    have f0 : w1.frozen? ⟨w.heap.size, 0, none⟩ = false := (hb.frozen (by simp)).trans (by simp [go_sem])
    have f1 : w1.frozen? ⟨w.heap.size, 1, none⟩ = false := (hb.frozen (by simp)).trans (by simp [go_sem])
    have hz1 : w.heap.size < w1.heap.size := by have := hb.size; simp at this; omega
    have HB1 : Hid (Below w.heap.size w w1) := ((Below.refl _ _).alloc (Nat.le_refl _) _).trans (hb.mono (by simp))
    have HO : Hid (w1.ownsRow (w.heap.size + 1) 3 1 (.slice A1 s.2.length c1) s.2.length (s.2.map (.int .i64))) := own_base hown (by simp)
    clear hown hg hb
    go_wp2_with fail
    go_meet
    case rel =>
      have hn4 : Value.ownBlock (.slice A1 s.2.length c1) ≠ some w.heap.size := fun e => by have := (HO.out.lt _ e).1; omega
      have hO2 := own_setCell (own_setCell HO.out (p := ⟨w.heap.size, 0, none⟩) hn4 (.int .i64 s.1)) (p := ⟨w.heap.size, 1, none⟩) hn4 (.slice A1 s.2.length c1)
      exact ⟨A1, c1, ⟨by simp [go_sem, k0], by simp [go_sem, k1], by simpa [World.setCell] using hz1, own_ints hO2, own_cap hO2⟩, (HB1.out.setCell (by simp) _).setCell (by simp) _⟩
  case rest =>
    obtain ⟨A1, c1, a1, hb1⟩ := hcut
    have HA1 := Lib.hid a1
    have HB1 := Lib.hid hb1
    obtain ⟨x0, x1, hzx, hi1⟩ := a1
    have HI1 := Lib.hid hi1
    clear hb1 hi1
    go_upto_region 2 with fail
    go_cut [5] (fun s5 wx => ∃ (G : Nat) (A2 : Option Addr) (c2 : Nat), s5 = .pointer (some ⟨G, 0, none⟩) ∧ At wx w.heap.size A1 c1 s ∧ At wx G A2 c2 s ∧ Below w.heap.size w wx)
    case first =>
      go_wp2_with fail
      refine (cTo HI1.out hLs).mono ?_
      rintro e w1 ⟨A2, c2, rfl, hi, hw⟩
      have HN := Lib.hid hi
      have HW := Lib.hid hw
      clear hi hw
      go_wp2_with fail
      go_meet
      case rel => exact ⟨w1.heap.size, A2, c2, rfl, (HA1.out.keep HW.out).alloc _, At.new HN.out _, (HB1.out.trans (HW.out.mono HB1.out.size)).alloc (Nat.le_trans HB1.out.size HW.out.size) _⟩
    case rest =>
      clear x0 x1 hzx HI1 HA1 HB1
      obtain ⟨G5, A2, c2, rfl, a1, a2, hb1⟩ := hcut
      have HA1 := Lib.hid a1
      have HA2 := Lib.hid a2
      have HB1 := Lib.hid hb1
      obtain ⟨y0, y1, hzy, hi2⟩ := a2
      have HI2 := Lib.hid hi2
      clear hb1 hi2 a1
      go_upto_region 3 with fail
      go_cut [6] (fun s6 wx => ∃ (G : Nat) (A3 : Option Addr) (c3 : Nat), s6 = .pointer (some ⟨G, 0, none⟩) ∧ At wx w.heap.size A1 c1 s ∧ At wx G5 A2 c2 s ∧ At wx G A3 c3 r ∧ Below w.heap.size w wx)
      case first =>
        go_wp2_with fail
        refine (cAddAny HI2.out hLs m).mono ?_
        rw [HRy.out]
        rintro e w1 ⟨A3, c3, rfl, hi, hw⟩
        have HN := Lib.hid hi
        have HW := Lib.hid hw
        clear hi hw
        go_wp2_with fail
        go_meet
        case rel => exact ⟨w1.heap.size, A3, c3, rfl, (HA1.out.keep HW.out).alloc _, (HA2.out.keep HW.out).alloc _, At.new HN.out _, (HB1.out.trans (HW.out.mono HB1.out.size)).alloc (Nat.le_trans HB1.out.size HW.out.size) _⟩
      case rest =>
        clear y0 y1 hzy HI2 HA1 HA2 HB1
        obtain ⟨G6, A3, c3, rfl, a1, a2, a3, hb1⟩ := hcut
        have HA1 := Lib.hid a1
        have HA2 := Lib.hid a2
        have HA3 := Lib.hid a3
        have HB1 := Lib.hid hb1
        obtain ⟨x0, x1, hzx, hi1⟩ := a1
        have HI1 := Lib.hid hi1
        clear hb1 hi1 a2 a3
        go_upto_region 4 with fail
        go_cut [7] (fun s7 wx => ∃ (G : Nat) (A4 : Option Addr) (c4 : Nat), s7 = .pointer (some ⟨G, 0, none⟩) ∧ At wx w.heap.size A1 c1 s ∧ At wx G5 A2 c2 s ∧ At wx G6 A3 c3 r ∧ At wx G A4 c4 r ∧ Below w.heap.size w wx)
        case first =>
          go_wp2_with fail
          refine (cRefAdd HI1.out hLs hs0 hUs m).mono ?_
          rw [HRr0.out]
          rintro e w1 ⟨A4, c4, rfl, hi, hw⟩
          have HN := Lib.hid hi
          have HW := Lib.hid hw
          clear hi hw
          go_wp2_with fail
          go_meet
          case rel => exact ⟨w1.heap.size, A4, c4, rfl, (HA1.out.keep HW.out).alloc _, (HA2.out.keep HW.out).alloc _, (HA3.out.keep HW.out).alloc _, At.new HN.out _, (HB1.out.trans (HW.out.mono HB1.out.size)).alloc (Nat.le_trans HB1.out.size HW.out.size) _⟩
        case rest =>
          clear x0 x1 hzx HI1 HA1 HA2 HA3 HB1
          obtain ⟨G7, A4, c4, rfl, ⟨x0, x1, hzx, hi1⟩, ⟨y0, y1, hzy, hi2⟩, ⟨z0, z1, hzz, hi3⟩, ⟨t0, t1, hzt, hi4⟩, hb1⟩ := hcut
          have HIs := Lib.hid hi1
          have HIx := Lib.hid hi2
          have HIy := Lib.hid hi3
          have HIw := Lib.hid hi4
          have HBc := Lib.hid hb1
          clear hi1 hi2 hi3 hi4 hb1
          by_cases hm1 : 1 ≤ m
          · by_cases hm2 : m ≤ 1048576
            · have HHm : Hid (hasOf r.1 r.2 m = true) := HHm0.out.2 ⟨hm1, hm2⟩
              go_wp2_with fail
              refine wp_region_held_drew (S := fun w' => w'.cell? ⟨w.heap.size, 0, none⟩ = some (.int .i64 s.1) ∧ w'.cell? ⟨w.heap.size, 1, none⟩ = some (.slice A1 s.2.length c1) ∧ w'.cell? ⟨G5, 0, none⟩ = some (.int .i64 s.1) ∧ w'.cell? ⟨G5, 1, none⟩ = some (.slice A2 s.2.length c2) ∧ w'.cell? ⟨G6, 0, none⟩ = some (.int .i64 r.1) ∧ w'.cell? ⟨G6, 1, none⟩ = some (.slice A3 r.2.length c3) ∧ w'.cell? ⟨G7, 0, none⟩ = some (.int .i64 r.1) ∧ w'.cell? ⟨G7, 1, none⟩ = some (.slice A4 r.2.length c4)) (by kernel_rfl) ⟨x0, x1, y0, y1, z0, z1, t0, t1⟩ (fun hHeld => ?_)
              refine wpAnyH_ready (rs := [0]) (by kernel_rfl) (by simp) ?_
              refine AllReadyH.cons (o := { dst := some 18, op := Go.Op.call { callee := Go.Callee.value (Go.Operand.func 10), args := #[], argTypes := #[] }, type := 4, pos := "law.go:32", after := #[], guard := none }) rfl (fun K hK => ?_) AllReadyH.nil
              go_simp
              go_at_call 10
              refine (told_any _).mono ?_
              rintro e v0 ⟨rfl, hw⟩
              replace x0 := (hw.cell (p := ⟨w.heap.size, 0, none⟩) hzx).trans x0
              replace x1 := (hw.cell (p := ⟨w.heap.size, 1, none⟩) hzx).trans x1
              replace y0 := (hw.cell (p := ⟨G5, 0, none⟩) hzy).trans y0
              replace y1 := (hw.cell (p := ⟨G5, 1, none⟩) hzy).trans y1
              replace z0 := (hw.cell (p := ⟨G6, 0, none⟩) hzz).trans z0
              replace z1 := (hw.cell (p := ⟨G6, 1, none⟩) hzz).trans z1
              replace t0 := (hw.cell (p := ⟨G7, 0, none⟩) hzt).trans t0
              replace t1 := (hw.cell (p := ⟨G7, 1, none⟩) hzt).trans t1
              replace hzt := Nat.lt_of_lt_of_le hzt hw.size
              replace hzx := Nat.lt_of_lt_of_le hzx hw.size
              replace hzy := Nat.lt_of_lt_of_le hzy hw.size
              replace hzz := Nat.lt_of_lt_of_le hzz hw.size
              replace HIs := Lib.hid (HIs.out.on hw ⟨rfl, rfl, rfl, rfl⟩)
              replace HIx := Lib.hid (HIx.out.on hw ⟨rfl, rfl, rfl, rfl⟩)
              replace HIy := Lib.hid (HIy.out.on hw ⟨rfl, rfl, rfl, rfl⟩)
              replace HIw := Lib.hid (HIw.out.on hw ⟨rfl, rfl, rfl, rfl⟩)
              replace HBc : Hid (Below w.heap.size w v0) := below_via HBc.out hw HBc.out.size ⟨rfl, rfl, rfl, rfl⟩
              clear hw
              refine hK.out _ _ ⟨x0, x1, y0, y1, z0, z1, t0, t1⟩ (fun hHeld => ?_)
              clear hK K
              try simp only [Act.put, List.setIfInBounds_toArray, List.set_cons_zero, List.set_cons_succ]
              refine wpAnyH_take (i := 1) (oi := { dst := some 19, op := Go.Op.move (Go.Operand.tmp 18), type := 4, pos := "law.go:32", after := #[{ on := 0, ground := Go.Ground.data }, { on := 0, ground := Go.Ground.chain }], guard := none }) (v := ?_) rfl (by kernel_rfl) (by kernel_rfl) (by kernel_rfl) (fun _ _ _ h => h) (Or.inl ⟨rfl, ?_⟩) (by assumption) ?_
              rotate_left
              · intro wz hSw; (try dsimp only at hSw); go_simp; try (with_reducible rfl)
              try simp only [Act.put, List.setIfInBounds_toArray, List.set_cons_zero, List.set_cons_succ]
              refine wpAnyH_take (i := 2) (oi := { dst := some 20, op := Go.Op.load 27 (Go.Operand.tmp 6), type := 27, pos := "law.go:32", after := #[{ on := 1, ground := Go.Ground.guard }], guard := some (1, true) }) (v := ?_) rfl (by kernel_rfl) (by kernel_rfl) (by kernel_rfl) (fun _ _ _ h => h) (Or.inl ⟨rfl, ?_⟩) (by assumption) ?_
              rotate_left
              · intro wz hSw; (try dsimp only at hSw); go_simp; try (with_reducible rfl)
              try simp only [Act.put, List.setIfInBounds_toArray, List.set_cons_zero, List.set_cons_succ]
              refine wpAnyH_take (i := 4) (oi := { dst := some 22, op := Go.Op.load 24 (Go.Operand.tmp 7), type := 24, pos := "law.go:32", after := #[{ on := 1, ground := Go.Ground.guard }], guard := some (1, true) }) (v := ?_) rfl (by kernel_rfl) (by kernel_rfl) (by kernel_rfl) (fun _ _ _ h => h) (Or.inl ⟨rfl, ?_⟩) (by assumption) ?_
              rotate_left
              · intro wz hSw; (try dsimp only at hSw); go_simp; try (with_reducible rfl)
              try simp only [Act.put, List.setIfInBounds_toArray, List.set_cons_zero, List.set_cons_succ]
              refine wpAnyH_ready (rs := [3]) (by kernel_rfl) (by simp) ?_
              refine AllReadyH.cons (o := { dst := some 21, op := Go.Op.call { callee := Go.Callee.value (Go.Operand.func 18), args := #[Go.Operand.tmp 20], argTypes := #[27] }, type := 24, pos := "law.go:32", after := #[{ on := 2, ground := Go.Ground.data }, { on := 1, ground := Go.Ground.chain }, { on := 1, ground := Go.Ground.guard }], guard := some (1, true) }) rfl (fun K hK => ?_) AllReadyH.nil
              go_simp
              go_at_call 18
              refine (cFrom (s := r) (by exact HIy.out.same rfl) hLr).mono ?_
              rintro e v1 ⟨B1, d1, rfl, hin, hw⟩
              replace x0 := (hw.cell (p := ⟨w.heap.size, 0, none⟩) hzx).trans x0
              replace x1 := (hw.cell (p := ⟨w.heap.size, 1, none⟩) hzx).trans x1
              replace y0 := (hw.cell (p := ⟨G5, 0, none⟩) hzy).trans y0
              replace y1 := (hw.cell (p := ⟨G5, 1, none⟩) hzy).trans y1
              replace z0 := (hw.cell (p := ⟨G6, 0, none⟩) hzz).trans z0
              replace z1 := (hw.cell (p := ⟨G6, 1, none⟩) hzz).trans z1
              replace t0 := (hw.cell (p := ⟨G7, 0, none⟩) hzt).trans t0
              replace t1 := (hw.cell (p := ⟨G7, 1, none⟩) hzt).trans t1
              replace hzt := Nat.lt_of_lt_of_le hzt hw.size
              replace hzx := Nat.lt_of_lt_of_le hzx hw.size
              replace hzy := Nat.lt_of_lt_of_le hzy hw.size
              replace hzz := Nat.lt_of_lt_of_le hzz hw.size
              replace HIs := Lib.hid (HIs.out.on hw ⟨rfl, rfl, rfl, rfl⟩)
              replace HIx := Lib.hid (HIx.out.on hw ⟨rfl, rfl, rfl, rfl⟩)
              replace HIy := Lib.hid (HIy.out.on hw ⟨rfl, rfl, rfl, rfl⟩)
              replace HIw := Lib.hid (HIw.out.on hw ⟨rfl, rfl, rfl, rfl⟩)
              replace HBc : Hid (Below w.heap.size w v1) := below_via HBc.out hw HBc.out.size ⟨rfl, rfl, rfl, rfl⟩
              have HP1 := Lib.hid hin
              clear hin
              clear hw
              refine hK.out _ _ ⟨x0, x1, y0, y1, z0, z1, t0, t1⟩ (fun hHeld => ?_)
              clear hK K
              try simp only [Act.put, List.setIfInBounds_toArray, List.set_cons_zero, List.set_cons_succ]
              refine wpAnyH_ready (rs := [5]) (by kernel_rfl) (by simp) ?_
              refine AllReadyH.cons (o := { dst := some 23, op := Go.Op.call { callee := Go.Callee.value (Go.Operand.func 17), args := #[Go.Operand.tmp 21, Go.Operand.tmp 22], argTypes := #[24, 24] }, type := 4, pos := "law.go:32", after := #[{ on := 3, ground := Go.Ground.data }, { on := 4, ground := Go.Ground.data }, { on := 3, ground := Go.Ground.chain }, { on := 1, ground := Go.Ground.guard }], guard := some (1, true) }) rfl (fun K hK => ?_) AllReadyH.nil
              go_simp
              go_at_call 17
              refine (cRefSame (s := r) (t := r) (by exact HP1.out.same rfl) (by exact HIw.out.same rfl) hLr).mono ?_
              rw [same_true rfl]
              rintro e v2 ⟨rfl, hw⟩
              replace x0 := (hw.cell (p := ⟨w.heap.size, 0, none⟩) hzx).trans x0
              replace x1 := (hw.cell (p := ⟨w.heap.size, 1, none⟩) hzx).trans x1
              replace y0 := (hw.cell (p := ⟨G5, 0, none⟩) hzy).trans y0
              replace y1 := (hw.cell (p := ⟨G5, 1, none⟩) hzy).trans y1
              replace z0 := (hw.cell (p := ⟨G6, 0, none⟩) hzz).trans z0
              replace z1 := (hw.cell (p := ⟨G6, 1, none⟩) hzz).trans z1
              replace t0 := (hw.cell (p := ⟨G7, 0, none⟩) hzt).trans t0
              replace t1 := (hw.cell (p := ⟨G7, 1, none⟩) hzt).trans t1
              replace hzt := Nat.lt_of_lt_of_le hzt hw.size
              replace hzx := Nat.lt_of_lt_of_le hzx hw.size
              replace hzy := Nat.lt_of_lt_of_le hzy hw.size
              replace hzz := Nat.lt_of_lt_of_le hzz hw.size
              replace HIs := Lib.hid (HIs.out.on hw ⟨rfl, rfl, rfl, rfl⟩)
              replace HIx := Lib.hid (HIx.out.on hw ⟨rfl, rfl, rfl, rfl⟩)
              replace HIy := Lib.hid (HIy.out.on hw ⟨rfl, rfl, rfl, rfl⟩)
              replace HIw := Lib.hid (HIw.out.on hw ⟨rfl, rfl, rfl, rfl⟩)
              replace HP1 := Lib.hid (HP1.out.on hw ⟨rfl, rfl, rfl, rfl⟩)
              replace HBc : Hid (Below w.heap.size w v2) := below_via HBc.out hw HBc.out.size ⟨rfl, rfl, rfl, rfl⟩
              clear hw
              refine hK.out _ _ ⟨x0, x1, y0, y1, z0, z1, t0, t1⟩ (fun hHeld => ?_)
              clear hK K
              try simp only [Act.put, List.setIfInBounds_toArray, List.set_cons_zero, List.set_cons_succ]
              refine wpAnyH_take (i := 6) (oi := { dst := some 24, op := Go.Op.pick (Go.Operand.tmp 19) (Go.Operand.tmp 23) (Go.Operand.const (Go.Value.bool false)), type := 4, pos := "law.go:32", after := #[{ on := 1, ground := Go.Ground.data }, { on := 5, ground := Go.Ground.data }], guard := none }) (v := ?_) rfl (by kernel_rfl) (by kernel_rfl) (by kernel_rfl) (fun _ _ _ h => h) (Or.inl ⟨rfl, ?_⟩) (by assumption) ?_
              rotate_left
              · intro wz hSw; (try dsimp only at hSw); go_simp; try (with_reducible rfl)
              try simp only [Act.put, List.setIfInBounds_toArray, List.set_cons_zero, List.set_cons_succ]
              refine wpAnyH_take (i := 7) (oi := { dst := some 25, op := Go.Op.move (Go.Operand.tmp 24), type := 4, pos := "law.go:32", after := #[{ on := 6, ground := Go.Ground.data }, { on := 5, ground := Go.Ground.chain }], guard := none }) (v := ?_) rfl (by kernel_rfl) (by kernel_rfl) (by kernel_rfl) (fun _ _ _ h => h) (Or.inl ⟨rfl, ?_⟩) (by assumption) ?_
              rotate_left
              · intro wz hSw; (try dsimp only at hSw); go_simp; try (with_reducible rfl)
              try simp only [Act.put, List.setIfInBounds_toArray, List.set_cons_zero, List.set_cons_succ]
              refine wpAnyH_take (i := 8) (oi := { dst := some 26, op := Go.Op.load 27 (Go.Operand.tmp 6), type := 27, pos := "law.go:32", after := #[{ on := 7, ground := Go.Ground.guard }], guard := some (7, true) }) (v := ?_) rfl (by kernel_rfl) (by kernel_rfl) (by kernel_rfl) (fun _ _ _ h => h) (Or.inl ⟨rfl, ?_⟩) (by assumption) ?_
              rotate_left
              · intro wz hSw; (try dsimp only at hSw); go_simp; try (with_reducible rfl)
              try simp only [Act.put, List.setIfInBounds_toArray, List.set_cons_zero, List.set_cons_succ]
              refine wpAnyH_ready (rs := [9]) (by kernel_rfl) (by simp) ?_
              refine AllReadyH.cons (o := { dst := some 27, op := Go.Op.call { callee := Go.Callee.value (Go.Operand.func 11), args := #[Go.Operand.tmp 26], argTypes := #[27] }, type := 4, pos := "law.go:32", after := #[{ on := 8, ground := Go.Ground.data }, { on := 7, ground := Go.Ground.chain }, { on := 7, ground := Go.Ground.guard }], guard := some (7, true) }) rfl (fun K hK => ?_) AllReadyH.nil
              go_simp
              go_at_call 11
              refine (cRight (s := r) (by exact HIy.out.same rfl) hLr).mono ?_
              rw [HRr.out]
              rintro e v3 ⟨rfl, hw⟩
              replace x0 := (hw.cell (p := ⟨w.heap.size, 0, none⟩) hzx).trans x0
              replace x1 := (hw.cell (p := ⟨w.heap.size, 1, none⟩) hzx).trans x1
              replace y0 := (hw.cell (p := ⟨G5, 0, none⟩) hzy).trans y0
              replace y1 := (hw.cell (p := ⟨G5, 1, none⟩) hzy).trans y1
              replace z0 := (hw.cell (p := ⟨G6, 0, none⟩) hzz).trans z0
              replace z1 := (hw.cell (p := ⟨G6, 1, none⟩) hzz).trans z1
              replace t0 := (hw.cell (p := ⟨G7, 0, none⟩) hzt).trans t0
              replace t1 := (hw.cell (p := ⟨G7, 1, none⟩) hzt).trans t1
              replace hzt := Nat.lt_of_lt_of_le hzt hw.size
              replace hzx := Nat.lt_of_lt_of_le hzx hw.size
              replace hzy := Nat.lt_of_lt_of_le hzy hw.size
              replace hzz := Nat.lt_of_lt_of_le hzz hw.size
              replace HIs := Lib.hid (HIs.out.on hw ⟨rfl, rfl, rfl, rfl⟩)
              replace HIx := Lib.hid (HIx.out.on hw ⟨rfl, rfl, rfl, rfl⟩)
              replace HIy := Lib.hid (HIy.out.on hw ⟨rfl, rfl, rfl, rfl⟩)
              replace HIw := Lib.hid (HIw.out.on hw ⟨rfl, rfl, rfl, rfl⟩)
              replace HBc : Hid (Below w.heap.size w v3) := below_via HBc.out hw HBc.out.size ⟨rfl, rfl, rfl, rfl⟩
              clear hw
              refine hK.out _ _ ⟨x0, x1, y0, y1, z0, z1, t0, t1⟩ (fun hHeld => ?_)
              clear hK K
              try simp only [Act.put, List.setIfInBounds_toArray, List.set_cons_zero, List.set_cons_succ]
              refine wpAnyH_take (i := 10) (oi := { dst := some 28, op := Go.Op.pick (Go.Operand.tmp 25) (Go.Operand.tmp 27) (Go.Operand.const (Go.Value.bool false)), type := 4, pos := "law.go:32", after := #[{ on := 7, ground := Go.Ground.data }, { on := 9, ground := Go.Ground.data }], guard := none }) (v := ?_) rfl (by kernel_rfl) (by kernel_rfl) (by kernel_rfl) (fun _ _ _ h => h) (Or.inl ⟨rfl, ?_⟩) (by assumption) ?_
              rotate_left
              · intro wz hSw; (try dsimp only at hSw); go_simp; try (with_reducible rfl)
              try simp only [Act.put, List.setIfInBounds_toArray, List.set_cons_zero, List.set_cons_succ]
              refine wpAnyH_take (i := 11) (oi := { dst := some 29, op := Go.Op.move (Go.Operand.tmp 28), type := 4, pos := "law.go:32", after := #[{ on := 10, ground := Go.Ground.data }, { on := 9, ground := Go.Ground.chain }], guard := none }) (v := ?_) rfl (by kernel_rfl) (by kernel_rfl) (by kernel_rfl) (fun _ _ _ h => h) (Or.inl ⟨rfl, ?_⟩) (by assumption) ?_
              rotate_left
              · intro wz hSw; (try dsimp only at hSw); go_simp; try (with_reducible rfl)
              try simp only [Act.put, List.setIfInBounds_toArray, List.set_cons_zero, List.set_cons_succ]
              refine wpAnyH_take (i := 12) (oi := { dst := some 30, op := Go.Op.load 27 (Go.Operand.tmp 5), type := 27, pos := "law.go:32", after := #[{ on := 11, ground := Go.Ground.guard }], guard := some (11, true) }) (v := ?_) rfl (by kernel_rfl) (by kernel_rfl) (by kernel_rfl) (fun _ _ _ h => h) (Or.inl ⟨rfl, ?_⟩) (by assumption) ?_
              rotate_left
              · intro wz hSw; (try dsimp only at hSw); go_simp; try (with_reducible rfl)
              try simp only [Act.put, List.setIfInBounds_toArray, List.set_cons_zero, List.set_cons_succ]
              refine wpAnyH_take (i := 13) (oi := { dst := some 31, op := Go.Op.move (Go.Operand.tmp 1), type := 3, pos := "law.go:32", after := #[{ on := 11, ground := Go.Ground.guard }], guard := some (11, true) }) (v := ?_) rfl (by kernel_rfl) (by kernel_rfl) (by kernel_rfl) (fun _ _ _ h => h) (Or.inl ⟨rfl, ?_⟩) (by assumption) ?_
              rotate_left
              · intro wz hSw; (try dsimp only at hSw); go_simp; try (with_reducible rfl)
              try simp only [Act.put, List.setIfInBounds_toArray, List.set_cons_zero, List.set_cons_succ]
              refine wpAnyH_take (i := 15) (oi := { dst := some 33, op := Go.Op.load 24 (Go.Operand.tmp 2), type := 24, pos := "law.go:32", after := #[{ on := 11, ground := Go.Ground.guard }], guard := some (11, true) }) (v := ?_) rfl (by kernel_rfl) (by kernel_rfl) (by kernel_rfl) (fun _ _ _ h => h) (Or.inl ⟨rfl, ?_⟩) (by assumption) ?_
              rotate_left
              · intro wz hSw; (try dsimp only at hSw); go_simp; try (with_reducible rfl)
              try simp only [Act.put, List.setIfInBounds_toArray, List.set_cons_zero, List.set_cons_succ]
              refine wpAnyH_take (i := 16) (oi := { dst := some 34, op := Go.Op.move (Go.Operand.tmp 1), type := 3, pos := "law.go:32", after := #[{ on := 11, ground := Go.Ground.guard }], guard := some (11, true) }) (v := ?_) rfl (by kernel_rfl) (by kernel_rfl) (by kernel_rfl) (fun _ _ _ h => h) (Or.inl ⟨rfl, ?_⟩) (by assumption) ?_
              rotate_left
              · intro wz hSw; (try dsimp only at hSw); go_simp; try (with_reducible rfl)
              try simp only [Act.put, List.setIfInBounds_toArray, List.set_cons_zero, List.set_cons_succ]
              refine wpAnyH_ready (rs := [14]) (by kernel_rfl) (by simp) ?_
              refine AllReadyH.cons (o := { dst := some 32, op := Go.Op.call { callee := Go.Callee.value (Go.Operand.func 19), args := #[Go.Operand.tmp 30, Go.Operand.tmp 31], argTypes := #[27, 3] }, type := 4, pos := "law.go:32", after := #[{ on := 12, ground := Go.Ground.data }, { on := 13, ground := Go.Ground.data }, { on := 11, ground := Go.Ground.chain }, { on := 11, ground := Go.Ground.guard }], guard := some (11, true) }) rfl (fun K hK => ?_) AllReadyH.nil
              go_simp
              go_at_call 19
              refine (cHas (s := s) (by exact HIx.out.same rfl) hLs HOs.out m).mono ?_
              rw [← ref_has_eq HOs.out]
              rintro e v4 ⟨rfl, hw⟩
              replace x0 := (hw.cell (p := ⟨w.heap.size, 0, none⟩) hzx).trans x0
              replace x1 := (hw.cell (p := ⟨w.heap.size, 1, none⟩) hzx).trans x1
              replace y0 := (hw.cell (p := ⟨G5, 0, none⟩) hzy).trans y0
              replace y1 := (hw.cell (p := ⟨G5, 1, none⟩) hzy).trans y1
              replace z0 := (hw.cell (p := ⟨G6, 0, none⟩) hzz).trans z0
              replace z1 := (hw.cell (p := ⟨G6, 1, none⟩) hzz).trans z1
              replace t0 := (hw.cell (p := ⟨G7, 0, none⟩) hzt).trans t0
              replace t1 := (hw.cell (p := ⟨G7, 1, none⟩) hzt).trans t1
              replace hzt := Nat.lt_of_lt_of_le hzt hw.size
              replace hzx := Nat.lt_of_lt_of_le hzx hw.size
              replace hzy := Nat.lt_of_lt_of_le hzy hw.size
              replace hzz := Nat.lt_of_lt_of_le hzz hw.size
              replace HIs := Lib.hid (HIs.out.on hw ⟨rfl, rfl, rfl, rfl⟩)
              replace HIx := Lib.hid (HIx.out.on hw ⟨rfl, rfl, rfl, rfl⟩)
              replace HIy := Lib.hid (HIy.out.on hw ⟨rfl, rfl, rfl, rfl⟩)
              replace HIw := Lib.hid (HIw.out.on hw ⟨rfl, rfl, rfl, rfl⟩)
              replace HBc : Hid (Below w.heap.size w v4) := below_via HBc.out hw HBc.out.size ⟨rfl, rfl, rfl, rfl⟩
              clear hw
              refine hK.out _ _ ⟨x0, x1, y0, y1, z0, z1, t0, t1⟩ (fun hHeld => ?_)
              clear hK K
              try simp only [Act.put, List.setIfInBounds_toArray, List.set_cons_zero, List.set_cons_succ]
              refine wpAnyH_ready (rs := [17]) (by kernel_rfl) (by simp) ?_
              refine AllReadyH.cons (o := { dst := some 35, op := Go.Op.call { callee := Go.Callee.value (Go.Operand.func 20), args := #[Go.Operand.tmp 33, Go.Operand.tmp 34], argTypes := #[24, 3] }, type := 4, pos := "law.go:32", after := #[{ on := 15, ground := Go.Ground.data }, { on := 16, ground := Go.Ground.data }, { on := 14, ground := Go.Ground.chain }, { on := 11, ground := Go.Ground.guard }], guard := some (11, true) }) rfl (fun K hK => ?_) AllReadyH.nil
              go_simp
              go_at_call 20
              refine (cRefHas (s := s) (by exact HIs.out.same rfl) hLs m).mono ?_
              rintro e v5 ⟨rfl, hw⟩
              replace x0 := (hw.cell (p := ⟨w.heap.size, 0, none⟩) hzx).trans x0
              replace x1 := (hw.cell (p := ⟨w.heap.size, 1, none⟩) hzx).trans x1
              replace y0 := (hw.cell (p := ⟨G5, 0, none⟩) hzy).trans y0
              replace y1 := (hw.cell (p := ⟨G5, 1, none⟩) hzy).trans y1
              replace z0 := (hw.cell (p := ⟨G6, 0, none⟩) hzz).trans z0
              replace z1 := (hw.cell (p := ⟨G6, 1, none⟩) hzz).trans z1
              replace t0 := (hw.cell (p := ⟨G7, 0, none⟩) hzt).trans t0
              replace t1 := (hw.cell (p := ⟨G7, 1, none⟩) hzt).trans t1
              replace hzt := Nat.lt_of_lt_of_le hzt hw.size
              replace hzx := Nat.lt_of_lt_of_le hzx hw.size
              replace hzy := Nat.lt_of_lt_of_le hzy hw.size
              replace hzz := Nat.lt_of_lt_of_le hzz hw.size
              replace HIs := Lib.hid (HIs.out.on hw ⟨rfl, rfl, rfl, rfl⟩)
              replace HIx := Lib.hid (HIx.out.on hw ⟨rfl, rfl, rfl, rfl⟩)
              replace HIy := Lib.hid (HIy.out.on hw ⟨rfl, rfl, rfl, rfl⟩)
              replace HIw := Lib.hid (HIw.out.on hw ⟨rfl, rfl, rfl, rfl⟩)
              replace HBc : Hid (Below w.heap.size w v5) := below_via HBc.out hw HBc.out.size ⟨rfl, rfl, rfl, rfl⟩
              clear hw
              refine hK.out _ _ ⟨x0, x1, y0, y1, z0, z1, t0, t1⟩ (fun hHeld => ?_)
              clear hK K
              try simp only [Act.put, List.setIfInBounds_toArray, List.set_cons_zero, List.set_cons_succ]
              refine wpAnyH_take (i := 18) (oi := { dst := some 36, op := Go.Op.binOp Go.BinOp.eql 4 (Go.Operand.tmp 32) (Go.Operand.tmp 35) 4, type := 4, pos := "law.go:32", after := #[{ on := 14, ground := Go.Ground.data }, { on := 17, ground := Go.Ground.data }, { on := 11, ground := Go.Ground.guard }], guard := some (11, true) }) (v := ?_) rfl (by kernel_rfl) (by kernel_rfl) (by kernel_rfl) (fun _ _ _ h => h) (Or.inl ⟨rfl, ?_⟩) (by assumption) ?_
              rotate_left
              · intro wz hSw; (try dsimp only at hSw); go_simp; try (with_reducible rfl)
              try simp only [Act.put, List.setIfInBounds_toArray, List.set_cons_zero, List.set_cons_succ]
              refine wpAnyH_take (i := 19) (oi := { dst := some 37, op := Go.Op.pick (Go.Operand.tmp 29) (Go.Operand.tmp 36) (Go.Operand.const (Go.Value.bool false)), type := 4, pos := "law.go:32", after := #[{ on := 11, ground := Go.Ground.data }, { on := 18, ground := Go.Ground.data }], guard := none }) (v := ?_) rfl (by kernel_rfl) (by kernel_rfl) (by kernel_rfl) (fun _ _ _ h => h) (Or.inl ⟨rfl, ?_⟩) (by assumption) ?_
              rotate_left
              · intro wz hSw; (try dsimp only at hSw); go_simp; try (with_reducible rfl)
              try simp only [Act.put, List.setIfInBounds_toArray, List.set_cons_zero, List.set_cons_succ]
              refine wpAnyH_take (i := 20) (oi := { dst := some 38, op := Go.Op.move (Go.Operand.tmp 37), type := 4, pos := "law.go:32", after := #[{ on := 19, ground := Go.Ground.data }, { on := 17, ground := Go.Ground.chain }], guard := none }) (v := ?_) rfl (by kernel_rfl) (by kernel_rfl) (by kernel_rfl) (fun _ _ _ h => h) (Or.inl ⟨rfl, ?_⟩) (by assumption) ?_
              rotate_left
              · intro wz hSw; (try dsimp only at hSw); go_simp; try (with_reducible rfl)
              try simp only [Act.put, List.setIfInBounds_toArray, List.set_cons_zero, List.set_cons_succ]
              refine wpAnyH_take (i := 21) (oi := { dst := some 39, op := Go.Op.load 27 (Go.Operand.tmp 6), type := 27, pos := "law.go:32", after := #[{ on := 20, ground := Go.Ground.guard }], guard := some (20, true) }) (v := ?_) rfl (by kernel_rfl) (by kernel_rfl) (by kernel_rfl) (fun _ _ _ h => h) (Or.inl ⟨rfl, ?_⟩) (by assumption) ?_
              rotate_left
              · intro wz hSw; (try dsimp only at hSw); go_simp; try (with_reducible rfl)
              try simp only [Act.put, List.setIfInBounds_toArray, List.set_cons_zero, List.set_cons_succ]
              refine wpAnyH_take (i := 22) (oi := { dst := some 40, op := Go.Op.move (Go.Operand.tmp 1), type := 3, pos := "law.go:32", after := #[{ on := 20, ground := Go.Ground.guard }], guard := some (20, true) }) (v := ?_) rfl (by kernel_rfl) (by kernel_rfl) (by kernel_rfl) (fun _ _ _ h => h) (Or.inl ⟨rfl, ?_⟩) (by assumption) ?_
              rotate_left
              · intro wz hSw; (try dsimp only at hSw); go_simp; try (with_reducible rfl)
              try simp only [Act.put, List.setIfInBounds_toArray, List.set_cons_zero, List.set_cons_succ]
              refine wpAnyH_take (i := 24) (oi := { dst := some 42, op := Go.Op.move (Go.Operand.tmp 1), type := 3, pos := "law.go:32", after := #[{ on := 20, ground := Go.Ground.guard }], guard := some (20, true) }) (v := ?_) rfl (by kernel_rfl) (by kernel_rfl) (by kernel_rfl) (fun _ _ _ h => h) (Or.inl ⟨rfl, ?_⟩) (by assumption) ?_
              rotate_left
              · intro wz hSw; (try dsimp only at hSw); go_simp; try (with_reducible rfl)
              try simp only [Act.put, List.setIfInBounds_toArray, List.set_cons_zero, List.set_cons_succ]
              refine wpAnyH_take (i := 25) (oi := { dst := some 43, op := Go.Op.binOp Go.BinOp.geq 3 (Go.Operand.tmp 42) (Go.Operand.const (Go.Value.int Go.IntKind.i64 1)) 3, type := 4, pos := "law.go:32", after := #[{ on := 24, ground := Go.Ground.data }, { on := 20, ground := Go.Ground.guard }], guard := some (20, true) }) (v := ?_) rfl (by kernel_rfl) (by kernel_rfl) (by kernel_rfl) (fun _ _ _ h => h) (Or.inl ⟨rfl, ?_⟩) (by assumption) ?_
              rotate_left
              · intro wz hSw; (try dsimp only at hSw); go_simp; try (with_reducible rfl)
              try simp only [Act.put, List.setIfInBounds_toArray, List.set_cons_zero, List.set_cons_succ]
              refine wpAnyH_ready (rs := [23]) (by kernel_rfl) (by simp) ?_
              refine AllReadyH.cons (o := { dst := some 41, op := Go.Op.call { callee := Go.Callee.value (Go.Operand.func 19), args := #[Go.Operand.tmp 39, Go.Operand.tmp 40], argTypes := #[27, 3] }, type := 4, pos := "law.go:32", after := #[{ on := 21, ground := Go.Ground.data }, { on := 22, ground := Go.Ground.data }, { on := 20, ground := Go.Ground.chain }, { on := 20, ground := Go.Ground.guard }], guard := some (20, true) }) rfl (fun K hK => ?_) AllReadyH.nil
              go_simp
              go_at_call 19
              refine (cHas (s := r) (by exact HIy.out.same rfl) hLr HOr.out m).mono ?_
              rw [HHm.out]
              rintro e v6 ⟨rfl, hw⟩
              replace x0 := (hw.cell (p := ⟨w.heap.size, 0, none⟩) hzx).trans x0
              replace x1 := (hw.cell (p := ⟨w.heap.size, 1, none⟩) hzx).trans x1
              replace y0 := (hw.cell (p := ⟨G5, 0, none⟩) hzy).trans y0
              replace y1 := (hw.cell (p := ⟨G5, 1, none⟩) hzy).trans y1
              replace z0 := (hw.cell (p := ⟨G6, 0, none⟩) hzz).trans z0
              replace z1 := (hw.cell (p := ⟨G6, 1, none⟩) hzz).trans z1
              replace t0 := (hw.cell (p := ⟨G7, 0, none⟩) hzt).trans t0
              replace t1 := (hw.cell (p := ⟨G7, 1, none⟩) hzt).trans t1
              replace hzt := Nat.lt_of_lt_of_le hzt hw.size
              replace hzx := Nat.lt_of_lt_of_le hzx hw.size
              replace hzy := Nat.lt_of_lt_of_le hzy hw.size
              replace hzz := Nat.lt_of_lt_of_le hzz hw.size
              replace HIs := Lib.hid (HIs.out.on hw ⟨rfl, rfl, rfl, rfl⟩)
              replace HIx := Lib.hid (HIx.out.on hw ⟨rfl, rfl, rfl, rfl⟩)
              replace HIy := Lib.hid (HIy.out.on hw ⟨rfl, rfl, rfl, rfl⟩)
              replace HIw := Lib.hid (HIw.out.on hw ⟨rfl, rfl, rfl, rfl⟩)
              replace HBc : Hid (Below w.heap.size w v6) := below_via HBc.out hw HBc.out.size ⟨rfl, rfl, rfl, rfl⟩
              clear hw
              refine hK.out _ _ ⟨x0, x1, y0, y1, z0, z1, t0, t1⟩ (fun hHeld => ?_)
              clear hK K
              try simp only [Act.put, List.setIfInBounds_toArray, List.set_cons_zero, List.set_cons_succ]
              refine wpAnyH_take (i := 26) (oi := { dst := some 44, op := Go.Op.move (Go.Operand.tmp 43), type := 4, pos := "law.go:32", after := #[{ on := 25, ground := Go.Ground.data }, { on := 23, ground := Go.Ground.chain }, { on := 20, ground := Go.Ground.guard }], guard := some (20, true) }) (v := ?_) rfl (by kernel_rfl) (by kernel_rfl) (by kernel_rfl) (fun _ _ _ h => h) (Or.inl ⟨rfl, ?_⟩) (by assumption) ?_
              rotate_left
              · intro wz hSw; (try dsimp only at hSw); go_simp; try (with_reducible rfl)
              try simp only [Act.put, List.setIfInBounds_toArray, List.set_cons_zero, List.set_cons_succ]
              refine wpAnyH_take (i := 27) (oi := { dst := some 45, op := Go.Op.move (Go.Operand.tmp 1), type := 3, pos := "law.go:32", after := #[{ on := 26, ground := Go.Ground.guard }], guard := some (26, true) }) (v := ?_) rfl (by kernel_rfl) (by kernel_rfl) (by kernel_rfl) (fun _ _ _ h => h) (Or.inl ⟨rfl, ?_⟩) (by assumption) ?_
              rotate_left
              · intro wz hSw; (try dsimp only at hSw); go_simp; try (with_reducible rfl)
              try simp only [Act.put, List.setIfInBounds_toArray, List.set_cons_zero, List.set_cons_succ]
              refine wpAnyH_take (i := 28) (oi := { dst := some 46, op := Go.Op.binOp Go.BinOp.leq 3 (Go.Operand.tmp 45) (Go.Operand.const (Go.Value.int Go.IntKind.i64 1048576)) 3, type := 4, pos := "law.go:32", after := #[{ on := 27, ground := Go.Ground.data }, { on := 26, ground := Go.Ground.guard }], guard := some (26, true) }) (v := ?_) rfl (by kernel_rfl) (by kernel_rfl) (by kernel_rfl) (fun _ _ _ h => h) (Or.inl ⟨rfl, ?_⟩) (by assumption) ?_
              rotate_left
              · intro wz hSw; (try dsimp only at hSw); go_simp; try (with_reducible rfl)
              try simp only [Act.put, List.setIfInBounds_toArray, List.set_cons_zero, List.set_cons_succ]
              refine wpAnyH_take (i := 29) (oi := { dst := some 47, op := Go.Op.pick (Go.Operand.tmp 44) (Go.Operand.tmp 46) (Go.Operand.const (Go.Value.bool false)), type := 4, pos := "law.go:32", after := #[{ on := 26, ground := Go.Ground.data }, { on := 28, ground := Go.Ground.data }, { on := 20, ground := Go.Ground.guard }], guard := some (20, true) }) (v := ?_) rfl (by kernel_rfl) (by kernel_rfl) (by kernel_rfl) (fun _ _ _ h => h) (Or.inl ⟨rfl, ?_⟩) (by assumption) ?_
              rotate_left
              · intro wz hSw; (try dsimp only at hSw); go_simp; try (with_reducible rfl)
              try simp only [Act.put, List.setIfInBounds_toArray, List.set_cons_zero, List.set_cons_succ]
              refine wpAnyH_take (i := 30) (oi := { dst := some 48, op := Go.Op.binOp Go.BinOp.eql 4 (Go.Operand.tmp 41) (Go.Operand.tmp 47) 4, type := 4, pos := "law.go:32", after := #[{ on := 23, ground := Go.Ground.data }, { on := 29, ground := Go.Ground.data }, { on := 20, ground := Go.Ground.guard }], guard := some (20, true) }) (v := ?_) rfl (by kernel_rfl) (by kernel_rfl) (by kernel_rfl) (fun _ _ _ h => h) (Or.inl ⟨rfl, ?_⟩) (by assumption) ?_
              rotate_left
              · intro wz hSw; (try dsimp only at hSw); go_simp; try (with_reducible rfl)
              try simp only [Act.put, List.setIfInBounds_toArray, List.set_cons_zero, List.set_cons_succ]
              refine wpAnyH_take (i := 31) (oi := { dst := some 49, op := Go.Op.pick (Go.Operand.tmp 38) (Go.Operand.tmp 48) (Go.Operand.const (Go.Value.bool false)), type := 4, pos := "law.go:32", after := #[{ on := 20, ground := Go.Ground.data }, { on := 30, ground := Go.Ground.data }], guard := none }) (v := ?_) rfl (by kernel_rfl) (by kernel_rfl) (by kernel_rfl) (fun _ _ _ h => h) (Or.inl ⟨rfl, ?_⟩) (by assumption) ?_
              rotate_left
              · intro wz hSw; (try dsimp only at hSw); go_simp; try (with_reducible rfl)
              try simp only [Act.put, List.setIfInBounds_toArray, List.set_cons_zero, List.set_cons_succ]
              refine wpAnyH_take (i := 32) (oi := { dst := some 50, op := Go.Op.move (Go.Operand.tmp 49), type := 4, pos := "law.go:32", after := #[{ on := 31, ground := Go.Ground.data }, { on := 26, ground := Go.Ground.chain }], guard := none }) (v := ?_) rfl (by kernel_rfl) (by kernel_rfl) (by kernel_rfl) (fun _ _ _ h => h) (Or.inl ⟨rfl, ?_⟩) (by assumption) ?_
              rotate_left
              · intro wz hSw; (try dsimp only at hSw); go_simp; try (with_reducible rfl)
              try simp only [Act.put, List.setIfInBounds_toArray, List.set_cons_zero, List.set_cons_succ]
              refine wpAnyH_take (i := 33) (oi := { dst := some 51, op := Go.Op.load 27 (Go.Operand.tmp 6), type := 27, pos := "law.go:32", after := #[{ on := 32, ground := Go.Ground.guard }], guard := some (32, true) }) (v := ?_) rfl (by kernel_rfl) (by kernel_rfl) (by kernel_rfl) (fun _ _ _ h => h) (Or.inl ⟨rfl, ?_⟩) (by assumption) ?_
              rotate_left
              · intro wz hSw; (try dsimp only at hSw); go_simp; try (with_reducible rfl)
              try simp only [Act.put, List.setIfInBounds_toArray, List.set_cons_zero, List.set_cons_succ]
              refine wpAnyH_take (i := 35) (oi := { dst := some 53, op := Go.Op.load 24 (Go.Operand.tmp 7), type := 24, pos := "law.go:32", after := #[{ on := 32, ground := Go.Ground.guard }], guard := some (32, true) }) (v := ?_) rfl (by kernel_rfl) (by kernel_rfl) (by kernel_rfl) (fun _ _ _ h => h) (Or.inl ⟨rfl, ?_⟩) (by assumption) ?_
              rotate_left
              · intro wz hSw; (try dsimp only at hSw); go_simp; try (with_reducible rfl)
              try simp only [Act.put, List.setIfInBounds_toArray, List.set_cons_zero, List.set_cons_succ]
              refine wpAnyH_ready (rs := [34]) (by kernel_rfl) (by simp) ?_
              refine AllReadyH.cons (o := { dst := some 52, op := Go.Op.call { callee := Go.Callee.value (Go.Operand.func 21), args := #[Go.Operand.tmp 51], argTypes := #[27] }, type := 3, pos := "law.go:32", after := #[{ on := 33, ground := Go.Ground.data }, { on := 32, ground := Go.Ground.chain }, { on := 32, ground := Go.Ground.guard }], guard := some (32, true) }) rfl (fun K hK => ?_) AllReadyH.nil
              go_simp
              go_at_call 21
              refine (cCount (s := r) (A := A3) (c := c3) hr0 hUr hLr).mono ?_
              rintro e v7 ⟨rfl, hw⟩
              replace x0 := (hw.cell (p := ⟨w.heap.size, 0, none⟩) hzx).trans x0
              replace x1 := (hw.cell (p := ⟨w.heap.size, 1, none⟩) hzx).trans x1
              replace y0 := (hw.cell (p := ⟨G5, 0, none⟩) hzy).trans y0
              replace y1 := (hw.cell (p := ⟨G5, 1, none⟩) hzy).trans y1
              replace z0 := (hw.cell (p := ⟨G6, 0, none⟩) hzz).trans z0
              replace z1 := (hw.cell (p := ⟨G6, 1, none⟩) hzz).trans z1
              replace t0 := (hw.cell (p := ⟨G7, 0, none⟩) hzt).trans t0
              replace t1 := (hw.cell (p := ⟨G7, 1, none⟩) hzt).trans t1
              replace hzt := Nat.lt_of_lt_of_le hzt hw.size
              replace hzx := Nat.lt_of_lt_of_le hzx hw.size
              replace hzy := Nat.lt_of_lt_of_le hzy hw.size
              replace hzz := Nat.lt_of_lt_of_le hzz hw.size
              replace HIs := Lib.hid (HIs.out.on hw ⟨rfl, rfl, rfl, rfl⟩)
              replace HIx := Lib.hid (HIx.out.on hw ⟨rfl, rfl, rfl, rfl⟩)
              replace HIy := Lib.hid (HIy.out.on hw ⟨rfl, rfl, rfl, rfl⟩)
              replace HIw := Lib.hid (HIw.out.on hw ⟨rfl, rfl, rfl, rfl⟩)
              replace HBc : Hid (Below w.heap.size w v7) := below_via HBc.out hw HBc.out.size ⟨rfl, rfl, rfl, rfl⟩
              clear hw
              refine hK.out _ _ ⟨x0, x1, y0, y1, z0, z1, t0, t1⟩ (fun hHeld => ?_)
              clear hK K
              try simp only [Act.put, List.setIfInBounds_toArray, List.set_cons_zero, List.set_cons_succ]
              refine wpAnyH_ready (rs := [36]) (by kernel_rfl) (by simp) ?_
              refine AllReadyH.cons (o := { dst := some 54, op := Go.Op.call { callee := Go.Callee.value (Go.Operand.func 22), args := #[Go.Operand.tmp 53], argTypes := #[24] }, type := 3, pos := "law.go:32", after := #[{ on := 35, ground := Go.Ground.data }, { on := 34, ground := Go.Ground.chain }, { on := 32, ground := Go.Ground.guard }], guard := some (32, true) }) rfl (fun K hK => ?_) AllReadyH.nil
              go_simp
              go_at_call 22
              refine (cRefCount (s := r) (A := A4) (c := c4) hr0 hUr hLr).mono ?_
              rintro e v8 ⟨rfl, hw⟩
              replace x0 := (hw.cell (p := ⟨w.heap.size, 0, none⟩) hzx).trans x0
              replace x1 := (hw.cell (p := ⟨w.heap.size, 1, none⟩) hzx).trans x1
              replace y0 := (hw.cell (p := ⟨G5, 0, none⟩) hzy).trans y0
              replace y1 := (hw.cell (p := ⟨G5, 1, none⟩) hzy).trans y1
              replace z0 := (hw.cell (p := ⟨G6, 0, none⟩) hzz).trans z0
              replace z1 := (hw.cell (p := ⟨G6, 1, none⟩) hzz).trans z1
              replace t0 := (hw.cell (p := ⟨G7, 0, none⟩) hzt).trans t0
              replace t1 := (hw.cell (p := ⟨G7, 1, none⟩) hzt).trans t1
              replace hzt := Nat.lt_of_lt_of_le hzt hw.size
              replace hzx := Nat.lt_of_lt_of_le hzx hw.size
              replace hzy := Nat.lt_of_lt_of_le hzy hw.size
              replace hzz := Nat.lt_of_lt_of_le hzz hw.size
              replace HIs := Lib.hid (HIs.out.on hw ⟨rfl, rfl, rfl, rfl⟩)
              replace HIx := Lib.hid (HIx.out.on hw ⟨rfl, rfl, rfl, rfl⟩)
              replace HIy := Lib.hid (HIy.out.on hw ⟨rfl, rfl, rfl, rfl⟩)
              replace HIw := Lib.hid (HIw.out.on hw ⟨rfl, rfl, rfl, rfl⟩)
              replace HBc : Hid (Below w.heap.size w v8) := below_via HBc.out hw HBc.out.size ⟨rfl, rfl, rfl, rfl⟩
              clear hw
              refine hK.out _ _ ⟨x0, x1, y0, y1, z0, z1, t0, t1⟩ (fun hHeld => ?_)
              clear hK K
              try simp only [Act.put, List.setIfInBounds_toArray, List.set_cons_zero, List.set_cons_succ]
              refine wpAnyH_take (i := 37) (oi := { dst := some 55, op := Go.Op.binOp Go.BinOp.eql 3 (Go.Operand.tmp 52) (Go.Operand.tmp 54) 3, type := 4, pos := "law.go:32", after := #[{ on := 34, ground := Go.Ground.data }, { on := 36, ground := Go.Ground.data }, { on := 32, ground := Go.Ground.guard }], guard := some (32, true) }) (v := ?_) rfl (by kernel_rfl) (by kernel_rfl) (by kernel_rfl) (fun _ _ _ h => h) (Or.inl ⟨rfl, ?_⟩) (by assumption) ?_
              rotate_left
              · intro wz hSw; (try dsimp only at hSw); go_simp; try (with_reducible rfl)
              try simp only [Act.put, List.setIfInBounds_toArray, List.set_cons_zero, List.set_cons_succ]
              refine wpAnyH_take (i := 38) (oi := { dst := some 56, op := Go.Op.pick (Go.Operand.tmp 50) (Go.Operand.tmp 55) (Go.Operand.const (Go.Value.bool false)), type := 4, pos := "law.go:32", after := #[{ on := 32, ground := Go.Ground.data }, { on := 37, ground := Go.Ground.data }], guard := none }) (v := ?_) rfl (by kernel_rfl) (by kernel_rfl) (by kernel_rfl) (fun _ _ _ h => h) (Or.inl ⟨rfl, ?_⟩) (by assumption) ?_
              rotate_left
              · intro wz hSw; (try dsimp only at hSw); go_simp; try (with_reducible rfl)
              try simp only [Act.put, List.setIfInBounds_toArray, List.set_cons_zero, List.set_cons_succ]
              refine wpAnyH_take (i := 39) (oi := { dst := some 57, op := Go.Op.move (Go.Operand.tmp 56), type := 4, pos := "law.go:32", after := #[{ on := 38, ground := Go.Ground.data }, { on := 36, ground := Go.Ground.chain }], guard := none }) (v := ?_) rfl (by kernel_rfl) (by kernel_rfl) (by kernel_rfl) (fun _ _ _ h => h) (Or.inl ⟨rfl, ?_⟩) (by assumption) ?_
              rotate_left
              · intro wz hSw; (try dsimp only at hSw); go_simp; try (with_reducible rfl)
              try simp only [Act.put, List.setIfInBounds_toArray, List.set_cons_zero, List.set_cons_succ]
              refine wpAnyH_take (i := 40) (oi := { dst := some 58, op := Go.Op.load 27 (Go.Operand.tmp 6), type := 27, pos := "law.go:32", after := #[{ on := 39, ground := Go.Ground.guard }], guard := some (39, true) }) (v := ?_) rfl (by kernel_rfl) (by kernel_rfl) (by kernel_rfl) (fun _ _ _ h => h) (Or.inl ⟨rfl, ?_⟩) (by assumption) ?_
              rotate_left
              · intro wz hSw; (try dsimp only at hSw); go_simp; try (with_reducible rfl)
              try simp only [Act.put, List.setIfInBounds_toArray, List.set_cons_zero, List.set_cons_succ]
              refine wpAnyH_take (i := 42) (oi := { dst := some 60, op := Go.Op.load 24 (Go.Operand.tmp 7), type := 24, pos := "law.go:32", after := #[{ on := 39, ground := Go.Ground.guard }], guard := some (39, true) }) (v := ?_) rfl (by kernel_rfl) (by kernel_rfl) (by kernel_rfl) (fun _ _ _ h => h) (Or.inl ⟨rfl, ?_⟩) (by assumption) ?_
              rotate_left
              · intro wz hSw; (try dsimp only at hSw); go_simp; try (with_reducible rfl)
              try simp only [Act.put, List.setIfInBounds_toArray, List.set_cons_zero, List.set_cons_succ]
              refine wpAnyH_ready (rs := [41]) (by kernel_rfl) (by simp) ?_
              refine AllReadyH.cons (o := { dst := some 59, op := Go.Op.call { callee := Go.Callee.value (Go.Operand.func 23), args := #[Go.Operand.tmp 58], argTypes := #[27] }, type := 3, pos := "law.go:32", after := #[{ on := 40, ground := Go.Ground.data }, { on := 39, ground := Go.Ground.chain }, { on := 39, ground := Go.Ground.guard }], guard := some (39, true) }) rfl (fun K hK => ?_) AllReadyH.nil
              go_simp
              go_at_call 23
              refine (cTop (s := r) (by exact HIy.out.same rfl) hLr).mono ?_
              rintro e v9 ⟨rfl, hw⟩
              replace x0 := (hw.cell (p := ⟨w.heap.size, 0, none⟩) hzx).trans x0
              replace x1 := (hw.cell (p := ⟨w.heap.size, 1, none⟩) hzx).trans x1
              replace y0 := (hw.cell (p := ⟨G5, 0, none⟩) hzy).trans y0
              replace y1 := (hw.cell (p := ⟨G5, 1, none⟩) hzy).trans y1
              replace z0 := (hw.cell (p := ⟨G6, 0, none⟩) hzz).trans z0
              replace z1 := (hw.cell (p := ⟨G6, 1, none⟩) hzz).trans z1
              replace t0 := (hw.cell (p := ⟨G7, 0, none⟩) hzt).trans t0
              replace t1 := (hw.cell (p := ⟨G7, 1, none⟩) hzt).trans t1
              replace hzt := Nat.lt_of_lt_of_le hzt hw.size
              replace hzx := Nat.lt_of_lt_of_le hzx hw.size
              replace hzy := Nat.lt_of_lt_of_le hzy hw.size
              replace hzz := Nat.lt_of_lt_of_le hzz hw.size
              replace HIs := Lib.hid (HIs.out.on hw ⟨rfl, rfl, rfl, rfl⟩)
              replace HIx := Lib.hid (HIx.out.on hw ⟨rfl, rfl, rfl, rfl⟩)
              replace HIy := Lib.hid (HIy.out.on hw ⟨rfl, rfl, rfl, rfl⟩)
              replace HIw := Lib.hid (HIw.out.on hw ⟨rfl, rfl, rfl, rfl⟩)
              replace HBc : Hid (Below w.heap.size w v9) := below_via HBc.out hw HBc.out.size ⟨rfl, rfl, rfl, rfl⟩
              clear hw
              refine hK.out _ _ ⟨x0, x1, y0, y1, z0, z1, t0, t1⟩ (fun hHeld => ?_)
              clear hK K
              try simp only [Act.put, List.setIfInBounds_toArray, List.set_cons_zero, List.set_cons_succ]
              refine wpAnyH_ready (rs := [43]) (by kernel_rfl) (by simp) ?_
              refine AllReadyH.cons (o := { dst := some 61, op := Go.Op.call { callee := Go.Callee.value (Go.Operand.func 24), args := #[Go.Operand.tmp 60], argTypes := #[24] }, type := 3, pos := "law.go:32", after := #[{ on := 42, ground := Go.Ground.data }, { on := 41, ground := Go.Ground.chain }, { on := 39, ground := Go.Ground.guard }], guard := some (39, true) }) rfl (fun K hK => ?_) AllReadyH.nil
              go_simp
              go_at_call 24
              refine (cRefTop (s := r) (by exact HIw.out.same rfl) hLr).mono ?_
              rintro e v10 ⟨rfl, hw⟩
              replace x0 := (hw.cell (p := ⟨w.heap.size, 0, none⟩) hzx).trans x0
              replace x1 := (hw.cell (p := ⟨w.heap.size, 1, none⟩) hzx).trans x1
              replace y0 := (hw.cell (p := ⟨G5, 0, none⟩) hzy).trans y0
              replace y1 := (hw.cell (p := ⟨G5, 1, none⟩) hzy).trans y1
              replace z0 := (hw.cell (p := ⟨G6, 0, none⟩) hzz).trans z0
              replace z1 := (hw.cell (p := ⟨G6, 1, none⟩) hzz).trans z1
              replace t0 := (hw.cell (p := ⟨G7, 0, none⟩) hzt).trans t0
              replace t1 := (hw.cell (p := ⟨G7, 1, none⟩) hzt).trans t1
              replace hzt := Nat.lt_of_lt_of_le hzt hw.size
              replace hzx := Nat.lt_of_lt_of_le hzx hw.size
              replace hzy := Nat.lt_of_lt_of_le hzy hw.size
              replace hzz := Nat.lt_of_lt_of_le hzz hw.size
              replace HIs := Lib.hid (HIs.out.on hw ⟨rfl, rfl, rfl, rfl⟩)
              replace HIx := Lib.hid (HIx.out.on hw ⟨rfl, rfl, rfl, rfl⟩)
              replace HIy := Lib.hid (HIy.out.on hw ⟨rfl, rfl, rfl, rfl⟩)
              replace HIw := Lib.hid (HIw.out.on hw ⟨rfl, rfl, rfl, rfl⟩)
              replace HBc : Hid (Below w.heap.size w v10) := below_via HBc.out hw HBc.out.size ⟨rfl, rfl, rfl, rfl⟩
              clear hw
              refine hK.out _ _ ⟨x0, x1, y0, y1, z0, z1, t0, t1⟩ (fun hHeld => ?_)
              clear hK K
              try simp only [Act.put, List.setIfInBounds_toArray, List.set_cons_zero, List.set_cons_succ]
              refine wpAnyH_take (i := 44) (oi := { dst := some 62, op := Go.Op.binOp Go.BinOp.eql 3 (Go.Operand.tmp 59) (Go.Operand.tmp 61) 3, type := 4, pos := "law.go:32", after := #[{ on := 41, ground := Go.Ground.data }, { on := 43, ground := Go.Ground.data }, { on := 39, ground := Go.Ground.guard }], guard := some (39, true) }) (v := ?_) rfl (by kernel_rfl) (by kernel_rfl) (by kernel_rfl) (fun _ _ _ h => h) (Or.inl ⟨rfl, ?_⟩) (by assumption) ?_
              rotate_left
              · intro wz hSw; (try dsimp only at hSw); go_simp; try (with_reducible rfl)
              try simp only [Act.put, List.setIfInBounds_toArray, List.set_cons_zero, List.set_cons_succ]
              refine wpAnyH_take (i := 45) (oi := { dst := some 63, op := Go.Op.pick (Go.Operand.tmp 57) (Go.Operand.tmp 62) (Go.Operand.const (Go.Value.bool false)), type := 4, pos := "law.go:32", after := #[{ on := 39, ground := Go.Ground.data }, { on := 44, ground := Go.Ground.data }], guard := none }) (v := ?_) rfl (by kernel_rfl) (by kernel_rfl) (by kernel_rfl) (fun _ _ _ h => h) (Or.inl ⟨rfl, ?_⟩) (by assumption) ?_
              rotate_left
              · intro wz hSw; (try dsimp only at hSw); go_simp; try (with_reducible rfl)
              try simp only [Act.put, List.setIfInBounds_toArray, List.set_cons_zero, List.set_cons_succ]
              refine wpAnyH_take (i := 46) (oi := { dst := some 64, op := Go.Op.move (Go.Operand.tmp 63), type := 4, pos := "law.go:32", after := #[{ on := 45, ground := Go.Ground.data }, { on := 43, ground := Go.Ground.chain }], guard := none }) (v := ?_) rfl (by kernel_rfl) (by kernel_rfl) (by kernel_rfl) (fun _ _ _ h => h) (Or.inl ⟨rfl, ?_⟩) (by assumption) ?_
              rotate_left
              · intro wz hSw; (try dsimp only at hSw); go_simp; try (with_reducible rfl)
              try simp only [Act.put, List.setIfInBounds_toArray, List.set_cons_zero, List.set_cons_succ]
              refine wpAnyH_take (i := 47) (oi := { dst := some 65, op := Go.Op.load 27 (Go.Operand.tmp 5), type := 27, pos := "law.go:32", after := #[{ on := 46, ground := Go.Ground.guard }], guard := some (46, true) }) (v := ?_) rfl (by kernel_rfl) (by kernel_rfl) (by kernel_rfl) (fun _ _ _ h => h) (Or.inl ⟨rfl, ?_⟩) (by assumption) ?_
              rotate_left
              · intro wz hSw; (try dsimp only at hSw); go_simp; try (with_reducible rfl)
              try simp only [Act.put, List.setIfInBounds_toArray, List.set_cons_zero, List.set_cons_succ]
              refine wpAnyH_take (i := 49) (oi := { dst := some 67, op := Go.Op.load 24 (Go.Operand.tmp 2), type := 24, pos := "law.go:32", after := #[{ on := 46, ground := Go.Ground.guard }], guard := some (46, true) }) (v := ?_) rfl (by kernel_rfl) (by kernel_rfl) (by kernel_rfl) (fun _ _ _ h => h) (Or.inl ⟨rfl, ?_⟩) (by assumption) ?_
              rotate_left
              · intro wz hSw; (try dsimp only at hSw); go_simp; try (with_reducible rfl)
              try simp only [Act.put, List.setIfInBounds_toArray, List.set_cons_zero, List.set_cons_succ]
              refine wpAnyH_ready (rs := [48]) (by kernel_rfl) (by simp) ?_
              refine AllReadyH.cons (o := { dst := some 66, op := Go.Op.call { callee := Go.Callee.value (Go.Operand.func 18), args := #[Go.Operand.tmp 65], argTypes := #[27] }, type := 24, pos := "law.go:32", after := #[{ on := 47, ground := Go.Ground.data }, { on := 46, ground := Go.Ground.chain }, { on := 46, ground := Go.Ground.guard }], guard := some (46, true) }) rfl (fun K hK => ?_) AllReadyH.nil
              go_simp
              go_at_call 18
              refine (cFrom (s := s) (by exact HIx.out.same rfl) hLs).mono ?_
              rintro e v11 ⟨B2, d2, rfl, hin, hw⟩
              replace x0 := (hw.cell (p := ⟨w.heap.size, 0, none⟩) hzx).trans x0
              replace x1 := (hw.cell (p := ⟨w.heap.size, 1, none⟩) hzx).trans x1
              replace y0 := (hw.cell (p := ⟨G5, 0, none⟩) hzy).trans y0
              replace y1 := (hw.cell (p := ⟨G5, 1, none⟩) hzy).trans y1
              replace z0 := (hw.cell (p := ⟨G6, 0, none⟩) hzz).trans z0
              replace z1 := (hw.cell (p := ⟨G6, 1, none⟩) hzz).trans z1
              replace t0 := (hw.cell (p := ⟨G7, 0, none⟩) hzt).trans t0
              replace t1 := (hw.cell (p := ⟨G7, 1, none⟩) hzt).trans t1
              replace hzt := Nat.lt_of_lt_of_le hzt hw.size
              replace hzx := Nat.lt_of_lt_of_le hzx hw.size
              replace hzy := Nat.lt_of_lt_of_le hzy hw.size
              replace hzz := Nat.lt_of_lt_of_le hzz hw.size
              replace HIs := Lib.hid (HIs.out.on hw ⟨rfl, rfl, rfl, rfl⟩)
              replace HIx := Lib.hid (HIx.out.on hw ⟨rfl, rfl, rfl, rfl⟩)
              replace HIy := Lib.hid (HIy.out.on hw ⟨rfl, rfl, rfl, rfl⟩)
              replace HIw := Lib.hid (HIw.out.on hw ⟨rfl, rfl, rfl, rfl⟩)
              replace HBc : Hid (Below w.heap.size w v11) := below_via HBc.out hw HBc.out.size ⟨rfl, rfl, rfl, rfl⟩
              have HP2 := Lib.hid hin
              clear hin
              clear hw
              refine hK.out _ _ ⟨x0, x1, y0, y1, z0, z1, t0, t1⟩ (fun hHeld => ?_)
              clear hK K
              try simp only [Act.put, List.setIfInBounds_toArray, List.set_cons_zero, List.set_cons_succ]
              refine wpAnyH_ready (rs := [50]) (by kernel_rfl) (by simp) ?_
              refine AllReadyH.cons (o := { dst := some 68, op := Go.Op.call { callee := Go.Callee.value (Go.Operand.func 17), args := #[Go.Operand.tmp 66, Go.Operand.tmp 67], argTypes := #[24, 24] }, type := 4, pos := "law.go:32", after := #[{ on := 48, ground := Go.Ground.data }, { on := 49, ground := Go.Ground.data }, { on := 48, ground := Go.Ground.chain }, { on := 46, ground := Go.Ground.guard }], guard := some (46, true) }) rfl (fun K hK => ?_) AllReadyH.nil
              go_simp
              go_at_call 17
              refine (cRefSame (s := s) (t := s) (by exact HP2.out.same rfl) (by exact HIs.out.same rfl) hLs).mono ?_
              rw [same_true rfl]
              rintro e v12 ⟨rfl, hw⟩
              replace x0 := (hw.cell (p := ⟨w.heap.size, 0, none⟩) hzx).trans x0
              replace x1 := (hw.cell (p := ⟨w.heap.size, 1, none⟩) hzx).trans x1
              replace y0 := (hw.cell (p := ⟨G5, 0, none⟩) hzy).trans y0
              replace y1 := (hw.cell (p := ⟨G5, 1, none⟩) hzy).trans y1
              replace z0 := (hw.cell (p := ⟨G6, 0, none⟩) hzz).trans z0
              replace z1 := (hw.cell (p := ⟨G6, 1, none⟩) hzz).trans z1
              replace t0 := (hw.cell (p := ⟨G7, 0, none⟩) hzt).trans t0
              replace t1 := (hw.cell (p := ⟨G7, 1, none⟩) hzt).trans t1
              replace hzt := Nat.lt_of_lt_of_le hzt hw.size
              replace hzx := Nat.lt_of_lt_of_le hzx hw.size
              replace hzy := Nat.lt_of_lt_of_le hzy hw.size
              replace hzz := Nat.lt_of_lt_of_le hzz hw.size
              replace HIs := Lib.hid (HIs.out.on hw ⟨rfl, rfl, rfl, rfl⟩)
              replace HIx := Lib.hid (HIx.out.on hw ⟨rfl, rfl, rfl, rfl⟩)
              replace HIy := Lib.hid (HIy.out.on hw ⟨rfl, rfl, rfl, rfl⟩)
              replace HIw := Lib.hid (HIw.out.on hw ⟨rfl, rfl, rfl, rfl⟩)
              replace HP2 := Lib.hid (HP2.out.on hw ⟨rfl, rfl, rfl, rfl⟩)
              replace HBc : Hid (Below w.heap.size w v12) := below_via HBc.out hw HBc.out.size ⟨rfl, rfl, rfl, rfl⟩
              clear hw
              refine hK.out _ _ ⟨x0, x1, y0, y1, z0, z1, t0, t1⟩ (fun hHeld => ?_)
              clear hK K
              try simp only [Act.put, List.setIfInBounds_toArray, List.set_cons_zero, List.set_cons_succ]
              refine wpAnyH_take (i := 51) (oi := { dst := some 69, op := Go.Op.pick (Go.Operand.tmp 64) (Go.Operand.tmp 68) (Go.Operand.const (Go.Value.bool false)), type := 4, pos := "law.go:32", after := #[{ on := 46, ground := Go.Ground.data }, { on := 50, ground := Go.Ground.data }], guard := none }) (v := ?_) rfl (by kernel_rfl) (by kernel_rfl) (by kernel_rfl) (fun _ _ _ h => h) (Or.inl ⟨rfl, ?_⟩) (by assumption) ?_
              rotate_left
              · intro wz hSw; (try dsimp only at hSw); go_simp; try (with_reducible rfl)
              try simp only [Act.put, List.setIfInBounds_toArray, List.set_cons_zero, List.set_cons_succ]
              refine wpAnyH_take (i := 52) (oi := { dst := some 4, op := Go.Op.assign (Go.Operand.tmp 69), type := 4, pos := "law.go:32", after := #[{ on := 51, ground := Go.Ground.data }, { on := 50, ground := Go.Ground.chain }, { on := 0, ground := Go.Ground.phase }, { on := 1, ground := Go.Ground.phase }, { on := 2, ground := Go.Ground.phase }, { on := 3, ground := Go.Ground.phase }, { on := 4, ground := Go.Ground.phase }, { on := 5, ground := Go.Ground.phase }, { on := 6, ground := Go.Ground.phase }, { on := 7, ground := Go.Ground.phase }, { on := 8, ground := Go.Ground.phase }, { on := 9, ground := Go.Ground.phase }, { on := 10, ground := Go.Ground.phase }, { on := 11, ground := Go.Ground.phase }, { on := 12, ground := Go.Ground.phase }, { on := 13, ground := Go.Ground.phase }, { on := 14, ground := Go.Ground.phase }, { on := 15, ground := Go.Ground.phase }, { on := 16, ground := Go.Ground.phase }, { on := 17, ground := Go.Ground.phase }, { on := 18, ground := Go.Ground.phase }, { on := 19, ground := Go.Ground.phase }, { on := 20, ground := Go.Ground.phase }, { on := 21, ground := Go.Ground.phase }, { on := 22, ground := Go.Ground.phase }, { on := 23, ground := Go.Ground.phase }, { on := 24, ground := Go.Ground.phase }, { on := 25, ground := Go.Ground.phase }, { on := 26, ground := Go.Ground.phase }, { on := 27, ground := Go.Ground.phase }, { on := 28, ground := Go.Ground.phase }, { on := 29, ground := Go.Ground.phase }, { on := 30, ground := Go.Ground.phase }, { on := 31, ground := Go.Ground.phase }, { on := 32, ground := Go.Ground.phase }, { on := 33, ground := Go.Ground.phase }, { on := 34, ground := Go.Ground.phase }, { on := 35, ground := Go.Ground.phase }, { on := 36, ground := Go.Ground.phase }, { on := 37, ground := Go.Ground.phase }, { on := 38, ground := Go.Ground.phase }, { on := 39, ground := Go.Ground.phase }, { on := 40, ground := Go.Ground.phase }, { on := 41, ground := Go.Ground.phase }, { on := 42, ground := Go.Ground.phase }, { on := 43, ground := Go.Ground.phase }, { on := 44, ground := Go.Ground.phase }, { on := 45, ground := Go.Ground.phase }, { on := 46, ground := Go.Ground.phase }, { on := 47, ground := Go.Ground.phase }, { on := 48, ground := Go.Ground.phase }, { on := 49, ground := Go.Ground.phase }, { on := 50, ground := Go.Ground.phase }, { on := 51, ground := Go.Ground.phase }], guard := none }) (v := ?_) rfl (by kernel_rfl) (by kernel_rfl) (by kernel_rfl) (fun _ _ _ h => h) (Or.inl ⟨rfl, ?_⟩) (by assumption) ?_
              rotate_left
              · intro wz hSw; (try dsimp only at hSw); go_simp; try (with_reducible rfl)
              try simp only [Act.put, List.setIfInBounds_toArray, List.set_cons_zero, List.set_cons_succ]
              refine wpAnyH_done (by kernel_rfl) ?_ _
              go_wp2
              go_ret
              exact ⟨rfl, HBc.out⟩
            · have HHm : Hid (hasOf r.1 r.2 m = false) := by
                show hasOf r.1 r.2 m = false
                rw [Bool.eq_false_iff]
                exact fun h => hm2 (HHm0.out.1 h).2
              have hm3 : decide (m ≤ 1048576) = false := by simpa using hm2
              go_wp2_with fail
              refine wp_region_held_drew (S := fun w' => w'.cell? ⟨w.heap.size, 0, none⟩ = some (.int .i64 s.1) ∧ w'.cell? ⟨w.heap.size, 1, none⟩ = some (.slice A1 s.2.length c1) ∧ w'.cell? ⟨G5, 0, none⟩ = some (.int .i64 s.1) ∧ w'.cell? ⟨G5, 1, none⟩ = some (.slice A2 s.2.length c2) ∧ w'.cell? ⟨G6, 0, none⟩ = some (.int .i64 r.1) ∧ w'.cell? ⟨G6, 1, none⟩ = some (.slice A3 r.2.length c3) ∧ w'.cell? ⟨G7, 0, none⟩ = some (.int .i64 r.1) ∧ w'.cell? ⟨G7, 1, none⟩ = some (.slice A4 r.2.length c4)) (by kernel_rfl) ⟨x0, x1, y0, y1, z0, z1, t0, t1⟩ (fun hHeld => ?_)
              refine wpAnyH_ready (rs := [0]) (by kernel_rfl) (by simp) ?_
              refine AllReadyH.cons (o := { dst := some 18, op := Go.Op.call { callee := Go.Callee.value (Go.Operand.func 10), args := #[], argTypes := #[] }, type := 4, pos := "law.go:32", after := #[], guard := none }) rfl (fun K hK => ?_) AllReadyH.nil
              go_simp
              go_at_call 10
              refine (told_any _).mono ?_
              rintro e v0 ⟨rfl, hw⟩
              replace x0 := (hw.cell (p := ⟨w.heap.size, 0, none⟩) hzx).trans x0
              replace x1 := (hw.cell (p := ⟨w.heap.size, 1, none⟩) hzx).trans x1
              replace y0 := (hw.cell (p := ⟨G5, 0, none⟩) hzy).trans y0
              replace y1 := (hw.cell (p := ⟨G5, 1, none⟩) hzy).trans y1
              replace z0 := (hw.cell (p := ⟨G6, 0, none⟩) hzz).trans z0
              replace z1 := (hw.cell (p := ⟨G6, 1, none⟩) hzz).trans z1
              replace t0 := (hw.cell (p := ⟨G7, 0, none⟩) hzt).trans t0
              replace t1 := (hw.cell (p := ⟨G7, 1, none⟩) hzt).trans t1
              replace hzt := Nat.lt_of_lt_of_le hzt hw.size
              replace hzx := Nat.lt_of_lt_of_le hzx hw.size
              replace hzy := Nat.lt_of_lt_of_le hzy hw.size
              replace hzz := Nat.lt_of_lt_of_le hzz hw.size
              replace HIs := Lib.hid (HIs.out.on hw ⟨rfl, rfl, rfl, rfl⟩)
              replace HIx := Lib.hid (HIx.out.on hw ⟨rfl, rfl, rfl, rfl⟩)
              replace HIy := Lib.hid (HIy.out.on hw ⟨rfl, rfl, rfl, rfl⟩)
              replace HIw := Lib.hid (HIw.out.on hw ⟨rfl, rfl, rfl, rfl⟩)
              replace HBc : Hid (Below w.heap.size w v0) := below_via HBc.out hw HBc.out.size ⟨rfl, rfl, rfl, rfl⟩
              clear hw
              refine hK.out _ _ ⟨x0, x1, y0, y1, z0, z1, t0, t1⟩ (fun hHeld => ?_)
              clear hK K
              try simp only [Act.put, List.setIfInBounds_toArray, List.set_cons_zero, List.set_cons_succ]
              refine wpAnyH_take (i := 1) (oi := { dst := some 19, op := Go.Op.move (Go.Operand.tmp 18), type := 4, pos := "law.go:32", after := #[{ on := 0, ground := Go.Ground.data }, { on := 0, ground := Go.Ground.chain }], guard := none }) (v := ?_) rfl (by kernel_rfl) (by kernel_rfl) (by kernel_rfl) (fun _ _ _ h => h) (Or.inl ⟨rfl, ?_⟩) (by assumption) ?_
              rotate_left
              · intro wz hSw; (try dsimp only at hSw); go_simp; try (with_reducible rfl)
              try simp only [Act.put, List.setIfInBounds_toArray, List.set_cons_zero, List.set_cons_succ]
              refine wpAnyH_take (i := 2) (oi := { dst := some 20, op := Go.Op.load 27 (Go.Operand.tmp 6), type := 27, pos := "law.go:32", after := #[{ on := 1, ground := Go.Ground.guard }], guard := some (1, true) }) (v := ?_) rfl (by kernel_rfl) (by kernel_rfl) (by kernel_rfl) (fun _ _ _ h => h) (Or.inl ⟨rfl, ?_⟩) (by assumption) ?_
              rotate_left
              · intro wz hSw; (try dsimp only at hSw); go_simp; try (with_reducible rfl)
              try simp only [Act.put, List.setIfInBounds_toArray, List.set_cons_zero, List.set_cons_succ]
              refine wpAnyH_take (i := 4) (oi := { dst := some 22, op := Go.Op.load 24 (Go.Operand.tmp 7), type := 24, pos := "law.go:32", after := #[{ on := 1, ground := Go.Ground.guard }], guard := some (1, true) }) (v := ?_) rfl (by kernel_rfl) (by kernel_rfl) (by kernel_rfl) (fun _ _ _ h => h) (Or.inl ⟨rfl, ?_⟩) (by assumption) ?_
              rotate_left
              · intro wz hSw; (try dsimp only at hSw); go_simp; try (with_reducible rfl)
              try simp only [Act.put, List.setIfInBounds_toArray, List.set_cons_zero, List.set_cons_succ]
              refine wpAnyH_ready (rs := [3]) (by kernel_rfl) (by simp) ?_
              refine AllReadyH.cons (o := { dst := some 21, op := Go.Op.call { callee := Go.Callee.value (Go.Operand.func 18), args := #[Go.Operand.tmp 20], argTypes := #[27] }, type := 24, pos := "law.go:32", after := #[{ on := 2, ground := Go.Ground.data }, { on := 1, ground := Go.Ground.chain }, { on := 1, ground := Go.Ground.guard }], guard := some (1, true) }) rfl (fun K hK => ?_) AllReadyH.nil
              go_simp
              go_at_call 18
              refine (cFrom (s := r) (by exact HIy.out.same rfl) hLr).mono ?_
              rintro e v1 ⟨B1, d1, rfl, hin, hw⟩
              replace x0 := (hw.cell (p := ⟨w.heap.size, 0, none⟩) hzx).trans x0
              replace x1 := (hw.cell (p := ⟨w.heap.size, 1, none⟩) hzx).trans x1
              replace y0 := (hw.cell (p := ⟨G5, 0, none⟩) hzy).trans y0
              replace y1 := (hw.cell (p := ⟨G5, 1, none⟩) hzy).trans y1
              replace z0 := (hw.cell (p := ⟨G6, 0, none⟩) hzz).trans z0
              replace z1 := (hw.cell (p := ⟨G6, 1, none⟩) hzz).trans z1
              replace t0 := (hw.cell (p := ⟨G7, 0, none⟩) hzt).trans t0
              replace t1 := (hw.cell (p := ⟨G7, 1, none⟩) hzt).trans t1
              replace hzt := Nat.lt_of_lt_of_le hzt hw.size
              replace hzx := Nat.lt_of_lt_of_le hzx hw.size
              replace hzy := Nat.lt_of_lt_of_le hzy hw.size
              replace hzz := Nat.lt_of_lt_of_le hzz hw.size
              replace HIs := Lib.hid (HIs.out.on hw ⟨rfl, rfl, rfl, rfl⟩)
              replace HIx := Lib.hid (HIx.out.on hw ⟨rfl, rfl, rfl, rfl⟩)
              replace HIy := Lib.hid (HIy.out.on hw ⟨rfl, rfl, rfl, rfl⟩)
              replace HIw := Lib.hid (HIw.out.on hw ⟨rfl, rfl, rfl, rfl⟩)
              replace HBc : Hid (Below w.heap.size w v1) := below_via HBc.out hw HBc.out.size ⟨rfl, rfl, rfl, rfl⟩
              have HP1 := Lib.hid hin
              clear hin
              clear hw
              refine hK.out _ _ ⟨x0, x1, y0, y1, z0, z1, t0, t1⟩ (fun hHeld => ?_)
              clear hK K
              try simp only [Act.put, List.setIfInBounds_toArray, List.set_cons_zero, List.set_cons_succ]
              refine wpAnyH_ready (rs := [5]) (by kernel_rfl) (by simp) ?_
              refine AllReadyH.cons (o := { dst := some 23, op := Go.Op.call { callee := Go.Callee.value (Go.Operand.func 17), args := #[Go.Operand.tmp 21, Go.Operand.tmp 22], argTypes := #[24, 24] }, type := 4, pos := "law.go:32", after := #[{ on := 3, ground := Go.Ground.data }, { on := 4, ground := Go.Ground.data }, { on := 3, ground := Go.Ground.chain }, { on := 1, ground := Go.Ground.guard }], guard := some (1, true) }) rfl (fun K hK => ?_) AllReadyH.nil
              go_simp
              go_at_call 17
              refine (cRefSame (s := r) (t := r) (by exact HP1.out.same rfl) (by exact HIw.out.same rfl) hLr).mono ?_
              rw [same_true rfl]
              rintro e v2 ⟨rfl, hw⟩
              replace x0 := (hw.cell (p := ⟨w.heap.size, 0, none⟩) hzx).trans x0
              replace x1 := (hw.cell (p := ⟨w.heap.size, 1, none⟩) hzx).trans x1
              replace y0 := (hw.cell (p := ⟨G5, 0, none⟩) hzy).trans y0
              replace y1 := (hw.cell (p := ⟨G5, 1, none⟩) hzy).trans y1
              replace z0 := (hw.cell (p := ⟨G6, 0, none⟩) hzz).trans z0
              replace z1 := (hw.cell (p := ⟨G6, 1, none⟩) hzz).trans z1
              replace t0 := (hw.cell (p := ⟨G7, 0, none⟩) hzt).trans t0
              replace t1 := (hw.cell (p := ⟨G7, 1, none⟩) hzt).trans t1
              replace hzt := Nat.lt_of_lt_of_le hzt hw.size
              replace hzx := Nat.lt_of_lt_of_le hzx hw.size
              replace hzy := Nat.lt_of_lt_of_le hzy hw.size
              replace hzz := Nat.lt_of_lt_of_le hzz hw.size
              replace HIs := Lib.hid (HIs.out.on hw ⟨rfl, rfl, rfl, rfl⟩)
              replace HIx := Lib.hid (HIx.out.on hw ⟨rfl, rfl, rfl, rfl⟩)
              replace HIy := Lib.hid (HIy.out.on hw ⟨rfl, rfl, rfl, rfl⟩)
              replace HIw := Lib.hid (HIw.out.on hw ⟨rfl, rfl, rfl, rfl⟩)
              replace HP1 := Lib.hid (HP1.out.on hw ⟨rfl, rfl, rfl, rfl⟩)
              replace HBc : Hid (Below w.heap.size w v2) := below_via HBc.out hw HBc.out.size ⟨rfl, rfl, rfl, rfl⟩
              clear hw
              refine hK.out _ _ ⟨x0, x1, y0, y1, z0, z1, t0, t1⟩ (fun hHeld => ?_)
              clear hK K
              try simp only [Act.put, List.setIfInBounds_toArray, List.set_cons_zero, List.set_cons_succ]
              refine wpAnyH_take (i := 6) (oi := { dst := some 24, op := Go.Op.pick (Go.Operand.tmp 19) (Go.Operand.tmp 23) (Go.Operand.const (Go.Value.bool false)), type := 4, pos := "law.go:32", after := #[{ on := 1, ground := Go.Ground.data }, { on := 5, ground := Go.Ground.data }], guard := none }) (v := ?_) rfl (by kernel_rfl) (by kernel_rfl) (by kernel_rfl) (fun _ _ _ h => h) (Or.inl ⟨rfl, ?_⟩) (by assumption) ?_
              rotate_left
              · intro wz hSw; (try dsimp only at hSw); go_simp; try (with_reducible rfl)
              try simp only [Act.put, List.setIfInBounds_toArray, List.set_cons_zero, List.set_cons_succ]
              refine wpAnyH_take (i := 7) (oi := { dst := some 25, op := Go.Op.move (Go.Operand.tmp 24), type := 4, pos := "law.go:32", after := #[{ on := 6, ground := Go.Ground.data }, { on := 5, ground := Go.Ground.chain }], guard := none }) (v := ?_) rfl (by kernel_rfl) (by kernel_rfl) (by kernel_rfl) (fun _ _ _ h => h) (Or.inl ⟨rfl, ?_⟩) (by assumption) ?_
              rotate_left
              · intro wz hSw; (try dsimp only at hSw); go_simp; try (with_reducible rfl)
              try simp only [Act.put, List.setIfInBounds_toArray, List.set_cons_zero, List.set_cons_succ]
              refine wpAnyH_take (i := 8) (oi := { dst := some 26, op := Go.Op.load 27 (Go.Operand.tmp 6), type := 27, pos := "law.go:32", after := #[{ on := 7, ground := Go.Ground.guard }], guard := some (7, true) }) (v := ?_) rfl (by kernel_rfl) (by kernel_rfl) (by kernel_rfl) (fun _ _ _ h => h) (Or.inl ⟨rfl, ?_⟩) (by assumption) ?_
              rotate_left
              · intro wz hSw; (try dsimp only at hSw); go_simp; try (with_reducible rfl)
              try simp only [Act.put, List.setIfInBounds_toArray, List.set_cons_zero, List.set_cons_succ]
              refine wpAnyH_ready (rs := [9]) (by kernel_rfl) (by simp) ?_
              refine AllReadyH.cons (o := { dst := some 27, op := Go.Op.call { callee := Go.Callee.value (Go.Operand.func 11), args := #[Go.Operand.tmp 26], argTypes := #[27] }, type := 4, pos := "law.go:32", after := #[{ on := 8, ground := Go.Ground.data }, { on := 7, ground := Go.Ground.chain }, { on := 7, ground := Go.Ground.guard }], guard := some (7, true) }) rfl (fun K hK => ?_) AllReadyH.nil
              go_simp
              go_at_call 11
              refine (cRight (s := r) (by exact HIy.out.same rfl) hLr).mono ?_
              rw [HRr.out]
              rintro e v3 ⟨rfl, hw⟩
              replace x0 := (hw.cell (p := ⟨w.heap.size, 0, none⟩) hzx).trans x0
              replace x1 := (hw.cell (p := ⟨w.heap.size, 1, none⟩) hzx).trans x1
              replace y0 := (hw.cell (p := ⟨G5, 0, none⟩) hzy).trans y0
              replace y1 := (hw.cell (p := ⟨G5, 1, none⟩) hzy).trans y1
              replace z0 := (hw.cell (p := ⟨G6, 0, none⟩) hzz).trans z0
              replace z1 := (hw.cell (p := ⟨G6, 1, none⟩) hzz).trans z1
              replace t0 := (hw.cell (p := ⟨G7, 0, none⟩) hzt).trans t0
              replace t1 := (hw.cell (p := ⟨G7, 1, none⟩) hzt).trans t1
              replace hzt := Nat.lt_of_lt_of_le hzt hw.size
              replace hzx := Nat.lt_of_lt_of_le hzx hw.size
              replace hzy := Nat.lt_of_lt_of_le hzy hw.size
              replace hzz := Nat.lt_of_lt_of_le hzz hw.size
              replace HIs := Lib.hid (HIs.out.on hw ⟨rfl, rfl, rfl, rfl⟩)
              replace HIx := Lib.hid (HIx.out.on hw ⟨rfl, rfl, rfl, rfl⟩)
              replace HIy := Lib.hid (HIy.out.on hw ⟨rfl, rfl, rfl, rfl⟩)
              replace HIw := Lib.hid (HIw.out.on hw ⟨rfl, rfl, rfl, rfl⟩)
              replace HBc : Hid (Below w.heap.size w v3) := below_via HBc.out hw HBc.out.size ⟨rfl, rfl, rfl, rfl⟩
              clear hw
              refine hK.out _ _ ⟨x0, x1, y0, y1, z0, z1, t0, t1⟩ (fun hHeld => ?_)
              clear hK K
              try simp only [Act.put, List.setIfInBounds_toArray, List.set_cons_zero, List.set_cons_succ]
              refine wpAnyH_take (i := 10) (oi := { dst := some 28, op := Go.Op.pick (Go.Operand.tmp 25) (Go.Operand.tmp 27) (Go.Operand.const (Go.Value.bool false)), type := 4, pos := "law.go:32", after := #[{ on := 7, ground := Go.Ground.data }, { on := 9, ground := Go.Ground.data }], guard := none }) (v := ?_) rfl (by kernel_rfl) (by kernel_rfl) (by kernel_rfl) (fun _ _ _ h => h) (Or.inl ⟨rfl, ?_⟩) (by assumption) ?_
              rotate_left
              · intro wz hSw; (try dsimp only at hSw); go_simp; try (with_reducible rfl)
              try simp only [Act.put, List.setIfInBounds_toArray, List.set_cons_zero, List.set_cons_succ]
              refine wpAnyH_take (i := 11) (oi := { dst := some 29, op := Go.Op.move (Go.Operand.tmp 28), type := 4, pos := "law.go:32", after := #[{ on := 10, ground := Go.Ground.data }, { on := 9, ground := Go.Ground.chain }], guard := none }) (v := ?_) rfl (by kernel_rfl) (by kernel_rfl) (by kernel_rfl) (fun _ _ _ h => h) (Or.inl ⟨rfl, ?_⟩) (by assumption) ?_
              rotate_left
              · intro wz hSw; (try dsimp only at hSw); go_simp; try (with_reducible rfl)
              try simp only [Act.put, List.setIfInBounds_toArray, List.set_cons_zero, List.set_cons_succ]
              refine wpAnyH_take (i := 12) (oi := { dst := some 30, op := Go.Op.load 27 (Go.Operand.tmp 5), type := 27, pos := "law.go:32", after := #[{ on := 11, ground := Go.Ground.guard }], guard := some (11, true) }) (v := ?_) rfl (by kernel_rfl) (by kernel_rfl) (by kernel_rfl) (fun _ _ _ h => h) (Or.inl ⟨rfl, ?_⟩) (by assumption) ?_
              rotate_left
              · intro wz hSw; (try dsimp only at hSw); go_simp; try (with_reducible rfl)
              try simp only [Act.put, List.setIfInBounds_toArray, List.set_cons_zero, List.set_cons_succ]
              refine wpAnyH_take (i := 13) (oi := { dst := some 31, op := Go.Op.move (Go.Operand.tmp 1), type := 3, pos := "law.go:32", after := #[{ on := 11, ground := Go.Ground.guard }], guard := some (11, true) }) (v := ?_) rfl (by kernel_rfl) (by kernel_rfl) (by kernel_rfl) (fun _ _ _ h => h) (Or.inl ⟨rfl, ?_⟩) (by assumption) ?_
              rotate_left
              · intro wz hSw; (try dsimp only at hSw); go_simp; try (with_reducible rfl)
              try simp only [Act.put, List.setIfInBounds_toArray, List.set_cons_zero, List.set_cons_succ]
              refine wpAnyH_take (i := 15) (oi := { dst := some 33, op := Go.Op.load 24 (Go.Operand.tmp 2), type := 24, pos := "law.go:32", after := #[{ on := 11, ground := Go.Ground.guard }], guard := some (11, true) }) (v := ?_) rfl (by kernel_rfl) (by kernel_rfl) (by kernel_rfl) (fun _ _ _ h => h) (Or.inl ⟨rfl, ?_⟩) (by assumption) ?_
              rotate_left
              · intro wz hSw; (try dsimp only at hSw); go_simp; try (with_reducible rfl)
              try simp only [Act.put, List.setIfInBounds_toArray, List.set_cons_zero, List.set_cons_succ]
              refine wpAnyH_take (i := 16) (oi := { dst := some 34, op := Go.Op.move (Go.Operand.tmp 1), type := 3, pos := "law.go:32", after := #[{ on := 11, ground := Go.Ground.guard }], guard := some (11, true) }) (v := ?_) rfl (by kernel_rfl) (by kernel_rfl) (by kernel_rfl) (fun _ _ _ h => h) (Or.inl ⟨rfl, ?_⟩) (by assumption) ?_
              rotate_left
              · intro wz hSw; (try dsimp only at hSw); go_simp; try (with_reducible rfl)
              try simp only [Act.put, List.setIfInBounds_toArray, List.set_cons_zero, List.set_cons_succ]
              refine wpAnyH_ready (rs := [14]) (by kernel_rfl) (by simp) ?_
              refine AllReadyH.cons (o := { dst := some 32, op := Go.Op.call { callee := Go.Callee.value (Go.Operand.func 19), args := #[Go.Operand.tmp 30, Go.Operand.tmp 31], argTypes := #[27, 3] }, type := 4, pos := "law.go:32", after := #[{ on := 12, ground := Go.Ground.data }, { on := 13, ground := Go.Ground.data }, { on := 11, ground := Go.Ground.chain }, { on := 11, ground := Go.Ground.guard }], guard := some (11, true) }) rfl (fun K hK => ?_) AllReadyH.nil
              go_simp
              go_at_call 19
              refine (cHas (s := s) (by exact HIx.out.same rfl) hLs HOs.out m).mono ?_
              rw [← ref_has_eq HOs.out]
              rintro e v4 ⟨rfl, hw⟩
              replace x0 := (hw.cell (p := ⟨w.heap.size, 0, none⟩) hzx).trans x0
              replace x1 := (hw.cell (p := ⟨w.heap.size, 1, none⟩) hzx).trans x1
              replace y0 := (hw.cell (p := ⟨G5, 0, none⟩) hzy).trans y0
              replace y1 := (hw.cell (p := ⟨G5, 1, none⟩) hzy).trans y1
              replace z0 := (hw.cell (p := ⟨G6, 0, none⟩) hzz).trans z0
              replace z1 := (hw.cell (p := ⟨G6, 1, none⟩) hzz).trans z1
              replace t0 := (hw.cell (p := ⟨G7, 0, none⟩) hzt).trans t0
              replace t1 := (hw.cell (p := ⟨G7, 1, none⟩) hzt).trans t1
              replace hzt := Nat.lt_of_lt_of_le hzt hw.size
              replace hzx := Nat.lt_of_lt_of_le hzx hw.size
              replace hzy := Nat.lt_of_lt_of_le hzy hw.size
              replace hzz := Nat.lt_of_lt_of_le hzz hw.size
              replace HIs := Lib.hid (HIs.out.on hw ⟨rfl, rfl, rfl, rfl⟩)
              replace HIx := Lib.hid (HIx.out.on hw ⟨rfl, rfl, rfl, rfl⟩)
              replace HIy := Lib.hid (HIy.out.on hw ⟨rfl, rfl, rfl, rfl⟩)
              replace HIw := Lib.hid (HIw.out.on hw ⟨rfl, rfl, rfl, rfl⟩)
              replace HBc : Hid (Below w.heap.size w v4) := below_via HBc.out hw HBc.out.size ⟨rfl, rfl, rfl, rfl⟩
              clear hw
              refine hK.out _ _ ⟨x0, x1, y0, y1, z0, z1, t0, t1⟩ (fun hHeld => ?_)
              clear hK K
              try simp only [Act.put, List.setIfInBounds_toArray, List.set_cons_zero, List.set_cons_succ]
              refine wpAnyH_ready (rs := [17]) (by kernel_rfl) (by simp) ?_
              refine AllReadyH.cons (o := { dst := some 35, op := Go.Op.call { callee := Go.Callee.value (Go.Operand.func 20), args := #[Go.Operand.tmp 33, Go.Operand.tmp 34], argTypes := #[24, 3] }, type := 4, pos := "law.go:32", after := #[{ on := 15, ground := Go.Ground.data }, { on := 16, ground := Go.Ground.data }, { on := 14, ground := Go.Ground.chain }, { on := 11, ground := Go.Ground.guard }], guard := some (11, true) }) rfl (fun K hK => ?_) AllReadyH.nil
              go_simp
              go_at_call 20
              refine (cRefHas (s := s) (by exact HIs.out.same rfl) hLs m).mono ?_
              rintro e v5 ⟨rfl, hw⟩
              replace x0 := (hw.cell (p := ⟨w.heap.size, 0, none⟩) hzx).trans x0
              replace x1 := (hw.cell (p := ⟨w.heap.size, 1, none⟩) hzx).trans x1
              replace y0 := (hw.cell (p := ⟨G5, 0, none⟩) hzy).trans y0
              replace y1 := (hw.cell (p := ⟨G5, 1, none⟩) hzy).trans y1
              replace z0 := (hw.cell (p := ⟨G6, 0, none⟩) hzz).trans z0
              replace z1 := (hw.cell (p := ⟨G6, 1, none⟩) hzz).trans z1
              replace t0 := (hw.cell (p := ⟨G7, 0, none⟩) hzt).trans t0
              replace t1 := (hw.cell (p := ⟨G7, 1, none⟩) hzt).trans t1
              replace hzt := Nat.lt_of_lt_of_le hzt hw.size
              replace hzx := Nat.lt_of_lt_of_le hzx hw.size
              replace hzy := Nat.lt_of_lt_of_le hzy hw.size
              replace hzz := Nat.lt_of_lt_of_le hzz hw.size
              replace HIs := Lib.hid (HIs.out.on hw ⟨rfl, rfl, rfl, rfl⟩)
              replace HIx := Lib.hid (HIx.out.on hw ⟨rfl, rfl, rfl, rfl⟩)
              replace HIy := Lib.hid (HIy.out.on hw ⟨rfl, rfl, rfl, rfl⟩)
              replace HIw := Lib.hid (HIw.out.on hw ⟨rfl, rfl, rfl, rfl⟩)
              replace HBc : Hid (Below w.heap.size w v5) := below_via HBc.out hw HBc.out.size ⟨rfl, rfl, rfl, rfl⟩
              clear hw
              refine hK.out _ _ ⟨x0, x1, y0, y1, z0, z1, t0, t1⟩ (fun hHeld => ?_)
              clear hK K
              try simp only [Act.put, List.setIfInBounds_toArray, List.set_cons_zero, List.set_cons_succ]
              refine wpAnyH_take (i := 18) (oi := { dst := some 36, op := Go.Op.binOp Go.BinOp.eql 4 (Go.Operand.tmp 32) (Go.Operand.tmp 35) 4, type := 4, pos := "law.go:32", after := #[{ on := 14, ground := Go.Ground.data }, { on := 17, ground := Go.Ground.data }, { on := 11, ground := Go.Ground.guard }], guard := some (11, true) }) (v := ?_) rfl (by kernel_rfl) (by kernel_rfl) (by kernel_rfl) (fun _ _ _ h => h) (Or.inl ⟨rfl, ?_⟩) (by assumption) ?_
              rotate_left
              · intro wz hSw; (try dsimp only at hSw); go_simp; try (with_reducible rfl)
              try simp only [Act.put, List.setIfInBounds_toArray, List.set_cons_zero, List.set_cons_succ]
              refine wpAnyH_take (i := 19) (oi := { dst := some 37, op := Go.Op.pick (Go.Operand.tmp 29) (Go.Operand.tmp 36) (Go.Operand.const (Go.Value.bool false)), type := 4, pos := "law.go:32", after := #[{ on := 11, ground := Go.Ground.data }, { on := 18, ground := Go.Ground.data }], guard := none }) (v := ?_) rfl (by kernel_rfl) (by kernel_rfl) (by kernel_rfl) (fun _ _ _ h => h) (Or.inl ⟨rfl, ?_⟩) (by assumption) ?_
              rotate_left
              · intro wz hSw; (try dsimp only at hSw); go_simp; try (with_reducible rfl)
              try simp only [Act.put, List.setIfInBounds_toArray, List.set_cons_zero, List.set_cons_succ]
              refine wpAnyH_take (i := 20) (oi := { dst := some 38, op := Go.Op.move (Go.Operand.tmp 37), type := 4, pos := "law.go:32", after := #[{ on := 19, ground := Go.Ground.data }, { on := 17, ground := Go.Ground.chain }], guard := none }) (v := ?_) rfl (by kernel_rfl) (by kernel_rfl) (by kernel_rfl) (fun _ _ _ h => h) (Or.inl ⟨rfl, ?_⟩) (by assumption) ?_
              rotate_left
              · intro wz hSw; (try dsimp only at hSw); go_simp; try (with_reducible rfl)
              try simp only [Act.put, List.setIfInBounds_toArray, List.set_cons_zero, List.set_cons_succ]
              refine wpAnyH_take (i := 21) (oi := { dst := some 39, op := Go.Op.load 27 (Go.Operand.tmp 6), type := 27, pos := "law.go:32", after := #[{ on := 20, ground := Go.Ground.guard }], guard := some (20, true) }) (v := ?_) rfl (by kernel_rfl) (by kernel_rfl) (by kernel_rfl) (fun _ _ _ h => h) (Or.inl ⟨rfl, ?_⟩) (by assumption) ?_
              rotate_left
              · intro wz hSw; (try dsimp only at hSw); go_simp; try (with_reducible rfl)
              try simp only [Act.put, List.setIfInBounds_toArray, List.set_cons_zero, List.set_cons_succ]
              refine wpAnyH_take (i := 22) (oi := { dst := some 40, op := Go.Op.move (Go.Operand.tmp 1), type := 3, pos := "law.go:32", after := #[{ on := 20, ground := Go.Ground.guard }], guard := some (20, true) }) (v := ?_) rfl (by kernel_rfl) (by kernel_rfl) (by kernel_rfl) (fun _ _ _ h => h) (Or.inl ⟨rfl, ?_⟩) (by assumption) ?_
              rotate_left
              · intro wz hSw; (try dsimp only at hSw); go_simp; try (with_reducible rfl)
              try simp only [Act.put, List.setIfInBounds_toArray, List.set_cons_zero, List.set_cons_succ]
              refine wpAnyH_take (i := 24) (oi := { dst := some 42, op := Go.Op.move (Go.Operand.tmp 1), type := 3, pos := "law.go:32", after := #[{ on := 20, ground := Go.Ground.guard }], guard := some (20, true) }) (v := ?_) rfl (by kernel_rfl) (by kernel_rfl) (by kernel_rfl) (fun _ _ _ h => h) (Or.inl ⟨rfl, ?_⟩) (by assumption) ?_
              rotate_left
              · intro wz hSw; (try dsimp only at hSw); go_simp; try (with_reducible rfl)
              try simp only [Act.put, List.setIfInBounds_toArray, List.set_cons_zero, List.set_cons_succ]
              refine wpAnyH_take (i := 25) (oi := { dst := some 43, op := Go.Op.binOp Go.BinOp.geq 3 (Go.Operand.tmp 42) (Go.Operand.const (Go.Value.int Go.IntKind.i64 1)) 3, type := 4, pos := "law.go:32", after := #[{ on := 24, ground := Go.Ground.data }, { on := 20, ground := Go.Ground.guard }], guard := some (20, true) }) (v := ?_) rfl (by kernel_rfl) (by kernel_rfl) (by kernel_rfl) (fun _ _ _ h => h) (Or.inl ⟨rfl, ?_⟩) (by assumption) ?_
              rotate_left
              · intro wz hSw; (try dsimp only at hSw); go_simp; try (with_reducible rfl)
              try simp only [Act.put, List.setIfInBounds_toArray, List.set_cons_zero, List.set_cons_succ]
              refine wpAnyH_ready (rs := [23]) (by kernel_rfl) (by simp) ?_
              refine AllReadyH.cons (o := { dst := some 41, op := Go.Op.call { callee := Go.Callee.value (Go.Operand.func 19), args := #[Go.Operand.tmp 39, Go.Operand.tmp 40], argTypes := #[27, 3] }, type := 4, pos := "law.go:32", after := #[{ on := 21, ground := Go.Ground.data }, { on := 22, ground := Go.Ground.data }, { on := 20, ground := Go.Ground.chain }, { on := 20, ground := Go.Ground.guard }], guard := some (20, true) }) rfl (fun K hK => ?_) AllReadyH.nil
              go_simp
              go_at_call 19
              refine (cHas (s := r) (by exact HIy.out.same rfl) hLr HOr.out m).mono ?_
              rw [HHm.out]
              rintro e v6 ⟨rfl, hw⟩
              replace x0 := (hw.cell (p := ⟨w.heap.size, 0, none⟩) hzx).trans x0
              replace x1 := (hw.cell (p := ⟨w.heap.size, 1, none⟩) hzx).trans x1
              replace y0 := (hw.cell (p := ⟨G5, 0, none⟩) hzy).trans y0
              replace y1 := (hw.cell (p := ⟨G5, 1, none⟩) hzy).trans y1
              replace z0 := (hw.cell (p := ⟨G6, 0, none⟩) hzz).trans z0
              replace z1 := (hw.cell (p := ⟨G6, 1, none⟩) hzz).trans z1
              replace t0 := (hw.cell (p := ⟨G7, 0, none⟩) hzt).trans t0
              replace t1 := (hw.cell (p := ⟨G7, 1, none⟩) hzt).trans t1
              replace hzt := Nat.lt_of_lt_of_le hzt hw.size
              replace hzx := Nat.lt_of_lt_of_le hzx hw.size
              replace hzy := Nat.lt_of_lt_of_le hzy hw.size
              replace hzz := Nat.lt_of_lt_of_le hzz hw.size
              replace HIs := Lib.hid (HIs.out.on hw ⟨rfl, rfl, rfl, rfl⟩)
              replace HIx := Lib.hid (HIx.out.on hw ⟨rfl, rfl, rfl, rfl⟩)
              replace HIy := Lib.hid (HIy.out.on hw ⟨rfl, rfl, rfl, rfl⟩)
              replace HIw := Lib.hid (HIw.out.on hw ⟨rfl, rfl, rfl, rfl⟩)
              replace HBc : Hid (Below w.heap.size w v6) := below_via HBc.out hw HBc.out.size ⟨rfl, rfl, rfl, rfl⟩
              clear hw
              refine hK.out _ _ ⟨x0, x1, y0, y1, z0, z1, t0, t1⟩ (fun hHeld => ?_)
              clear hK K
              try simp only [Act.put, List.setIfInBounds_toArray, List.set_cons_zero, List.set_cons_succ]
              refine wpAnyH_take (i := 26) (oi := { dst := some 44, op := Go.Op.move (Go.Operand.tmp 43), type := 4, pos := "law.go:32", after := #[{ on := 25, ground := Go.Ground.data }, { on := 23, ground := Go.Ground.chain }, { on := 20, ground := Go.Ground.guard }], guard := some (20, true) }) (v := ?_) rfl (by kernel_rfl) (by kernel_rfl) (by kernel_rfl) (fun _ _ _ h => h) (Or.inl ⟨rfl, ?_⟩) (by assumption) ?_
              rotate_left
              · intro wz hSw; (try dsimp only at hSw); go_simp; try (with_reducible rfl)
              try simp only [Act.put, List.setIfInBounds_toArray, List.set_cons_zero, List.set_cons_succ]
              refine wpAnyH_take (i := 27) (oi := { dst := some 45, op := Go.Op.move (Go.Operand.tmp 1), type := 3, pos := "law.go:32", after := #[{ on := 26, ground := Go.Ground.guard }], guard := some (26, true) }) (v := ?_) rfl (by kernel_rfl) (by kernel_rfl) (by kernel_rfl) (fun _ _ _ h => h) (Or.inl ⟨rfl, ?_⟩) (by assumption) ?_
              rotate_left
              · intro wz hSw; (try dsimp only at hSw); go_simp; try (with_reducible rfl)
              try simp only [Act.put, List.setIfInBounds_toArray, List.set_cons_zero, List.set_cons_succ]
              refine wpAnyH_take (i := 28) (oi := { dst := some 46, op := Go.Op.binOp Go.BinOp.leq 3 (Go.Operand.tmp 45) (Go.Operand.const (Go.Value.int Go.IntKind.i64 1048576)) 3, type := 4, pos := "law.go:32", after := #[{ on := 27, ground := Go.Ground.data }, { on := 26, ground := Go.Ground.guard }], guard := some (26, true) }) (v := ?_) rfl (by kernel_rfl) (by kernel_rfl) (by kernel_rfl) (fun _ _ _ h => h) (Or.inl ⟨rfl, ?_⟩) (by assumption) ?_
              rotate_left
              · intro wz hSw; (try dsimp only at hSw); go_simp; try (with_reducible rfl)
              try simp only [Act.put, List.setIfInBounds_toArray, List.set_cons_zero, List.set_cons_succ]
              refine wpAnyH_take (i := 29) (oi := { dst := some 47, op := Go.Op.pick (Go.Operand.tmp 44) (Go.Operand.tmp 46) (Go.Operand.const (Go.Value.bool false)), type := 4, pos := "law.go:32", after := #[{ on := 26, ground := Go.Ground.data }, { on := 28, ground := Go.Ground.data }, { on := 20, ground := Go.Ground.guard }], guard := some (20, true) }) (v := ?_) rfl (by kernel_rfl) (by kernel_rfl) (by kernel_rfl) (fun _ _ _ h => h) (Or.inl ⟨rfl, ?_⟩) (by assumption) ?_
              rotate_left
              · intro wz hSw; (try dsimp only at hSw); go_simp; try (with_reducible rfl)
              try simp only [Act.put, List.setIfInBounds_toArray, List.set_cons_zero, List.set_cons_succ]
              refine wpAnyH_take (i := 30) (oi := { dst := some 48, op := Go.Op.binOp Go.BinOp.eql 4 (Go.Operand.tmp 41) (Go.Operand.tmp 47) 4, type := 4, pos := "law.go:32", after := #[{ on := 23, ground := Go.Ground.data }, { on := 29, ground := Go.Ground.data }, { on := 20, ground := Go.Ground.guard }], guard := some (20, true) }) (v := ?_) rfl (by kernel_rfl) (by kernel_rfl) (by kernel_rfl) (fun _ _ _ h => h) (Or.inl ⟨rfl, ?_⟩) (by assumption) ?_
              rotate_left
              · intro wz hSw; (try dsimp only at hSw); go_simp; try (with_reducible rfl)
              try simp only [Act.put, List.setIfInBounds_toArray, List.set_cons_zero, List.set_cons_succ]
              refine wpAnyH_take (i := 31) (oi := { dst := some 49, op := Go.Op.pick (Go.Operand.tmp 38) (Go.Operand.tmp 48) (Go.Operand.const (Go.Value.bool false)), type := 4, pos := "law.go:32", after := #[{ on := 20, ground := Go.Ground.data }, { on := 30, ground := Go.Ground.data }], guard := none }) (v := ?_) rfl (by kernel_rfl) (by kernel_rfl) (by kernel_rfl) (fun _ _ _ h => h) (Or.inl ⟨rfl, ?_⟩) (by assumption) ?_
              rotate_left
              · intro wz hSw; (try dsimp only at hSw); go_simp; try (with_reducible rfl)
              try simp only [Act.put, List.setIfInBounds_toArray, List.set_cons_zero, List.set_cons_succ]
              refine wpAnyH_take (i := 32) (oi := { dst := some 50, op := Go.Op.move (Go.Operand.tmp 49), type := 4, pos := "law.go:32", after := #[{ on := 31, ground := Go.Ground.data }, { on := 26, ground := Go.Ground.chain }], guard := none }) (v := ?_) rfl (by kernel_rfl) (by kernel_rfl) (by kernel_rfl) (fun _ _ _ h => h) (Or.inl ⟨rfl, ?_⟩) (by assumption) ?_
              rotate_left
              · intro wz hSw; (try dsimp only at hSw); go_simp; try (with_reducible rfl)
              try simp only [Act.put, List.setIfInBounds_toArray, List.set_cons_zero, List.set_cons_succ]
              refine wpAnyH_take (i := 33) (oi := { dst := some 51, op := Go.Op.load 27 (Go.Operand.tmp 6), type := 27, pos := "law.go:32", after := #[{ on := 32, ground := Go.Ground.guard }], guard := some (32, true) }) (v := ?_) rfl (by kernel_rfl) (by kernel_rfl) (by kernel_rfl) (fun _ _ _ h => h) (Or.inl ⟨rfl, ?_⟩) (by assumption) ?_
              rotate_left
              · intro wz hSw; (try dsimp only at hSw); go_simp; try (with_reducible rfl)
              try simp only [Act.put, List.setIfInBounds_toArray, List.set_cons_zero, List.set_cons_succ]
              refine wpAnyH_take (i := 35) (oi := { dst := some 53, op := Go.Op.load 24 (Go.Operand.tmp 7), type := 24, pos := "law.go:32", after := #[{ on := 32, ground := Go.Ground.guard }], guard := some (32, true) }) (v := ?_) rfl (by kernel_rfl) (by kernel_rfl) (by kernel_rfl) (fun _ _ _ h => h) (Or.inl ⟨rfl, ?_⟩) (by assumption) ?_
              rotate_left
              · intro wz hSw; (try dsimp only at hSw); go_simp; try (with_reducible rfl)
              try simp only [Act.put, List.setIfInBounds_toArray, List.set_cons_zero, List.set_cons_succ]
              refine wpAnyH_ready (rs := [34]) (by kernel_rfl) (by simp) ?_
              refine AllReadyH.cons (o := { dst := some 52, op := Go.Op.call { callee := Go.Callee.value (Go.Operand.func 21), args := #[Go.Operand.tmp 51], argTypes := #[27] }, type := 3, pos := "law.go:32", after := #[{ on := 33, ground := Go.Ground.data }, { on := 32, ground := Go.Ground.chain }, { on := 32, ground := Go.Ground.guard }], guard := some (32, true) }) rfl (fun K hK => ?_) AllReadyH.nil
              go_simp
              go_at_call 21
              refine (cCount (s := r) (A := A3) (c := c3) hr0 hUr hLr).mono ?_
              rintro e v7 ⟨rfl, hw⟩
              replace x0 := (hw.cell (p := ⟨w.heap.size, 0, none⟩) hzx).trans x0
              replace x1 := (hw.cell (p := ⟨w.heap.size, 1, none⟩) hzx).trans x1
              replace y0 := (hw.cell (p := ⟨G5, 0, none⟩) hzy).trans y0
              replace y1 := (hw.cell (p := ⟨G5, 1, none⟩) hzy).trans y1
              replace z0 := (hw.cell (p := ⟨G6, 0, none⟩) hzz).trans z0
              replace z1 := (hw.cell (p := ⟨G6, 1, none⟩) hzz).trans z1
              replace t0 := (hw.cell (p := ⟨G7, 0, none⟩) hzt).trans t0
              replace t1 := (hw.cell (p := ⟨G7, 1, none⟩) hzt).trans t1
              replace hzt := Nat.lt_of_lt_of_le hzt hw.size
              replace hzx := Nat.lt_of_lt_of_le hzx hw.size
              replace hzy := Nat.lt_of_lt_of_le hzy hw.size
              replace hzz := Nat.lt_of_lt_of_le hzz hw.size
              replace HIs := Lib.hid (HIs.out.on hw ⟨rfl, rfl, rfl, rfl⟩)
              replace HIx := Lib.hid (HIx.out.on hw ⟨rfl, rfl, rfl, rfl⟩)
              replace HIy := Lib.hid (HIy.out.on hw ⟨rfl, rfl, rfl, rfl⟩)
              replace HIw := Lib.hid (HIw.out.on hw ⟨rfl, rfl, rfl, rfl⟩)
              replace HBc : Hid (Below w.heap.size w v7) := below_via HBc.out hw HBc.out.size ⟨rfl, rfl, rfl, rfl⟩
              clear hw
              refine hK.out _ _ ⟨x0, x1, y0, y1, z0, z1, t0, t1⟩ (fun hHeld => ?_)
              clear hK K
              try simp only [Act.put, List.setIfInBounds_toArray, List.set_cons_zero, List.set_cons_succ]
              refine wpAnyH_ready (rs := [36]) (by kernel_rfl) (by simp) ?_
              refine AllReadyH.cons (o := { dst := some 54, op := Go.Op.call { callee := Go.Callee.value (Go.Operand.func 22), args := #[Go.Operand.tmp 53], argTypes := #[24] }, type := 3, pos := "law.go:32", after := #[{ on := 35, ground := Go.Ground.data }, { on := 34, ground := Go.Ground.chain }, { on := 32, ground := Go.Ground.guard }], guard := some (32, true) }) rfl (fun K hK => ?_) AllReadyH.nil
              go_simp
              go_at_call 22
              refine (cRefCount (s := r) (A := A4) (c := c4) hr0 hUr hLr).mono ?_
              rintro e v8 ⟨rfl, hw⟩
              replace x0 := (hw.cell (p := ⟨w.heap.size, 0, none⟩) hzx).trans x0
              replace x1 := (hw.cell (p := ⟨w.heap.size, 1, none⟩) hzx).trans x1
              replace y0 := (hw.cell (p := ⟨G5, 0, none⟩) hzy).trans y0
              replace y1 := (hw.cell (p := ⟨G5, 1, none⟩) hzy).trans y1
              replace z0 := (hw.cell (p := ⟨G6, 0, none⟩) hzz).trans z0
              replace z1 := (hw.cell (p := ⟨G6, 1, none⟩) hzz).trans z1
              replace t0 := (hw.cell (p := ⟨G7, 0, none⟩) hzt).trans t0
              replace t1 := (hw.cell (p := ⟨G7, 1, none⟩) hzt).trans t1
              replace hzt := Nat.lt_of_lt_of_le hzt hw.size
              replace hzx := Nat.lt_of_lt_of_le hzx hw.size
              replace hzy := Nat.lt_of_lt_of_le hzy hw.size
              replace hzz := Nat.lt_of_lt_of_le hzz hw.size
              replace HIs := Lib.hid (HIs.out.on hw ⟨rfl, rfl, rfl, rfl⟩)
              replace HIx := Lib.hid (HIx.out.on hw ⟨rfl, rfl, rfl, rfl⟩)
              replace HIy := Lib.hid (HIy.out.on hw ⟨rfl, rfl, rfl, rfl⟩)
              replace HIw := Lib.hid (HIw.out.on hw ⟨rfl, rfl, rfl, rfl⟩)
              replace HBc : Hid (Below w.heap.size w v8) := below_via HBc.out hw HBc.out.size ⟨rfl, rfl, rfl, rfl⟩
              clear hw
              refine hK.out _ _ ⟨x0, x1, y0, y1, z0, z1, t0, t1⟩ (fun hHeld => ?_)
              clear hK K
              try simp only [Act.put, List.setIfInBounds_toArray, List.set_cons_zero, List.set_cons_succ]
              refine wpAnyH_take (i := 37) (oi := { dst := some 55, op := Go.Op.binOp Go.BinOp.eql 3 (Go.Operand.tmp 52) (Go.Operand.tmp 54) 3, type := 4, pos := "law.go:32", after := #[{ on := 34, ground := Go.Ground.data }, { on := 36, ground := Go.Ground.data }, { on := 32, ground := Go.Ground.guard }], guard := some (32, true) }) (v := ?_) rfl (by kernel_rfl) (by kernel_rfl) (by kernel_rfl) (fun _ _ _ h => h) (Or.inl ⟨rfl, ?_⟩) (by assumption) ?_
              rotate_left
              · intro wz hSw; (try dsimp only at hSw); go_simp; try (with_reducible rfl)
              try simp only [Act.put, List.setIfInBounds_toArray, List.set_cons_zero, List.set_cons_succ]
              refine wpAnyH_take (i := 38) (oi := { dst := some 56, op := Go.Op.pick (Go.Operand.tmp 50) (Go.Operand.tmp 55) (Go.Operand.const (Go.Value.bool false)), type := 4, pos := "law.go:32", after := #[{ on := 32, ground := Go.Ground.data }, { on := 37, ground := Go.Ground.data }], guard := none }) (v := ?_) rfl (by kernel_rfl) (by kernel_rfl) (by kernel_rfl) (fun _ _ _ h => h) (Or.inl ⟨rfl, ?_⟩) (by assumption) ?_
              rotate_left
              · intro wz hSw; (try dsimp only at hSw); go_simp; try (with_reducible rfl)
              try simp only [Act.put, List.setIfInBounds_toArray, List.set_cons_zero, List.set_cons_succ]
              refine wpAnyH_take (i := 39) (oi := { dst := some 57, op := Go.Op.move (Go.Operand.tmp 56), type := 4, pos := "law.go:32", after := #[{ on := 38, ground := Go.Ground.data }, { on := 36, ground := Go.Ground.chain }], guard := none }) (v := ?_) rfl (by kernel_rfl) (by kernel_rfl) (by kernel_rfl) (fun _ _ _ h => h) (Or.inl ⟨rfl, ?_⟩) (by assumption) ?_
              rotate_left
              · intro wz hSw; (try dsimp only at hSw); go_simp; try (with_reducible rfl)
              try simp only [Act.put, List.setIfInBounds_toArray, List.set_cons_zero, List.set_cons_succ]
              refine wpAnyH_take (i := 40) (oi := { dst := some 58, op := Go.Op.load 27 (Go.Operand.tmp 6), type := 27, pos := "law.go:32", after := #[{ on := 39, ground := Go.Ground.guard }], guard := some (39, true) }) (v := ?_) rfl (by kernel_rfl) (by kernel_rfl) (by kernel_rfl) (fun _ _ _ h => h) (Or.inl ⟨rfl, ?_⟩) (by assumption) ?_
              rotate_left
              · intro wz hSw; (try dsimp only at hSw); go_simp; try (with_reducible rfl)
              try simp only [Act.put, List.setIfInBounds_toArray, List.set_cons_zero, List.set_cons_succ]
              refine wpAnyH_take (i := 42) (oi := { dst := some 60, op := Go.Op.load 24 (Go.Operand.tmp 7), type := 24, pos := "law.go:32", after := #[{ on := 39, ground := Go.Ground.guard }], guard := some (39, true) }) (v := ?_) rfl (by kernel_rfl) (by kernel_rfl) (by kernel_rfl) (fun _ _ _ h => h) (Or.inl ⟨rfl, ?_⟩) (by assumption) ?_
              rotate_left
              · intro wz hSw; (try dsimp only at hSw); go_simp; try (with_reducible rfl)
              try simp only [Act.put, List.setIfInBounds_toArray, List.set_cons_zero, List.set_cons_succ]
              refine wpAnyH_ready (rs := [41]) (by kernel_rfl) (by simp) ?_
              refine AllReadyH.cons (o := { dst := some 59, op := Go.Op.call { callee := Go.Callee.value (Go.Operand.func 23), args := #[Go.Operand.tmp 58], argTypes := #[27] }, type := 3, pos := "law.go:32", after := #[{ on := 40, ground := Go.Ground.data }, { on := 39, ground := Go.Ground.chain }, { on := 39, ground := Go.Ground.guard }], guard := some (39, true) }) rfl (fun K hK => ?_) AllReadyH.nil
              go_simp
              go_at_call 23
              refine (cTop (s := r) (by exact HIy.out.same rfl) hLr).mono ?_
              rintro e v9 ⟨rfl, hw⟩
              replace x0 := (hw.cell (p := ⟨w.heap.size, 0, none⟩) hzx).trans x0
              replace x1 := (hw.cell (p := ⟨w.heap.size, 1, none⟩) hzx).trans x1
              replace y0 := (hw.cell (p := ⟨G5, 0, none⟩) hzy).trans y0
              replace y1 := (hw.cell (p := ⟨G5, 1, none⟩) hzy).trans y1
              replace z0 := (hw.cell (p := ⟨G6, 0, none⟩) hzz).trans z0
              replace z1 := (hw.cell (p := ⟨G6, 1, none⟩) hzz).trans z1
              replace t0 := (hw.cell (p := ⟨G7, 0, none⟩) hzt).trans t0
              replace t1 := (hw.cell (p := ⟨G7, 1, none⟩) hzt).trans t1
              replace hzt := Nat.lt_of_lt_of_le hzt hw.size
              replace hzx := Nat.lt_of_lt_of_le hzx hw.size
              replace hzy := Nat.lt_of_lt_of_le hzy hw.size
              replace hzz := Nat.lt_of_lt_of_le hzz hw.size
              replace HIs := Lib.hid (HIs.out.on hw ⟨rfl, rfl, rfl, rfl⟩)
              replace HIx := Lib.hid (HIx.out.on hw ⟨rfl, rfl, rfl, rfl⟩)
              replace HIy := Lib.hid (HIy.out.on hw ⟨rfl, rfl, rfl, rfl⟩)
              replace HIw := Lib.hid (HIw.out.on hw ⟨rfl, rfl, rfl, rfl⟩)
              replace HBc : Hid (Below w.heap.size w v9) := below_via HBc.out hw HBc.out.size ⟨rfl, rfl, rfl, rfl⟩
              clear hw
              refine hK.out _ _ ⟨x0, x1, y0, y1, z0, z1, t0, t1⟩ (fun hHeld => ?_)
              clear hK K
              try simp only [Act.put, List.setIfInBounds_toArray, List.set_cons_zero, List.set_cons_succ]
              refine wpAnyH_ready (rs := [43]) (by kernel_rfl) (by simp) ?_
              refine AllReadyH.cons (o := { dst := some 61, op := Go.Op.call { callee := Go.Callee.value (Go.Operand.func 24), args := #[Go.Operand.tmp 60], argTypes := #[24] }, type := 3, pos := "law.go:32", after := #[{ on := 42, ground := Go.Ground.data }, { on := 41, ground := Go.Ground.chain }, { on := 39, ground := Go.Ground.guard }], guard := some (39, true) }) rfl (fun K hK => ?_) AllReadyH.nil
              go_simp
              go_at_call 24
              refine (cRefTop (s := r) (by exact HIw.out.same rfl) hLr).mono ?_
              rintro e v10 ⟨rfl, hw⟩
              replace x0 := (hw.cell (p := ⟨w.heap.size, 0, none⟩) hzx).trans x0
              replace x1 := (hw.cell (p := ⟨w.heap.size, 1, none⟩) hzx).trans x1
              replace y0 := (hw.cell (p := ⟨G5, 0, none⟩) hzy).trans y0
              replace y1 := (hw.cell (p := ⟨G5, 1, none⟩) hzy).trans y1
              replace z0 := (hw.cell (p := ⟨G6, 0, none⟩) hzz).trans z0
              replace z1 := (hw.cell (p := ⟨G6, 1, none⟩) hzz).trans z1
              replace t0 := (hw.cell (p := ⟨G7, 0, none⟩) hzt).trans t0
              replace t1 := (hw.cell (p := ⟨G7, 1, none⟩) hzt).trans t1
              replace hzt := Nat.lt_of_lt_of_le hzt hw.size
              replace hzx := Nat.lt_of_lt_of_le hzx hw.size
              replace hzy := Nat.lt_of_lt_of_le hzy hw.size
              replace hzz := Nat.lt_of_lt_of_le hzz hw.size
              replace HIs := Lib.hid (HIs.out.on hw ⟨rfl, rfl, rfl, rfl⟩)
              replace HIx := Lib.hid (HIx.out.on hw ⟨rfl, rfl, rfl, rfl⟩)
              replace HIy := Lib.hid (HIy.out.on hw ⟨rfl, rfl, rfl, rfl⟩)
              replace HIw := Lib.hid (HIw.out.on hw ⟨rfl, rfl, rfl, rfl⟩)
              replace HBc : Hid (Below w.heap.size w v10) := below_via HBc.out hw HBc.out.size ⟨rfl, rfl, rfl, rfl⟩
              clear hw
              refine hK.out _ _ ⟨x0, x1, y0, y1, z0, z1, t0, t1⟩ (fun hHeld => ?_)
              clear hK K
              try simp only [Act.put, List.setIfInBounds_toArray, List.set_cons_zero, List.set_cons_succ]
              refine wpAnyH_take (i := 44) (oi := { dst := some 62, op := Go.Op.binOp Go.BinOp.eql 3 (Go.Operand.tmp 59) (Go.Operand.tmp 61) 3, type := 4, pos := "law.go:32", after := #[{ on := 41, ground := Go.Ground.data }, { on := 43, ground := Go.Ground.data }, { on := 39, ground := Go.Ground.guard }], guard := some (39, true) }) (v := ?_) rfl (by kernel_rfl) (by kernel_rfl) (by kernel_rfl) (fun _ _ _ h => h) (Or.inl ⟨rfl, ?_⟩) (by assumption) ?_
              rotate_left
              · intro wz hSw; (try dsimp only at hSw); go_simp; try (with_reducible rfl)
              try simp only [Act.put, List.setIfInBounds_toArray, List.set_cons_zero, List.set_cons_succ]
              refine wpAnyH_take (i := 45) (oi := { dst := some 63, op := Go.Op.pick (Go.Operand.tmp 57) (Go.Operand.tmp 62) (Go.Operand.const (Go.Value.bool false)), type := 4, pos := "law.go:32", after := #[{ on := 39, ground := Go.Ground.data }, { on := 44, ground := Go.Ground.data }], guard := none }) (v := ?_) rfl (by kernel_rfl) (by kernel_rfl) (by kernel_rfl) (fun _ _ _ h => h) (Or.inl ⟨rfl, ?_⟩) (by assumption) ?_
              rotate_left
              · intro wz hSw; (try dsimp only at hSw); go_simp; try (with_reducible rfl)
              try simp only [Act.put, List.setIfInBounds_toArray, List.set_cons_zero, List.set_cons_succ]
              refine wpAnyH_take (i := 46) (oi := { dst := some 64, op := Go.Op.move (Go.Operand.tmp 63), type := 4, pos := "law.go:32", after := #[{ on := 45, ground := Go.Ground.data }, { on := 43, ground := Go.Ground.chain }], guard := none }) (v := ?_) rfl (by kernel_rfl) (by kernel_rfl) (by kernel_rfl) (fun _ _ _ h => h) (Or.inl ⟨rfl, ?_⟩) (by assumption) ?_
              rotate_left
              · intro wz hSw; (try dsimp only at hSw); go_simp; try (with_reducible rfl)
              try simp only [Act.put, List.setIfInBounds_toArray, List.set_cons_zero, List.set_cons_succ]
              refine wpAnyH_take (i := 47) (oi := { dst := some 65, op := Go.Op.load 27 (Go.Operand.tmp 5), type := 27, pos := "law.go:32", after := #[{ on := 46, ground := Go.Ground.guard }], guard := some (46, true) }) (v := ?_) rfl (by kernel_rfl) (by kernel_rfl) (by kernel_rfl) (fun _ _ _ h => h) (Or.inl ⟨rfl, ?_⟩) (by assumption) ?_
              rotate_left
              · intro wz hSw; (try dsimp only at hSw); go_simp; try (with_reducible rfl)
              try simp only [Act.put, List.setIfInBounds_toArray, List.set_cons_zero, List.set_cons_succ]
              refine wpAnyH_take (i := 49) (oi := { dst := some 67, op := Go.Op.load 24 (Go.Operand.tmp 2), type := 24, pos := "law.go:32", after := #[{ on := 46, ground := Go.Ground.guard }], guard := some (46, true) }) (v := ?_) rfl (by kernel_rfl) (by kernel_rfl) (by kernel_rfl) (fun _ _ _ h => h) (Or.inl ⟨rfl, ?_⟩) (by assumption) ?_
              rotate_left
              · intro wz hSw; (try dsimp only at hSw); go_simp; try (with_reducible rfl)
              try simp only [Act.put, List.setIfInBounds_toArray, List.set_cons_zero, List.set_cons_succ]
              refine wpAnyH_ready (rs := [48]) (by kernel_rfl) (by simp) ?_
              refine AllReadyH.cons (o := { dst := some 66, op := Go.Op.call { callee := Go.Callee.value (Go.Operand.func 18), args := #[Go.Operand.tmp 65], argTypes := #[27] }, type := 24, pos := "law.go:32", after := #[{ on := 47, ground := Go.Ground.data }, { on := 46, ground := Go.Ground.chain }, { on := 46, ground := Go.Ground.guard }], guard := some (46, true) }) rfl (fun K hK => ?_) AllReadyH.nil
              go_simp
              go_at_call 18
              refine (cFrom (s := s) (by exact HIx.out.same rfl) hLs).mono ?_
              rintro e v11 ⟨B2, d2, rfl, hin, hw⟩
              replace x0 := (hw.cell (p := ⟨w.heap.size, 0, none⟩) hzx).trans x0
              replace x1 := (hw.cell (p := ⟨w.heap.size, 1, none⟩) hzx).trans x1
              replace y0 := (hw.cell (p := ⟨G5, 0, none⟩) hzy).trans y0
              replace y1 := (hw.cell (p := ⟨G5, 1, none⟩) hzy).trans y1
              replace z0 := (hw.cell (p := ⟨G6, 0, none⟩) hzz).trans z0
              replace z1 := (hw.cell (p := ⟨G6, 1, none⟩) hzz).trans z1
              replace t0 := (hw.cell (p := ⟨G7, 0, none⟩) hzt).trans t0
              replace t1 := (hw.cell (p := ⟨G7, 1, none⟩) hzt).trans t1
              replace hzt := Nat.lt_of_lt_of_le hzt hw.size
              replace hzx := Nat.lt_of_lt_of_le hzx hw.size
              replace hzy := Nat.lt_of_lt_of_le hzy hw.size
              replace hzz := Nat.lt_of_lt_of_le hzz hw.size
              replace HIs := Lib.hid (HIs.out.on hw ⟨rfl, rfl, rfl, rfl⟩)
              replace HIx := Lib.hid (HIx.out.on hw ⟨rfl, rfl, rfl, rfl⟩)
              replace HIy := Lib.hid (HIy.out.on hw ⟨rfl, rfl, rfl, rfl⟩)
              replace HIw := Lib.hid (HIw.out.on hw ⟨rfl, rfl, rfl, rfl⟩)
              replace HBc : Hid (Below w.heap.size w v11) := below_via HBc.out hw HBc.out.size ⟨rfl, rfl, rfl, rfl⟩
              have HP2 := Lib.hid hin
              clear hin
              clear hw
              refine hK.out _ _ ⟨x0, x1, y0, y1, z0, z1, t0, t1⟩ (fun hHeld => ?_)
              clear hK K
              try simp only [Act.put, List.setIfInBounds_toArray, List.set_cons_zero, List.set_cons_succ]
              refine wpAnyH_ready (rs := [50]) (by kernel_rfl) (by simp) ?_
              refine AllReadyH.cons (o := { dst := some 68, op := Go.Op.call { callee := Go.Callee.value (Go.Operand.func 17), args := #[Go.Operand.tmp 66, Go.Operand.tmp 67], argTypes := #[24, 24] }, type := 4, pos := "law.go:32", after := #[{ on := 48, ground := Go.Ground.data }, { on := 49, ground := Go.Ground.data }, { on := 48, ground := Go.Ground.chain }, { on := 46, ground := Go.Ground.guard }], guard := some (46, true) }) rfl (fun K hK => ?_) AllReadyH.nil
              go_simp
              go_at_call 17
              refine (cRefSame (s := s) (t := s) (by exact HP2.out.same rfl) (by exact HIs.out.same rfl) hLs).mono ?_
              rw [same_true rfl]
              rintro e v12 ⟨rfl, hw⟩
              replace x0 := (hw.cell (p := ⟨w.heap.size, 0, none⟩) hzx).trans x0
              replace x1 := (hw.cell (p := ⟨w.heap.size, 1, none⟩) hzx).trans x1
              replace y0 := (hw.cell (p := ⟨G5, 0, none⟩) hzy).trans y0
              replace y1 := (hw.cell (p := ⟨G5, 1, none⟩) hzy).trans y1
              replace z0 := (hw.cell (p := ⟨G6, 0, none⟩) hzz).trans z0
              replace z1 := (hw.cell (p := ⟨G6, 1, none⟩) hzz).trans z1
              replace t0 := (hw.cell (p := ⟨G7, 0, none⟩) hzt).trans t0
              replace t1 := (hw.cell (p := ⟨G7, 1, none⟩) hzt).trans t1
              replace hzt := Nat.lt_of_lt_of_le hzt hw.size
              replace hzx := Nat.lt_of_lt_of_le hzx hw.size
              replace hzy := Nat.lt_of_lt_of_le hzy hw.size
              replace hzz := Nat.lt_of_lt_of_le hzz hw.size
              replace HIs := Lib.hid (HIs.out.on hw ⟨rfl, rfl, rfl, rfl⟩)
              replace HIx := Lib.hid (HIx.out.on hw ⟨rfl, rfl, rfl, rfl⟩)
              replace HIy := Lib.hid (HIy.out.on hw ⟨rfl, rfl, rfl, rfl⟩)
              replace HIw := Lib.hid (HIw.out.on hw ⟨rfl, rfl, rfl, rfl⟩)
              replace HP2 := Lib.hid (HP2.out.on hw ⟨rfl, rfl, rfl, rfl⟩)
              replace HBc : Hid (Below w.heap.size w v12) := below_via HBc.out hw HBc.out.size ⟨rfl, rfl, rfl, rfl⟩
              clear hw
              refine hK.out _ _ ⟨x0, x1, y0, y1, z0, z1, t0, t1⟩ (fun hHeld => ?_)
              clear hK K
              try simp only [Act.put, List.setIfInBounds_toArray, List.set_cons_zero, List.set_cons_succ]
              refine wpAnyH_take (i := 51) (oi := { dst := some 69, op := Go.Op.pick (Go.Operand.tmp 64) (Go.Operand.tmp 68) (Go.Operand.const (Go.Value.bool false)), type := 4, pos := "law.go:32", after := #[{ on := 46, ground := Go.Ground.data }, { on := 50, ground := Go.Ground.data }], guard := none }) (v := ?_) rfl (by kernel_rfl) (by kernel_rfl) (by kernel_rfl) (fun _ _ _ h => h) (Or.inl ⟨rfl, ?_⟩) (by assumption) ?_
              rotate_left
              · intro wz hSw; (try dsimp only at hSw); go_simp; try (with_reducible rfl)
              try simp only [Act.put, List.setIfInBounds_toArray, List.set_cons_zero, List.set_cons_succ]
              refine wpAnyH_take (i := 52) (oi := { dst := some 4, op := Go.Op.assign (Go.Operand.tmp 69), type := 4, pos := "law.go:32", after := #[{ on := 51, ground := Go.Ground.data }, { on := 50, ground := Go.Ground.chain }, { on := 0, ground := Go.Ground.phase }, { on := 1, ground := Go.Ground.phase }, { on := 2, ground := Go.Ground.phase }, { on := 3, ground := Go.Ground.phase }, { on := 4, ground := Go.Ground.phase }, { on := 5, ground := Go.Ground.phase }, { on := 6, ground := Go.Ground.phase }, { on := 7, ground := Go.Ground.phase }, { on := 8, ground := Go.Ground.phase }, { on := 9, ground := Go.Ground.phase }, { on := 10, ground := Go.Ground.phase }, { on := 11, ground := Go.Ground.phase }, { on := 12, ground := Go.Ground.phase }, { on := 13, ground := Go.Ground.phase }, { on := 14, ground := Go.Ground.phase }, { on := 15, ground := Go.Ground.phase }, { on := 16, ground := Go.Ground.phase }, { on := 17, ground := Go.Ground.phase }, { on := 18, ground := Go.Ground.phase }, { on := 19, ground := Go.Ground.phase }, { on := 20, ground := Go.Ground.phase }, { on := 21, ground := Go.Ground.phase }, { on := 22, ground := Go.Ground.phase }, { on := 23, ground := Go.Ground.phase }, { on := 24, ground := Go.Ground.phase }, { on := 25, ground := Go.Ground.phase }, { on := 26, ground := Go.Ground.phase }, { on := 27, ground := Go.Ground.phase }, { on := 28, ground := Go.Ground.phase }, { on := 29, ground := Go.Ground.phase }, { on := 30, ground := Go.Ground.phase }, { on := 31, ground := Go.Ground.phase }, { on := 32, ground := Go.Ground.phase }, { on := 33, ground := Go.Ground.phase }, { on := 34, ground := Go.Ground.phase }, { on := 35, ground := Go.Ground.phase }, { on := 36, ground := Go.Ground.phase }, { on := 37, ground := Go.Ground.phase }, { on := 38, ground := Go.Ground.phase }, { on := 39, ground := Go.Ground.phase }, { on := 40, ground := Go.Ground.phase }, { on := 41, ground := Go.Ground.phase }, { on := 42, ground := Go.Ground.phase }, { on := 43, ground := Go.Ground.phase }, { on := 44, ground := Go.Ground.phase }, { on := 45, ground := Go.Ground.phase }, { on := 46, ground := Go.Ground.phase }, { on := 47, ground := Go.Ground.phase }, { on := 48, ground := Go.Ground.phase }, { on := 49, ground := Go.Ground.phase }, { on := 50, ground := Go.Ground.phase }, { on := 51, ground := Go.Ground.phase }], guard := none }) (v := ?_) rfl (by kernel_rfl) (by kernel_rfl) (by kernel_rfl) (fun _ _ _ h => h) (Or.inl ⟨rfl, ?_⟩) (by assumption) ?_
              rotate_left
              · intro wz hSw; (try dsimp only at hSw); go_simp; try (with_reducible rfl)
              try simp only [Act.put, List.setIfInBounds_toArray, List.set_cons_zero, List.set_cons_succ]
              refine wpAnyH_done (by kernel_rfl) ?_ _
              go_wp2
              go_ret
              exact ⟨rfl, HBc.out⟩
          · have HHm : Hid (hasOf r.1 r.2 m = false) := by
              show hasOf r.1 r.2 m = false
              rw [Bool.eq_false_iff]
              exact fun h => hm1 (HHm0.out.1 h).1
            have hm3 : decide (1 ≤ m) = false := by simpa using hm1
            go_wp2_with fail
            refine wp_region_held_drew (S := fun w' => w'.cell? ⟨w.heap.size, 0, none⟩ = some (.int .i64 s.1) ∧ w'.cell? ⟨w.heap.size, 1, none⟩ = some (.slice A1 s.2.length c1) ∧ w'.cell? ⟨G5, 0, none⟩ = some (.int .i64 s.1) ∧ w'.cell? ⟨G5, 1, none⟩ = some (.slice A2 s.2.length c2) ∧ w'.cell? ⟨G6, 0, none⟩ = some (.int .i64 r.1) ∧ w'.cell? ⟨G6, 1, none⟩ = some (.slice A3 r.2.length c3) ∧ w'.cell? ⟨G7, 0, none⟩ = some (.int .i64 r.1) ∧ w'.cell? ⟨G7, 1, none⟩ = some (.slice A4 r.2.length c4)) (by kernel_rfl) ⟨x0, x1, y0, y1, z0, z1, t0, t1⟩ (fun hHeld => ?_)
            refine wpAnyH_ready (rs := [0]) (by kernel_rfl) (by simp) ?_
            refine AllReadyH.cons (o := { dst := some 18, op := Go.Op.call { callee := Go.Callee.value (Go.Operand.func 10), args := #[], argTypes := #[] }, type := 4, pos := "law.go:32", after := #[], guard := none }) rfl (fun K hK => ?_) AllReadyH.nil
            go_simp
            go_at_call 10
            refine (told_any _).mono ?_
            rintro e v0 ⟨rfl, hw⟩
            replace x0 := (hw.cell (p := ⟨w.heap.size, 0, none⟩) hzx).trans x0
            replace x1 := (hw.cell (p := ⟨w.heap.size, 1, none⟩) hzx).trans x1
            replace y0 := (hw.cell (p := ⟨G5, 0, none⟩) hzy).trans y0
            replace y1 := (hw.cell (p := ⟨G5, 1, none⟩) hzy).trans y1
            replace z0 := (hw.cell (p := ⟨G6, 0, none⟩) hzz).trans z0
            replace z1 := (hw.cell (p := ⟨G6, 1, none⟩) hzz).trans z1
            replace t0 := (hw.cell (p := ⟨G7, 0, none⟩) hzt).trans t0
            replace t1 := (hw.cell (p := ⟨G7, 1, none⟩) hzt).trans t1
            replace hzt := Nat.lt_of_lt_of_le hzt hw.size
            replace hzx := Nat.lt_of_lt_of_le hzx hw.size
            replace hzy := Nat.lt_of_lt_of_le hzy hw.size
            replace hzz := Nat.lt_of_lt_of_le hzz hw.size
            replace HIs := Lib.hid (HIs.out.on hw ⟨rfl, rfl, rfl, rfl⟩)
            replace HIx := Lib.hid (HIx.out.on hw ⟨rfl, rfl, rfl, rfl⟩)
            replace HIy := Lib.hid (HIy.out.on hw ⟨rfl, rfl, rfl, rfl⟩)
            replace HIw := Lib.hid (HIw.out.on hw ⟨rfl, rfl, rfl, rfl⟩)
            replace HBc : Hid (Below w.heap.size w v0) := below_via HBc.out hw HBc.out.size ⟨rfl, rfl, rfl, rfl⟩
            clear hw
            refine hK.out _ _ ⟨x0, x1, y0, y1, z0, z1, t0, t1⟩ (fun hHeld => ?_)
            clear hK K
            try simp only [Act.put, List.setIfInBounds_toArray, List.set_cons_zero, List.set_cons_succ]
            refine wpAnyH_take (i := 1) (oi := { dst := some 19, op := Go.Op.move (Go.Operand.tmp 18), type := 4, pos := "law.go:32", after := #[{ on := 0, ground := Go.Ground.data }, { on := 0, ground := Go.Ground.chain }], guard := none }) (v := ?_) rfl (by kernel_rfl) (by kernel_rfl) (by kernel_rfl) (fun _ _ _ h => h) (Or.inl ⟨rfl, ?_⟩) (by assumption) ?_
            rotate_left
            · intro wz hSw; (try dsimp only at hSw); go_simp; try (with_reducible rfl)
            try simp only [Act.put, List.setIfInBounds_toArray, List.set_cons_zero, List.set_cons_succ]
            refine wpAnyH_take (i := 2) (oi := { dst := some 20, op := Go.Op.load 27 (Go.Operand.tmp 6), type := 27, pos := "law.go:32", after := #[{ on := 1, ground := Go.Ground.guard }], guard := some (1, true) }) (v := ?_) rfl (by kernel_rfl) (by kernel_rfl) (by kernel_rfl) (fun _ _ _ h => h) (Or.inl ⟨rfl, ?_⟩) (by assumption) ?_
            rotate_left
            · intro wz hSw; (try dsimp only at hSw); go_simp; try (with_reducible rfl)
            try simp only [Act.put, List.setIfInBounds_toArray, List.set_cons_zero, List.set_cons_succ]
            refine wpAnyH_take (i := 4) (oi := { dst := some 22, op := Go.Op.load 24 (Go.Operand.tmp 7), type := 24, pos := "law.go:32", after := #[{ on := 1, ground := Go.Ground.guard }], guard := some (1, true) }) (v := ?_) rfl (by kernel_rfl) (by kernel_rfl) (by kernel_rfl) (fun _ _ _ h => h) (Or.inl ⟨rfl, ?_⟩) (by assumption) ?_
            rotate_left
            · intro wz hSw; (try dsimp only at hSw); go_simp; try (with_reducible rfl)
            try simp only [Act.put, List.setIfInBounds_toArray, List.set_cons_zero, List.set_cons_succ]
            refine wpAnyH_ready (rs := [3]) (by kernel_rfl) (by simp) ?_
            refine AllReadyH.cons (o := { dst := some 21, op := Go.Op.call { callee := Go.Callee.value (Go.Operand.func 18), args := #[Go.Operand.tmp 20], argTypes := #[27] }, type := 24, pos := "law.go:32", after := #[{ on := 2, ground := Go.Ground.data }, { on := 1, ground := Go.Ground.chain }, { on := 1, ground := Go.Ground.guard }], guard := some (1, true) }) rfl (fun K hK => ?_) AllReadyH.nil
            go_simp
            go_at_call 18
            refine (cFrom (s := r) (by exact HIy.out.same rfl) hLr).mono ?_
            rintro e v1 ⟨B1, d1, rfl, hin, hw⟩
            replace x0 := (hw.cell (p := ⟨w.heap.size, 0, none⟩) hzx).trans x0
            replace x1 := (hw.cell (p := ⟨w.heap.size, 1, none⟩) hzx).trans x1
            replace y0 := (hw.cell (p := ⟨G5, 0, none⟩) hzy).trans y0
            replace y1 := (hw.cell (p := ⟨G5, 1, none⟩) hzy).trans y1
            replace z0 := (hw.cell (p := ⟨G6, 0, none⟩) hzz).trans z0
            replace z1 := (hw.cell (p := ⟨G6, 1, none⟩) hzz).trans z1
            replace t0 := (hw.cell (p := ⟨G7, 0, none⟩) hzt).trans t0
            replace t1 := (hw.cell (p := ⟨G7, 1, none⟩) hzt).trans t1
            replace hzt := Nat.lt_of_lt_of_le hzt hw.size
            replace hzx := Nat.lt_of_lt_of_le hzx hw.size
            replace hzy := Nat.lt_of_lt_of_le hzy hw.size
            replace hzz := Nat.lt_of_lt_of_le hzz hw.size
            replace HIs := Lib.hid (HIs.out.on hw ⟨rfl, rfl, rfl, rfl⟩)
            replace HIx := Lib.hid (HIx.out.on hw ⟨rfl, rfl, rfl, rfl⟩)
            replace HIy := Lib.hid (HIy.out.on hw ⟨rfl, rfl, rfl, rfl⟩)
            replace HIw := Lib.hid (HIw.out.on hw ⟨rfl, rfl, rfl, rfl⟩)
            replace HBc : Hid (Below w.heap.size w v1) := below_via HBc.out hw HBc.out.size ⟨rfl, rfl, rfl, rfl⟩
            have HP1 := Lib.hid hin
            clear hin
            clear hw
            refine hK.out _ _ ⟨x0, x1, y0, y1, z0, z1, t0, t1⟩ (fun hHeld => ?_)
            clear hK K
            try simp only [Act.put, List.setIfInBounds_toArray, List.set_cons_zero, List.set_cons_succ]
            refine wpAnyH_ready (rs := [5]) (by kernel_rfl) (by simp) ?_
            refine AllReadyH.cons (o := { dst := some 23, op := Go.Op.call { callee := Go.Callee.value (Go.Operand.func 17), args := #[Go.Operand.tmp 21, Go.Operand.tmp 22], argTypes := #[24, 24] }, type := 4, pos := "law.go:32", after := #[{ on := 3, ground := Go.Ground.data }, { on := 4, ground := Go.Ground.data }, { on := 3, ground := Go.Ground.chain }, { on := 1, ground := Go.Ground.guard }], guard := some (1, true) }) rfl (fun K hK => ?_) AllReadyH.nil
            go_simp
            go_at_call 17
            refine (cRefSame (s := r) (t := r) (by exact HP1.out.same rfl) (by exact HIw.out.same rfl) hLr).mono ?_
            rw [same_true rfl]
            rintro e v2 ⟨rfl, hw⟩
            replace x0 := (hw.cell (p := ⟨w.heap.size, 0, none⟩) hzx).trans x0
            replace x1 := (hw.cell (p := ⟨w.heap.size, 1, none⟩) hzx).trans x1
            replace y0 := (hw.cell (p := ⟨G5, 0, none⟩) hzy).trans y0
            replace y1 := (hw.cell (p := ⟨G5, 1, none⟩) hzy).trans y1
            replace z0 := (hw.cell (p := ⟨G6, 0, none⟩) hzz).trans z0
            replace z1 := (hw.cell (p := ⟨G6, 1, none⟩) hzz).trans z1
            replace t0 := (hw.cell (p := ⟨G7, 0, none⟩) hzt).trans t0
            replace t1 := (hw.cell (p := ⟨G7, 1, none⟩) hzt).trans t1
            replace hzt := Nat.lt_of_lt_of_le hzt hw.size
            replace hzx := Nat.lt_of_lt_of_le hzx hw.size
            replace hzy := Nat.lt_of_lt_of_le hzy hw.size
            replace hzz := Nat.lt_of_lt_of_le hzz hw.size
            replace HIs := Lib.hid (HIs.out.on hw ⟨rfl, rfl, rfl, rfl⟩)
            replace HIx := Lib.hid (HIx.out.on hw ⟨rfl, rfl, rfl, rfl⟩)
            replace HIy := Lib.hid (HIy.out.on hw ⟨rfl, rfl, rfl, rfl⟩)
            replace HIw := Lib.hid (HIw.out.on hw ⟨rfl, rfl, rfl, rfl⟩)
            replace HP1 := Lib.hid (HP1.out.on hw ⟨rfl, rfl, rfl, rfl⟩)
            replace HBc : Hid (Below w.heap.size w v2) := below_via HBc.out hw HBc.out.size ⟨rfl, rfl, rfl, rfl⟩
            clear hw
            refine hK.out _ _ ⟨x0, x1, y0, y1, z0, z1, t0, t1⟩ (fun hHeld => ?_)
            clear hK K
            try simp only [Act.put, List.setIfInBounds_toArray, List.set_cons_zero, List.set_cons_succ]
            refine wpAnyH_take (i := 6) (oi := { dst := some 24, op := Go.Op.pick (Go.Operand.tmp 19) (Go.Operand.tmp 23) (Go.Operand.const (Go.Value.bool false)), type := 4, pos := "law.go:32", after := #[{ on := 1, ground := Go.Ground.data }, { on := 5, ground := Go.Ground.data }], guard := none }) (v := ?_) rfl (by kernel_rfl) (by kernel_rfl) (by kernel_rfl) (fun _ _ _ h => h) (Or.inl ⟨rfl, ?_⟩) (by assumption) ?_
            rotate_left
            · intro wz hSw; (try dsimp only at hSw); go_simp; try (with_reducible rfl)
            try simp only [Act.put, List.setIfInBounds_toArray, List.set_cons_zero, List.set_cons_succ]
            refine wpAnyH_take (i := 7) (oi := { dst := some 25, op := Go.Op.move (Go.Operand.tmp 24), type := 4, pos := "law.go:32", after := #[{ on := 6, ground := Go.Ground.data }, { on := 5, ground := Go.Ground.chain }], guard := none }) (v := ?_) rfl (by kernel_rfl) (by kernel_rfl) (by kernel_rfl) (fun _ _ _ h => h) (Or.inl ⟨rfl, ?_⟩) (by assumption) ?_
            rotate_left
            · intro wz hSw; (try dsimp only at hSw); go_simp; try (with_reducible rfl)
            try simp only [Act.put, List.setIfInBounds_toArray, List.set_cons_zero, List.set_cons_succ]
            refine wpAnyH_take (i := 8) (oi := { dst := some 26, op := Go.Op.load 27 (Go.Operand.tmp 6), type := 27, pos := "law.go:32", after := #[{ on := 7, ground := Go.Ground.guard }], guard := some (7, true) }) (v := ?_) rfl (by kernel_rfl) (by kernel_rfl) (by kernel_rfl) (fun _ _ _ h => h) (Or.inl ⟨rfl, ?_⟩) (by assumption) ?_
            rotate_left
            · intro wz hSw; (try dsimp only at hSw); go_simp; try (with_reducible rfl)
            try simp only [Act.put, List.setIfInBounds_toArray, List.set_cons_zero, List.set_cons_succ]
            refine wpAnyH_ready (rs := [9]) (by kernel_rfl) (by simp) ?_
            refine AllReadyH.cons (o := { dst := some 27, op := Go.Op.call { callee := Go.Callee.value (Go.Operand.func 11), args := #[Go.Operand.tmp 26], argTypes := #[27] }, type := 4, pos := "law.go:32", after := #[{ on := 8, ground := Go.Ground.data }, { on := 7, ground := Go.Ground.chain }, { on := 7, ground := Go.Ground.guard }], guard := some (7, true) }) rfl (fun K hK => ?_) AllReadyH.nil
            go_simp
            go_at_call 11
            refine (cRight (s := r) (by exact HIy.out.same rfl) hLr).mono ?_
            rw [HRr.out]
            rintro e v3 ⟨rfl, hw⟩
            replace x0 := (hw.cell (p := ⟨w.heap.size, 0, none⟩) hzx).trans x0
            replace x1 := (hw.cell (p := ⟨w.heap.size, 1, none⟩) hzx).trans x1
            replace y0 := (hw.cell (p := ⟨G5, 0, none⟩) hzy).trans y0
            replace y1 := (hw.cell (p := ⟨G5, 1, none⟩) hzy).trans y1
            replace z0 := (hw.cell (p := ⟨G6, 0, none⟩) hzz).trans z0
            replace z1 := (hw.cell (p := ⟨G6, 1, none⟩) hzz).trans z1
            replace t0 := (hw.cell (p := ⟨G7, 0, none⟩) hzt).trans t0
            replace t1 := (hw.cell (p := ⟨G7, 1, none⟩) hzt).trans t1
            replace hzt := Nat.lt_of_lt_of_le hzt hw.size
            replace hzx := Nat.lt_of_lt_of_le hzx hw.size
            replace hzy := Nat.lt_of_lt_of_le hzy hw.size
            replace hzz := Nat.lt_of_lt_of_le hzz hw.size
            replace HIs := Lib.hid (HIs.out.on hw ⟨rfl, rfl, rfl, rfl⟩)
            replace HIx := Lib.hid (HIx.out.on hw ⟨rfl, rfl, rfl, rfl⟩)
            replace HIy := Lib.hid (HIy.out.on hw ⟨rfl, rfl, rfl, rfl⟩)
            replace HIw := Lib.hid (HIw.out.on hw ⟨rfl, rfl, rfl, rfl⟩)
            replace HBc : Hid (Below w.heap.size w v3) := below_via HBc.out hw HBc.out.size ⟨rfl, rfl, rfl, rfl⟩
            clear hw
            refine hK.out _ _ ⟨x0, x1, y0, y1, z0, z1, t0, t1⟩ (fun hHeld => ?_)
            clear hK K
            try simp only [Act.put, List.setIfInBounds_toArray, List.set_cons_zero, List.set_cons_succ]
            refine wpAnyH_take (i := 10) (oi := { dst := some 28, op := Go.Op.pick (Go.Operand.tmp 25) (Go.Operand.tmp 27) (Go.Operand.const (Go.Value.bool false)), type := 4, pos := "law.go:32", after := #[{ on := 7, ground := Go.Ground.data }, { on := 9, ground := Go.Ground.data }], guard := none }) (v := ?_) rfl (by kernel_rfl) (by kernel_rfl) (by kernel_rfl) (fun _ _ _ h => h) (Or.inl ⟨rfl, ?_⟩) (by assumption) ?_
            rotate_left
            · intro wz hSw; (try dsimp only at hSw); go_simp; try (with_reducible rfl)
            try simp only [Act.put, List.setIfInBounds_toArray, List.set_cons_zero, List.set_cons_succ]
            refine wpAnyH_take (i := 11) (oi := { dst := some 29, op := Go.Op.move (Go.Operand.tmp 28), type := 4, pos := "law.go:32", after := #[{ on := 10, ground := Go.Ground.data }, { on := 9, ground := Go.Ground.chain }], guard := none }) (v := ?_) rfl (by kernel_rfl) (by kernel_rfl) (by kernel_rfl) (fun _ _ _ h => h) (Or.inl ⟨rfl, ?_⟩) (by assumption) ?_
            rotate_left
            · intro wz hSw; (try dsimp only at hSw); go_simp; try (with_reducible rfl)
            try simp only [Act.put, List.setIfInBounds_toArray, List.set_cons_zero, List.set_cons_succ]
            refine wpAnyH_take (i := 12) (oi := { dst := some 30, op := Go.Op.load 27 (Go.Operand.tmp 5), type := 27, pos := "law.go:32", after := #[{ on := 11, ground := Go.Ground.guard }], guard := some (11, true) }) (v := ?_) rfl (by kernel_rfl) (by kernel_rfl) (by kernel_rfl) (fun _ _ _ h => h) (Or.inl ⟨rfl, ?_⟩) (by assumption) ?_
            rotate_left
            · intro wz hSw; (try dsimp only at hSw); go_simp; try (with_reducible rfl)
            try simp only [Act.put, List.setIfInBounds_toArray, List.set_cons_zero, List.set_cons_succ]
            refine wpAnyH_take (i := 13) (oi := { dst := some 31, op := Go.Op.move (Go.Operand.tmp 1), type := 3, pos := "law.go:32", after := #[{ on := 11, ground := Go.Ground.guard }], guard := some (11, true) }) (v := ?_) rfl (by kernel_rfl) (by kernel_rfl) (by kernel_rfl) (fun _ _ _ h => h) (Or.inl ⟨rfl, ?_⟩) (by assumption) ?_
            rotate_left
            · intro wz hSw; (try dsimp only at hSw); go_simp; try (with_reducible rfl)
            try simp only [Act.put, List.setIfInBounds_toArray, List.set_cons_zero, List.set_cons_succ]
            refine wpAnyH_take (i := 15) (oi := { dst := some 33, op := Go.Op.load 24 (Go.Operand.tmp 2), type := 24, pos := "law.go:32", after := #[{ on := 11, ground := Go.Ground.guard }], guard := some (11, true) }) (v := ?_) rfl (by kernel_rfl) (by kernel_rfl) (by kernel_rfl) (fun _ _ _ h => h) (Or.inl ⟨rfl, ?_⟩) (by assumption) ?_
            rotate_left
            · intro wz hSw; (try dsimp only at hSw); go_simp; try (with_reducible rfl)
            try simp only [Act.put, List.setIfInBounds_toArray, List.set_cons_zero, List.set_cons_succ]
            refine wpAnyH_take (i := 16) (oi := { dst := some 34, op := Go.Op.move (Go.Operand.tmp 1), type := 3, pos := "law.go:32", after := #[{ on := 11, ground := Go.Ground.guard }], guard := some (11, true) }) (v := ?_) rfl (by kernel_rfl) (by kernel_rfl) (by kernel_rfl) (fun _ _ _ h => h) (Or.inl ⟨rfl, ?_⟩) (by assumption) ?_
            rotate_left
            · intro wz hSw; (try dsimp only at hSw); go_simp; try (with_reducible rfl)
            try simp only [Act.put, List.setIfInBounds_toArray, List.set_cons_zero, List.set_cons_succ]
            refine wpAnyH_ready (rs := [14]) (by kernel_rfl) (by simp) ?_
            refine AllReadyH.cons (o := { dst := some 32, op := Go.Op.call { callee := Go.Callee.value (Go.Operand.func 19), args := #[Go.Operand.tmp 30, Go.Operand.tmp 31], argTypes := #[27, 3] }, type := 4, pos := "law.go:32", after := #[{ on := 12, ground := Go.Ground.data }, { on := 13, ground := Go.Ground.data }, { on := 11, ground := Go.Ground.chain }, { on := 11, ground := Go.Ground.guard }], guard := some (11, true) }) rfl (fun K hK => ?_) AllReadyH.nil
            go_simp
            go_at_call 19
            refine (cHas (s := s) (by exact HIx.out.same rfl) hLs HOs.out m).mono ?_
            rw [← ref_has_eq HOs.out]
            rintro e v4 ⟨rfl, hw⟩
            replace x0 := (hw.cell (p := ⟨w.heap.size, 0, none⟩) hzx).trans x0
            replace x1 := (hw.cell (p := ⟨w.heap.size, 1, none⟩) hzx).trans x1
            replace y0 := (hw.cell (p := ⟨G5, 0, none⟩) hzy).trans y0
            replace y1 := (hw.cell (p := ⟨G5, 1, none⟩) hzy).trans y1
            replace z0 := (hw.cell (p := ⟨G6, 0, none⟩) hzz).trans z0
            replace z1 := (hw.cell (p := ⟨G6, 1, none⟩) hzz).trans z1
            replace t0 := (hw.cell (p := ⟨G7, 0, none⟩) hzt).trans t0
            replace t1 := (hw.cell (p := ⟨G7, 1, none⟩) hzt).trans t1
            replace hzt := Nat.lt_of_lt_of_le hzt hw.size
            replace hzx := Nat.lt_of_lt_of_le hzx hw.size
            replace hzy := Nat.lt_of_lt_of_le hzy hw.size
            replace hzz := Nat.lt_of_lt_of_le hzz hw.size
            replace HIs := Lib.hid (HIs.out.on hw ⟨rfl, rfl, rfl, rfl⟩)
            replace HIx := Lib.hid (HIx.out.on hw ⟨rfl, rfl, rfl, rfl⟩)
            replace HIy := Lib.hid (HIy.out.on hw ⟨rfl, rfl, rfl, rfl⟩)
            replace HIw := Lib.hid (HIw.out.on hw ⟨rfl, rfl, rfl, rfl⟩)
            replace HBc : Hid (Below w.heap.size w v4) := below_via HBc.out hw HBc.out.size ⟨rfl, rfl, rfl, rfl⟩
            clear hw
            refine hK.out _ _ ⟨x0, x1, y0, y1, z0, z1, t0, t1⟩ (fun hHeld => ?_)
            clear hK K
            try simp only [Act.put, List.setIfInBounds_toArray, List.set_cons_zero, List.set_cons_succ]
            refine wpAnyH_ready (rs := [17]) (by kernel_rfl) (by simp) ?_
            refine AllReadyH.cons (o := { dst := some 35, op := Go.Op.call { callee := Go.Callee.value (Go.Operand.func 20), args := #[Go.Operand.tmp 33, Go.Operand.tmp 34], argTypes := #[24, 3] }, type := 4, pos := "law.go:32", after := #[{ on := 15, ground := Go.Ground.data }, { on := 16, ground := Go.Ground.data }, { on := 14, ground := Go.Ground.chain }, { on := 11, ground := Go.Ground.guard }], guard := some (11, true) }) rfl (fun K hK => ?_) AllReadyH.nil
            go_simp
            go_at_call 20
            refine (cRefHas (s := s) (by exact HIs.out.same rfl) hLs m).mono ?_
            rintro e v5 ⟨rfl, hw⟩
            replace x0 := (hw.cell (p := ⟨w.heap.size, 0, none⟩) hzx).trans x0
            replace x1 := (hw.cell (p := ⟨w.heap.size, 1, none⟩) hzx).trans x1
            replace y0 := (hw.cell (p := ⟨G5, 0, none⟩) hzy).trans y0
            replace y1 := (hw.cell (p := ⟨G5, 1, none⟩) hzy).trans y1
            replace z0 := (hw.cell (p := ⟨G6, 0, none⟩) hzz).trans z0
            replace z1 := (hw.cell (p := ⟨G6, 1, none⟩) hzz).trans z1
            replace t0 := (hw.cell (p := ⟨G7, 0, none⟩) hzt).trans t0
            replace t1 := (hw.cell (p := ⟨G7, 1, none⟩) hzt).trans t1
            replace hzt := Nat.lt_of_lt_of_le hzt hw.size
            replace hzx := Nat.lt_of_lt_of_le hzx hw.size
            replace hzy := Nat.lt_of_lt_of_le hzy hw.size
            replace hzz := Nat.lt_of_lt_of_le hzz hw.size
            replace HIs := Lib.hid (HIs.out.on hw ⟨rfl, rfl, rfl, rfl⟩)
            replace HIx := Lib.hid (HIx.out.on hw ⟨rfl, rfl, rfl, rfl⟩)
            replace HIy := Lib.hid (HIy.out.on hw ⟨rfl, rfl, rfl, rfl⟩)
            replace HIw := Lib.hid (HIw.out.on hw ⟨rfl, rfl, rfl, rfl⟩)
            replace HBc : Hid (Below w.heap.size w v5) := below_via HBc.out hw HBc.out.size ⟨rfl, rfl, rfl, rfl⟩
            clear hw
            refine hK.out _ _ ⟨x0, x1, y0, y1, z0, z1, t0, t1⟩ (fun hHeld => ?_)
            clear hK K
            try simp only [Act.put, List.setIfInBounds_toArray, List.set_cons_zero, List.set_cons_succ]
            refine wpAnyH_take (i := 18) (oi := { dst := some 36, op := Go.Op.binOp Go.BinOp.eql 4 (Go.Operand.tmp 32) (Go.Operand.tmp 35) 4, type := 4, pos := "law.go:32", after := #[{ on := 14, ground := Go.Ground.data }, { on := 17, ground := Go.Ground.data }, { on := 11, ground := Go.Ground.guard }], guard := some (11, true) }) (v := ?_) rfl (by kernel_rfl) (by kernel_rfl) (by kernel_rfl) (fun _ _ _ h => h) (Or.inl ⟨rfl, ?_⟩) (by assumption) ?_
            rotate_left
            · intro wz hSw; (try dsimp only at hSw); go_simp; try (with_reducible rfl)
            try simp only [Act.put, List.setIfInBounds_toArray, List.set_cons_zero, List.set_cons_succ]
            refine wpAnyH_take (i := 19) (oi := { dst := some 37, op := Go.Op.pick (Go.Operand.tmp 29) (Go.Operand.tmp 36) (Go.Operand.const (Go.Value.bool false)), type := 4, pos := "law.go:32", after := #[{ on := 11, ground := Go.Ground.data }, { on := 18, ground := Go.Ground.data }], guard := none }) (v := ?_) rfl (by kernel_rfl) (by kernel_rfl) (by kernel_rfl) (fun _ _ _ h => h) (Or.inl ⟨rfl, ?_⟩) (by assumption) ?_
            rotate_left
            · intro wz hSw; (try dsimp only at hSw); go_simp; try (with_reducible rfl)
            try simp only [Act.put, List.setIfInBounds_toArray, List.set_cons_zero, List.set_cons_succ]
            refine wpAnyH_take (i := 20) (oi := { dst := some 38, op := Go.Op.move (Go.Operand.tmp 37), type := 4, pos := "law.go:32", after := #[{ on := 19, ground := Go.Ground.data }, { on := 17, ground := Go.Ground.chain }], guard := none }) (v := ?_) rfl (by kernel_rfl) (by kernel_rfl) (by kernel_rfl) (fun _ _ _ h => h) (Or.inl ⟨rfl, ?_⟩) (by assumption) ?_
            rotate_left
            · intro wz hSw; (try dsimp only at hSw); go_simp; try (with_reducible rfl)
            try simp only [Act.put, List.setIfInBounds_toArray, List.set_cons_zero, List.set_cons_succ]
            refine wpAnyH_take (i := 21) (oi := { dst := some 39, op := Go.Op.load 27 (Go.Operand.tmp 6), type := 27, pos := "law.go:32", after := #[{ on := 20, ground := Go.Ground.guard }], guard := some (20, true) }) (v := ?_) rfl (by kernel_rfl) (by kernel_rfl) (by kernel_rfl) (fun _ _ _ h => h) (Or.inl ⟨rfl, ?_⟩) (by assumption) ?_
            rotate_left
            · intro wz hSw; (try dsimp only at hSw); go_simp; try (with_reducible rfl)
            try simp only [Act.put, List.setIfInBounds_toArray, List.set_cons_zero, List.set_cons_succ]
            refine wpAnyH_take (i := 22) (oi := { dst := some 40, op := Go.Op.move (Go.Operand.tmp 1), type := 3, pos := "law.go:32", after := #[{ on := 20, ground := Go.Ground.guard }], guard := some (20, true) }) (v := ?_) rfl (by kernel_rfl) (by kernel_rfl) (by kernel_rfl) (fun _ _ _ h => h) (Or.inl ⟨rfl, ?_⟩) (by assumption) ?_
            rotate_left
            · intro wz hSw; (try dsimp only at hSw); go_simp; try (with_reducible rfl)
            try simp only [Act.put, List.setIfInBounds_toArray, List.set_cons_zero, List.set_cons_succ]
            refine wpAnyH_take (i := 24) (oi := { dst := some 42, op := Go.Op.move (Go.Operand.tmp 1), type := 3, pos := "law.go:32", after := #[{ on := 20, ground := Go.Ground.guard }], guard := some (20, true) }) (v := ?_) rfl (by kernel_rfl) (by kernel_rfl) (by kernel_rfl) (fun _ _ _ h => h) (Or.inl ⟨rfl, ?_⟩) (by assumption) ?_
            rotate_left
            · intro wz hSw; (try dsimp only at hSw); go_simp; try (with_reducible rfl)
            try simp only [Act.put, List.setIfInBounds_toArray, List.set_cons_zero, List.set_cons_succ]
            refine wpAnyH_take (i := 25) (oi := { dst := some 43, op := Go.Op.binOp Go.BinOp.geq 3 (Go.Operand.tmp 42) (Go.Operand.const (Go.Value.int Go.IntKind.i64 1)) 3, type := 4, pos := "law.go:32", after := #[{ on := 24, ground := Go.Ground.data }, { on := 20, ground := Go.Ground.guard }], guard := some (20, true) }) (v := ?_) rfl (by kernel_rfl) (by kernel_rfl) (by kernel_rfl) (fun _ _ _ h => h) (Or.inl ⟨rfl, ?_⟩) (by assumption) ?_
            rotate_left
            · intro wz hSw; (try dsimp only at hSw); go_simp; try (with_reducible rfl)
            try simp only [Act.put, List.setIfInBounds_toArray, List.set_cons_zero, List.set_cons_succ]
            refine wpAnyH_ready (rs := [23]) (by kernel_rfl) (by simp) ?_
            refine AllReadyH.cons (o := { dst := some 41, op := Go.Op.call { callee := Go.Callee.value (Go.Operand.func 19), args := #[Go.Operand.tmp 39, Go.Operand.tmp 40], argTypes := #[27, 3] }, type := 4, pos := "law.go:32", after := #[{ on := 21, ground := Go.Ground.data }, { on := 22, ground := Go.Ground.data }, { on := 20, ground := Go.Ground.chain }, { on := 20, ground := Go.Ground.guard }], guard := some (20, true) }) rfl (fun K hK => ?_) AllReadyH.nil
            go_simp
            go_at_call 19
            refine (cHas (s := r) (by exact HIy.out.same rfl) hLr HOr.out m).mono ?_
            rw [HHm.out]
            rintro e v6 ⟨rfl, hw⟩
            replace x0 := (hw.cell (p := ⟨w.heap.size, 0, none⟩) hzx).trans x0
            replace x1 := (hw.cell (p := ⟨w.heap.size, 1, none⟩) hzx).trans x1
            replace y0 := (hw.cell (p := ⟨G5, 0, none⟩) hzy).trans y0
            replace y1 := (hw.cell (p := ⟨G5, 1, none⟩) hzy).trans y1
            replace z0 := (hw.cell (p := ⟨G6, 0, none⟩) hzz).trans z0
            replace z1 := (hw.cell (p := ⟨G6, 1, none⟩) hzz).trans z1
            replace t0 := (hw.cell (p := ⟨G7, 0, none⟩) hzt).trans t0
            replace t1 := (hw.cell (p := ⟨G7, 1, none⟩) hzt).trans t1
            replace hzt := Nat.lt_of_lt_of_le hzt hw.size
            replace hzx := Nat.lt_of_lt_of_le hzx hw.size
            replace hzy := Nat.lt_of_lt_of_le hzy hw.size
            replace hzz := Nat.lt_of_lt_of_le hzz hw.size
            replace HIs := Lib.hid (HIs.out.on hw ⟨rfl, rfl, rfl, rfl⟩)
            replace HIx := Lib.hid (HIx.out.on hw ⟨rfl, rfl, rfl, rfl⟩)
            replace HIy := Lib.hid (HIy.out.on hw ⟨rfl, rfl, rfl, rfl⟩)
            replace HIw := Lib.hid (HIw.out.on hw ⟨rfl, rfl, rfl, rfl⟩)
            replace HBc : Hid (Below w.heap.size w v6) := below_via HBc.out hw HBc.out.size ⟨rfl, rfl, rfl, rfl⟩
            clear hw
            refine hK.out _ _ ⟨x0, x1, y0, y1, z0, z1, t0, t1⟩ (fun hHeld => ?_)
            clear hK K
            try simp only [Act.put, List.setIfInBounds_toArray, List.set_cons_zero, List.set_cons_succ]
            refine wpAnyH_take (i := 26) (oi := { dst := some 44, op := Go.Op.move (Go.Operand.tmp 43), type := 4, pos := "law.go:32", after := #[{ on := 25, ground := Go.Ground.data }, { on := 23, ground := Go.Ground.chain }, { on := 20, ground := Go.Ground.guard }], guard := some (20, true) }) (v := ?_) rfl (by kernel_rfl) (by kernel_rfl) (by kernel_rfl) (fun _ _ _ h => h) (Or.inl ⟨rfl, ?_⟩) (by assumption) ?_
            rotate_left
            · intro wz hSw; (try dsimp only at hSw); go_simp; try (with_reducible rfl)
            try simp only [Act.put, List.setIfInBounds_toArray, List.set_cons_zero, List.set_cons_succ]
            refine wpAnyH_take (i := 27) (oi := { dst := some 45, op := Go.Op.move (Go.Operand.tmp 1), type := 3, pos := "law.go:32", after := #[{ on := 26, ground := Go.Ground.guard }], guard := some (26, true) }) (v := undef) rfl (by kernel_rfl) (by kernel_rfl) (by kernel_rfl) (fun _ _ _ h => h) (Or.inr ⟨rfl, rfl⟩) (by assumption) ?_
            try simp only [Act.put, List.setIfInBounds_toArray, List.set_cons_zero, List.set_cons_succ]
            refine wpAnyH_take (i := 28) (oi := { dst := some 46, op := Go.Op.binOp Go.BinOp.leq 3 (Go.Operand.tmp 45) (Go.Operand.const (Go.Value.int Go.IntKind.i64 1048576)) 3, type := 4, pos := "law.go:32", after := #[{ on := 27, ground := Go.Ground.data }, { on := 26, ground := Go.Ground.guard }], guard := some (26, true) }) (v := undef) rfl (by kernel_rfl) (by kernel_rfl) (by kernel_rfl) (fun _ _ _ h => h) (Or.inr ⟨rfl, rfl⟩) (by assumption) ?_
            try simp only [Act.put, List.setIfInBounds_toArray, List.set_cons_zero, List.set_cons_succ]
            refine wpAnyH_take (i := 29) (oi := { dst := some 47, op := Go.Op.pick (Go.Operand.tmp 44) (Go.Operand.tmp 46) (Go.Operand.const (Go.Value.bool false)), type := 4, pos := "law.go:32", after := #[{ on := 26, ground := Go.Ground.data }, { on := 28, ground := Go.Ground.data }, { on := 20, ground := Go.Ground.guard }], guard := some (20, true) }) (v := ?_) rfl (by kernel_rfl) (by kernel_rfl) (by kernel_rfl) (fun _ _ _ h => h) (Or.inl ⟨rfl, ?_⟩) (by assumption) ?_
            rotate_left
            · intro wz hSw; (try dsimp only at hSw); go_simp; try (with_reducible rfl)
            try simp only [Act.put, List.setIfInBounds_toArray, List.set_cons_zero, List.set_cons_succ]
            refine wpAnyH_take (i := 30) (oi := { dst := some 48, op := Go.Op.binOp Go.BinOp.eql 4 (Go.Operand.tmp 41) (Go.Operand.tmp 47) 4, type := 4, pos := "law.go:32", after := #[{ on := 23, ground := Go.Ground.data }, { on := 29, ground := Go.Ground.data }, { on := 20, ground := Go.Ground.guard }], guard := some (20, true) }) (v := ?_) rfl (by kernel_rfl) (by kernel_rfl) (by kernel_rfl) (fun _ _ _ h => h) (Or.inl ⟨rfl, ?_⟩) (by assumption) ?_
            rotate_left
            · intro wz hSw; (try dsimp only at hSw); go_simp; try (with_reducible rfl)
            try simp only [Act.put, List.setIfInBounds_toArray, List.set_cons_zero, List.set_cons_succ]
            refine wpAnyH_take (i := 31) (oi := { dst := some 49, op := Go.Op.pick (Go.Operand.tmp 38) (Go.Operand.tmp 48) (Go.Operand.const (Go.Value.bool false)), type := 4, pos := "law.go:32", after := #[{ on := 20, ground := Go.Ground.data }, { on := 30, ground := Go.Ground.data }], guard := none }) (v := ?_) rfl (by kernel_rfl) (by kernel_rfl) (by kernel_rfl) (fun _ _ _ h => h) (Or.inl ⟨rfl, ?_⟩) (by assumption) ?_
            rotate_left
            · intro wz hSw; (try dsimp only at hSw); go_simp; try (with_reducible rfl)
            try simp only [Act.put, List.setIfInBounds_toArray, List.set_cons_zero, List.set_cons_succ]
            refine wpAnyH_take (i := 32) (oi := { dst := some 50, op := Go.Op.move (Go.Operand.tmp 49), type := 4, pos := "law.go:32", after := #[{ on := 31, ground := Go.Ground.data }, { on := 26, ground := Go.Ground.chain }], guard := none }) (v := ?_) rfl (by kernel_rfl) (by kernel_rfl) (by kernel_rfl) (fun _ _ _ h => h) (Or.inl ⟨rfl, ?_⟩) (by assumption) ?_
            rotate_left
            · intro wz hSw; (try dsimp only at hSw); go_simp; try (with_reducible rfl)
            try simp only [Act.put, List.setIfInBounds_toArray, List.set_cons_zero, List.set_cons_succ]
            refine wpAnyH_take (i := 33) (oi := { dst := some 51, op := Go.Op.load 27 (Go.Operand.tmp 6), type := 27, pos := "law.go:32", after := #[{ on := 32, ground := Go.Ground.guard }], guard := some (32, true) }) (v := ?_) rfl (by kernel_rfl) (by kernel_rfl) (by kernel_rfl) (fun _ _ _ h => h) (Or.inl ⟨rfl, ?_⟩) (by assumption) ?_
            rotate_left
            · intro wz hSw; (try dsimp only at hSw); go_simp; try (with_reducible rfl)
            try simp only [Act.put, List.setIfInBounds_toArray, List.set_cons_zero, List.set_cons_succ]
            refine wpAnyH_take (i := 35) (oi := { dst := some 53, op := Go.Op.load 24 (Go.Operand.tmp 7), type := 24, pos := "law.go:32", after := #[{ on := 32, ground := Go.Ground.guard }], guard := some (32, true) }) (v := ?_) rfl (by kernel_rfl) (by kernel_rfl) (by kernel_rfl) (fun _ _ _ h => h) (Or.inl ⟨rfl, ?_⟩) (by assumption) ?_
            rotate_left
            · intro wz hSw; (try dsimp only at hSw); go_simp; try (with_reducible rfl)
            try simp only [Act.put, List.setIfInBounds_toArray, List.set_cons_zero, List.set_cons_succ]
            refine wpAnyH_ready (rs := [34]) (by kernel_rfl) (by simp) ?_
            refine AllReadyH.cons (o := { dst := some 52, op := Go.Op.call { callee := Go.Callee.value (Go.Operand.func 21), args := #[Go.Operand.tmp 51], argTypes := #[27] }, type := 3, pos := "law.go:32", after := #[{ on := 33, ground := Go.Ground.data }, { on := 32, ground := Go.Ground.chain }, { on := 32, ground := Go.Ground.guard }], guard := some (32, true) }) rfl (fun K hK => ?_) AllReadyH.nil
            go_simp
            go_at_call 21
            refine (cCount (s := r) (A := A3) (c := c3) hr0 hUr hLr).mono ?_
            rintro e v7 ⟨rfl, hw⟩
            replace x0 := (hw.cell (p := ⟨w.heap.size, 0, none⟩) hzx).trans x0
            replace x1 := (hw.cell (p := ⟨w.heap.size, 1, none⟩) hzx).trans x1
            replace y0 := (hw.cell (p := ⟨G5, 0, none⟩) hzy).trans y0
            replace y1 := (hw.cell (p := ⟨G5, 1, none⟩) hzy).trans y1
            replace z0 := (hw.cell (p := ⟨G6, 0, none⟩) hzz).trans z0
            replace z1 := (hw.cell (p := ⟨G6, 1, none⟩) hzz).trans z1
            replace t0 := (hw.cell (p := ⟨G7, 0, none⟩) hzt).trans t0
            replace t1 := (hw.cell (p := ⟨G7, 1, none⟩) hzt).trans t1
            replace hzt := Nat.lt_of_lt_of_le hzt hw.size
            replace hzx := Nat.lt_of_lt_of_le hzx hw.size
            replace hzy := Nat.lt_of_lt_of_le hzy hw.size
            replace hzz := Nat.lt_of_lt_of_le hzz hw.size
            replace HIs := Lib.hid (HIs.out.on hw ⟨rfl, rfl, rfl, rfl⟩)
            replace HIx := Lib.hid (HIx.out.on hw ⟨rfl, rfl, rfl, rfl⟩)
            replace HIy := Lib.hid (HIy.out.on hw ⟨rfl, rfl, rfl, rfl⟩)
            replace HIw := Lib.hid (HIw.out.on hw ⟨rfl, rfl, rfl, rfl⟩)
            replace HBc : Hid (Below w.heap.size w v7) := below_via HBc.out hw HBc.out.size ⟨rfl, rfl, rfl, rfl⟩
            clear hw
            refine hK.out _ _ ⟨x0, x1, y0, y1, z0, z1, t0, t1⟩ (fun hHeld => ?_)
            clear hK K
            try simp only [Act.put, List.setIfInBounds_toArray, List.set_cons_zero, List.set_cons_succ]
            refine wpAnyH_ready (rs := [36]) (by kernel_rfl) (by simp) ?_
            refine AllReadyH.cons (o := { dst := some 54, op := Go.Op.call { callee := Go.Callee.value (Go.Operand.func 22), args := #[Go.Operand.tmp 53], argTypes := #[24] }, type := 3, pos := "law.go:32", after := #[{ on := 35, ground := Go.Ground.data }, { on := 34, ground := Go.Ground.chain }, { on := 32, ground := Go.Ground.guard }], guard := some (32, true) }) rfl (fun K hK => ?_) AllReadyH.nil
            go_simp
            go_at_call 22
            refine (cRefCount (s := r) (A := A4) (c := c4) hr0 hUr hLr).mono ?_
            rintro e v8 ⟨rfl, hw⟩
            replace x0 := (hw.cell (p := ⟨w.heap.size, 0, none⟩) hzx).trans x0
            replace x1 := (hw.cell (p := ⟨w.heap.size, 1, none⟩) hzx).trans x1
            replace y0 := (hw.cell (p := ⟨G5, 0, none⟩) hzy).trans y0
            replace y1 := (hw.cell (p := ⟨G5, 1, none⟩) hzy).trans y1
            replace z0 := (hw.cell (p := ⟨G6, 0, none⟩) hzz).trans z0
            replace z1 := (hw.cell (p := ⟨G6, 1, none⟩) hzz).trans z1
            replace t0 := (hw.cell (p := ⟨G7, 0, none⟩) hzt).trans t0
            replace t1 := (hw.cell (p := ⟨G7, 1, none⟩) hzt).trans t1
            replace hzt := Nat.lt_of_lt_of_le hzt hw.size
            replace hzx := Nat.lt_of_lt_of_le hzx hw.size
            replace hzy := Nat.lt_of_lt_of_le hzy hw.size
            replace hzz := Nat.lt_of_lt_of_le hzz hw.size
            replace HIs := Lib.hid (HIs.out.on hw ⟨rfl, rfl, rfl, rfl⟩)
            replace HIx := Lib.hid (HIx.out.on hw ⟨rfl, rfl, rfl, rfl⟩)
            replace HIy := Lib.hid (HIy.out.on hw ⟨rfl, rfl, rfl, rfl⟩)
            replace HIw := Lib.hid (HIw.out.on hw ⟨rfl, rfl, rfl, rfl⟩)
            replace HBc : Hid (Below w.heap.size w v8) := below_via HBc.out hw HBc.out.size ⟨rfl, rfl, rfl, rfl⟩
            clear hw
            refine hK.out _ _ ⟨x0, x1, y0, y1, z0, z1, t0, t1⟩ (fun hHeld => ?_)
            clear hK K
            try simp only [Act.put, List.setIfInBounds_toArray, List.set_cons_zero, List.set_cons_succ]
            refine wpAnyH_take (i := 37) (oi := { dst := some 55, op := Go.Op.binOp Go.BinOp.eql 3 (Go.Operand.tmp 52) (Go.Operand.tmp 54) 3, type := 4, pos := "law.go:32", after := #[{ on := 34, ground := Go.Ground.data }, { on := 36, ground := Go.Ground.data }, { on := 32, ground := Go.Ground.guard }], guard := some (32, true) }) (v := ?_) rfl (by kernel_rfl) (by kernel_rfl) (by kernel_rfl) (fun _ _ _ h => h) (Or.inl ⟨rfl, ?_⟩) (by assumption) ?_
            rotate_left
            · intro wz hSw; (try dsimp only at hSw); go_simp; try (with_reducible rfl)
            try simp only [Act.put, List.setIfInBounds_toArray, List.set_cons_zero, List.set_cons_succ]
            refine wpAnyH_take (i := 38) (oi := { dst := some 56, op := Go.Op.pick (Go.Operand.tmp 50) (Go.Operand.tmp 55) (Go.Operand.const (Go.Value.bool false)), type := 4, pos := "law.go:32", after := #[{ on := 32, ground := Go.Ground.data }, { on := 37, ground := Go.Ground.data }], guard := none }) (v := ?_) rfl (by kernel_rfl) (by kernel_rfl) (by kernel_rfl) (fun _ _ _ h => h) (Or.inl ⟨rfl, ?_⟩) (by assumption) ?_
            rotate_left
            · intro wz hSw; (try dsimp only at hSw); go_simp; try (with_reducible rfl)
            try simp only [Act.put, List.setIfInBounds_toArray, List.set_cons_zero, List.set_cons_succ]
            refine wpAnyH_take (i := 39) (oi := { dst := some 57, op := Go.Op.move (Go.Operand.tmp 56), type := 4, pos := "law.go:32", after := #[{ on := 38, ground := Go.Ground.data }, { on := 36, ground := Go.Ground.chain }], guard := none }) (v := ?_) rfl (by kernel_rfl) (by kernel_rfl) (by kernel_rfl) (fun _ _ _ h => h) (Or.inl ⟨rfl, ?_⟩) (by assumption) ?_
            rotate_left
            · intro wz hSw; (try dsimp only at hSw); go_simp; try (with_reducible rfl)
            try simp only [Act.put, List.setIfInBounds_toArray, List.set_cons_zero, List.set_cons_succ]
            refine wpAnyH_take (i := 40) (oi := { dst := some 58, op := Go.Op.load 27 (Go.Operand.tmp 6), type := 27, pos := "law.go:32", after := #[{ on := 39, ground := Go.Ground.guard }], guard := some (39, true) }) (v := ?_) rfl (by kernel_rfl) (by kernel_rfl) (by kernel_rfl) (fun _ _ _ h => h) (Or.inl ⟨rfl, ?_⟩) (by assumption) ?_
            rotate_left
            · intro wz hSw; (try dsimp only at hSw); go_simp; try (with_reducible rfl)
            try simp only [Act.put, List.setIfInBounds_toArray, List.set_cons_zero, List.set_cons_succ]
            refine wpAnyH_take (i := 42) (oi := { dst := some 60, op := Go.Op.load 24 (Go.Operand.tmp 7), type := 24, pos := "law.go:32", after := #[{ on := 39, ground := Go.Ground.guard }], guard := some (39, true) }) (v := ?_) rfl (by kernel_rfl) (by kernel_rfl) (by kernel_rfl) (fun _ _ _ h => h) (Or.inl ⟨rfl, ?_⟩) (by assumption) ?_
            rotate_left
            · intro wz hSw; (try dsimp only at hSw); go_simp; try (with_reducible rfl)
            try simp only [Act.put, List.setIfInBounds_toArray, List.set_cons_zero, List.set_cons_succ]
            refine wpAnyH_ready (rs := [41]) (by kernel_rfl) (by simp) ?_
            refine AllReadyH.cons (o := { dst := some 59, op := Go.Op.call { callee := Go.Callee.value (Go.Operand.func 23), args := #[Go.Operand.tmp 58], argTypes := #[27] }, type := 3, pos := "law.go:32", after := #[{ on := 40, ground := Go.Ground.data }, { on := 39, ground := Go.Ground.chain }, { on := 39, ground := Go.Ground.guard }], guard := some (39, true) }) rfl (fun K hK => ?_) AllReadyH.nil
            go_simp
            go_at_call 23
            refine (cTop (s := r) (by exact HIy.out.same rfl) hLr).mono ?_
            rintro e v9 ⟨rfl, hw⟩
            replace x0 := (hw.cell (p := ⟨w.heap.size, 0, none⟩) hzx).trans x0
            replace x1 := (hw.cell (p := ⟨w.heap.size, 1, none⟩) hzx).trans x1
            replace y0 := (hw.cell (p := ⟨G5, 0, none⟩) hzy).trans y0
            replace y1 := (hw.cell (p := ⟨G5, 1, none⟩) hzy).trans y1
            replace z0 := (hw.cell (p := ⟨G6, 0, none⟩) hzz).trans z0
            replace z1 := (hw.cell (p := ⟨G6, 1, none⟩) hzz).trans z1
            replace t0 := (hw.cell (p := ⟨G7, 0, none⟩) hzt).trans t0
            replace t1 := (hw.cell (p := ⟨G7, 1, none⟩) hzt).trans t1
            replace hzt := Nat.lt_of_lt_of_le hzt hw.size
            replace hzx := Nat.lt_of_lt_of_le hzx hw.size
            replace hzy := Nat.lt_of_lt_of_le hzy hw.size
            replace hzz := Nat.lt_of_lt_of_le hzz hw.size
            replace HIs := Lib.hid (HIs.out.on hw ⟨rfl, rfl, rfl, rfl⟩)
            replace HIx := Lib.hid (HIx.out.on hw ⟨rfl, rfl, rfl, rfl⟩)
            replace HIy := Lib.hid (HIy.out.on hw ⟨rfl, rfl, rfl, rfl⟩)
            replace HIw := Lib.hid (HIw.out.on hw ⟨rfl, rfl, rfl, rfl⟩)
            replace HBc : Hid (Below w.heap.size w v9) := below_via HBc.out hw HBc.out.size ⟨rfl, rfl, rfl, rfl⟩
            clear hw
            refine hK.out _ _ ⟨x0, x1, y0, y1, z0, z1, t0, t1⟩ (fun hHeld => ?_)
            clear hK K
            try simp only [Act.put, List.setIfInBounds_toArray, List.set_cons_zero, List.set_cons_succ]
            refine wpAnyH_ready (rs := [43]) (by kernel_rfl) (by simp) ?_
            refine AllReadyH.cons (o := { dst := some 61, op := Go.Op.call { callee := Go.Callee.value (Go.Operand.func 24), args := #[Go.Operand.tmp 60], argTypes := #[24] }, type := 3, pos := "law.go:32", after := #[{ on := 42, ground := Go.Ground.data }, { on := 41, ground := Go.Ground.chain }, { on := 39, ground := Go.Ground.guard }], guard := some (39, true) }) rfl (fun K hK => ?_) AllReadyH.nil
            go_simp
            go_at_call 24
            refine (cRefTop (s := r) (by exact HIw.out.same rfl) hLr).mono ?_
            rintro e v10 ⟨rfl, hw⟩
            replace x0 := (hw.cell (p := ⟨w.heap.size, 0, none⟩) hzx).trans x0
            replace x1 := (hw.cell (p := ⟨w.heap.size, 1, none⟩) hzx).trans x1
            replace y0 := (hw.cell (p := ⟨G5, 0, none⟩) hzy).trans y0
            replace y1 := (hw.cell (p := ⟨G5, 1, none⟩) hzy).trans y1
            replace z0 := (hw.cell (p := ⟨G6, 0, none⟩) hzz).trans z0
            replace z1 := (hw.cell (p := ⟨G6, 1, none⟩) hzz).trans z1
            replace t0 := (hw.cell (p := ⟨G7, 0, none⟩) hzt).trans t0
            replace t1 := (hw.cell (p := ⟨G7, 1, none⟩) hzt).trans t1
            replace hzt := Nat.lt_of_lt_of_le hzt hw.size
            replace hzx := Nat.lt_of_lt_of_le hzx hw.size
            replace hzy := Nat.lt_of_lt_of_le hzy hw.size
            replace hzz := Nat.lt_of_lt_of_le hzz hw.size
            replace HIs := Lib.hid (HIs.out.on hw ⟨rfl, rfl, rfl, rfl⟩)
            replace HIx := Lib.hid (HIx.out.on hw ⟨rfl, rfl, rfl, rfl⟩)
            replace HIy := Lib.hid (HIy.out.on hw ⟨rfl, rfl, rfl, rfl⟩)
            replace HIw := Lib.hid (HIw.out.on hw ⟨rfl, rfl, rfl, rfl⟩)
            replace HBc : Hid (Below w.heap.size w v10) := below_via HBc.out hw HBc.out.size ⟨rfl, rfl, rfl, rfl⟩
            clear hw
            refine hK.out _ _ ⟨x0, x1, y0, y1, z0, z1, t0, t1⟩ (fun hHeld => ?_)
            clear hK K
            try simp only [Act.put, List.setIfInBounds_toArray, List.set_cons_zero, List.set_cons_succ]
            refine wpAnyH_take (i := 44) (oi := { dst := some 62, op := Go.Op.binOp Go.BinOp.eql 3 (Go.Operand.tmp 59) (Go.Operand.tmp 61) 3, type := 4, pos := "law.go:32", after := #[{ on := 41, ground := Go.Ground.data }, { on := 43, ground := Go.Ground.data }, { on := 39, ground := Go.Ground.guard }], guard := some (39, true) }) (v := ?_) rfl (by kernel_rfl) (by kernel_rfl) (by kernel_rfl) (fun _ _ _ h => h) (Or.inl ⟨rfl, ?_⟩) (by assumption) ?_
            rotate_left
            · intro wz hSw; (try dsimp only at hSw); go_simp; try (with_reducible rfl)
            try simp only [Act.put, List.setIfInBounds_toArray, List.set_cons_zero, List.set_cons_succ]
            refine wpAnyH_take (i := 45) (oi := { dst := some 63, op := Go.Op.pick (Go.Operand.tmp 57) (Go.Operand.tmp 62) (Go.Operand.const (Go.Value.bool false)), type := 4, pos := "law.go:32", after := #[{ on := 39, ground := Go.Ground.data }, { on := 44, ground := Go.Ground.data }], guard := none }) (v := ?_) rfl (by kernel_rfl) (by kernel_rfl) (by kernel_rfl) (fun _ _ _ h => h) (Or.inl ⟨rfl, ?_⟩) (by assumption) ?_
            rotate_left
            · intro wz hSw; (try dsimp only at hSw); go_simp; try (with_reducible rfl)
            try simp only [Act.put, List.setIfInBounds_toArray, List.set_cons_zero, List.set_cons_succ]
            refine wpAnyH_take (i := 46) (oi := { dst := some 64, op := Go.Op.move (Go.Operand.tmp 63), type := 4, pos := "law.go:32", after := #[{ on := 45, ground := Go.Ground.data }, { on := 43, ground := Go.Ground.chain }], guard := none }) (v := ?_) rfl (by kernel_rfl) (by kernel_rfl) (by kernel_rfl) (fun _ _ _ h => h) (Or.inl ⟨rfl, ?_⟩) (by assumption) ?_
            rotate_left
            · intro wz hSw; (try dsimp only at hSw); go_simp; try (with_reducible rfl)
            try simp only [Act.put, List.setIfInBounds_toArray, List.set_cons_zero, List.set_cons_succ]
            refine wpAnyH_take (i := 47) (oi := { dst := some 65, op := Go.Op.load 27 (Go.Operand.tmp 5), type := 27, pos := "law.go:32", after := #[{ on := 46, ground := Go.Ground.guard }], guard := some (46, true) }) (v := ?_) rfl (by kernel_rfl) (by kernel_rfl) (by kernel_rfl) (fun _ _ _ h => h) (Or.inl ⟨rfl, ?_⟩) (by assumption) ?_
            rotate_left
            · intro wz hSw; (try dsimp only at hSw); go_simp; try (with_reducible rfl)
            try simp only [Act.put, List.setIfInBounds_toArray, List.set_cons_zero, List.set_cons_succ]
            refine wpAnyH_take (i := 49) (oi := { dst := some 67, op := Go.Op.load 24 (Go.Operand.tmp 2), type := 24, pos := "law.go:32", after := #[{ on := 46, ground := Go.Ground.guard }], guard := some (46, true) }) (v := ?_) rfl (by kernel_rfl) (by kernel_rfl) (by kernel_rfl) (fun _ _ _ h => h) (Or.inl ⟨rfl, ?_⟩) (by assumption) ?_
            rotate_left
            · intro wz hSw; (try dsimp only at hSw); go_simp; try (with_reducible rfl)
            try simp only [Act.put, List.setIfInBounds_toArray, List.set_cons_zero, List.set_cons_succ]
            refine wpAnyH_ready (rs := [48]) (by kernel_rfl) (by simp) ?_
            refine AllReadyH.cons (o := { dst := some 66, op := Go.Op.call { callee := Go.Callee.value (Go.Operand.func 18), args := #[Go.Operand.tmp 65], argTypes := #[27] }, type := 24, pos := "law.go:32", after := #[{ on := 47, ground := Go.Ground.data }, { on := 46, ground := Go.Ground.chain }, { on := 46, ground := Go.Ground.guard }], guard := some (46, true) }) rfl (fun K hK => ?_) AllReadyH.nil
            go_simp
            go_at_call 18
            refine (cFrom (s := s) (by exact HIx.out.same rfl) hLs).mono ?_
            rintro e v11 ⟨B2, d2, rfl, hin, hw⟩
            replace x0 := (hw.cell (p := ⟨w.heap.size, 0, none⟩) hzx).trans x0
            replace x1 := (hw.cell (p := ⟨w.heap.size, 1, none⟩) hzx).trans x1
            replace y0 := (hw.cell (p := ⟨G5, 0, none⟩) hzy).trans y0
            replace y1 := (hw.cell (p := ⟨G5, 1, none⟩) hzy).trans y1
            replace z0 := (hw.cell (p := ⟨G6, 0, none⟩) hzz).trans z0
            replace z1 := (hw.cell (p := ⟨G6, 1, none⟩) hzz).trans z1
            replace t0 := (hw.cell (p := ⟨G7, 0, none⟩) hzt).trans t0
            replace t1 := (hw.cell (p := ⟨G7, 1, none⟩) hzt).trans t1
            replace hzt := Nat.lt_of_lt_of_le hzt hw.size
            replace hzx := Nat.lt_of_lt_of_le hzx hw.size
            replace hzy := Nat.lt_of_lt_of_le hzy hw.size
            replace hzz := Nat.lt_of_lt_of_le hzz hw.size
            replace HIs := Lib.hid (HIs.out.on hw ⟨rfl, rfl, rfl, rfl⟩)
            replace HIx := Lib.hid (HIx.out.on hw ⟨rfl, rfl, rfl, rfl⟩)
            replace HIy := Lib.hid (HIy.out.on hw ⟨rfl, rfl, rfl, rfl⟩)
            replace HIw := Lib.hid (HIw.out.on hw ⟨rfl, rfl, rfl, rfl⟩)
            replace HBc : Hid (Below w.heap.size w v11) := below_via HBc.out hw HBc.out.size ⟨rfl, rfl, rfl, rfl⟩
            have HP2 := Lib.hid hin
            clear hin
            clear hw
            refine hK.out _ _ ⟨x0, x1, y0, y1, z0, z1, t0, t1⟩ (fun hHeld => ?_)
            clear hK K
            try simp only [Act.put, List.setIfInBounds_toArray, List.set_cons_zero, List.set_cons_succ]
            refine wpAnyH_ready (rs := [50]) (by kernel_rfl) (by simp) ?_
            refine AllReadyH.cons (o := { dst := some 68, op := Go.Op.call { callee := Go.Callee.value (Go.Operand.func 17), args := #[Go.Operand.tmp 66, Go.Operand.tmp 67], argTypes := #[24, 24] }, type := 4, pos := "law.go:32", after := #[{ on := 48, ground := Go.Ground.data }, { on := 49, ground := Go.Ground.data }, { on := 48, ground := Go.Ground.chain }, { on := 46, ground := Go.Ground.guard }], guard := some (46, true) }) rfl (fun K hK => ?_) AllReadyH.nil
            go_simp
            go_at_call 17
            refine (cRefSame (s := s) (t := s) (by exact HP2.out.same rfl) (by exact HIs.out.same rfl) hLs).mono ?_
            rw [same_true rfl]
            rintro e v12 ⟨rfl, hw⟩
            replace x0 := (hw.cell (p := ⟨w.heap.size, 0, none⟩) hzx).trans x0
            replace x1 := (hw.cell (p := ⟨w.heap.size, 1, none⟩) hzx).trans x1
            replace y0 := (hw.cell (p := ⟨G5, 0, none⟩) hzy).trans y0
            replace y1 := (hw.cell (p := ⟨G5, 1, none⟩) hzy).trans y1
            replace z0 := (hw.cell (p := ⟨G6, 0, none⟩) hzz).trans z0
            replace z1 := (hw.cell (p := ⟨G6, 1, none⟩) hzz).trans z1
            replace t0 := (hw.cell (p := ⟨G7, 0, none⟩) hzt).trans t0
            replace t1 := (hw.cell (p := ⟨G7, 1, none⟩) hzt).trans t1
            replace hzt := Nat.lt_of_lt_of_le hzt hw.size
            replace hzx := Nat.lt_of_lt_of_le hzx hw.size
            replace hzy := Nat.lt_of_lt_of_le hzy hw.size
            replace hzz := Nat.lt_of_lt_of_le hzz hw.size
            replace HIs := Lib.hid (HIs.out.on hw ⟨rfl, rfl, rfl, rfl⟩)
            replace HIx := Lib.hid (HIx.out.on hw ⟨rfl, rfl, rfl, rfl⟩)
            replace HIy := Lib.hid (HIy.out.on hw ⟨rfl, rfl, rfl, rfl⟩)
            replace HIw := Lib.hid (HIw.out.on hw ⟨rfl, rfl, rfl, rfl⟩)
            replace HP2 := Lib.hid (HP2.out.on hw ⟨rfl, rfl, rfl, rfl⟩)
            replace HBc : Hid (Below w.heap.size w v12) := below_via HBc.out hw HBc.out.size ⟨rfl, rfl, rfl, rfl⟩
            clear hw
            refine hK.out _ _ ⟨x0, x1, y0, y1, z0, z1, t0, t1⟩ (fun hHeld => ?_)
            clear hK K
            try simp only [Act.put, List.setIfInBounds_toArray, List.set_cons_zero, List.set_cons_succ]
            refine wpAnyH_take (i := 51) (oi := { dst := some 69, op := Go.Op.pick (Go.Operand.tmp 64) (Go.Operand.tmp 68) (Go.Operand.const (Go.Value.bool false)), type := 4, pos := "law.go:32", after := #[{ on := 46, ground := Go.Ground.data }, { on := 50, ground := Go.Ground.data }], guard := none }) (v := ?_) rfl (by kernel_rfl) (by kernel_rfl) (by kernel_rfl) (fun _ _ _ h => h) (Or.inl ⟨rfl, ?_⟩) (by assumption) ?_
            rotate_left
            · intro wz hSw; (try dsimp only at hSw); go_simp; try (with_reducible rfl)
            try simp only [Act.put, List.setIfInBounds_toArray, List.set_cons_zero, List.set_cons_succ]
            refine wpAnyH_take (i := 52) (oi := { dst := some 4, op := Go.Op.assign (Go.Operand.tmp 69), type := 4, pos := "law.go:32", after := #[{ on := 51, ground := Go.Ground.data }, { on := 50, ground := Go.Ground.chain }, { on := 0, ground := Go.Ground.phase }, { on := 1, ground := Go.Ground.phase }, { on := 2, ground := Go.Ground.phase }, { on := 3, ground := Go.Ground.phase }, { on := 4, ground := Go.Ground.phase }, { on := 5, ground := Go.Ground.phase }, { on := 6, ground := Go.Ground.phase }, { on := 7, ground := Go.Ground.phase }, { on := 8, ground := Go.Ground.phase }, { on := 9, ground := Go.Ground.phase }, { on := 10, ground := Go.Ground.phase }, { on := 11, ground := Go.Ground.phase }, { on := 12, ground := Go.Ground.phase }, { on := 13, ground := Go.Ground.phase }, { on := 14, ground := Go.Ground.phase }, { on := 15, ground := Go.Ground.phase }, { on := 16, ground := Go.Ground.phase }, { on := 17, ground := Go.Ground.phase }, { on := 18, ground := Go.Ground.phase }, { on := 19, ground := Go.Ground.phase }, { on := 20, ground := Go.Ground.phase }, { on := 21, ground := Go.Ground.phase }, { on := 22, ground := Go.Ground.phase }, { on := 23, ground := Go.Ground.phase }, { on := 24, ground := Go.Ground.phase }, { on := 25, ground := Go.Ground.phase }, { on := 26, ground := Go.Ground.phase }, { on := 27, ground := Go.Ground.phase }, { on := 28, ground := Go.Ground.phase }, { on := 29, ground := Go.Ground.phase }, { on := 30, ground := Go.Ground.phase }, { on := 31, ground := Go.Ground.phase }, { on := 32, ground := Go.Ground.phase }, { on := 33, ground := Go.Ground.phase }, { on := 34, ground := Go.Ground.phase }, { on := 35, ground := Go.Ground.phase }, { on := 36, ground := Go.Ground.phase }, { on := 37, ground := Go.Ground.phase }, { on := 38, ground := Go.Ground.phase }, { on := 39, ground := Go.Ground.phase }, { on := 40, ground := Go.Ground.phase }, { on := 41, ground := Go.Ground.phase }, { on := 42, ground := Go.Ground.phase }, { on := 43, ground := Go.Ground.phase }, { on := 44, ground := Go.Ground.phase }, { on := 45, ground := Go.Ground.phase }, { on := 46, ground := Go.Ground.phase }, { on := 47, ground := Go.Ground.phase }, { on := 48, ground := Go.Ground.phase }, { on := 49, ground := Go.Ground.phase }, { on := 50, ground := Go.Ground.phase }, { on := 51, ground := Go.Ground.phase }], guard := none }) (v := ?_) rfl (by kernel_rfl) (by kernel_rfl) (by kernel_rfl) (fun _ _ _ h => h) (Or.inl ⟨rfl, ?_⟩) (by assumption) ?_
            rotate_left
            · intro wz hSw; (try dsimp only at hSw); go_simp; try (with_reducible rfl)
            try simp only [Act.put, List.setIfInBounds_toArray, List.set_cons_zero, List.set_cons_succ]
            refine wpAnyH_done (by kernel_rfl) ?_ _
            go_wp2
            go_ret
            exact ⟨rfl, HBc.out⟩
end Go.Proofs.Ytgkheoaajpialaa
