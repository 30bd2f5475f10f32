/- SpanOrders: the walk. -/
import Derived.Test.YtlalonchdfcjgaaSy
import Derived.Deep.AppendLies
namespace Go.Proofs.Ytlalonchdfcjgaa
open Go.RowKit

/-- What stands at each loop's head: the two Spans in their blocks, their rows apart. -/
def St (w : World) (sa sb : Int × List Int) (Aa : Option Addr) (ca : Nat) (Ab : Option Addr) (cb : Nat) (wr : World) : Prop :=
  BoxAt wr w.heap.size sa Aa ca ∧ BoxAt wr (w.heap.size + 1) sb Ab cb ∧ OwnI wr (w.heap.size + 2) Aa sa.2.length ca sa.2 ∧ OwnI wr (w.heap.size + 2) Ab sb.2.length cb sb.2 ∧ Below w.heap.size w wr
theorem St.start (w : World) : St w (0, []) (0, []) none 0 none 0 ((w.alloc (.cells #[.int .i64 0, .slice none 0 0] 27)).alloc (.cells #[.int .i64 0, .slice none 0 0] 27)) := by
  refine ⟨?_, ?_, World.ownsRow_nil _ _ _ _, World.ownsRow_nil _ _ _ _, ((Below.refl _ _).alloc (Nat.le_refl _) _).alloc (by simp) _⟩
  · exact (Below.heap_alloc _ _ _ (by simp)).trans (heap_alloc_new w _)
  · have := heap_alloc_new (w.alloc (.cells #[.int .i64 0, .slice none 0 0] 27)) (.cells #[.int .i64 0, .slice none 0 0] 27)
    simpa [BoxAt] using this
theorem St.size {w wr : World} {sa sb : Int × List Int} {Aa Ab : Option Addr} {ca cb : Nat} (h : St w sa sb Aa ca Ab cb wr) : w.heap.size + 2 ≤ wr.heap.size := h.2.1.facts.2.2.2.2
theorem St.below {w wr w' : World} {sa sb : Int × List Int} {Aa Ab : Option Addr} {ca cb : Nat} (h : St w sa sb Aa ca Ab cb wr) (hb : Below wr.heap.size wr w') : St w sa sb Aa ca Ab cb w' := by
  have hs := h.size
  exact ⟨h.1.keep hb (by omega), h.2.1.keep hb (by omega), h.2.2.1.below hb, h.2.2.2.1.below hb, h.2.2.2.2.trans (hb.mono (by omega))⟩

theorem St.grown {w wr w' : World} {sa sb : Int × List Int} {Aa Ab : Option Addr} {ca cb : Nat} {row : Option Nat} (h : St w sa sb Aa ca Ab cb wr) (hg : wr.grownBy w' row) (hr : ∀ g, row = some g → w.heap.size + 2 ≤ g) (ha : row = none ∨ Value.ownBlock (.slice Aa sa.2.length ca) ≠ row) (hb : row = none ∨ Value.ownBlock (.slice Ab sb.2.length cb) ≠ row) : St w sa sb Aa ca Ab cb w' := by
  have hs := h.size
  exact ⟨h.1.grown hg (fun e => by have := hr _ e.symm; omega), h.2.1.grown hg (fun e => by have := hr _ e.symm; omega), h.2.2.1.grown hg ha, h.2.2.2.1.grown hg hb, h.2.2.2.2.trans ⟨hg.os, hg.tape, hg.output, hg.size, fun k hk => hg.block k (by omega) (fun e => by have := hr _ e.symm; omega)⟩⟩
theorem St.setA {w wr w1 : World} {sa sb t : Int × List Int} {Aa Ab A1 : Option Addr} {ca cb c1 : Nat} (h : St w sa sb Aa ca Ab cb wr) (hb : Below wr.heap.size wr w1) (ho : OwnI w1 (w.heap.size + 2) A1 t.2.length c1 t.2) :
    St w t sb A1 c1 Ab cb ((w1.setCell ⟨w.heap.size, 0, none⟩ (.int .i64 t.1)).setCell ⟨w.heap.size, 1, none⟩ (.slice A1 t.2.length c1)) := by
  have h1 := h.below hb
  refine ⟨BoxAt.store (s := sa) h1.1, (h1.2.1.far (p := ⟨w.heap.size, 0, none⟩) (by simp) _).far (p := ⟨w.heap.size, 1, none⟩) (by simp) _, (ho.far (p := ⟨w.heap.size, 0, none⟩) (by simp) _).far (p := ⟨w.heap.size, 1, none⟩) (by simp) _, (h1.2.2.2.1.far (p := ⟨w.heap.size, 0, none⟩) (by simp) _).far (p := ⟨w.heap.size, 1, none⟩) (by simp) _, (h1.2.2.2.2.setCell (p := ⟨w.heap.size, 0, none⟩) (Nat.le_refl _) _).setCell (p := ⟨w.heap.size, 1, none⟩) (Nat.le_refl _) _⟩
theorem St.setB {w wr w1 : World} {sa sb t : Int × List Int} {Aa Ab A1 : Option Addr} {ca cb c1 : Nat} (h : St w sa sb Aa ca Ab cb wr) (hb : Below wr.heap.size wr w1) (ho : OwnI w1 (w.heap.size + 2) A1 t.2.length c1 t.2) :
    St w sa t Aa ca A1 c1 ((w1.setCell ⟨w.heap.size + 1, 0, none⟩ (.int .i64 t.1)).setCell ⟨w.heap.size + 1, 1, none⟩ (.slice A1 t.2.length c1)) := by
  have h1 := h.below hb
  refine ⟨(h1.1.far (p := ⟨w.heap.size + 1, 0, none⟩) (by simp) _).far (p := ⟨w.heap.size + 1, 1, none⟩) (by simp) _, BoxAt.store (s := sb) h1.2.1, (h1.2.2.1.far (p := ⟨w.heap.size + 1, 0, none⟩) (by simp) _).far (p := ⟨w.heap.size + 1, 1, none⟩) (by simp) _, (ho.far (p := ⟨w.heap.size + 1, 0, none⟩) (by simp) _).far (p := ⟨w.heap.size + 1, 1, none⟩) (by simp) _, (h1.2.2.2.2.setCell (p := ⟨w.heap.size + 1, 0, none⟩) (by simp) _).setCell (p := ⟨w.heap.size + 1, 1, none⟩) (by simp) _⟩
theorem el_eqO (y : Int) : wrap64 (1 + wrap64 ((IntKind.u64.wrap y).tmod 50)) = elO y := by
  have := mod_bd y 50 (by omega) (by omega)
  have e : wrap64 ((IntKind.u64.wrap y).tmod 50) = modF y 50 := rfl
  rw [e, IntWalk.wrap64_in _ (by omega)]
  rfl
theorem OwnI.ints {w : World} {B : Nat} {A : Option Addr} {n c : Nat} {zs : List Int} (h : OwnI w B A n c zs) : IntsAt w w.heap.size A n zs := own_ints h
theorem OwnI.cap {w : World} {B : Nat} {A : Option Addr} {n c : Nat} {zs : List Int} (h : OwnI w B A n c zs) : n ≤ c := own_cap h
theorem own_emptyI (w : World) (B : Nat) (hB : B ≤ w.heap.size) : (w.alloc (.cells #[] 3)).ownsRow B 3 1 (.slice (some ⟨w.heap.size, 0, none⟩) 0 0) 0 (([] : List Int).map (.int .i64)) :=
  ⟨rfl, .inr ⟨w.heap.size, 0, #[], rfl, hB, heap_alloc_new w _, Nat.le_refl _, by unfold maxLen; omega, rfl, rfl⟩⟩
theorem OwnI.form {w : World} {B : Nat} {A : Option Addr} {n c : Nat} {zs : List Int} (h : OwnI w B A n c zs) (hn : 0 < n) : ∃ g, A = some ⟨g, 0, none⟩ ∧ B ≤ g ∧ g < w.heap.size := by
  obtain ⟨g, cap, hv, h1, h2⟩ := World.ownsRow.form (w := w) h hn
  injection hv with hA
  exact ⟨g, hA, h1, h2⟩
theorem tmod_nat (q j : Nat) : (q : Int).tmod (j : Int) = ((q % j : Nat) : Int) := by
  rw [Int.tmod_eq_emod_of_nonneg (by omega)]; exact (Int.natCast_emod q j).symm
theorem OwnI.set {w : World} {B g n c : Nat} {zs : List Int} (h : OwnI w B (some ⟨g, 0, none⟩) n c zs) (i : Nat) (x : Int) : OwnI (w.setCell ⟨g, i, none⟩ (.int .i64 x)) B (some ⟨g, 0, none⟩) n c (zs.set i x) := by
  have h1 := (World.ownsRow.stored (w := w) h i (.int .i64 x)).1
  unfold OwnI
  rw [List.map_set]
  exact h1
theorem swap_mem {ps : List Int} {a b : Nat} (ha : a < ps.length) (hb : b < ps.length) (x : Int) : x ∈ (ps.set a (ps.getD b 0)).set b (ps.getD a 0) ↔ x ∈ ps := by
  have ea : ps[a]? = some (ps.getD a 0) := by rw [List.getD_eq_getElem?_getD, List.getElem?_eq_getElem ha]; rfl
  have eb : ps[b]? = some (ps.getD b 0) := by rw [List.getD_eq_getElem?_getD, List.getElem?_eq_getElem hb]; rfl
  generalize ps.getD a 0 = p at *
  generalize ps.getD b 0 = q at *
  have key : ∀ i, ((ps.set a q).set b p)[i]? = if b = i then some p else if a = i then some q else ps[i]? := by
    intro i
    rw [List.getElem?_set, List.length_set, if_pos hb, List.getElem?_set, if_pos ha]
  rw [List.mem_iff_getElem?, List.mem_iff_getElem?]
  constructor
  · rintro ⟨i, hi⟩
    rw [key] at hi
    split at hi
    · exact ⟨a, by rw [ea, hi]⟩
    · split at hi
      · exact ⟨b, by rw [eb, hi]⟩
      · exact ⟨i, hi⟩
  · rintro ⟨i, hi⟩
    by_cases h1 : i = a
    · subst h1
      exact ⟨b, by rw [key, if_pos rfl, ← ea, hi]⟩
    · by_cases h2 : i = b
      · subst h2
        exact ⟨a, by rw [key, if_neg h1, if_pos rfl, ← eb, hi]⟩
      · exact ⟨i, by rw [key, if_neg (fun e => h2 e.symm), if_neg (fun e => h1 e.symm), hi]⟩
theorem St.farx {w wr : World} {sa sb : Int × List Int} {Aa Ab : Option Addr} {ca cb : Nat} (h : St w sa sb Aa ca Ab cb wr) {g i : Nat} (hg : w.heap.size + 2 ≤ g) (ha : Value.ownBlock (.slice Aa sa.2.length ca) ≠ some g) (hb : Value.ownBlock (.slice Ab sb.2.length cb) ≠ some g) (u : Value) : St w sa sb Aa ca Ab cb (wr.setCell ⟨g, i, none⟩ u) :=
  ⟨h.1.far (by simp; omega) u, h.2.1.far (by simp; omega) u, own_setCell h.2.2.1 ha u, own_setCell h.2.2.2.1 hb u, h.2.2.2.2.setCell (by simp; omega) u⟩
/-- One exchange. -/
theorem swapped {w ws wq w' : World} {os ps : List Int} {H2 j co c3 ca g kk jj : Nat} {Aa Ao : Option Addr}
    (hp : OwnI ws H2 (some ⟨g, 0, none⟩) j c3 ps) (he : ∀ x, x ∈ ps ↔ x ∈ os) (ha : St w (addsF os) (0, []) Aa ca none 0 ws) (hr : OwnI ws (w.heap.size + 2) Ao j co os)
    (hna : ∀ g, Value.ownBlock (.slice Aa (addsF os).2.length ca) = some g → g < H2) (hno : ∀ g, Value.ownBlock (.slice Ao j co) = some g → g < H2) (hH : w.heap.size + 2 ≤ H2) (hgB : H2 ≤ g)
    (hk : kk < j) (hj : jj < j) (hq : Below ws.heap.size ws wq) (hw : w' = (wq.setCell ⟨g, kk, none⟩ (.int .i64 (ps.getD jj 0))).setCell ⟨g, jj, none⟩ (.int .i64 (ps.getD kk 0))) :
    ∃ ps', Hid (OwnI w' H2 (some ⟨g, 0, none⟩) j c3 ps') ∧ Hid (∀ x, x ∈ ps' ↔ x ∈ os) ∧ Hid (St w (addsF os) (0, []) Aa ca none 0 w') ∧ Hid (OwnI w' (w.heap.size + 2) Ao j co os) := by
  subst hw
  have hl := hp.len
  have n1 : Value.ownBlock (.slice Aa (addsF os).2.length ca) ≠ some g := fun e => by have := hna g e; omega
  have n2 : Value.ownBlock (.slice none 0 0) ≠ some g := by simp [Value.ownBlock]
  have n3 : Value.ownBlock (.slice Ao j co) ≠ some g := fun e => by have := hno g e; omega
  refine ⟨(ps.set kk (ps.getD jj 0)).set jj (ps.getD kk 0), ((hp.below hq).set kk _).set jj _, fun x => (swap_mem (by omega) (by omega) x).trans (he x), ((ha.below hq).farx (by omega) n1 n2 _).farx (by omega) n1 n2 _, own_setCell (own_setCell (hr.below hq) n3 _) n3 _⟩
theorem adds_mem {l m : List Int} (hl : ∀ x ∈ l, 1 ≤ x ∧ x ≤ 50) (hm : ∀ x ∈ m, 1 ≤ x ∧ x ≤ 50) (h : ∀ x, x ∈ l ↔ x ∈ m) : addsF l = addsF m := by
  obtain ⟨h1, h2⟩ := adds_small hl
  obtain ⟨h3, h4⟩ := adds_small hm
  exact Ok.ext h1.1 h3.1 fun t => by rw [h2 t, h4 t, h t]
theorem nilrow (row : Option Nat) : row = none ∨ Value.ownBlock (.slice none 0 0) ≠ row := by
  cases row with
  | none => exact .inl rfl
  | some g => exact .inr (by simp [Value.ownBlock])

set_option maxRecDepth 100000 in
set_option maxHeartbeats 16000000 in
theorem spanOrders_walk (A : Option Addr) (n c : Nat) (ls : List Int) (A' : Option Addr) (n' c' : Nat) (ms : List Int) (w : World) (hz : IntsAt w w.heap.size A n ls) (hnc : n ≤ c) (hn : n ≤ 9223372036854775807) (hz' : IntsAt w w.heap.size A' n' ms) (_hnc' : n' ≤ c') (hn' : n' ≤ 9223372036854775807) :
    Calls Try.prog 7 #[.slice A n c, .slice A' n' c'] w fun e w' => e = .returned (.bool true) ∧ Below w.heap.size w w' := by
  have HZ := Lib.hid hz
  have HZ' := Lib.hid hz'
  have HN' := Lib.hid hn'
  clear hz hz' hn'
  go_enter Try.func7, Try.ntmps7
  go_upto_region 3 with fail
  go_cut [0, 5, 6, 7] (fun s0 s5 s6 s7 wx => ∃ (m : Nat) (ys : List Int), m ≤ 60 ∧ s0 = .slice A m c ∧ s5 = .pointer (some ⟨w.heap.size, 0, none⟩) ∧ s6 = .pointer (some ⟨w.heap.size + 1, 0, none⟩) ∧ s7 = .slice none 0 0 ∧ Hid (IntsAt w w.heap.size A m ys) ∧ Hid (St w (0, []) (0, []) none 0 none 0 wx))
  case first =>
    go_wp2
    all_goals
      go_meet
      case rel =>
        first
          | exact ⟨60, ls.take 60, by omega, rfl, rfl, rfl, rfl, ints_take HZ.out (by omega), St.start w⟩
          | exact ⟨n, ls, by omega, rfl, rfl, rfl, rfl, HZ.out, St.start w⟩
  case rest =>
    obtain ⟨m, ys, hm, rfl, rfl, rfl, rfl, HI, HS⟩ := hcut
    have HL : Hid (ys.length = m) := HI.out.1
    clear hnc hn HZ
    go_wp2_with fail
    go_loopw [7, 8] (fun v i wr => ∃ (k : Nat) (Ao : Option Addr) (co : Nat), k ≤ m ∧ i = .int .i64 k ∧ v = .slice Ao k co ∧ Hid (OwnI wr (w.heap.size + 2) Ao k co ((ys.take k).map elO)) ∧ Hid (St w (0, []) (0, []) none 0 none 0 wr)) (fun _ i _ => m - (intOf i).toNat)
    case atStart => exact ⟨0, none, 0, by omega, rfl, rfl, World.ownsRow_nil _ _ _ _, HS⟩
    case round =>
      obtain ⟨k, Ao, co, hk, rfl, rfl, HO, HT⟩ := hrel
      have hs2 := HT.out.size
      by_cases hlt : k < m
      · obtain ⟨b, off, rfl, hbB, hc⟩ := (HI.out.keep HT.out.2.2.2.2).2 (by omega)
        have hck := hc k hlt
        have hts : (ys.take (k + 1)).map elO = (ys.take k).map elO ++ [wrap64 (1 + wrap64 ((IntKind.u64.wrap (ys.getD k 0)).tmod 50))] := by rw [take_next ys k (by have := HL.out; omega), el_eqO]; simp
        generalize ys.getD k 0 = y at hck hts
        have HTS := Lib.hid hts
        clear hc hts
        go_wp2_with (at_builtin; refine wpList_append_ints (B := w.heap.size + 2) (v := .slice Ao k co) (n := k) (zs := (ys.take k).map elO) rfl _ _ rfl rfl (HO.out.alloc _) rfl (one_int wr _) (by omega) (by simp; omega) ?_; intro A3 c3 w3 hown3 hg3 hat3; rw [← HTS.out] at hown3; have HO3 : Hid (OwnI w3 (w.heap.size + 2) A3 (k + 1) c3 ((ys.take (k + 1)).map elO)) := hown3; have HT3 : Hid (St w (0, []) (0, []) none 0 none 0 w3) := (HT.out.below ((Below.refl _ _).alloc (Nat.le_refl _) _)).grown hg3 (fun g e => (HO.out.lt g e).1) (nilrow _) (nilrow _); clear hown3 hg3 hat3)
        go_roundw
        case rel => exact ⟨k + 1, A3, c3, by omega, by go_num, rfl, HO3, HT3⟩
        case measure => simp [intOf]; omega
      · obtain rfl : k = m := by omega
        obtain ⟨os, hos⟩ : ∃ os, (ys.take k).map elO = os := ⟨_, rfl⟩
        have hob : ∀ x ∈ os, 1 ≤ x ∧ x ≤ 50 := by rw [← hos]; intro x hx; obtain ⟨y, _, rfl⟩ := List.mem_map.mp hx; exact elO_bd y
        rw [hos] at HO
        have HOB := Lib.hid hob
        have HOL : Hid (os.length = k) := HO.out.len
        clear hos hob hlt hk HI HL HS
        go_wp2_with fail
        generalize wr = w0 at HO HT hs2 ⊢
        go_loopw [9] (fun i wr => ∃ (j : Nat) (Aa : Option Addr) (ca : Nat), j ≤ k ∧ i = .int .i64 j ∧ Hid (St w (addsF (os.take j)) (0, []) Aa ca none 0 wr) ∧ Hid (OwnI wr (w.heap.size + 2) Ao k co os)) (fun i _ => k - (intOf i).toNat)
        case atStart => exact ⟨0, none, 0, by omega, rfl, HT, HO⟩
        case round =>
          obtain ⟨j, Aa, ca, hj, rfl, HA, HR⟩ := hrel
          have hsz := HA.out.size
          by_cases hlt : j < k
          · obtain ⟨b, off, e, hbB, hc⟩ := HR.out.ints.2 (by omega)
            have hck := hc j hlt
            have hoj : os.getD j 0 ∈ os := by
              have hjl : j < os.length := by have := HOL.out; omega
              rw [List.getD_eq_getElem?_getD, List.getElem?_eq_getElem hjl]; exact List.getElem_mem hjl
            have hb1 := HOB.out _ hoj
            have hsn := adds_snoc (l := os) (k := j) (by have := HOL.out; omega)
            have hsm := (adds_small (l := os.take j) (fun x hx => HOB.out x (List.mem_of_mem_take hx))).1
            have hsl : (addsF (os.take j)).2.length ≤ 60 := hsm.2.2.2
            generalize os.getD j 0 = x at hck hb1 hsn
            obtain ⟨t, ht⟩ : ∃ t, addsF (os.take (j + 1)) = t := ⟨_, rfl⟩
            rw [ht] at hsn
            have HSN : Hid (unionF ((addsF (os.take j)).1, (addsF (os.take j)).2) (0, [x]) = t) := hsn.symm
            have HTT := Lib.hid ht
            clear hc hoj hsm ht hsn
            generalize addsF (os.take j) = s at HA HSN hsl
            obtain ⟨p0, p1, f0, f1, hgl⟩ := HA.out.1.facts
            obtain ⟨hb11, hb12⟩ := hb1
            have hj0 : (0 : Int) ≤ (j : Int) := by omega
            have hj1 : (j : Int) < (k : Int) := by omega
            subst e
            go_wp2_with fail
            go_region_law
              (first
                | (go_simp
                   go_at_call 15
                   refine (add_yes s.1 Aa s.2.length ca s.2 x wr.heap.size _ ?_ ?_ ?_ ?_ ?_ ?_).mono ?_
                   · exact Nat.le_refl _
                   · exact ints_same HA.out.2.2.1.ints rfl
                   · exact HA.out.2.2.1.cap
                   · omega
                   · exact hb11
                   · omega
                   rw [HSN.out]
                   rintro e w1 ⟨A1, c1, rfl, hown1, hg1, _⟩
                   have hbw : Below wr.heap.size wr w1 := (Below.refl _ _).drew.trans (grown_none hg1)
                   have q0 := (hbw.cell (p := ⟨w.heap.size, 0, none⟩) hgl).trans p0
                   have q1 := (hbw.cell (p := ⟨w.heap.size, 1, none⟩) hgl).trans p1
                   have q2 := (hbw.frozen (p := ⟨w.heap.size, 0, none⟩) hgl).trans f0
                   have q3 := (hbw.frozen (p := ⟨w.heap.size, 1, none⟩) hgl).trans f1
                   have HBW := Lib.hid hbw
                   have HO1 : Hid (OwnI w1 (w.heap.size + 2) A1 t.2.length c1 t.2) := own_base hown1 hsz
                   clear hown1 hg1 hbw))
            all_goals
              have HA2 : Hid (St w (addsF (os.take (j + 1))) (0, []) A1 c1 none 0 ((w1.setCell ⟨w.heap.size, 0, none⟩ (.int .i64 t.1)).setCell ⟨w.heap.size, 1, none⟩ (.slice A1 t.2.length c1))) := by show St _ _ _ _ _ _ _ _; rw [HTT.out]; exact HA.out.setA HBW.out HO1.out
              have HR2 : Hid (OwnI ((w1.setCell ⟨w.heap.size, 0, none⟩ (.int .i64 t.1)).setCell ⟨w.heap.size, 1, none⟩ (.slice A1 t.2.length c1)) (w.heap.size + 2) (some ⟨b, off, none⟩) k co os) := ((HR.out.below HBW.out).far (p := ⟨w.heap.size, 0, none⟩) (by simp) _).far (p := ⟨w.heap.size, 1, none⟩) (by simp) _
              go_wp2_with fail
              go_roundw
              case rel =>
                first
                  | exact ⟨j + 1, A1, c1, by omega, by go_num, HA2, HR2⟩
                  | exact ⟨j + 1, A1, c1, by omega, by go_num, HA2.out.below ((Below.refl _ _).drew), HR2.out.below ((Below.refl _ _).drew)⟩
              case measure => simp [intOf]; omega
          · obtain rfl : j = k := by omega
            have HTK : Hid (os.take j = os) := List.take_of_length_le (by have := HOL.out; omega)
            rw [HTK.out] at HA
            clear HTK HT HO hs2 hlt hj
            go_wp2_with (at_builtin; refine wpList_append_ints (B := wr.heap.size) (v := .slice (some ⟨wr.heap.size, 0, none⟩) 0 0) (n := 0) (zs := []) rfl _ _ rfl rfl (own_emptyI wr _ (Nat.le_refl _)) rfl (HR.out.ints.keep ((Below.refl _ _).alloc (Nat.le_refl _) _)) (by omega) (by simp) ?_; intro A3 c3 w3 hown3 hg3 hat3; have HBg : Hid (Below wr.heap.size wr w3) := ((Below.refl _ _).alloc (Nat.le_refl _) _).trans ⟨hg3.os, hg3.tape, hg3.output, hg3.size, fun q hq => hg3.block q (by simp; omega) (fun e => by injection e with e; have e2 : q = wr.heap.size := e; omega)⟩; have HP : Hid (OwnI w3 wr.heap.size A3 (0 + j) c3 ([] ++ os)) := hown3; clear hown3 hg3 hat3)
            rw [Nat.zero_add, List.nil_append] at HP
            have HA3 : Hid (St w (addsF os) (0, []) Aa ca none 0 w3) := HA.out.below HBg.out
            have HR3 : Hid (OwnI w3 (w.heap.size + 2) Ao j co os) := HR.out.below HBg.out
            have HNA : Hid (∀ g, Value.ownBlock (.slice Aa (addsF os).2.length ca) = some g → g < wr.heap.size) := fun g e => (HA.out.2.2.1.lt g e).2
            have HNO : Hid (∀ g, Value.ownBlock (.slice Ao j co) = some g → g < wr.heap.size) := fun g e => (HR.out.lt g e).2
            clear HA HR HBg
            generalize wr.heap.size = H2 at HP HNA HNO hsz
            go_loopw [11] (fun i ws => ∃ (q : Nat) (ps : List Int), q ≤ 60 ∧ i = .int .i64 q ∧ Hid (OwnI ws H2 A3 j c3 ps) ∧ Hid (∀ x, x ∈ ps ↔ x ∈ os) ∧ Hid (St w (addsF os) (0, []) Aa ca none 0 ws) ∧ Hid (OwnI ws (w.heap.size + 2) Ao j co os)) (fun i _ => 60 - (intOf i).toNat)
            case atStart => exact ⟨0, os, by omega, rfl, HP, (fun x => Iff.rfl), HA3, HR3⟩
            case round =>
              obtain ⟨q, ps, hq, rfl, HP1, HE, HA1, HR1⟩ := hrel
              by_cases hcond : q < n' ∧ 1 < j ∧ q < 60
              · obtain ⟨hq1, hq2, hq3⟩ := hcond
                obtain ⟨g, hA3, hgB, hglt⟩ := HP1.out.form (by omega)
                obtain ⟨b, off, e, hbB, hc⟩ := (HZ'.out.keep HA1.out.2.2.2.2).2 (by omega)
                have hck := hc q hq1
                generalize ms.getD q 0 = y at hck
                clear hc
                subst e hA3
                obtain ⟨kk, hkk, hkl⟩ : ∃ kk : Nat, ((q : Int).tmod (j : Int)) = kk ∧ kk < j := ⟨q % j, tmod_nat q j, Nat.mod_lt _ (by omega)⟩
                obtain ⟨jj, hjj, hjl⟩ : ∃ jj : Nat, (IntKind.u64.wrap y).tmod (j : Int) = jj ∧ jj < j := by
                  have hw : 0 ≤ IntKind.u64.wrap y := by have := IntKind.wrap_u64 y; omega
                  have h2 := Int.tmod_nonneg (j : Int) hw
                  have h3 := Int.tmod_lt_of_pos (IntKind.u64.wrap y) (show (0 : Int) < (j : Int) by omega)
                  exact ⟨((IntKind.u64.wrap y).tmod (j : Int)).toNat, by omega, by omega⟩
                have hwj : IntKind.u64.wrap (j : Int) = (j : Int) := by have := IntKind.wrap_u64 (j : Int); omega
                have hq0 : (0 : Int) ≤ (q : Int) := by omega
                have hq4 : (q : Int) < (n' : Int) := by omega
                have hq5 : (1 : Int) < (j : Int) := by omega
                have hq6 : (q : Int) < 60 := by omega
                have hjne : ((j : Int) == 0) = false := by simp; omega
                go_wp2_with fail
                go_quiet (fail)
                go_wp2_with fail
                have hbw : Below wr.heap.size wr (wr.drewN nq) := ⟨rfl, rfl, rfl, Nat.le_refl _, fun _ _ => rfl⟩
                obtain ⟨b2, off2, e2, _, hc2⟩ := HP1.out.ints.2 (by omega)
                injection e2 with e2
                injection e2 with e3 e4
                subst e3 e4
                have hk1 := (hbw.cell (p := ⟨g, 0 + kk, none⟩) hglt).trans (hc2 kk hkl)
                have hj1 := (hbw.cell (p := ⟨g, 0 + jj, none⟩) hglt).trans (hc2 jj hjl)
                have fk1 : (wr.drewN nq).frozen? ⟨g, kk, none⟩ = false := World.ownsRow.frozenAt (w := wr.drewN nq) (HP1.out.below hbw) kk
                have fj1 : (wr.drewN nq).frozen? ⟨g, jj, none⟩ = false := World.ownsRow.frozenAt (w := wr.drewN nq) (HP1.out.below hbw) jj
                have HSW : Hid (∀ w', w' = ((wr.drewN nq).setCell ⟨g, kk, none⟩ (.int .i64 (ps.getD jj 0))).setCell ⟨g, jj, none⟩ (.int .i64 (ps.getD kk 0)) → ∃ ps', Hid (OwnI w' H2 (some ⟨g, 0, none⟩) j c3 ps') ∧ Hid (∀ x, x ∈ ps' ↔ x ∈ os) ∧ Hid (St w (addsF os) (0, []) Aa ca none 0 w') ∧ Hid (OwnI w' (w.heap.size + 2) Ao j co os)) := fun w' e => swapped HP1.out HE.out HA1.out HR1.out HNA.out HNO.out hsz hgB hkl hjl hbw e
                obtain ⟨us, hus⟩ : ∃ us, ((wr.drewN nq).setCell ⟨g, kk, none⟩ (.int .i64 (ps.getD jj 0))).cell? ⟨g, jj, none⟩ = some us := by
                  obtain ⟨b2, off2, e2, _, hc3⟩ := ((HP1.out.below hbw).set kk (ps.getD jj 0)).ints.2 (by omega)
                  injection e2 with e2
                  injection e2 with e3 e4
                  subst e3 e4
                  have := hc3 jj hjl
                  rw [Nat.zero_add] at this
                  exact ⟨_, this⟩
                rw [Nat.zero_add] at hk1 hj1
                generalize ps.getD kk 0 = zk at hk1 HSW
                generalize ps.getD jj 0 = zj at hj1 HSW hus
                clear hbw hc2 HP1 HE HA1 HR1 hck
                generalize wr.drewN nq = wq at hk1 hj1 fk1 fj1 hus HSW ⊢
                have hkj0 : (0 : Int) ≤ (kk : Int) := by omega
                have hkj1 : (kk : Int) < (j : Int) := by omega
                have hkj2 : (0 : Int) ≤ (jj : Int) := by omega
                have hkj3 : (jj : Int) < (j : Int) := by omega
                clear hkk hjj
                go_region
                go_wp2_with fail
                go_roundw
                case rel =>
                  obtain ⟨ps', h1, h2, h3, h4⟩ := HSW.out _ rfl
                  exact ⟨q + 1, ps', by omega, by go_num, h1.out.below (Below.refl _ _).drew, h2, h3.out.below (Below.refl _ _).drew, h4.out.below (Below.refl _ _).drew⟩
                case measure => simp [intOf]; omega
              · have hx : (¬ (q : Int) < (n' : Int)) ∨ ((q : Int) < (n' : Int) ∧ ¬ (1 : Int) < (j : Int)) ∨ ((q : Int) < (n' : Int) ∧ (1 : Int) < (j : Int) ∧ ¬ (q : Int) < 60) := by omega
                have hq0 : (0 : Int) ≤ (q : Int) := by omega
                have HBS : Hid (∀ x ∈ ps, 1 ≤ x ∧ x ≤ 50) := fun x hx => HOB.out x ((HE.out x).mp hx)
                have HSE : Hid (addsF ps = addsF os) := adds_mem HBS.out HOB.out HE.out
                have HPL : Hid (ps.length = j) := HP1.out.len
                clear HP HA3 HR3 HE hcond
                rcases hx with hx | ⟨hx1, hx⟩ | ⟨hx1, hx2, hx⟩
                all_goals
                  go_wp2_with fail
                  generalize wr = w4 at HP1 HA1 HR1 ⊢
                  go_loopw [14] (fun i ws => ∃ (p : Nat) (Ab : Option Addr) (cb : Nat), p ≤ j ∧ i = .int .i64 p ∧ Hid (St w (addsF os) (addsF (ps.take p)) Aa ca Ab cb ws) ∧ Hid (OwnI ws H2 A3 j c3 ps) ∧ Hid (OwnI ws (w.heap.size + 2) Ao j co os)) (fun i _ => j - (intOf i).toNat)
                  case atStart => exact ⟨0, none, 0, by omega, rfl, HA1, HP1, HR1⟩
                  case round =>
                    obtain ⟨p, Ab, cb, hp, rfl, HA5, HP5, HR5⟩ := hrel
                    have hsz5 := HA5.out.size
                    by_cases hlt : p < j
                    · obtain ⟨b, off, e, hbB, hc⟩ := HP5.out.ints.2 (by omega)
                      have hck := hc p hlt
                      have hoj : ps.getD p 0 ∈ ps := by
                        have hjl : p < ps.length := by have := HPL.out; omega
                        rw [List.getD_eq_getElem?_getD, List.getElem?_eq_getElem hjl]; exact List.getElem_mem hjl
                      have hb1 := HBS.out _ hoj
                      have hsn := adds_snoc (l := ps) (k := p) (by have := HPL.out; omega)
                      have hsm := (adds_small (l := ps.take p) (fun x hx => HBS.out x (List.mem_of_mem_take hx))).1
                      have hsl : (addsF (ps.take p)).2.length ≤ 60 := hsm.2.2.2
                      generalize ps.getD p 0 = x at hck hb1 hsn
                      obtain ⟨t, ht⟩ : ∃ t, addsF (ps.take (p + 1)) = t := ⟨_, rfl⟩
                      rw [ht] at hsn
                      have HSN : Hid (unionF ((addsF (ps.take p)).1, (addsF (ps.take p)).2) (0, [x]) = t) := hsn.symm
                      have HTT := Lib.hid ht
                      clear hc hoj hsm ht hsn
                      generalize addsF (ps.take p) = s at HA5 HSN hsl
                      obtain ⟨p0, p1, f0, f1, hgl⟩ := HA5.out.2.1.facts
                      obtain ⟨hb11, hb12⟩ := hb1
                      have hj0 : (0 : Int) ≤ (p : Int) := by omega
                      have hj1 : (p : Int) < (j : Int) := by omega
                      subst e
                      go_wp2_with fail
                      go_region_law
                        (first
                          | (go_simp
                             go_at_call 15
                             refine (add_yes s.1 Ab s.2.length cb s.2 x wr.heap.size _ ?_ ?_ ?_ ?_ ?_ ?_).mono ?_
                             · exact Nat.le_refl _
                             · exact ints_same HA5.out.2.2.2.1.ints rfl
                             · exact HA5.out.2.2.2.1.cap
                             · omega
                             · exact hb11
                             · omega
                             rw [HSN.out]
                             rintro e w1 ⟨A1, c1, rfl, hown1, hg1, _⟩
                             have hbw : Below wr.heap.size wr w1 := (Below.refl _ _).drew.trans (grown_none hg1)
                             have q0 := (hbw.cell (p := ⟨w.heap.size + 1, 0, none⟩) hgl).trans p0
                             have q1 := (hbw.cell (p := ⟨w.heap.size + 1, 1, none⟩) hgl).trans p1
                             have q2 := (hbw.frozen (p := ⟨w.heap.size + 1, 0, none⟩) hgl).trans f0
                             have q3 := (hbw.frozen (p := ⟨w.heap.size + 1, 1, none⟩) hgl).trans f1
                             have HBW := Lib.hid hbw
                             have HO1 : Hid (OwnI w1 (w.heap.size + 2) A1 t.2.length c1 t.2) := own_base hown1 hsz5
                             clear hown1 hg1 hbw))
                      all_goals
                        have HA2 : Hid (St w (addsF os) (addsF (ps.take (p + 1))) Aa ca A1 c1 ((w1.setCell ⟨w.heap.size + 1, 0, none⟩ (.int .i64 t.1)).setCell ⟨w.heap.size + 1, 1, none⟩ (.slice A1 t.2.length c1))) := by show St _ _ _ _ _ _ _ _; rw [HTT.out]; exact HA5.out.setB HBW.out HO1.out
                        have HP2 : Hid (OwnI ((w1.setCell ⟨w.heap.size + 1, 0, none⟩ (.int .i64 t.1)).setCell ⟨w.heap.size + 1, 1, none⟩ (.slice A1 t.2.length c1)) H2 (some ⟨b, off, none⟩) j c3 ps) := ((HP5.out.below HBW.out).far (p := ⟨w.heap.size + 1, 0, none⟩) (by simp; omega) _).far (p := ⟨w.heap.size + 1, 1, none⟩) (by simp; omega) _
                        have HR2 : Hid (OwnI ((w1.setCell ⟨w.heap.size + 1, 0, none⟩ (.int .i64 t.1)).setCell ⟨w.heap.size + 1, 1, none⟩ (.slice A1 t.2.length c1)) (w.heap.size + 2) Ao j co os) := ((HR5.out.below HBW.out).far (p := ⟨w.heap.size + 1, 0, none⟩) (by simp) _).far (p := ⟨w.heap.size + 1, 1, none⟩) (by simp) _
                        go_wp2_with fail
                        go_roundw
                        case rel =>
                          first
                            | exact ⟨p + 1, A1, c1, by omega, by go_num, HA2, HP2, HR2⟩
                            | exact ⟨p + 1, A1, c1, by omega, by go_num, HA2.out.below ((Below.refl _ _).drew), HP2.out.below ((Below.refl _ _).drew), HR2.out.below ((Below.refl _ _).drew)⟩
                        case measure => simp [intOf]; omega
                    · obtain rfl : p = j := by omega
                      have HTK : Hid (ps.take p = ps) := List.take_of_length_le (by have := HPL.out; omega)
                      rw [HTK.out, HSE.out] at HA5
                      clear HTK HP1 HA1 HR1 HP5 HPL HSE HBS hlt hp HNA HNO HZ' HN'
                      go_wp2_with fail
                      go_loopw [15, 16] (fun nn kv ws => ∃ t : Nat, t ≤ 50 ∧ kv = .int .i64 ((t : Int) + 1) ∧ nn = .int .i64 ((membF (addsF os) t : Nat) : Int) ∧ Hid (St w (addsF os) (addsF os) Aa ca Ab cb ws) ∧ Hid (OwnI ws (w.heap.size + 2) Ao p co os)) (fun _ kv _ => 51 - (intOf kv).toNat)
                      case atStart => exact ⟨0, by omega, rfl, rfl, HA5, HR5⟩
                      case round =>
                        obtain ⟨t, ht, rfl, rfl, HA6, HR6⟩ := hrel
                        have hmk : membF (addsF os) t ≤ t := by have := holes_memb (addsF os) t; omega
                        clear HA5 HR5
                        by_cases hlt : t < 50
                        · have hle : (t : Int) + 1 ≤ 50 := by omega
                          go_wp2_with fail
                          generalize wr = w6 at HA6 HR6 ⊢
                          go_loopw [17, 18] (fun is i ws => ∃ r : Nat, r ≤ p ∧ i = .int .i64 r ∧ is = .bool (decide ((t : Int) + 1 ∈ os.take r)) ∧ ws = w6) (fun _ i _ => p - (intOf i).toNat)
                          case atStart => exact ⟨0, by omega, rfl, by simp, rfl⟩
                          case round =>
                            obtain ⟨r, hr, rfl, rfl, hw6⟩ := hrel
                            subst hw6
                            by_cases hrl : r < p
                            · obtain ⟨b, off, e, hbB, hc⟩ := HR6.out.ints.2 (by omega)
                              have hck := hc r hrl
                              have hts : decide ((t : Int) + 1 ∈ os.take (r + 1)) = (decide ((t : Int) + 1 ∈ os.take r) || decide (os.getD r 0 = (t : Int) + 1)) := by
                                rw [take_next os r (by have := HOL.out; omega)]
                                simp [eq_comm]
                              have HTS := Lib.hid hts
                              clear hts hc
                              generalize os.getD r 0 = y at hck HTS
                              have hr0 : (0 : Int) ≤ (r : Int) := by omega
                              have hr1 : (r : Int) < (p : Int) := by omega
                              subst e
                              generalize decide ((t : Int) + 1 ∈ os.take r) = d at HTS
                              cases d
                              · go_wp2_with fail
                                go_roundw
                                case rel => exact ⟨r + 1, by omega, by go_num, by rw [HTS.out]; simp <;> rfl, by trivial⟩
                                case measure => simp [intOf]; omega
                              · go_wp2_with fail
                                go_roundw
                                case rel => exact ⟨r + 1, by omega, by go_num, by rw [HTS.out]; simp <;> rfl, by trivial⟩
                                case measure => simp [intOf]; omega
                            · obtain rfl : r = p := by omega
                              have HTK : Hid (os.take r = os) := List.take_of_length_le (by have := HOL.out; omega)
                              rw [HTK.out]
                              have HMS := Lib.hid (memb_step HOB.out t)
                              have HHS := Lib.hid (adds_has HOB.out ((t : Int) + 1))
                              have hsm := (adds_small HOB.out).1
                              have hsl : (addsF os).2.length ≤ 60 := hsm.2.2.2
                              have HOk := Lib.hid hsm.1
                              clear hsm HTK
                              obtain ⟨p0, p1, f0, f1, hgl⟩ := HA6.out.1.facts
                              have HIx : Hid (SpanIn wr Aa ca (addsF os)) := ⟨HA6.out.2.2.1.ints, HA6.out.2.2.1.cap⟩
                              by_cases hin : (t : Int) + 1 ∈ os
                              · have hdd : decide ((t : Int) + 1 ∈ os) = true := decide_eq_true hin
                                rw [hdd] at HHS ⊢
                                rw [if_pos hin] at HMS
                                go_wp2_with fail
                                refine (cHas HIx.out (by omega) HOk.out ((t : Int) + 1)).mono ?_
                                rw [HHS.out]
                                rintro e w4 ⟨rfl, hw4⟩
                                have HA7 := Lib.hid (HA6.out.below hw4)
                                have HR7 := Lib.hid (HR6.out.below hw4)
                                clear hw4
                                go_wp2
                                go_roundw
                                case rel => exact ⟨t + 1, by omega, by go_num, by rw [HMS.out]; go_num, HA7, HR7⟩
                                case measure => simp [intOf]; omega
                              · have hdd : decide ((t : Int) + 1 ∈ os) = false := decide_eq_false hin
                                rw [hdd] at HHS ⊢
                                rw [if_neg hin] at HMS
                                go_wp2_with fail
                                refine (cHas HIx.out (by omega) HOk.out ((t : Int) + 1)).mono ?_
                                rw [HHS.out]
                                rintro e w4 ⟨rfl, hw4⟩
                                have HA7 := Lib.hid (HA6.out.below hw4)
                                have HR7 := Lib.hid (HR6.out.below hw4)
                                clear hw4
                                go_wp2
                                go_roundw
                                case rel => exact ⟨t + 1, by omega, by go_num, by rw [HMS.out]; go_num, HA7, HR7⟩
                                case measure => simp [intOf]; omega
                        · obtain rfl : t = 50 := by omega
                          have HCn := Lib.hid (adds_count HOB.out)
                          have HSm := Lib.hid (adds_small HOB.out).1
                          have hsl : (addsF os).2.length ≤ 60 := HSm.out.2.2.2
                          have hu0 : 0 ≤ (addsF os).1 := HSm.out.1.1
                          have hu1 : (addsF os).1 ≤ 60 := HSm.out.2.2.1
                          generalize membF (addsF os) 50 = mm at HCn hmk ⊢
                          clear HOB HR6
                          generalize addsF os = s at HA6 HCn HSm hsl hu0 hu1
                          go_wp2_with fail
                          refine (told_any _).mono ?_
                          rintro e v1 ⟨rfl, hw⟩
                          have HA7 := Lib.hid (HA6.out.below hw)
                          obtain ⟨p0, p1, _, _, _⟩ := HA7.out.1.facts
                          obtain ⟨r0, r1, _, _, _⟩ := HA7.out.2.1.facts
                          clear hw HA6
                          go_wp2_with fail
                          refine (cSame (s := s) (t := s) ⟨HA7.out.2.2.1.ints, HA7.out.2.2.1.cap⟩ ⟨HA7.out.2.2.2.1.ints, HA7.out.2.2.2.1.cap⟩ (by omega)).mono ?_
                          rw [same_true rfl]
                          rintro e v2 ⟨rfl, hw⟩
                          have HA8 := Lib.hid (HA7.out.below hw)
                          clear hw HA7 p0 p1 r0 r1
                          obtain ⟨p0, p1, _, _, _⟩ := HA8.out.1.facts
                          go_wp2_with fail
                          refine (cCount (s := s) (by omega) (by omega) (by omega)).mono ?_
                          rw [← HCn.out]
                          rintro e v3 ⟨rfl, hw⟩
                          have HA9 := Lib.hid (HA8.out.below hw)
                          clear hw HA8 p0 p1
                          obtain ⟨p0, p1, _, _, _⟩ := HA9.out.1.facts
                          go_wp2_with fail
                          refine (cRight (s := s) ⟨HA9.out.2.2.1.ints, HA9.out.2.2.1.cap⟩ (by omega)).mono ?_
                          rw [small_right HSm.out]
                          rintro e v4 ⟨rfl, hw⟩
                          have HA10 := Lib.hid (HA9.out.below hw)
                          clear hw HA9 p0 p1
                          go_wp2
                          go_ret
                          exact ⟨rfl, HA10.out.2.2.2.2⟩
end Go.Proofs.Ytlalonchdfcjgaa
