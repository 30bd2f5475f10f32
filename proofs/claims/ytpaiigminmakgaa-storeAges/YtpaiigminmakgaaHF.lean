/- Texts Qa Qb Qc Qd Qe Qf Qm Qg Qh Qi Qj Qk Ql Qn Qo, one behind the other. -/
import Derived.Test.YtpaiigminmakgaaRows
import Derived.WalkKit
import Derived.WalkSpells
import Derived.WalkLawsBesides
import Derived.BigQuiet
import Derived.Deep.QuietTactic
import Derived.Lib.Hide
import Derived.Maps.AppendAt
import Derived.Deep.RegionLaw
import Derived.Deep.RegionHeld3
import Derived.Deep.DeepCutAuto
import Derived.Deep.RegionWith
/- The span package's small functions: what each call answers (First, Count, Top). -/
namespace Go.Proofs.Ytpaiigminmakgaa.Sp
open Go.RowKit

/-- In w the slice (A, n) holds the numbers zs, in a block below B. -/
def IntsAt (w : World) (B : Nat) (A : Option Addr) (n : Nat) (zs : List Int) : Prop :=
  zs.length = n ∧ (0 < n → ∃ b off, A = some ⟨b, off, none⟩ ∧ b < B ∧ ∀ k, k < n → w.cell? ⟨b, off + k, none⟩ = some (.int .i64 (zs.getD k 0)))

theorem IntsAt.nil (w : World) (B : Nat) (A : Option Addr) : IntsAt w B A 0 [] := ⟨rfl, fun h => absurd h (by omega)⟩
theorem IntsAt.keep {w w' : World} {B : Nat} {A : Option Addr} {n : Nat} {zs : List Int} (h : IntsAt w B A n zs) (hb : Below B w w') : IntsAt w' B A n zs :=
  ⟨h.1, fun hn => by
    obtain ⟨b, off, e, hlt, hc⟩ := h.2 hn
    exact ⟨b, off, e, hlt, fun k hk => (hb.cell (p := ⟨b, off + k, none⟩) hlt).trans (hc k hk)⟩⟩
theorem IntsAt.more {w : World} {B B' : Nat} {A : Option Addr} {n : Nat} {zs : List Int} (h : IntsAt w B A n zs) (hB : B ≤ B') : IntsAt w B' A n zs :=
  ⟨h.1, fun hn => by
    obtain ⟨b, off, e, hlt, hc⟩ := h.2 hn
    exact ⟨b, off, e, by omega, hc⟩⟩

theorem ret_int {k : IntKind} {a b : Int} (h : a = b) : Ending.returned (.int k a) = .returned (.int k b) := by rw [h]
theorem ret_bool {a b : Bool} (h : a = b) : Ending.returned (.bool a) = .returned (.bool b) := by rw [h]

def firstU (n : Int) : Int := min (max n 0) 1048576
def topOf (u : Int) (zs : List Int) : Int := zs.getLast?.getD u

end Go.Proofs.Ytpaiigminmakgaa.Sp

/- The library's binary search over rising numbers, and span.Has. -/
namespace Go.Proofs.Ytpaiigminmakgaa.Sp
open Go.RowKit

set_option maxRecDepth 100000 in
set_option maxHeartbeats 400000 in
theorem less_any (x y : Int) (w : World) :
    Calls Try.prog 89 #[.int .i64 x, .int .i64 y] w fun e w' => e = .returned (.bool (decide (x < y))) ∧ w = w' := by
  have nan : ∀ (z : Int) (w : World), Calls Try.prog 86 #[.int .i64 z] w fun e w' => e = .returned (.bool false) ∧ w = w' := by
    intro z w
    go_enter Try.func86, Try.ntmps86
    go_wp2
    go_ret
    exact ⟨by simp, rfl⟩
  have N := Lib.hid nan
  clear nan
  go_enter Try.func89, Try.ntmps89
  go_wp2_with (go_at_call 86; refine (N.out _ _).mono ?_; rintro e w' ⟨rfl, rfl⟩)
  go_ret
  exact ⟨rfl, rfl⟩

set_option maxRecDepth 100000 in
set_option maxHeartbeats 400000 in
theorem nan_any (z : Int) (w : World) : Calls Try.prog 90 #[.int .i64 z] w fun e w' => e = .returned (.bool false) ∧ w = w' := by
  go_enter Try.func90, Try.ntmps90
  go_wp2
  go_ret
  exact ⟨by simp, rfl⟩

/-- Found, if the number is there. -/
def Found (t : Int) (zs : List Int) (e : Ending) : Prop := ∃ i : Int, e = .returned (.tuple #[.int .i64 i, .bool (decide (t ∈ zs))])

theorem pw_lt {zs : List Int} (hs : zs.Pairwise (· < ·)) (i j : Nat) (hij : i < j) (hj : j < zs.length) : zs.getD i 0 < zs.getD j 0 := by
  have := List.pairwise_iff_getElem.1 hs i j (by omega) hj hij
  simpa [List.getD_eq_getElem?_getD, List.getElem?_eq_getElem hj, List.getElem?_eq_getElem (show i < zs.length by omega)] using this

theorem mem_getD {zs : List Int} {t : Int} : t ∈ zs ↔ ∃ k, k < zs.length ∧ zs.getD k 0 = t := by
  rw [List.mem_iff_getElem]
  constructor
  · rintro ⟨k, hk, e⟩
    exact ⟨k, hk, by simp [List.getD_eq_getElem?_getD, List.getElem?_eq_getElem hk, e]⟩
  · rintro ⟨k, hk, e⟩
    exact ⟨k, hk, by simpa [List.getD_eq_getElem?_getD, List.getElem?_eq_getElem hk] using e⟩

theorem search_lo {zs : List Int} {t : Int} {m : Nat} {n : Nat} (hs : zs.Pairwise (· < ·)) (hl : zs.length = n) (hm : m < n) (h : zs.getD m 0 < t) : ∀ k, k < m + 1 → zs.getD k 0 < t := by
  intro k hk
  rcases Nat.lt_or_ge k m with h1 | h1
  · exact Int.lt_trans (pw_lt hs k m h1 (by omega)) h
  · rw [show k = m by omega]; exact h

theorem search_hi {zs : List Int} {t : Int} {m : Nat} {n : Nat} (hs : zs.Pairwise (· < ·)) (hl : zs.length = n) (h : ¬ zs.getD m 0 < t) : ∀ k, m ≤ k → k < n → t ≤ zs.getD k 0 := by
  intro k hk hkn
  rcases Nat.lt_or_ge m k with h1 | h1
  · have := pw_lt hs m k h1 (by omega); omega
  · rw [show k = m by omega]; omega

theorem search_end {zs : List Int} {t : Int} {a n : Nat} (hs : zs.Pairwise (· < ·)) (hl : zs.length = n) (h : (∀ k, k < a → zs.getD k 0 < t) ∧ ∀ k, a ≤ k → k < n → t ≤ zs.getD k 0) : t ∈ zs ↔ a < n ∧ zs.getD a 0 = t := by
  rw [mem_getD, hl]
  constructor
  · rintro ⟨k, hk, e⟩
    rcases Nat.lt_trichotomy k a with h1 | h1 | h1
    · have := h.1 k h1; omega
    · subst h1; exact ⟨hk, e⟩
    · have h2 := h.2 a (Nat.le_refl _) (by omega)
      have h3 := pw_lt hs a k h1 (by omega)
      omega
  · rintro ⟨h1, h2⟩
    exact ⟨a, h1, h2⟩

set_option maxRecDepth 100000 in
set_option maxHeartbeats 1000000 in
theorem search_any (A : Option Addr) (n c : Nat) (zs : List Int) (t : Int) (B : Nat) (w : World) (hz : IntsAt w B A n zs) (hn : n ≤ 1099511627776) (hs : zs.Pairwise (· < ·)) :
    Calls Try.prog 81 #[.slice A n c, .int .i64 t] w fun e w' => Found t zs e ∧ w = w' := by
  have hl : zs.length = n := hz.1
  have HL := Lib.hid hl
  have HS := Lib.hid hs
  clear hl hs
  go_enter Try.func81, Try.ntmps81
  go_wp2
  go_loop [7, 8, 9] (fun i j _ => ∃ a b : Nat, a ≤ b ∧ b ≤ n ∧ i = .int .i64 a ∧ j = .int .i64 b ∧ Hid ((∀ k, k < a → zs.getD k 0 < t) ∧ ∀ k, b ≤ k → k < n → t ≤ zs.getD k 0)) (fun i j _ => ((intOf j) - (intOf i)).toNat)
  case atStart => exact ⟨0, n, by omega, by omega, rfl, rfl, fun k hk => by omega, fun k hk hk2 => by omega⟩
  case round =>
    obtain ⟨a, b, hab, hbn, rfl, rfl, HQ⟩ := hrel
    by_cases hlt : a < b
    · obtain ⟨blk, off, rfl, hbB, hc⟩ := hz.2 (by omega)
      have hc1 := hc ((a + b) / 2) (by omega)
      clear hc hz
      by_cases hm : zs.getD ((a + b) / 2) 0 < t
      · have HN : Hid ((∀ k, k < (a + b) / 2 + 1 → zs.getD k 0 < t) ∧ ∀ k, b ≤ k → k < n → t ≤ zs.getD k 0) := ⟨search_lo HS.out HL.out (by omega) hm, HQ.out.2⟩
        have hm' : zs[(a + b) / 2]?.getD 0 < t := by simpa [List.getD_eq_getElem?_getD] using hm
        clear hm
        go_wp2_with (go_at_call 89; refine (less_any _ _ _).mono ?_; rintro e w' ⟨rfl, rfl⟩)
        go_round
        case rel => exact ⟨(a + b) / 2 + 1, b, by omega, by omega, by go_num, rfl, HN⟩
        case measure => simp [intOf]; omega
      · have HN : Hid ((∀ k, k < a → zs.getD k 0 < t) ∧ ∀ k, (a + b) / 2 ≤ k → k < n → t ≤ zs.getD k 0) := ⟨HQ.out.1, search_hi HS.out HL.out hm⟩
        have hm' : ¬ zs[(a + b) / 2]?.getD 0 < t := by simpa [List.getD_eq_getElem?_getD] using hm
        clear hm
        go_wp2_with (go_at_call 89; refine (less_any _ _ _).mono ?_; rintro e w' ⟨rfl, rfl⟩)
        go_round
        case rel => exact ⟨a, (a + b) / 2, by omega, by omega, rfl, by go_num, HN⟩
        case measure => simp [intOf]; omega
    · have e : b = a := by omega
      subst e
      have HE : Hid (t ∈ zs ↔ b < n ∧ zs.getD b 0 = t) := search_end HS.out HL.out HQ.out
      by_cases hbn' : b < n
      · obtain ⟨blk, off, rfl, hbB, hc⟩ := hz.2 (by omega)
        have hc1 := hc b hbn'
        clear hc hz
        by_cases he : zs.getD b 0 = t
        · have he' : (zs[b]?.getD 0 == t) = true := by simpa [List.getD_eq_getElem?_getD] using he
          have HF : Hid (decide (t ∈ zs) = true) := by
            show decide (t ∈ zs) = true
            rw [decide_eq_true_eq, HE.out]; exact ⟨hbn', he⟩
          clear he
          go_wp2_with (go_at_call 90; refine (nan_any _ _).mono ?_; rintro e w' ⟨rfl, rfl⟩)
          go_ret2
          exact ⟨⟨_, by rw [HF.out]; rfl⟩, rfl⟩
        · have he' : (zs[b]?.getD 0 == t) = false := by simpa [List.getD_eq_getElem?_getD] using he
          have HF : Hid (decide (t ∈ zs) = false) := by
            show decide (t ∈ zs) = false
            rw [decide_eq_false_iff_not, HE.out]; exact fun h => he h.2
          clear he
          go_wp2_with (go_at_call 90; refine (nan_any _ _).mono ?_; rintro e w' ⟨rfl, rfl⟩)
          go_ret2
          exact ⟨⟨_, by rw [HF.out]; rfl⟩, rfl⟩
      · have HF : Hid (decide (t ∈ zs) = false) := by
          show decide (t ∈ zs) = false
          rw [decide_eq_false_iff_not, HE.out]; exact fun h => hbn' h.1
        clear hz
        go_wp2_with (go_at_call 90; refine (nan_any _ _).mono ?_; rintro e w' ⟨rfl, rfl⟩)
        go_ret2
        exact ⟨⟨_, by rw [HF.out]; rfl⟩, rfl⟩

def hasOf (u : Int) (zs : List Int) (t : Int) : Bool := if t ≤ u then decide (1 ≤ t) else decide (t ∈ zs)

set_option maxRecDepth 100000 in
set_option maxHeartbeats 400000 in
theorem has_any (u : Int) (A : Option Addr) (n c : Nat) (zs : List Int) (t : Int) (B : Nat) (w : World) (hB : B ≤ w.heap.size) (hz : IntsAt w B A n zs) (hn : n ≤ 1099511627776) (hs : zs.Pairwise (· < ·)) :
    Calls Try.prog 69 #[.agg #[.int .i64 u, .slice A n c], .int .i64 t] w fun e w' => e = .returned (.bool (hasOf u zs t)) ∧ Below w.heap.size w w' := by
  have HS := Lib.hid hs
  have HZ := Lib.hid hz
  clear hs hz
  by_cases h : t ≤ u
  · have HF : Hid (hasOf u zs t = decide (1 ≤ t)) := if_pos h
    go_enter Try.func69, Try.ntmps69
    go_wp2
    go_ret
    exact ⟨ret_bool (by rw [HF.out]), (Below.refl _ _).alloc (Nat.le_refl _) _⟩
  · have HF : Hid (hasOf u zs t = decide (t ∈ zs)) := if_neg h
    go_enter Try.func69, Try.ntmps69
    go_wp2_with fail
    refine (search_any A n c zs t B _ (HZ.out.keep ((Below.refl _ _).alloc hB _)) hn HS.out).mono ?_
    rintro e w' ⟨⟨i, rfl⟩, rfl⟩
    go_wp2
    go_ret
    exact ⟨ret_bool (by rw [HF.out]), (Below.refl _ _).alloc (Nat.le_refl _) _⟩
end Go.Proofs.Ytpaiigminmakgaa.Sp

/- span.push and span.pushAll: a Span that is being made, whose Extra is a row of the call's own. -/
namespace Go.Proofs.Ytpaiigminmakgaa.Sp
open Go.RowKit

def pushF (s : Int × List Int) (m : Int) : Int × List Int :=
  if m ≤ topOf s.1 s.2 then s else if m = s.1 + 1 then (m, s.2) else (s.1, s.2 ++ [m])

/-- Where a row lies behind a call: where it lay, or in a block that is new. -/
def Lies (v : Value) (row : Option Nat) (H : Nat) : Prop := v.ownBlock = row ∨ ∃ k, v.ownBlock = some k ∧ H ≤ k

/-- The answer is the Span s; its Extra lies in a row of the call's own, from block B on; nothing else that was there has turned. -/
def OwnSpan (B : Nat) (row : Option Nat) (s : Int × List Int) (w : World) (e : Ending) (w' : World) : Prop :=
  ∃ A c, e = .returned (.agg #[.int .i64 s.1, .slice A s.2.length c]) ∧ w'.ownsRow B 3 1 (.slice A s.2.length c) s.2.length (s.2.map (.int .i64)) ∧ w.grownBy w' row ∧ Lies (.slice A s.2.length c) row w.heap.size

theorem grown_of_below {w w' : World} (h : Below w.heap.size w w') (row : Option Nat) : w.grownBy w' row := ⟨h.os, h.tape, h.output, h.size, fun k hk _ => h.block k hk⟩
theorem grown_new_set {a w : World} {row : Option Nat} (h : a.grownBy w row) {p : Addr} (hp : a.heap.size ≤ p.block) (u : Value) : a.grownBy (w.setCell p u) row :=
  ⟨h.os, h.tape, h.output, by simpa [World.setCell] using h.size, fun k hk hne => (Below.heap_setCell w p u k (by omega)).trans (h.block k hk hne)⟩
theorem grown_step {a w w' : World} {row row' : Option Nat} (h : a.grownBy w row) (h' : w.grownBy w' row') (hr : row' = row ∨ ∃ k, row' = some k ∧ a.heap.size ≤ k) : a.grownBy w' row :=
  ⟨h'.os.trans h.os, h'.tape.trans h.tape, h'.output.trans h.output, Nat.le_trans h.size h'.size, fun k hk hne => (h'.block k (Nat.lt_of_lt_of_le hk h.size) (by
    rcases hr with rfl | ⟨j, rfl, hj⟩
    · exact hne
    · intro e; injection e with e; omega)).trans (h.block k hk hne)⟩

theorem own_form {w : World} {B : Nat} {v : Value} {n : Nat} {xs : List Value} (h : w.ownsRow B 3 1 v n xs) : ∃ A c, v = .slice A n c := by
  rcases h.2 with ⟨rfl, rfl⟩ | ⟨g, cap, _, rfl, _⟩
  · exact ⟨none, 0, rfl⟩
  · exact ⟨_, cap, rfl⟩

theorem own_ints {w : World} {B : Nat} {A : Option Addr} {n c : Nat} {zs : List Int} (h : w.ownsRow B 3 1 (.slice A n c) n (zs.map (.int .i64))) : IntsAt w w.heap.size A n zs := by
  have hl : zs.length = n := by have := h.1; simpa using this
  refine ⟨hl, fun hn => ?_⟩
  have hh := h
  rcases h.2 with ⟨_, rfl⟩ | ⟨g, cap, cur, e, hB, hg, hnc, _, hs, ht⟩
  · omega
  · injection e with e1 e2 e3
    subst e1 e3
    refine ⟨g, 0, rfl, (hh.lt g rfl).2, fun k hk => ?_⟩
    rw [Nat.zero_add]
    rw [hh.cellAt k (by omega), List.getElem?_map, List.getElem?_eq_getElem (show k < zs.length by omega)]
    simp [List.getD_eq_getElem?_getD, List.getElem?_eq_getElem (show k < zs.length by omega)]

theorem grown_cell {w w' : World} {row : Option Nat} (hg : w.grownBy w' row) {b : Nat} (o : Nat) (hb : b < w.heap.size) (hne : some b ≠ row) :
    w'.cell? ⟨b, o, none⟩ = w.cell? ⟨b, o, none⟩ ∧ w'.frozen? ⟨b, o, none⟩ = w.frozen? ⟨b, o, none⟩ :=
  ⟨World.cell?_of_block (a := ⟨b, o, none⟩) (hg.block b hb hne), World.frozen?_of_block (a := ⟨b, o, none⟩) (hg.block b hb hne)⟩

theorem own_below {w w' : World} {B : Nat} {v : Value} {n : Nat} {xs : List Value} (h : w.ownsRow B 3 1 v n xs) (hb : Below w.heap.size w w') : w'.ownsRow B 3 1 v n xs :=
  h.kept (row := none) ⟨hb.os, hb.tape, hb.output, hb.size, fun k hk _ => hb.block k hk⟩ (by cases v.ownBlock <;> simp)

theorem Try.info3 : (Try.prog.info? 3).map (fun i => (i.zero, i.size, i.bytes)) = some (some (.int .i64 0), 1, 8) := by kernel_rfl

theorem addr_add (b o j : Nat) : (⟨b, o, none⟩ : Addr).add j = ⟨b, o + j, none⟩ := by unfold Addr.add; split <;> simp_all

theorem ints_cell {w : World} {B : Nat} {ad : Addr} {m : Nat} {ys : List Int} (h : IntsAt w B (some ad) m ys) : ∀ j u, (ys.map (Value.int .i64))[j]? = some u → w.cell? (ad.add j) = some u := by
  intro j u hu
  rw [List.getElem?_map] at hu
  rcases Nat.lt_or_ge j ys.length with hj | hj
  · obtain ⟨b, off, e, _, hc⟩ := h.2 (by have := h.1; omega)
    injection e with e
    subst e
    have h1 := hc j (by have := h.1; omega)
    rw [List.getElem?_eq_getElem hj] at hu
    simp only [Option.map_some, Option.some.injEq] at hu
    subst hu
    rw [addr_add]
    simpa [List.getD_eq_getElem?_getD, List.getElem?_eq_getElem hj] using h1
  · rw [List.getElem?_eq_none hj] at hu
    simp at hu

theorem run_append_ints {ty : TypeId} {w : World} {B B' : Nat} {v : Value} {n : Nat} {zs : List Int} (hown : w.ownsRow B 3 1 v n (zs.map (.int .i64))) {A : Option Addr} {m : Nat} {ys : List Int} (c : Nat)
    (hr : IntsAt w B' A m ys) (hb : n + m ≤ 8796093022208) (hB : B ≤ w.heap.size) :
    ∃ v' w', (Builtin.append_ #[68, 68] ty #[v, .slice A m c]).run Try.prog w = .ok v' w' ∧ w'.ownsRow B 3 1 v' (n + m) ((zs ++ ys).map (.int .i64)) ∧ w.grownBy w' v.ownBlock ∧ (v'.ownBlock = v.ownBlock ∨ v'.ownBlock = some w.heap.size) := by
  obtain ⟨i, hi, hz0, hz1, hz2⟩ := info_parts Try.info3
  rcases A with _ | ad
  · have hm : m = 0 := by
      rcases Nat.eq_zero_or_pos m with h0 | h0
      · exact h0
      · obtain ⟨_, _, h, _⟩ := hr.2 h0
        cases h
    subst hm
    have hy : ys = [] := List.eq_nil_of_length_eq_zero hr.1
    subst hy
    refine ⟨v, w, ?_, by simpa using hown, World.grownBy.refl w _, .inl rfl⟩
    rcases hown.2 with ⟨rfl, rfl⟩ | ⟨g, cap, cur, rfl, _, _, hnc, _⟩
    · simp [Builtin.append_, run_underlying Try.underlying68, sizeOf, typeInfo, hi, Builtin.lenOf, Builtin.firstCells]
    · simp [Builtin.append_, run_underlying Try.underlying68, sizeOf, typeInfo, hi, Builtin.lenOf, Builtin.firstCells, hnc, storeCells]
  · obtain ⟨v', w', hrun, h2, h3, _, h5⟩ := run_append_own_at (P := Try.prog) w B 68 ty 3 i (.int .i64 0) 1 8 Try.underlying68 hi hz0 hz1 hz2 rfl (by decide) v n _ hown ad m c (ys.map (.int .i64)) (by simpa using hr.1) (ints_cell hr)
      (fun u hu => by simp only [List.mem_map] at hu; obtain ⟨_, _, rfl⟩ := hu; rfl) (by unfold maxLen; omega) (by omega) hB
    exact ⟨v', w', hrun, by simpa using h2, h3, h5⟩

theorem wp_append_ints {o : Oper} {a : Act} {K : Act → World → Prop} {Q : Exit → Act → World → Prop} (s x : Operand) (ho : o.op = .call { callee := .builtin .append, args := #[s, x], argTypes := #[68, 68] })
    {w : World} {B B' : Nat} {v : Value} {n : Nat} {zs : List Int} (hs : a.eval s = v) (hown : w.ownsRow B 3 1 v n (zs.map (.int .i64))) {A : Option Addr} {m : Nat} {ys : List Int} {c : Nat} (hx : a.eval x = .slice A m c)
    (hr : IntsAt w B' A m ys) (hb : n + m ≤ 8796093022208) (hB : B ≤ w.heap.size)
    (h : ∀ A' c' w', w'.ownsRow B 3 1 (.slice A' (n + m) c') (n + m) ((zs ++ ys).map (.int .i64)) → w.grownBy w' v.ownBlock → (Value.ownBlock (.slice A' (n + m) c') = v.ownBlock ∨ Value.ownBlock (.slice A' (n + m) c') = some w.heap.size) → K (a.put o.dst (.slice A' (n + m) c')) w') : o.wp Try.prog a w K Q := by
  obtain ⟨v', w', hrun, h2, h3, h4⟩ := run_append_ints (ty := o.type) hown c hr hb hB
  obtain ⟨A', c', rfl⟩ := own_form h2
  unfold Oper.wp execOp
  simp only [ho, resolve, invoke, builtin, Sem.run_bind, Sem.run_pure, Result.andThen_ok, List.map_toArray, List.map_cons, List.map_nil, hs, hx, hrun]
  exact h A' c' w' h2 h3 h4

theorem wpList_append_ints {ops : Array Oper} {rest : List Oper} {o : Oper} {a : Act} {Q : Exit → Act → World → Prop} (hgd : o.guard = none) (s x : Operand) (ho : o.op = .call { callee := .builtin .append, args := #[s, x], argTypes := #[68, 68] })
    {w : World} {B B' : Nat} {v : Value} {n : Nat} {zs : List Int} (hs : a.eval s = v) (hown : w.ownsRow B 3 1 v n (zs.map (.int .i64))) {A : Option Addr} {m : Nat} {ys : List Int} {c : Nat} (hx : a.eval x = .slice A m c)
    (hr : IntsAt w B' A m ys) (hb : n + m ≤ 8796093022208) (hB : B ≤ w.heap.size)
    (h : ∀ A' c' w', w'.ownsRow B 3 1 (.slice A' (n + m) c') (n + m) ((zs ++ ys).map (.int .i64)) → w.grownBy w' v.ownBlock → (Value.ownBlock (.slice A' (n + m) c') = v.ownBlock ∨ Value.ownBlock (.slice A' (n + m) c') = some w.heap.size) → wpList Try.prog ops Q rest (a.put o.dst (.slice A' (n + m) c')) w') :
    wpList Try.prog ops Q (o :: rest) a w :=
  wpList_plain hgd fun _ hK => wp_append_ints s x ho hs hown hx hr hb hB fun A' c' w' h2 h3 h4 => hK _ _ (h A' c' w' h2 h3 h4)

theorem step_append_ints {ops : Array Oper} {o : Oper} {a : Act} {K : Act → World → Prop} {Q : Exit → Act → World → Prop} {E : Prop} (hgd : o.guard = none) (s x : Operand) (ho : o.op = .call { callee := .builtin .append, args := #[s, x], argTypes := #[68, 68] })
    {w : World} {B B' : Nat} {v : Value} {n : Nat} {zs : List Int} (hs : a.eval s = v) (hown : w.ownsRow B 3 1 v n (zs.map (.int .i64))) {A : Option Addr} {m : Nat} {ys : List Int} {c : Nat} (hx : a.eval x = .slice A m c)
    (hr : IntsAt w B' A m ys) (hb : n + m ≤ 8796093022208) (hB : B ≤ w.heap.size)
    (h : ∀ A' c' w', w'.ownsRow B 3 1 (.slice A' (n + m) c') (n + m) ((zs ++ ys).map (.int .i64)) → w.grownBy w' v.ownBlock → (Value.ownBlock (.slice A' (n + m) c') = v.ownBlock ∨ Value.ownBlock (.slice A' (n + m) c') = some w.heap.size) → K (a.put o.dst (.slice A' (n + m) c')) w') :
    if Region.wanted o (yielded ops a.tmps) = true then Oper.wp Try.prog o a w K Q else E := by
  have hw : Region.wanted o (yielded ops a.tmps) = true := by simp [Region.wanted, hgd]
  rw [if_pos hw]
  exact wp_append_ints s x ho hs hown hx hr hb hB h

theorem one_int (w : World) (m : Int) : IntsAt (w.alloc (.cells #[.int .i64 m] 3)) (w.heap.size + 1) (some ⟨w.heap.size, 0, none⟩) 1 [m] :=
  ⟨rfl, fun _ => ⟨_, _, rfl, by omega, fun k hk => by
    have : k = 0 := by omega
    subst this
    simp [go_sem]⟩⟩

theorem own_setCell {w : World} {B : Nat} {v : Value} {n : Nat} {xs : List Value} (h : w.ownsRow B 3 1 v n xs) {p : Addr} (hp : v.ownBlock ≠ some p.block) (u : Value) : (w.setCell p u).ownsRow B 3 1 v n xs :=
  h.kept (row := some p.block) ⟨rfl, rfl, rfl, by simp [World.setCell], fun k _ hk => Below.heap_setCell w p u k (fun e => hk (by rw [e]))⟩ (.inr hp)

theorem below_cells {W w1 : World} (hb : Below W.heap.size W w1) : (∀ b o, b < W.heap.size → w1.cell? ⟨b, o, none⟩ = W.cell? ⟨b, o, none⟩) ∧ (∀ b o, b < W.heap.size → w1.frozen? ⟨b, o, none⟩ = W.frozen? ⟨b, o, none⟩) :=
  ⟨fun b o h => hb.cell (p := ⟨b, o, none⟩) h, fun b o h => hb.frozen (p := ⟨b, o, none⟩) h⟩

theorem grown_new {w1 w3 : World} {o : Obj} {row : Option Nat} (hg : (w1.alloc o).grownBy w3 row) {b : Nat} (hb : b < w1.heap.size) (hne : some b ≠ row) :
    (∀ k, w3.cell? ⟨b, k, none⟩ = w1.cell? ⟨b, k, none⟩) ∧ ∀ k, w3.frozen? ⟨b, k, none⟩ = w1.frozen? ⟨b, k, none⟩ := by
  have h := (hg.block b (by simp; omega) hne).trans (Below.heap_alloc w1 o b hb)
  exact ⟨fun k => World.cell?_of_block (a := ⟨b, k, none⟩) h, fun k => World.frozen?_of_block (a := ⟨b, k, none⟩) h⟩

theorem ownSpan_of {B : Nat} {row : Option Nat} {w w' : World} {A : Option Addr} {n c : Nat} {u : Int} {zs : List Int} {s : Int × List Int} (hs : s = (u, zs)) (hl : zs.length = n)
    (hown : w'.ownsRow B 3 1 (.slice A n c) n (zs.map (.int .i64))) (hg : w.grownBy w' row) (hlie : Lies (.slice A n c) row w.heap.size) : OwnSpan B row s w (.returned (.agg #[.int .i64 u, .slice A n c])) w' := by
  subst hs
  subst hl
  exact ⟨A, c, rfl, hown, hg, hlie⟩

end Go.Proofs.Ytpaiigminmakgaa.Sp

/- span.pushAll: push, number by number. -/
namespace Go.Proofs.Ytpaiigminmakgaa.Sp
open Go.RowKit

theorem push_lo (s : Int × List Int) (m : Int) : s.1 ≤ (pushF s m).1 ∧ (pushF s m).1 ≤ s.1 + 1 ∧ (pushF s m).2.length ≤ s.2.length + 1 := by
  unfold pushF
  split
  · simp; omega
  · split
    · simp; omega
    · simp; omega

/-- What holds behind k pushes, in the world wr: the Span that is being made lies in block H; its Extra is a row of the call's own. -/
def PushRel (w : World) (B H : Nat) (row : Option Nat) (u : Int) (zs ys : List Int) (k : Nat) (wr : World) : Prop :=
  ∃ (uk : Int) (zk : List Int) (A : Option Addr) (c : Nat), (ys.take k).foldl pushF (u, zs) = (uk, zk) ∧ u ≤ uk ∧ uk ≤ u + k ∧ zk.length ≤ zs.length + k ∧
    wr.cell? ⟨H, 0, none⟩ = some (.int .i64 uk) ∧ wr.cell? ⟨H, 1, none⟩ = some (.slice A zk.length c) ∧ wr.frozen? ⟨H, 0, none⟩ = false ∧ wr.frozen? ⟨H, 1, none⟩ = false ∧
    wr.cell? ⟨H + 1, 0, none⟩ = some (.int .i64 0) ∧ wr.cell? ⟨H + 1, 1, none⟩ = some (.slice none 0 0) ∧ wr.frozen? ⟨H + 1, 0, none⟩ = false ∧ wr.frozen? ⟨H + 1, 1, none⟩ = false ∧
    wr.ownsRow B 3 1 (.slice A zk.length c) zk.length (zk.map (.int .i64)) ∧ w.grownBy wr row ∧ Lies (.slice A zk.length c) row (H + 2) ∧ H + 2 ≤ wr.heap.size

theorem take_next (ys : List Int) (k : Nat) (h : k < ys.length) : ys.take (k + 1) = ys.take k ++ [ys.getD k 0] := by
  rw [List.take_succ_eq_append_getElem h]
  simp [List.getD_eq_getElem?_getD, List.getElem?_eq_getElem h]

end Go.Proofs.Ytpaiigminmakgaa.Sp

/- span.Union: the merge of two, pushed. -/
namespace Go.Proofs.Ytpaiigminmakgaa.Sp
open Go.RowKit

def mergeF (xs ys : List Int) : List Int := List.merge xs ys (fun x y => decide (x ≤ y))
def unionF (a b : Int × List Int) : Int × List Int := (mergeF a.2 b.2).foldl pushF (firstU (max a.1 b.1), [])

theorem cell_new {w : World} (o : Obj) {b k : Nat} {v : Value} (h : b < w.heap.size) (e : w.cell? ⟨b, k, none⟩ = some v) : (w.alloc o).cell? ⟨b, k, none⟩ = some v := (World.cell?_alloc_lt w o ⟨b, k, none⟩ h).trans e
theorem frozen_new {w : World} (o : Obj) {b k : Nat} (h : b < w.heap.size) (e : w.frozen? ⟨b, k, none⟩ = false) : (w.alloc o).frozen? ⟨b, k, none⟩ = false := (World.frozen?_alloc_old w o ⟨b, k, none⟩ (Nat.ne_of_lt h)).trans e

def lenOf : Value → Nat | .slice _ n _ => n | _ => 0

def UniRel (w : World) (G : Nat) (t : Int × List Int) (xs ys : List Int) (wr : World) : Prop :=
  ∃ (u : Int) (z : List Int) (A : Option Addr) (c : Nat), (mergeF xs ys).foldl pushF (u, z) = t ∧ 0 ≤ u ∧ u + xs.length + ys.length ≤ 4294967296 ∧ z.length + xs.length + ys.length ≤ 4294967296 ∧
    wr.cell? ⟨G, 0, none⟩ = some (.int .i64 u) ∧ wr.cell? ⟨G, 1, none⟩ = some (.slice A z.length c) ∧ wr.frozen? ⟨G, 0, none⟩ = false ∧ wr.frozen? ⟨G, 1, none⟩ = false ∧
    wr.cell? ⟨w.heap.size + 2, 0, none⟩ = some (.int .i64 0) ∧ wr.cell? ⟨w.heap.size + 2, 1, none⟩ = some (.slice none 0 0) ∧ wr.frozen? ⟨w.heap.size + 2, 0, none⟩ = false ∧ wr.frozen? ⟨w.heap.size + 2, 1, none⟩ = false ∧
    wr.ownsRow (G + 1) 3 1 (.slice A z.length c) z.length (z.map (.int .i64)) ∧ Below w.heap.size w wr ∧ G + 1 ≤ wr.heap.size

theorem UniRel.drewN {w : World} {G : Nat} {t : Int × List Int} {xs ys : List Int} {wr : World} (h : UniRel w G t xs ys wr) (k : Nat) : UniRel w G t xs ys (wr.drewN k) := by
  obtain ⟨u, z, A, c, h1, h2, h3, h4, c0, c1, f0, f1, d0, d1, e0, e1, ho, hb, hs⟩ := h
  exact ⟨u, z, A, c, h1, h2, h3, h4, c0, c1, f0, f1, d0, d1, e0, e1, ho, ⟨hb.os, hb.tape, hb.output, hb.size, hb.block⟩, hs⟩

theorem IntsAt.head {w : World} {B : Nat} {A : Option Addr} {n : Nat} {zs : List Int} (h : IntsAt w B A n zs) (hn : 0 < n) :
    ∃ b off x xt, A = some ⟨b, off, none⟩ ∧ b < B ∧ zs = x :: xt ∧ xt.length = n - 1 ∧ w.cell? ⟨b, off, none⟩ = some (.int .i64 x) := by
  obtain ⟨b, off, e, hb, hc⟩ := h.2 hn
  match zs, h.1 with
  | [], h1 => simp at h1; omega
  | x :: xt, h1 => exact ⟨b, off, x, xt, e, hb, rfl, by simp at h1; omega, by simpa using hc 0 hn⟩

theorem cut_one (ad : Addr) (n c : Nat) (hn : 0 < n) (hnc : n ≤ c) : ∃ A', (∀ W, (Instr.slice 68 (.slice (some ad) n c) (some (.int .i64 1)) none none).run Try.prog W = .ok (.slice A' (n - 1) (c - 1)) W) ∧
    ∀ (w : World) (B : Nat) (z : Int) (zs : List Int), IntsAt w B (some ad) n (z :: zs) → IntsAt w B A' (n - 1) zs := by
  have hel : Try.prog.elem 68 = 3 := by kernel_rfl
  have hsz : ∀ W, (sizeOf 3).run Try.prog W = .ok 1 W := fun W => by
    obtain ⟨i, hi, _, hz1, _⟩ := info_parts Try.info3
    simp [sizeOf, typeInfo, hi, hz1]
  refine ⟨if c = 1 then some ad else some (ad.add 1), fun W => ?_, fun w B z zs h => ?_⟩
  · rw [run_slice_l (P := Try.prog) W 68 (some ad) n c (by rw [hel]; exact Try.underlying68) .i64 1 (by omega) (by omega), hel, hsz]
    simp [sliced]
  · refine ⟨by have := h.1; simp at this; omega, fun hp => ?_⟩
    obtain ⟨b, off, e, hb, hc⟩ := h.2 hn
    injection e with e
    subst e
    rw [if_neg (by omega)]
    refine ⟨b, off + 1, by rw [addr_add], hb, fun k hk => ?_⟩
    have := hc (k + 1) (by omega)
    rw [show off + 1 + k = off + (k + 1) by omega, this]
    simp

theorem grown_drewN {w w' : World} {row : Option Nat} {k : Nat} (h : (w.drewN k).grownBy w' row) : w.grownBy w' row := ⟨h.os, h.tape, h.output, h.size, h.block⟩

theorem UniRel.push {w wr w1 : World} {G : Nat} {t : Int × List Int} {xs ys : List Int} {u : Int} {z : List Int} {Az : Option Addr} {cz : Nat} {s : Int × List Int} {A1 : Option Addr} {c1 : Nat}
    (hm : (mergeF xs ys).foldl pushF s = t) (hs : u ≤ s.1 ∧ s.1 ≤ u + 1 ∧ s.2.length ≤ z.length + 1) (hu0 : 0 ≤ u) (hu1 : u + (xs.length + ys.length + 1) ≤ 4294967296) (hz1 : z.length + (xs.length + ys.length + 1) ≤ 4294967296)
    (p0 : wr.cell? ⟨G, 0, none⟩ = some (.int .i64 u)) (p1 : wr.cell? ⟨G, 1, none⟩ = some (.slice Az z.length cz)) (f0 : wr.frozen? ⟨G, 0, none⟩ = false) (f1 : wr.frozen? ⟨G, 1, none⟩ = false)
    (d0 : wr.cell? ⟨w.heap.size + 2, 0, none⟩ = some (.int .i64 0)) (d1 : wr.cell? ⟨w.heap.size + 2, 1, none⟩ = some (.slice none 0 0)) (e0 : wr.frozen? ⟨w.heap.size + 2, 0, none⟩ = false) (e1 : wr.frozen? ⟨w.heap.size + 2, 1, none⟩ = false)
    (hown : wr.ownsRow (G + 1) 3 1 (.slice Az z.length cz) z.length (z.map (.int .i64))) (hbel : Below w.heap.size w wr) (hsz : G + 1 ≤ wr.heap.size) (hG : w.heap.size + 2 < G)
    (hown1 : w1.ownsRow (G + 1) 3 1 (.slice A1 s.2.length c1) s.2.length (s.2.map (.int .i64))) (hg1 : wr.grownBy w1 (Value.ownBlock (.slice Az z.length cz))) :
    UniRel w G t xs ys ((w1.setCell ⟨G, 0, none⟩ (.int .i64 s.1)).setCell ⟨G, 1, none⟩ (.slice A1 s.2.length c1)) := by
  have hnr : ∀ j, j ≤ G → some j ≠ Value.ownBlock (.slice Az z.length cz) := fun j hj e => by have := (hown.lt j e.symm).1; omega
  have hn1 : Value.ownBlock (.slice A1 s.2.length c1) ≠ some G := fun e => by have := (hown1.lt G e).1; omega
  have hgc := fun b o (hb : b ≤ G) => grown_cell hg1 o (b := b) (by omega) (hnr b hb)
  have q0 := (hgc G 0 (Nat.le_refl _)).1.trans p0
  have q1 := (hgc G 1 (Nat.le_refl _)).1.trans p1
  have hne : ∀ i j k, (⟨G, i, none⟩ : Addr) ≠ ⟨w.heap.size + 2, j, k⟩ := fun i j k e => by injection e with e; omega
  refine ⟨s.1, s.2, A1, c1, hm, by omega, by omega, by omega, ?_, ?_, ?_, ?_, ?_, ?_, ?_, ?_, own_setCell (own_setCell hown1 hn1 _) hn1 _, ?_, ?_⟩
  · rw [World.cell?_setCell_other _ _ _ _ (by simp), World.cell?_setCell_same _ _ _ q0]
  · rw [World.cell?_setCell_same _ _ _ ((World.cell?_setCell_other _ _ _ _ (by simp)).trans q1)]
  · simpa [go_sem] using (hgc G 0 (Nat.le_refl _)).2.trans f0
  · simpa [go_sem] using (hgc G 1 (Nat.le_refl _)).2.trans f1
  · rw [World.cell?_setCell_other _ _ _ _ (hne _ _ _), World.cell?_setCell_other _ _ _ _ (hne _ _ _)]; exact (hgc _ 0 (by omega)).1.trans d0
  · rw [World.cell?_setCell_other _ _ _ _ (hne _ _ _), World.cell?_setCell_other _ _ _ _ (hne _ _ _)]; exact (hgc _ 1 (by omega)).1.trans d1
  · simpa [go_sem] using (hgc _ 0 (by omega)).2.trans e0
  · simpa [go_sem] using (hgc _ 1 (by omega)).2.trans e1
  · exact ((hbel.grown hg1 hbel.size (fun k hk => by have := (hown.lt k hk).1; omega)).setCell (by simp; omega) _).setCell (by simp; omega) _
  · have := hg1.size
    simp [World.setCell]
    omega

theorem merge_le {x y : Int} {xs ys : List Int} (h : x ≤ y) : mergeF (x :: xs) (y :: ys) = x :: mergeF xs (y :: ys) := by unfold mergeF; rw [List.cons_merge_cons]; simp [h]
theorem merge_gt {x y : Int} {xs ys : List Int} (h : ¬ x ≤ y) : mergeF (x :: xs) (y :: ys) = y :: mergeF (x :: xs) ys := by unfold mergeF; rw [List.cons_merge_cons]; simp [h]

theorem fold_lo (l : List Int) : ∀ s : Int × List Int, s.1 ≤ (l.foldl pushF s).1 ∧ (l.foldl pushF s).1 ≤ s.1 + l.length ∧ (l.foldl pushF s).2.length ≤ s.2.length + l.length := by
  induction l with
  | nil => intro s; simp
  | cons x l ih =>
    intro s
    have h1 := push_lo s x
    have h2 := ih (pushF s x)
    simp only [List.foldl_cons, List.length_cons]
    omega

theorem own_base {w : World} {B B' : Nat} {v : Value} {n : Nat} {xs : List Value} (h : w.ownsRow B 3 1 v n xs) (hB : B' ≤ B) : w.ownsRow B' 3 1 v n xs := by
  obtain ⟨h1, h2⟩ := h
  refine ⟨h1, ?_⟩
  rcases h2 with h2 | ⟨g, cap, cur, hv, hg, r⟩
  · exact .inl h2
  · exact .inr ⟨g, cap, cur, hv, by omega, r⟩

theorem lies_own {w : World} {B : Nat} {v : Value} {n : Nat} {xs : List Value} (h : w.ownsRow B 3 1 v n xs) {H : Nat} (hH : H ≤ B) : Lies v none H := by
  rcases e : v.ownBlock with _ | k
  · exact .inl e
  · exact .inr ⟨k, e, Nat.le_trans hH (h.lt k e).1⟩

end Go.Proofs.Ytpaiigminmakgaa.Sp

/- span.Add of a number that may be; the law's own little check 'told'. -/
namespace Go.Proofs.Ytpaiigminmakgaa.Sp
open Go.RowKit

theorem grown_none {w w' : World} (hg : w.grownBy w' none) : Below w.heap.size w w' := ⟨hg.os, hg.tape, hg.output, hg.size, fun k hk => hg.block k hk (by simp)⟩

theorem told_union : unionF (1, [3, 4]) (0, [2]) = (4, []) := by
  have h : mergeF [3, 4] [2] = [2, 3, 4] := by unfold mergeF; simp
  unfold unionF
  simp only [h]
  decide

theorem two_ints (w : World) (a b : Int) : IntsAt (w.alloc (.cells #[.int .i64 a, .int .i64 b] 3)) (w.heap.size + 1) (some ⟨w.heap.size, 0, none⟩) 2 [a, b] :=
  ⟨rfl, fun _ => ⟨_, _, rfl, by omega, fun k hk => by
    rcases (show k = 0 ∨ k = 1 by omega) with rfl | rfl <;> simp⟩⟩

end Go.Proofs.Ytpaiigminmakgaa.Sp

/- Spans as sets of numbers: plain facts on lists and integers, no program in them. -/
namespace Go.Proofs.Ytpaiigminmakgaa.Sp

/-- A Span that is the one of its set. -/
def Ok (s : Int × List Int) : Prop := 0 ≤ s.1 ∧ s.2.Pairwise (· < ·) ∧ ∀ z ∈ s.2, s.1 + 1 < z
def Mem (x : Int) (s : Int × List Int) : Prop := (1 ≤ x ∧ x ≤ s.1) ∨ x ∈ s.2

theorem sorted_ext : ∀ {a b : List Int}, a.Pairwise (· < ·) → b.Pairwise (· < ·) → (∀ x, x ∈ a ↔ x ∈ b) → a = b
  | [], [], _, _, _ => rfl
  | [], y :: ys, _, _, h => by have := (h y).2 (by simp); simp at this
  | x :: xs, [], _, _, h => by have := (h x).1 (by simp); simp at this
  | x :: xs, y :: ys, ha, hb, h => by
    rw [List.pairwise_cons] at ha hb
    have e : x = y := by
      have h1 := (h x).1 (by simp)
      have h2 := (h y).2 (by simp)
      simp only [List.mem_cons] at h1 h2
      rcases h1 with h1 | h1
      · exact h1
      · rcases h2 with h2 | h2
        · exact h2.symm
        · have := hb.1 x h1; have := ha.1 y h2; omega
    subst e
    congr 1
    refine sorted_ext ha.2 hb.2 fun z => ?_
    have hz := h z
    simp only [List.mem_cons] at hz
    constructor
    · intro hm
      rcases hz.1 (.inr hm) with e | e
      · have := ha.1 z hm; omega
      · exact e
    · intro hm
      rcases hz.2 (.inr hm) with e | e
      · have := hb.1 z hm; omega
      · exact e

theorem not_next {s : Int × List Int} (h : Ok s) : ¬ Mem (s.1 + 1) s := by
  rintro (h1 | h1)
  · omega
  · have := h.2.2 _ h1; omega

theorem Ok.ext {s t : Int × List Int} (hs : Ok s) (ht : Ok t) (h : ∀ x, Mem x s ↔ Mem x t) : s = t := by
  have hu : s.1 = t.1 := by
    rcases Int.lt_trichotomy s.1 t.1 with h1 | h1 | h1
    · exact absurd ((h _).2 (.inl ⟨by have := hs.1; omega, by omega⟩)) (not_next hs)
    · exact h1
    · exact absurd ((h _).1 (.inl ⟨by have := ht.1; omega, by omega⟩)) (not_next ht)
  have hz : s.2 = t.2 := by
    refine sorted_ext hs.2.1 ht.2.1 fun x => ?_
    constructor
    · intro hx
      rcases (h x).1 (.inr hx) with h1 | h1
      · have := hs.2.2 x hx; omega
      · exact h1
    · intro hx
      rcases (h x).2 (.inr hx) with h1 | h1
      · have := ht.2.2 x hx; omega
      · exact h1
  exact Prod.ext hu hz

theorem top_ge {s : Int × List Int} (h : Ok s) : s.1 ≤ topOf s.1 s.2 := by
  unfold topOf
  rcases e : s.2.getLast? with _ | z
  · simp
  · have := h.2.2 z (List.mem_of_getLast? e); simp; omega

theorem top_mem {u : Int} {zs : List Int} (h : zs ≠ []) : topOf u zs ∈ zs := by
  unfold topOf
  rw [List.getLast?_eq_some_getLast h]
  exact List.getLast_mem h

theorem le_top {u : Int} {zs : List Int} (hs : zs.Pairwise (· < ·)) {z : Int} (hz : z ∈ zs) : z ≤ topOf u zs := by
  unfold topOf
  rcases List.eq_nil_or_concat zs with rfl | ⟨l, y, rfl⟩
  · simp at hz
  · simp only [List.concat_eq_append] at *
    rw [List.getLast?_append]
    simp only [List.getLast?_singleton, Option.some_or, Option.getD_some]
    rw [List.pairwise_append] at hs
    simp only [List.mem_append, List.mem_singleton] at hz
    rcases hz with hz | rfl
    · have := hs.2.2 z hz y (by simp); omega
    · omega

theorem push_ok {s : Int × List Int} {m : Int} (h : Ok s) (hb : ∀ z ∈ s.2, z ≤ m) (h1 : 1 ≤ m) :
    Ok (pushF s m) ∧ (∀ x, Mem x (pushF s m) ↔ Mem x s ∨ x = m) ∧ ∀ z ∈ (pushF s m).2, z ≤ m := by
  unfold pushF
  split
  · rename_i ht
    refine ⟨h, fun x => ⟨.inl, ?_⟩, hb⟩
    rintro (hx | rfl)
    · exact hx
    · by_cases he : s.2 = []
      · refine .inl ⟨h1, ?_⟩
        rw [he] at ht
        simpa [topOf] using ht
      · have h2 := top_mem (u := s.1) he
        have h3 := hb _ h2
        have : x = topOf s.1 s.2 := by omega
        rw [this]
        exact .inr h2
  · rename_i ht
    have hge := top_ge h
    split
    · rename_i he
      have hnil : s.2 = [] := by
        rcases e : s.2 with _ | ⟨z, t⟩
        · rfl
        · have h2 := h.2.2 z (by simp [e]); have h3 := hb z (by simp [e]); omega
      refine ⟨⟨by have := h.1; simp; omega, by simp [hnil], by simp [hnil]⟩, fun x => ?_, by simp [hnil]⟩
      unfold Mem
      simp only [hnil, List.not_mem_nil, or_false]
      omega
    · rename_i he
      refine ⟨⟨h.1, ?_, ?_⟩, fun x => ?_, ?_⟩
      · simp only
        rw [List.pairwise_append]
        refine ⟨h.2.1, by simp, fun a ha b hb2 => ?_⟩
        simp only [List.mem_singleton] at hb2
        subst hb2
        have := le_top (u := s.1) h.2.1 ha
        omega
      · intro z hz
        simp only [List.mem_append, List.mem_singleton] at hz
        rcases hz with hz | rfl
        · exact h.2.2 z hz
        · simp only; omega
      · unfold Mem
        simp only [List.mem_append, List.mem_singleton]
        constructor
        · rintro (a | a | a)
          · exact .inl (.inl a)
          · exact .inl (.inr a)
          · exact .inr a
        · rintro ((a | a) | a)
          · exact .inl a
          · exact .inr (.inl a)
          · exact .inr (.inr a)
      · intro z hz
        simp only [List.mem_append, List.mem_singleton] at hz
        rcases hz with hz | rfl
        · exact hb z hz
        · omega

theorem fold_ok : ∀ (l : List Int) {s : Int × List Int}, Ok s → l.Pairwise (· ≤ ·) → (∀ z ∈ s.2, ∀ m ∈ l, z ≤ m) → (∀ m ∈ l, 1 ≤ m) → Ok (l.foldl pushF s) ∧ ∀ x, Mem x (l.foldl pushF s) ↔ Mem x s ∨ x ∈ l
  | [], s, h, _, _, _ => ⟨h, fun x => by simp⟩
  | m :: l, s, h, hs, hb, h1 => by
    rw [List.pairwise_cons] at hs
    obtain ⟨a, b, c⟩ := push_ok (m := m) h (fun z hz => hb z hz m (by simp)) (h1 m (by simp))
    obtain ⟨d, e⟩ := fold_ok l a hs.2 (fun z hz k hk => by have := c z hz; have := hs.1 k hk; omega) (fun k hk => h1 k (by simp [hk]))
    refine ⟨d, fun x => ?_⟩
    rw [List.foldl_cons, e x, b x, List.mem_cons, or_assoc]

theorem pw_le {zs : List Int} (h : zs.Pairwise (· < ·)) : zs.Pairwise (· ≤ ·) := h.imp (fun h => by omega)

theorem merge_sorted {xs ys : List Int} (hx : xs.Pairwise (· ≤ ·)) (hy : ys.Pairwise (· ≤ ·)) : (mergeF xs ys).Pairwise (· ≤ ·) := by
  unfold mergeF
  have := List.pairwise_merge (le := fun x y : Int => decide (x ≤ y)) (fun a b c => by simp; omega) (fun a b => by simp; omega) xs ys (hx.imp (fun h => by simpa using h)) (hy.imp (fun h => by simpa using h))
  exact this.imp (fun h => by simpa using h)

theorem mem_mergeF {xs ys : List Int} {x : Int} : x ∈ mergeF xs ys ↔ x ∈ xs ∨ x ∈ ys := by unfold mergeF; exact List.mem_merge

theorem union_ok {a b : Int × List Int} (ha : Ok a) (hb : Ok b) (ba : a.1 ≤ 1048576) (bb : b.1 ≤ 1048576) : Ok (unionF a b) ∧ ∀ x, Mem x (unionF a b) ↔ Mem x a ∨ Mem x b := by
  unfold unionF
  have hf : firstU (max a.1 b.1) = max a.1 b.1 := by have := ha.1; unfold firstU; omega
  rw [hf]
  obtain ⟨h1, h2⟩ := fold_ok (mergeF a.2 b.2) (s := (max a.1 b.1, [])) ⟨by have := ha.1; simp; omega, by simp, by simp⟩ (merge_sorted (pw_le ha.2.1) (pw_le hb.2.1)) (by simp)
    (fun m hm => by
      rcases mem_mergeF.1 hm with h | h
      · have := ha.2.2 m h; have := ha.1; omega
      · have := hb.2.2 m h; have := hb.1; omega)
  refine ⟨h1, fun x => ?_⟩
  rw [h2 x, mem_mergeF]
  unfold Mem
  simp only [List.not_mem_nil, or_false]
  constructor
  · rintro (h | h | h)
    · rcases Int.le_total a.1 b.1 with h3 | h3
      · exact .inr (.inl ⟨h.1, by omega⟩)
      · exact .inl (.inl ⟨h.1, by omega⟩)
    · exact .inl (.inr h)
    · exact .inr (.inr h)
  · rintro ((h | h) | (h | h))
    · exact .inl ⟨h.1, by omega⟩
    · exact .inr (.inl h)
    · exact .inl ⟨h.1, by omega⟩
    · exact .inr (.inr h)

theorem has_mem {s : Int × List Int} (h : Ok s) (t : Int) : hasOf s.1 s.2 t = true ↔ Mem t s := by
  unfold hasOf Mem
  split
  · rename_i ht
    simp only [decide_eq_true_eq]
    constructor
    · intro h1; exact .inl ⟨h1, ht⟩
    · rintro (h1 | h1)
      · exact h1.1
      · have := h.2.2 t h1; omega
  · rename_i ht
    simp only [decide_eq_true_eq]
    constructor
    · exact .inr
    · rintro (h1 | h1)
      · omega
      · exact h1

/-- span.Within, as it is reckoned. -/
def withinF (a b : Int × List Int) : Bool := decide (a.1 ≤ b.1) && a.2.all (fun n => hasOf b.1 b.2 n)

theorem within_mem {a b : Int × List Int} (hb : Ok b) : withinF a b = true ↔ ∀ x, Mem x a → Mem x b := by
  unfold withinF
  simp only [Bool.and_eq_true, decide_eq_true_eq, List.all_eq_true]
  constructor
  · rintro ⟨h1, h2⟩ x (hx | hx)
    · exact .inl ⟨hx.1, by omega⟩
    · exact (has_mem hb x).1 (h2 x hx)
  · intro h
    refine ⟨?_, fun x hx => (has_mem hb x).2 (h x (.inr hx))⟩
    rcases Int.lt_or_le b.1 a.1 with h1 | h1
    · exact absurd (h (b.1 + 1) (.inl ⟨by have := hb.1; omega, by omega⟩)) (not_next hb)
    · exact h1

/-- The document's Add: the number put in, then what is side by side taken in. -/
def insF (n : Int) : List Int → List Int
  | [] => [n]
  | z :: t => if n < z then n :: z :: t else z :: insF n t
def absF (u : Int) : List Int → Int × List Int
  | [] => (u, [])
  | z :: t => if z = u + 1 then absF (u + 1) t else (u, z :: t)
def refHasF (s : Int × List Int) (n : Int) : Bool := decide (1 ≤ n ∧ n ≤ s.1) || decide (n ∈ s.2)
def refAddF (s : Int × List Int) (n : Int) : Int × List Int := if n < 1 ∨ 1048576 < n ∨ refHasF s n = true then s else absF s.1 (insF n s.2)

theorem refHas_mem (s : Int × List Int) (n : Int) : refHasF s n = true ↔ Mem n s := by unfold refHasF Mem; simp

theorem ins_mem (n x : Int) : ∀ l : List Int, x ∈ insF n l ↔ x = n ∨ x ∈ l
  | [] => by simp [insF]
  | z :: t => by
    unfold insF
    split
    · simp
    · simp only [List.mem_cons, ins_mem n x t]
      constructor
      · rintro (h | h | h)
        · exact .inr (.inl h)
        · exact .inl h
        · exact .inr (.inr h)
      · rintro (h | h | h)
        · exact .inr (.inl h)
        · exact .inl h
        · exact .inr (.inr h)

theorem ins_sorted (n : Int) : ∀ l : List Int, l.Pairwise (· < ·) → n ∉ l → (insF n l).Pairwise (· < ·)
  | [], _, _ => by simp [insF]
  | z :: t, h, hn => by
    rw [List.pairwise_cons] at h
    simp only [List.mem_cons, not_or] at hn
    unfold insF
    split
    · rename_i hz
      rw [List.pairwise_cons]
      refine ⟨fun y hy => ?_, List.pairwise_cons.2 h⟩
      simp only [List.mem_cons] at hy
      rcases hy with rfl | hy
      · exact hz
      · have := h.1 y hy; omega
    · rename_i hz
      rw [List.pairwise_cons]
      refine ⟨fun y hy => ?_, ins_sorted n t h.2 hn.2⟩
      rcases (ins_mem n y t).1 hy with rfl | hy
      · omega
      · exact h.1 y hy

theorem abs_ok : ∀ (l : List Int) (u : Int), 0 ≤ u → l.Pairwise (· < ·) → (∀ z ∈ l, u < z) → Ok (absF u l) ∧ ∀ x, Mem x (absF u l) ↔ Mem x (u, l)
  | [], u, h0, _, _ => ⟨⟨h0, by simp [absF], by simp [absF]⟩, fun x => Iff.rfl⟩
  | z :: t, u, h0, hs, hb => by
    rw [List.pairwise_cons] at hs
    unfold absF
    split
    · rename_i hz
      obtain ⟨a, b⟩ := abs_ok t (u + 1) (by omega) hs.2 (fun y hy => by have := hs.1 y hy; omega)
      refine ⟨a, fun x => ?_⟩
      rw [b x]
      unfold Mem
      simp only [List.mem_cons]
      constructor
      · rintro (h | h)
        · by_cases hx : x ≤ u
          · exact .inl ⟨h.1, hx⟩
          · exact .inr (.inl (by omega))
        · exact .inr (.inr h)
      · rintro (h | h | h)
        · exact .inl ⟨h.1, by omega⟩
        · exact .inl ⟨by omega, by omega⟩
        · exact .inr h
    · rename_i hz
      refine ⟨⟨h0, List.pairwise_cons.2 hs, fun y hy => ?_⟩, fun x => Iff.rfl⟩
      simp only [List.mem_cons] at hy
      have h1 := hb z (by simp)
      rcases hy with rfl | hy
      · simp only; omega
      · have := hs.1 y hy; simp only; omega

theorem refAdd_ok {s : Int × List Int} (h : Ok s) (n : Int) : Ok (refAddF s n) ∧ ∀ x, Mem x (refAddF s n) ↔ Mem x s ∨ (x = n ∧ 1 ≤ n ∧ n ≤ 1048576) := by
  unfold refAddF
  split
  · rename_i hc
    refine ⟨h, fun x => ⟨.inl, ?_⟩⟩
    rintro (hx | ⟨rfl, h1, h2⟩)
    · exact hx
    · rcases hc with hc | hc | hc
      · omega
      · omega
      · exact (refHas_mem s x).1 hc
  · rename_i hc
    simp only [not_or] at hc
    have hn : ¬ Mem n s := fun hm => hc.2.2 ((refHas_mem s n).2 hm)
    have hns : n ∉ s.2 := fun hm => hn (.inr hm)
    obtain ⟨a, b⟩ := abs_ok (insF n s.2) s.1 h.1 (ins_sorted n s.2 h.2.1 hns) (fun z hz => by
      rcases (ins_mem n z s.2).1 hz with rfl | hz
      · rcases Int.lt_or_le s.1 z with h1 | h1
        · exact h1
        · exact absurd (.inl ⟨by omega, h1⟩) hn
      · have := h.2.2 z hz; omega)
    refine ⟨a, fun x => ?_⟩
    rw [b x]
    unfold Mem
    simp only [ins_mem]
    constructor
    · rintro (h1 | rfl | h1)
      · exact .inl (.inl h1)
      · exact .inr ⟨rfl, by omega, by omega⟩
      · exact .inl (.inr h1)
    · rintro ((h1 | h1) | ⟨rfl, _, _⟩)
      · exact .inl h1
      · exact .inr (.inr h1)
      · exact .inr (.inl rfl)

/-- span.Add, as it is reckoned, of a number that may be. -/
theorem addF_ok {s : Int × List Int} (h : Ok s) (hb : s.1 ≤ 1048576) {m : Int} (h1 : 1 ≤ m) : Ok (unionF s (0, [m])) ∧ ∀ x, Mem x (unionF s (0, [m])) ↔ Mem x s ∨ x = m := by
  unfold unionF
  have hf : firstU (max s.1 0) = s.1 := by have := h.1; unfold firstU; omega
  simp only [hf]
  obtain ⟨a, b⟩ := fold_ok (mergeF s.2 [m]) (s := (s.1, [])) ⟨h.1, by simp, by simp⟩ (merge_sorted (pw_le h.2.1) (by simp)) (by simp)
    (fun k hk => by
      rcases mem_mergeF.1 hk with h3 | h3
      · have := h.2.2 k h3; have := h.1; omega
      · simp at h3; omega)
  refine ⟨a, fun x => ?_⟩
  rw [b x, mem_mergeF]
  unfold Mem
  simp only [List.not_mem_nil, or_false, List.mem_singleton, or_assoc]

theorem add_eq {s : Int × List Int} (h : Ok s) (hb : s.1 ≤ 1048576) {m : Int} (h1 : 1 ≤ m) (h2 : m ≤ 1048576) : unionF s (0, [m]) = refAddF s m := by
  obtain ⟨a, b⟩ := addF_ok h hb h1
  obtain ⟨c, d⟩ := refAdd_ok h m
  refine Ok.ext a c fun x => ?_
  rw [b x, d x]
  constructor
  · rintro (h3 | h3)
    · exact .inl h3
    · exact .inr ⟨h3, h1, h2⟩
  · rintro (h3 | h3)
    · exact .inl h3
    · exact .inr h3.1
end Go.Proofs.Ytpaiigminmakgaa.Sp

/- The law's To and From: a Span told in the other package's type, its Extra copied. -/
namespace Go.Proofs.Ytpaiigminmakgaa.Sp
open Go.RowKit

theorem empty_own (w : World) (B g : Nat) (hg : w.heap.size = g) (hB : B ≤ g) : (w.alloc (Obj.cells #[] 3)).drew.ownsRow B 3 1 (.slice (some ⟨g, 0, none⟩) 0 0) 0 (([] : List Int).map (.int .i64)) := by
  subst hg
  exact ⟨rfl, .inr ⟨w.heap.size, 0, #[], rfl, hB, heap_alloc_new w _, Nat.le_refl _, Nat.zero_le _, rfl, rfl⟩⟩

set_option maxRecDepth 100000 in
set_option maxHeartbeats 1000000 in
theorem to_any (u : Int) (A : Option Addr) (n c : Nat) (zs : List Int) (B : Nat) (w : World) (hB : B ≤ w.heap.size) (hz : IntsAt w B A n zs) (hn : n ≤ 1073741824) :
    Calls Try.prog 53 #[.agg #[.int .i64 u, .slice A n c]] w (OwnSpan w.heap.size none (u, zs) w) := by
  have hb0 : Below w.heap.size w (((w.alloc (Obj.cells #[Value.int IntKind.i64 u, Value.slice A n c] 86)).alloc (Obj.cells #[Value.int IntKind.i64 0, Value.slice none 0 0] 95)).alloc (Obj.cells #[] 3)).drew := ((((Below.refl _ _).alloc (Nat.le_refl _) _).alloc (by simp) _).alloc (by simp; omega) _).drew
  have hO : (((w.alloc (Obj.cells #[Value.int IntKind.i64 u, Value.slice A n c] 86)).alloc (Obj.cells #[Value.int IntKind.i64 0, Value.slice none 0 0] 95)).alloc (Obj.cells #[] 3)).drew.ownsRow (w.heap.size + 2) 3 1 (.slice (some ⟨w.heap.size + 2, 0, none⟩) 0 0) 0 (([] : List Int).map (.int .i64)) := empty_own _ _ _ (by simp) (Nat.le_refl _)
  have HR : Hid (IntsAt (((w.alloc (Obj.cells #[Value.int IntKind.i64 u, Value.slice A n c] 86)).alloc (Obj.cells #[Value.int IntKind.i64 0, Value.slice none 0 0] 95)).alloc (Obj.cells #[] 3)).drew B A n zs) := hz.keep (hb0.mono hB)
  have hl : zs.length = n := hz.1
  have HL := Lib.hid hl
  have HO := Lib.hid hO
  have HB0 := Lib.hid hb0
  clear hz hO hb0 hl
  go_enter Try.func53, Try.ntmps53
  go_wp2
  go_region_law
    (first
      | (refine step_append_ints (w := (((w.alloc (Obj.cells #[Value.int IntKind.i64 u, Value.slice A n c] 86)).alloc (Obj.cells #[Value.int IntKind.i64 0, Value.slice none 0 0] 95)).alloc (Obj.cells #[] 3)).drew) (B := w.heap.size + 2) (B' := B) (v := .slice (some ⟨w.heap.size + 2, 0, none⟩) 0 0) (n := 0) (zs := []) (A := A) (m := n) (c := c) (ys := zs) rfl _ _ rfl rfl HO.out rfl HR.out ?_ ?_ ?_
         · omega
         · simp
         intro A3 c3 w3 hown3 hg3 _
         have hne : ∀ k, k < w.heap.size + 2 → some k ≠ Value.ownBlock (.slice (some ⟨w.heap.size + 2, 0, none⟩) 0 0) := fun k hk e => by simp only [Value.ownBlock, Option.some.injEq] at e; omega
         have k00 : w3.cell? ⟨w.heap.size, 0, none⟩ = some (.int .i64 u) := (grown_cell hg3 0 (by simp; omega) (hne _ (by omega))).1.trans (by simp [go_sem])
         have k01 : w3.cell? ⟨w.heap.size, 1, none⟩ = some (.slice A n c) := (grown_cell hg3 1 (by simp; omega) (hne _ (by omega))).1.trans (by simp [go_sem])
         have k10 : w3.cell? ⟨w.heap.size + 1, 0, none⟩ = some (.int .i64 0) := (grown_cell hg3 0 (by simp) (hne _ (by omega))).1.trans (by simp [go_sem])
         have k11 : w3.cell? ⟨w.heap.size + 1, 1, none⟩ = some (.slice none 0 0) := (grown_cell hg3 1 (by simp) (hne _ (by omega))).1.trans (by simp [go_sem])
         have f10 : w3.frozen? ⟨w.heap.size + 1, 0, none⟩ = false := (grown_cell hg3 0 (by simp) (hne _ (by omega))).2.trans (by simp [go_sem])
         have f11 : w3.frozen? ⟨w.heap.size + 1, 1, none⟩ = false := (grown_cell hg3 1 (by simp) (hne _ (by omega))).2.trans (by simp [go_sem])
         have HB3 : Hid (Below w.heap.size w w3) := HB0.out.grown hg3 (by simp; omega) (fun k hk => by simp only [Value.ownBlock, Option.some.injEq] at hk; omega)
         have HO3 := Lib.hid hown3
         clear hown3 hg3 hne))
  all_goals
    go_wp2
    refine bodyPost_ret (v := .agg #[.int .i64 u, .slice A3 n c3]) ?_ rfl ?_
    · simp [results, Try.results53, go_sem, k10, k11]
    · have hO4 := HO3.out
      rw [Nat.zero_add, List.nil_append] at hO4
      have hn4 : Value.ownBlock (.slice A3 n c3) ≠ some (w.heap.size + 1) := fun e => by have := (hO4.lt _ e).1; omega
      exact ownSpan_of rfl HL.out (own_base (own_setCell (own_setCell hO4 (p := ⟨w.heap.size + 1, 0, none⟩) hn4 _) (p := ⟨w.heap.size + 1, 1, none⟩) hn4 _) (by omega)) (grown_of_below ((HB3.out.setCell (by simp) _).setCell (by simp) _) _) (lies_own hO4 (by omega))

end Go.Proofs.Ytpaiigminmakgaa.Sp

/- span.Right and the document's: whether a Span may be. -/
namespace Go.Proofs.Ytpaiigminmakgaa.Sp
open Go.RowKit

def chainB (b : Int) : List Int → Bool
  | [] => true
  | z :: t => decide (b < z ∧ z ≤ 1048576) && chainB z t
def rightF (u : Int) (zs : List Int) : Bool := decide (0 ≤ u ∧ u ≤ 1048576 ∧ zs.length ≤ 4096) && chainB (u + 1) zs

theorem drop_next (zs : List Int) (k : Nat) (h : k < zs.length) : zs.drop k = zs.getD k 0 :: zs.drop (k + 1) := by
  rw [List.drop_eq_getElem_cons h]
  simp [List.getD_eq_getElem?_getD, List.getElem?_eq_getElem h]

theorem chain_step {b : Int} {zs : List Int} {k : Nat} (h : k < zs.length) : chainB b (zs.drop k) = (decide (b < zs.getD k 0 ∧ zs.getD k 0 ≤ 1048576) && chainB (zs.getD k 0) (zs.drop (k + 1))) := by
  rw [drop_next zs k h]; rfl

end Go.Proofs.Ytpaiigminmakgaa.Sp

/- The document's own Right. -/
namespace Go.Proofs.Ytpaiigminmakgaa.Sp
open Go.RowKit

/-- A world that differs from W by draws alone. -/
def Drawn (W wr : World) : Prop := ∃ q, wr = W.drewN q
theorem Drawn.refl (W : World) : Drawn W W := ⟨0, rfl⟩
theorem below_d {B : Nat} {a w : World} (h : Below B a w) (n : Nat) : Below B a (w.drewN n) := ⟨h.os, h.tape, h.output, h.size, h.block⟩

/-- The same memory and streams: draws apart. -/
def SameW (W W' : World) : Prop := W'.heap = W.heap ∧ W'.os = W.os ∧ W'.tape = W.tape ∧ W'.output = W.output
theorem below_via {B : Nat} {w W W' w1 : World} (h : Below B w W) (h1 : Below W'.heap.size W' w1) (hB : B ≤ W.heap.size) (e : SameW W W') : Below B w w1 := by
  obtain ⟨e1, e2, e3, e4⟩ := e
  exact ⟨h1.os.trans (e2.trans h.os), h1.tape.trans (e3.trans h.tape), h1.output.trans (e4.trans h.output), Nat.le_trans h.size (by have := h1.size; rw [e1] at this; exact this), fun k hk => (h1.block k (by rw [e1]; omega)).trans (by rw [e1]; exact h.block k hk)⟩
theorem ints_via {B : Nat} {W W' w1 : World} {A : Option Addr} {n : Nat} {zs : List Int} (h : IntsAt W B A n zs) (h1 : Below W'.heap.size W' w1) (hB : B ≤ W.heap.size) (e : SameW W W') : IntsAt w1 B A n zs :=
  h.keep (below_via (Below.refl _ _) h1 hB e)
theorem ints_same {B : Nat} {W W' : World} {A : Option Addr} {n : Nat} {zs : List Int} (h : IntsAt W B A n zs) (e : W'.heap = W.heap) : IntsAt W' B A n zs :=
  ⟨h.1, fun hn => by
    obtain ⟨b, off, e1, hlt, hc⟩ := h.2 hn
    exact ⟨b, off, e1, hlt, fun k hk => (World.cell?_of_block (a := ⟨b, off + k, none⟩) (by rw [e])).trans (hc k hk)⟩⟩

theorem ints_take {w : World} {B : Nat} {A : Option Addr} {n m : Nat} {zs : List Int} (h : IntsAt w B A n zs) (hm : m ≤ n) : IntsAt w B A m (zs.take m) :=
  ⟨by rw [List.length_take, h.1]; omega, fun hp => by
    obtain ⟨b, off, e, hlt, hc⟩ := h.2 (by omega)
    refine ⟨b, off, e, hlt, fun k hk => (hc k (by omega)).trans ?_⟩
    simp [List.getD_eq_getElem?_getD, hk]⟩

end Go.Proofs.Ytpaiigminmakgaa.Sp

/- The document's Has, Count, Top and Same; the program's Same (slices.Equal) and Within. -/
namespace Go.Proofs.Ytpaiigminmakgaa.Sp
open Go.RowKit

theorem mem_drop_iff {zs : List Int} {t : Int} {k : Nat} (h : ∀ j, j < k → j < zs.length → zs.getD j 0 ≠ t) (hk : k = zs.length) : t ∉ zs := by
  rw [mem_getD]
  rintro ⟨j, hj, e⟩
  exact h j (by omega) hj e

set_option maxRecDepth 100000 in
set_option maxHeartbeats 1000000 in
theorem refHas_any (u : Int) (A : Option Addr) (n c : Nat) (zs : List Int) (t : Int) (B : Nat) (w : World) (hB : B ≤ w.heap.size) (hz : IntsAt w B A n zs) (hn : n ≤ 1073741824) :
    Calls Try.prog 71 #[.agg #[.int .i64 u, .slice A n c], .int .i64 t] w fun e w' => e = .returned (.bool (refHasF (u, zs) t)) ∧ Below w.heap.size w w' := by
  have HL : Hid (zs.length = n) := hz.1
  have HZ := Lib.hid hz
  clear hz
  by_cases h1 : 1 ≤ t ∧ t ≤ u
  · have HF : Hid (refHasF (u, zs) t = true) := by show refHasF (u, zs) t = true; unfold refHasF; rw [decide_eq_true h1]; rfl
    obtain ⟨h1a, h1b⟩ := h1
    go_enter Try.func71, Try.ntmps71
    go_wp2
    go_ret
    exact ⟨ret_bool HF.out.symm, (Below.refl _ _).alloc (Nat.le_refl _) _⟩
  have HF : Hid (refHasF (u, zs) t = decide (t ∈ zs)) := by show refHasF (u, zs) t = _; unfold refHasF; rw [decide_eq_false h1]; rfl
  have rest : ∀ (P : Prop), (P ↔ 1 ≤ t) → P ∨ ¬ P := fun P _ => Classical.em P
  clear rest
  by_cases h2 : 1 ≤ t
  all_goals
    first
      | (have h3 : decide (t ≤ u) = false := by simp; omega)
      | (have h3 : decide (1 ≤ t) = false := by simp; omega)
    go_enter Try.func71, Try.ntmps71
    go_wp2
    go_loop [5] (fun i => ∃ k : Nat, k ≤ n ∧ i = .int .i64 k ∧ Hid (∀ j, j < k → j < zs.length → zs.getD j 0 ≠ t)) (fun i => n - (intOf i).toNat)
    case atStart => exact ⟨0, by omega, rfl, fun j hj => by omega⟩
    case round =>
      obtain ⟨k, hk, rfl, HQ⟩ := hrel
      by_cases hlt : k < n
      · obtain ⟨b, off, rfl, hbB, hc⟩ := HZ.out.2 (by omega)
        have hc1 := hc k hlt
        have hb' : b < w.heap.size := by omega
        clear hc
        by_cases he : zs.getD k 0 = t
        · have he' : (zs[k]?.getD 0 == t) = true := by simpa [List.getD_eq_getElem?_getD] using he
          have HE : Hid (refHasF (u, zs) t = true) := by show refHasF (u, zs) t = _; rw [HF.out, decide_eq_true_eq, mem_getD]; exact ⟨k, by rw [HL.out]; exact hlt, he⟩
          clear he
          go_wp2
          go_ret
          exact ⟨ret_bool HE.out.symm, (Below.refl _ _).alloc (Nat.le_refl _) _⟩
        · have he' : (zs[k]?.getD 0 == t) = false := by simpa [List.getD_eq_getElem?_getD] using he
          have HE : Hid (∀ j, j < k + 1 → j < zs.length → zs.getD j 0 ≠ t) := fun j hj hj2 => by
            rcases Nat.lt_or_ge j k with h | h
            · exact HQ.out j h hj2
            · rw [show j = k by omega]; exact he
          clear he
          go_wp2
          go_round
          case rel => exact ⟨k + 1, by omega, by go_num, HE⟩
          case measure => simp [intOf]; omega
      · have HE : Hid (refHasF (u, zs) t = false) := by
          show refHasF (u, zs) t = _
          rw [HF.out, decide_eq_false_iff_not]
          exact mem_drop_iff HQ.out (by rw [HL.out]; omega)
        go_wp2
        go_ret
        exact ⟨ret_bool HE.out.symm, (Below.refl _ _).alloc (Nat.le_refl _) _⟩

set_option maxRecDepth 100000 in
set_option maxHeartbeats 400000 in
theorem refCount_any (u : Int) (A : Option Addr) (n c : Nat) (w : World) (h0 : 0 ≤ u) (h1 : u ≤ 1048576) (hn : n ≤ 1099511627776) :
    Calls Try.prog 65 #[.agg #[.int .i64 u, .slice A n c]] w fun e w' => e = .returned (.int .i64 (u + n)) ∧ Below w.heap.size w w' := by
  go_enter Try.func65, Try.ntmps65
  go_wp2
  go_ret
  exact ⟨rfl, (Below.refl _ _).alloc (Nat.le_refl _) _⟩

theorem eq_of_cells {xs ys : List Int} {n : Nat} (hx : xs.length = n) (hy : ys.length = n) (h : ∀ j, j < n → xs.getD j 0 = ys.getD j 0) : xs = ys := by
  refine List.ext_getElem (by omega) fun i h1 h2 => ?_
  have := h i (by omega)
  simpa [List.getD_eq_getElem?_getD, List.getElem?_eq_getElem h1, List.getElem?_eq_getElem h2] using this

def sameF (a b : Int × List Int) : Bool := decide (a = b)

end Go.Proofs.Ytpaiigminmakgaa.Sp

/- span.Within; the document's Same. -/
namespace Go.Proofs.Ytpaiigminmakgaa.Sp
open Go.RowKit

theorem all_take_next {p : Int → Bool} {zs : List Int} {k : Nat} (h : k < zs.length) : (zs.take (k + 1)).all p = ((zs.take k).all p && p (zs.getD k 0)) := by
  rw [take_next zs k h, List.all_append]
  simp

end Go.Proofs.Ytpaiigminmakgaa.Sp

/- The document's Add. -/
namespace Go.Proofs.Ytpaiigminmakgaa.Sp
open Go.RowKit

def condF (s : Int × List Int) (m : Int) : Bool := decide (m < 1) || (decide (1048576 < m) || refHasF s m)

theorem ins_take {m : Int} {zs : List Int} {k : Nat} (h : k < zs.length) (hk : zs.getD k 0 ≤ m) (he : insF m zs = zs.take k ++ insF m (zs.drop k)) : insF m zs = zs.take (k + 1) ++ insF m (zs.drop (k + 1)) := by
  rw [he, drop_next zs k h, take_next zs k h]
  show _ ++ (if m < zs.getD k 0 then _ else _) = _
  rw [if_neg (by omega), List.append_assoc]
  rfl

theorem ins_hit {m : Int} {zs : List Int} {k : Nat} (h : k < zs.length) (hk : m < zs.getD k 0) (he : insF m zs = zs.take k ++ insF m (zs.drop k)) : zs.take k ++ [m] ++ [zs.getD k 0] ++ zs.drop (k + 1) = insF m zs := by
  rw [he, drop_next zs k h]
  show _ = _ ++ (if m < zs.getD k 0 then _ else _)
  rw [if_pos hk]
  simp

theorem ins_done {m : Int} {zs l : List Int} {k : Nat} (h : k < zs.length) (he : l ++ zs.drop k = insF m zs) : l ++ [zs.getD k 0] ++ zs.drop (k + 1) = insF m zs := by
  rw [← he, drop_next zs k h]
  simp

/-- The call's own variables, in the world wr: the Span that came in lies in its block, the answer's block is still empty; G: the first block of its own rows. -/
def Locals (w : World) (G : Nat) (u : Int) (A : Option Addr) (n c : Nat) (wr : World) : Prop :=
  wr.cell? ⟨w.heap.size, 0, none⟩ = some (.int .i64 u) ∧ wr.cell? ⟨w.heap.size, 1, none⟩ = some (.slice A n c) ∧
    wr.cell? ⟨w.heap.size + 1, 0, none⟩ = some (.int .i64 0) ∧ wr.cell? ⟨w.heap.size + 1, 1, none⟩ = some (.slice none 0 0) ∧ wr.frozen? ⟨w.heap.size + 1, 0, none⟩ = false ∧ wr.frozen? ⟨w.heap.size + 1, 1, none⟩ = false ∧
    Below w.heap.size w wr ∧ G ≤ wr.heap.size

theorem Locals.app {w : World} {G : Nat} {u : Int} {A : Option Addr} {n c : Nat} {wr w3 : World} (h : Locals w G u A n c wr) {v : Value} {k : Nat} {xs : List Value} (ho : wr.ownsRow G 3 1 v k xs) (hG : w.heap.size + 2 ≤ G) {o : Obj} (hg : (wr.alloc o).grownBy w3 v.ownBlock) : Locals w G u A n c w3 := by
  obtain ⟨j0, j1, j2, j3, j4, j5, hb, hs⟩ := h
  have hne : ∀ i, i < G → some i ≠ v.ownBlock := fun i hi e => by have := (ho.lt i e.symm).1; omega
  obtain ⟨c0, _⟩ := grown_new hg (b := w.heap.size) (by omega) (hne _ (by omega))
  obtain ⟨c1, f1⟩ := grown_new hg (b := w.heap.size + 1) (by omega) (hne _ (by omega))
  exact ⟨(c0 0).trans j0, (c0 1).trans j1, (c1 0).trans j2, (c1 1).trans j3, (f1 0).trans j4, (f1 1).trans j5, (hb.alloc hb.size _).grown hg (by simp; omega) (fun i hi => by have := (ho.lt i hi).1; omega), Nat.le_trans hs (by have := hg.size; simp at this; omega)⟩

/-- What holds in the first loop's round k. -/
def InsRel (w : World) (G : Nat) (u : Int) (A : Option Addr) (n c : Nat) (zs : List Int) (m : Int) (k : Nat) (done : Bool) (Al : Option Addr) (nl cl : Nat) (wr : World) : Prop :=
  ∃ l : List Int, (if done then l ++ zs.drop k = insF m zs ∧ nl = k + 1 else l = zs.take k ∧ insF m zs = zs.take k ++ insF m (zs.drop k) ∧ nl = k) ∧
    wr.ownsRow G 3 1 (.slice Al nl cl) nl (l.map (.int .i64)) ∧ Locals w G u A n c wr

theorem Locals.fin {w : World} {G : Nat} {u : Int} {A : Option Addr} {n c : Nat} {wr w3 : World} (h : Locals w G u A n c wr) (hG : w.heap.size + 2 ≤ G) {o : Obj} {k : Nat} (hg : (wr.alloc o).grownBy w3 (Value.ownBlock (.slice (some ⟨wr.heap.size, 0, none⟩) k k))) : Locals w G u A n c w3 := by
  obtain ⟨j0, j1, j2, j3, j4, j5, hb, hs⟩ := h
  have hne : ∀ i, i < wr.heap.size → some i ≠ Value.ownBlock (.slice (some ⟨wr.heap.size, 0, none⟩) k k) := fun i hi e => by simp only [Value.ownBlock, Option.some.injEq] at e; omega
  obtain ⟨c0, _⟩ := grown_new hg (b := w.heap.size) (by omega) (hne _ (by omega))
  obtain ⟨c1, f1⟩ := grown_new hg (b := w.heap.size + 1) (by omega) (hne _ (by omega))
  exact ⟨(c0 0).trans j0, (c0 1).trans j1, (c1 0).trans j2, (c1 1).trans j3, (f1 0).trans j4, (f1 1).trans j5, (hb.alloc hb.size _).grown hg (by simp; omega) (fun i hi => by simp only [Value.ownBlock, Option.some.injEq] at hi; omega), Nat.le_trans hs (by have := hg.size; simp at this; omega)⟩

theorem empty_own0 (w : World) : (w.alloc (Obj.cells #[] 3)).ownsRow w.heap.size 3 1 (.slice (some ⟨w.heap.size, 0, none⟩) 0 0) 0 (([] : List Int).map (.int .i64)) :=
  ⟨rfl, .inr ⟨w.heap.size, 0, #[], rfl, Nat.le_refl _, heap_alloc_new w _, Nat.le_refl _, Nat.zero_le _, rfl, rfl⟩⟩

theorem own_cap {w : World} {B : Nat} {A : Option Addr} {n c : Nat} {xs : List Value} (h : w.ownsRow B 3 1 (.slice A n c) n xs) : n ≤ c := by
  rcases h.2 with ⟨e, rfl⟩ | ⟨g, cap, _, e, _, _, hn, _⟩
  · exact Nat.zero_le _
  · injection e with _ _ e; omega

theorem copy_end {w : World} {G : Nat} {wr : World} {u : Int} {l : List Int} {Al : Option Addr} {nl cl : Nat} (hown : wr.ownsRow G 3 1 (.slice Al nl cl) nl (l.map (.int .i64))) (hG : w.heap.size + 2 ≤ G) (hb : Below w.heap.size w wr) {s : Int × List Int} (hs : s = (u, l)) (hl : l.length = nl) :
    OwnSpan w.heap.size none s w (.returned (.agg #[.int .i64 u, .slice Al nl cl])) ((wr.setCell ⟨w.heap.size + 1, 0, none⟩ (.int .i64 u)).setCell ⟨w.heap.size + 1, 1, none⟩ (.slice Al nl cl)) := by
  have hn4 : Value.ownBlock (.slice Al nl cl) ≠ some (w.heap.size + 1) := fun e => by have := (hown.lt _ e).1; omega
  exact ownSpan_of hs hl (own_base (own_setCell (own_setCell hown (p := ⟨w.heap.size + 1, 0, none⟩) hn4 _) (p := ⟨w.heap.size + 1, 1, none⟩) hn4 _) (by omega)) (grown_of_below ((hb.setCell (by simp) _).setCell (by simp) _) _) (lies_own hown (by omega))

set_option maxRecDepth 100000 in
set_option maxRecDepth 100000 in
set_option maxHeartbeats 2000000 in
theorem refAdd_any (u : Int) (A : Option Addr) (n c : Nat) (zs : List Int) (m : Int) (B : Nat) (w : World) (hB : B ≤ w.heap.size) (hz : IntsAt w B A n zs) (hn : n ≤ 1048576) (h0 : 0 ≤ u) (h1 : u ≤ 1073741824) :
    Calls Try.prog 66 #[.agg #[.int .i64 u, .slice A n c], .int .i64 m] w (OwnSpan w.heap.size none (refAddF (u, zs) m) w) := by
  have HZ := Lib.hid hz
  have HL : Hid (zs.length = n) := hz.1
  clear hz
  go_enter Try.func66, Try.ntmps66
  go_upto_region 1 with fail
  go_cut [19] (fun s19 wx => s19 = .bool (condF (u, zs) m) ∧ wx.cell? ⟨w.heap.size, 0, none⟩ = some (.int .i64 u) ∧ wx.cell? ⟨w.heap.size, 1, none⟩ = some (.slice A n c) ∧ wx.cell? ⟨w.heap.size + 1, 0, none⟩ = some (.int .i64 0) ∧ wx.cell? ⟨w.heap.size + 1, 1, none⟩ = some (.slice none 0 0) ∧ wx.frozen? ⟨w.heap.size + 1, 0, none⟩ = false ∧ wx.frozen? ⟨w.heap.size + 1, 1, none⟩ = false ∧ Hid (Below w.heap.size w wx) ∧ w.heap.size + 2 ≤ wx.heap.size)
  case first =>
    by_cases c1 : m < 1
    · have HC : Hid (condF (u, zs) m = true) := by show condF (u, zs) m = true; unfold condF; rw [decide_eq_true c1]; rfl
      go_wp2
      go_meet
      case rel => exact ⟨by rw [HC.out], by simp [go_sem], by simp [go_sem], by simp [go_sem], by simp [go_sem], by simp [go_sem], by simp [go_sem], ((Below.refl _ _).alloc (Nat.le_refl _) _).alloc (by simp) _, by simp⟩
    · by_cases c2 : 1048576 < m
      · have HC : Hid (condF (u, zs) m = true) := by show condF (u, zs) m = true; unfold condF; rw [decide_eq_true c2]; simp
        go_wp2
        go_meet
        case rel => exact ⟨by rw [HC.out], by simp [go_sem], by simp [go_sem], by simp [go_sem], by simp [go_sem], by simp [go_sem], by simp [go_sem], ((Below.refl _ _).alloc (Nat.le_refl _) _).alloc (by simp) _, by simp⟩
      · have HC : Hid (condF (u, zs) m = refHasF (u, zs) m) := by show condF (u, zs) m = _; unfold condF; rw [decide_eq_false c1, decide_eq_false c2]; rfl
        go_wp2_with fail
        refine (refHas_any u A n c zs m B _ (by simp; omega) (HZ.out.keep (((Below.refl _ _).alloc hB _).alloc (by simp; omega) _)) (by omega)).mono ?_
        rintro e w1 ⟨rfl, hb1⟩
        have k0 := (hb1.cell (p := ⟨w.heap.size, 0, none⟩) (by simp; omega)).trans (show _ = some (.int .i64 u) by simp [go_sem])
        have k1 := (hb1.cell (p := ⟨w.heap.size, 1, none⟩) (by simp; omega)).trans (show _ = some (.slice A n c) by simp [go_sem])
        have k2 := (hb1.cell (p := ⟨w.heap.size + 1, 0, none⟩) (by simp)).trans (show _ = some (.int .i64 0) by simp [go_sem])
        have k3 := (hb1.cell (p := ⟨w.heap.size + 1, 1, none⟩) (by simp)).trans (show _ = some (.slice none 0 0) by simp [go_sem])
        have k4 := (hb1.frozen (p := ⟨w.heap.size + 1, 0, none⟩) (by simp)).trans (show _ = false by simp [go_sem])
        have k5 := (hb1.frozen (p := ⟨w.heap.size + 1, 1, none⟩) (by simp)).trans (show _ = false by simp [go_sem])
        have HB1 : Hid (Below w.heap.size w w1) := (((Below.refl _ _).alloc (Nat.le_refl _) _).alloc (by simp) _).trans (hb1.mono (by simp; omega))
        have hsz : w.heap.size + 2 ≤ w1.heap.size := by have := hb1.size; simp at this; omega
        clear hb1
        go_wp2
        go_meet
        case rel => exact ⟨by rw [HC.out], k0, k1, k2, k3, k4, k5, HB1, hsz⟩
  case rest =>
    obtain ⟨rfl, k0, k1, k2, k3, k4, k5, HB, hsz⟩ := hcut
    have hlt0 : w.heap.size < wc.heap.size := by omega
    have hlt1 : w.heap.size + 1 < wc.heap.size := by omega
    rcases hcond : condF (u, zs) m with _ | _
    · have HC : Hid (refAddF (u, zs) m = absF u (insF m zs)) := by
        show refAddF (u, zs) m = _
        unfold refAddF
        unfold condF at hcond
        rw [if_neg (by simpa [or_assoc] using hcond)]
      clear hcond
      obtain ⟨G, HGe⟩ : ∃ G, Hid (wc.heap.size = G) := ⟨_, rfl⟩
      have hG2 : w.heap.size + 2 ≤ G := by rw [← HGe.out]; exact hsz
      go_wp2
      go_loopw [5, 6, 7] (fun l d i wr => ∃ (k : Nat) (done : Bool) (Al : Option Addr) (nl cl : Nat), k ≤ n ∧ i = .int .i64 k ∧ d = .bool done ∧ l = .slice Al nl cl ∧ Hid (InsRel w G u A n c zs m k done Al nl cl wr)) (fun _ _ i _ => n - (intOf i).toNat)
      case atStart => exact ⟨0, false, none, 0, 0, by omega, rfl, rfl, rfl, [], ⟨rfl, rfl, rfl⟩, World.ownsRow_nil _ _ _ _, k0, k1, k2, k3, k4, k5, HB.out, by rw [HGe.out]; exact Nat.le_refl _⟩
      case round =>
        obtain ⟨k, done, Al, nl, cl, hk, rfl, rfl, rfl, HI⟩ := hrel
        obtain ⟨l, hst, hown, hloc⟩ := HI.out
        have HLo := Lib.hid hloc
        have HOw := Lib.hid hown
        have HSt := Lib.hid hst
        obtain ⟨j0, j1, j2, j3, j4, j5, hbel, hsz2⟩ := hloc
        have HBe := Lib.hid hbel
        have hnl : nl ≤ 1048577 := by cases done <;> simp at hst <;> omega
        clear hown hbel hst k0 k1 k2 k3 k4 k5
        by_cases hlt : k < n
        · obtain ⟨b, off, rfl, hbB, hc⟩ := HZ.out.2 (by omega)
          have hck := (HBe.out.cell (p := ⟨b, off + k, none⟩) (by simp; omega)).trans (hc k hlt)
          have HKL : Hid (k < zs.length) := by show k < zs.length; rw [HL.out]; exact hlt
          have hbs : b < wr.heap.size := by omega
          clear hc
          generalize hy : zs.getD k 0 = y at hck
          have HY := Lib.hid hy
          clear hy
          rcases done with _ | _
          · by_cases hym : m < y
            · go_wp2_with (first
                | (at_builtin; refine wpList_append_ints (B := G) rfl _ _ rfl rfl (HOw.out.alloc _) rfl (one_int wr m) (by omega) (by simp; omega) ?_; intro A3 c3 w3 hown3 hg3 _; have HO3 := Lib.hid hown3; have HL3 := Lib.hid (Locals.app HLo.out HOw.out hG2 hg3); have hc3 := (((HBe.out.alloc HBe.out.size (Obj.cells #[Value.int IntKind.i64 m] 3)).grown hg3 (by simp; omega) (fun i hi => by have := (HOw.out.lt i hi).1; omega)).cell (p := ⟨b, off + k, none⟩) (by simp; omega)).trans ((HBe.out.cell (p := ⟨b, off + k, none⟩) (by simp; omega)).symm.trans hck); clear hown3 hg3; obtain ⟨i0, i1, _, _, _, _, _, isz⟩ := HL3.out)
                | (at_builtin; refine wpList_append_ints (B := G) rfl _ _ rfl rfl (HO3.out.alloc _) rfl (one_int w3 y) (by omega) (by simp; omega) ?_; intro A4 c4 w4 hown4 hg4 _; have HO4 := Lib.hid hown4; have HL4 := Lib.hid (Locals.app HL3.out HO3.out hG2 hg4); clear hown4 hg4))
              go_roundw
              case rel =>
                have hs := HSt.out
                simp only [Bool.false_eq_true, if_false] at hs
                refine ⟨k + 1, true, A4, nl + 1 + 1, c4, by omega, by go_num, rfl, rfl, l ++ [m] ++ [y], ⟨?_, by omega⟩, HO4.out, HL4.out⟩
                rw [hs.1, ← HY.out]
                exact ins_hit HKL.out (by rw [HY.out]; exact hym) hs.2.1
              case measure => simp [intOf]; omega
            · have hym' : decide (m < y) = false := by simpa using hym
              go_wp2_with (at_builtin; refine wpList_append_ints (B := G) rfl _ _ rfl rfl (HOw.out.alloc _) rfl (one_int wr y) (by omega) (by simp; omega) ?_; intro A3 c3 w3 hown3 hg3 _; have HO3 := Lib.hid hown3; have HL3 := Lib.hid (Locals.app HLo.out HOw.out hG2 hg3); clear hown3 hg3)
              go_roundw
              case rel =>
                have hs := HSt.out
                simp only [Bool.false_eq_true, if_false] at hs
                refine ⟨k + 1, false, A3, nl + 1, c3, by omega, by go_num, rfl, rfl, l ++ [y], ⟨?_, ?_, by omega⟩, HO3.out, HL3.out⟩
                · rw [hs.1, ← HY.out, take_next zs k HKL.out]
                · exact ins_take HKL.out (by rw [HY.out]; omega) hs.2.1
              case measure => simp [intOf]; omega
          · go_wp2_with (at_builtin; refine wpList_append_ints (B := G) rfl _ _ rfl rfl (HOw.out.alloc _) rfl (one_int wr y) (by omega) (by simp; omega) ?_; intro A3 c3 w3 hown3 hg3 _; have HO3 := Lib.hid hown3; have HL3 := Lib.hid (Locals.app HLo.out HOw.out hG2 hg3); clear hown3 hg3)
            go_roundw
            case rel =>
              have hs := HSt.out
              simp only [if_true] at hs
              refine ⟨k + 1, true, A3, nl + 1, c3, by omega, by go_num, rfl, rfl, l ++ [y], ⟨?_, by omega⟩, HO3.out, HL3.out⟩
              rw [← HY.out]
              exact ins_done HKL.out hs.1
            case measure => simp [intOf]; omega
        · go_upto_if 58 with fail
          go_cut [5] (fun s5 wx => ∃ (Al : Option Addr) (nl cl : Nat), s5 = .slice Al nl cl ∧ nl ≤ 1048578 ∧ wx.ownsRow G 3 1 (.slice Al nl cl) nl ((insF m zs).map (.int .i64)) ∧ Locals w G u A n c wx)
          case first =>
            rcases done with _ | _
            · go_wp2_with (at_builtin; refine wpList_append_ints (B := G) rfl _ _ rfl rfl (HOw.out.alloc _) rfl (one_int wr m) (by omega) (by simp; omega) ?_; intro A3 c3 w3 hown3 hg3 _; have HO3 := Lib.hid hown3; have HL3 := Lib.hid (Locals.app HLo.out HOw.out hG2 hg3); clear hown3 hg3)
              go_meet
              case rel =>
                have hs := HSt.out
                simp only [Bool.false_eq_true, if_false] at hs
                refine ⟨A3, nl + 1, c3, rfl, by omega, ?_, HL3.out⟩
                have h := HO3.out
                rw [show insF m zs = l ++ [m] by rw [hs.2.1, hs.1, List.drop_of_length_le (by rw [HL.out]; omega)]; rfl]
                exact h
            · go_wp2
              go_meet
              case rel =>
                have hs := HSt.out
                simp only [if_true] at hs
                refine ⟨Al, nl, cl, rfl, by omega, ?_, HLo.out⟩
                have h := HOw.out
                rw [← hs.1, List.drop_of_length_le (by rw [HL.out]; omega), List.append_nil]
                exact h
          case rest =>
            obtain ⟨Al2, nl2, cl2, rfl, hnl2, hown2, hloc2⟩ := hcut
            have HIn2 : Hid (IntsAt wc wc.heap.size Al2 nl2 (insF m zs)) := own_ints hown2
            have hncl : nl2 ≤ cl2 := own_cap hown2
            have HL2 := Lib.hid hloc2
            obtain ⟨i0, _, _, _, _, _, _, hszc⟩ := hloc2
            have hf0 : w.heap.size < wc.heap.size := by omega
            have hf1 : w.heap.size + 1 < wc.heap.size := by omega
            clear hown2 j0 j1 j2 j3 j4 j5
            go_wp2
            go_loop [5, 8] (fun l t => ∃ (Al : Option Addr) (nl cl : Nat) (l' : List Int) (u' : Int), l = .slice Al nl cl ∧ t = .int .i64 u' ∧ nl ≤ cl ∧ nl ≤ 1048578 ∧ 0 ≤ u' ∧ u' + nl ≤ 2147483648 ∧ Hid (IntsAt wc wc.heap.size Al nl l') ∧ Hid (absF u (insF m zs) = absF u' l')) (fun l _ => lenOf l)
            case atStart => exact ⟨Al2, nl2, cl2, insF m zs, u, rfl, rfl, hncl, hnl2, h0, by omega, HIn2, rfl⟩
            case round =>
              obtain ⟨Al', nl', cl', l', u', rfl, rfl, hnc', hnl', hu0, hu1, HIn, HAb⟩ := hrel
              rcases Nat.eq_zero_or_pos nl' with hz0 | hz0
              · subst hz0
                have HA : Hid (absF u (insF m zs) = (u', l')) := by show _ = _; rw [HAb.out, List.eq_nil_of_length_eq_zero HIn.out.1]; rfl
                go_wp2_with (at_builtin; refine wpList_append_ints (w := wc.alloc (Obj.cells #[] 3)) (B := wc.heap.size) (B' := wc.heap.size) (v := .slice (some ⟨wc.heap.size, 0, none⟩) 0 0) (n := 0) (zs := []) (A := Al') (m := 0) (c := cl') (ys := l') rfl _ _ rfl rfl (empty_own0 wc) rfl (HIn.out.keep ((Below.refl _ _).alloc (Nat.le_refl _) _)) (by omega) (by simp) ?_; intro A5 c5 w5 hown5 hg5 _; have HL5 := Lib.hid (Locals.fin HL2.out hG2 hg5); have HO5 := Lib.hid hown5; obtain ⟨_, _, i2, i3, i4, i5, _, _⟩ := HL5.out; clear hown5 hg5)
                refine bodyPost_ret (v := .agg #[.int .i64 u', .slice A5 0 c5]) ?_ rfl ?_
                · simp [results, Try.results66, go_sem, i2, i3]
                · have hO6 := HO5.out
                  rw [Nat.zero_add, List.nil_append] at hO6
                  exact copy_end hO6 (Nat.le_trans hG2 hszc) HL5.out.2.2.2.2.2.2.1 (HC.out.trans HA.out) HIn.out.1
              · obtain ⟨b3, o3, x, xt, rfl, hb3, rfl, hxl, hx⟩ := HIn.out.head hz0
                have hz1 : (0 : Int) < nl' := by omega
                obtain ⟨Ax, hsx, hax⟩ := cut_one ⟨b3, o3, none⟩ nl' cl' hz0 hnc'
                have HAx := Lib.hid hax
                clear hax
                by_cases he : x = u' + 1
                · have he' : (x == u' + 1) = true := by simp [he]
                  have HA : Hid (absF u (insF m zs) = absF (u' + 1) xt) := by show _ = _; rw [HAb.out, absF, if_pos he]
                  clear he
                  go_wp2
                  go_round
                  case rel => exact ⟨Ax, nl' - 1, cl' - 1, xt, u' + 1, rfl, rfl, by omega, by omega, by omega, by omega, HAx.out _ _ _ _ HIn.out, HA⟩
                  case measure => simp [lenOf]; omega
                · have he' : (x == u' + 1) = false := by simpa using he
                  have HA : Hid (absF u (insF m zs) = (u', x :: xt)) := by show _ = _; rw [HAb.out, absF, if_neg he]
                  clear he
                  go_wp2_with (at_builtin; refine wpList_append_ints (w := wc.alloc (Obj.cells #[] 3)) (B := wc.heap.size) (B' := wc.heap.size) (v := .slice (some ⟨wc.heap.size, 0, none⟩) 0 0) (n := 0) (zs := []) (A := some ⟨b3, o3, none⟩) (m := nl') (c := cl') (ys := x :: xt) rfl _ _ rfl rfl (empty_own0 wc) rfl (HIn.out.keep ((Below.refl _ _).alloc (Nat.le_refl _) _)) (by omega) (by simp) ?_; intro A5 c5 w5 hown5 hg5 _; have HL5 := Lib.hid (Locals.fin HL2.out hG2 hg5); have HO5 := Lib.hid hown5; obtain ⟨_, _, i2, i3, i4, i5, _, _⟩ := HL5.out; clear hown5 hg5)
                  refine bodyPost_ret (v := .agg #[.int .i64 u', .slice A5 nl' c5]) ?_ rfl ?_
                  · simp [results, Try.results66, go_sem, i2, i3]
                  · have hO6 := HO5.out
                    rw [Nat.zero_add, List.nil_append] at hO6
                    exact copy_end hO6 (Nat.le_trans hG2 hszc) HL5.out.2.2.2.2.2.2.1 (HC.out.trans HA.out) HIn.out.1
    · have HC : Hid (refAddF (u, zs) m = (u, zs)) := by
        show refAddF (u, zs) m = _
        unfold refAddF
        unfold condF at hcond
        rw [if_pos (by simpa [or_assoc] using hcond)]
      clear hcond
      have HO : Hid ((wc.alloc (Obj.cells #[] 3)).drew.ownsRow wc.heap.size 3 1 (.slice (some ⟨wc.heap.size, 0, none⟩) 0 0) 0 (([] : List Int).map (.int .i64))) := empty_own _ _ _ rfl (Nat.le_refl _)
      have HR : Hid (IntsAt (wc.alloc (Obj.cells #[] 3)).drew B A n zs) := HZ.out.keep (((HB.out.mono hB).alloc (by omega) _).drew)
      have HB2 : Hid (Below w.heap.size w (wc.alloc (Obj.cells #[] 3)).drew) := (HB.out.alloc (by omega) _).drew
      go_wp2_with fail
      go_region_law
        (first
          | (refine step_append_ints (w := (wc.alloc (Obj.cells #[] 3)).drew) (B := wc.heap.size) (B' := B) (v := .slice (some ⟨wc.heap.size, 0, none⟩) 0 0) (n := 0) (zs := []) (A := A) (m := n) (c := c) (ys := zs) rfl _ _ rfl rfl HO.out rfl HR.out ?_ ?_ ?_
             · omega
             · simp
             intro A3 c3 w3 hown3 hg3 _
             have hne : ∀ k, k < wc.heap.size → some k ≠ Value.ownBlock (.slice (some ⟨wc.heap.size, 0, none⟩) 0 0) := fun k hk e => by simp only [Value.ownBlock, Option.some.injEq] at e; omega
             have q0 := (grown_cell hg3 0 (b := w.heap.size) (by simp; omega) (hne _ (by omega))).1.trans (cell_new _ (by omega) k0)
             have q1 := (grown_cell hg3 1 (b := w.heap.size) (by simp; omega) (hne _ (by omega))).1.trans (cell_new _ (by omega) k1)
             have q2 := (grown_cell hg3 0 (b := w.heap.size + 1) (by simp; omega) (hne _ (by omega))).1.trans (cell_new _ (by omega) k2)
             have q3 := (grown_cell hg3 1 (b := w.heap.size + 1) (by simp; omega) (hne _ (by omega))).1.trans (cell_new _ (by omega) k3)
             have q4 := (grown_cell hg3 0 (b := w.heap.size + 1) (by simp; omega) (hne _ (by omega))).2.trans (frozen_new _ (by omega) k4)
             have q5 := (grown_cell hg3 1 (b := w.heap.size + 1) (by simp; omega) (hne _ (by omega))).2.trans (frozen_new _ (by omega) k5)
             have HB3 : Hid (Below w.heap.size w w3) := HB2.out.grown hg3 (by simp; omega) (fun k hk => by simp only [Value.ownBlock, Option.some.injEq] at hk; omega)
             have HO3 := Lib.hid hown3
             clear hown3 hg3 hne))
      all_goals
        go_wp2
        refine bodyPost_ret (v := .agg #[.int .i64 u, .slice A3 n c3]) ?_ rfl ?_
        · simp [results, Try.results66, go_sem, q2, q3]
        · have hO4 := HO3.out
          rw [Nat.zero_add, List.nil_append] at hO4
          exact copy_end hO4 hsz HB3.out HC.out HL.out
end Go.Proofs.Ytpaiigminmakgaa.Sp

/- The document's Fix: a Span that may be, out of any numbers. -/
namespace Go.Proofs.Ytpaiigminmakgaa.Sp
open Go.RowKit

def modF (x : Int) (k : Int) : Int := wrap64 ((IntKind.u64.wrap x).tmod k)
def elF (x : Int) : Int := 1 + modF x 60
def fixF (u : Int) (zs : List Int) : Int × List Int := (zs.take 30).foldl (fun s x => refAddF s (elF x)) (modF u 40, [])

theorem mod_bd (x k : Int) (h0 : 0 < k) (h1 : k ≤ 1000) : 0 ≤ modF x k ∧ modF x k < k := by
  unfold modF
  have hw : 0 ≤ IntKind.u64.wrap x := by
    have := IntKind.wrap_u64 x
    rw [this]
    exact Int.emod_nonneg _ (by decide)
  have h2 := Int.tmod_nonneg k hw
  have h3 := Int.tmod_lt_of_pos (IntKind.u64.wrap x) h0
  rw [show wrap64 ((IntKind.u64.wrap x).tmod k) = (IntKind.u64.wrap x).tmod k from IntWalk.wrap64_in _ (by omega)]
  exact ⟨h2, h3⟩

theorem el_eq (y : Int) : IntKind.i64.wrap (1 + IntKind.i64.wrap ((IntKind.u64.wrap y).tmod 60)) = elF y := by
  have h := mod_bd y 60 (by omega) (by omega)
  unfold elF
  have e : IntKind.i64.wrap ((IntKind.u64.wrap y).tmod 60) = modF y 60 := IntWalk.i64_left _
  rw [e]
  exact IntWalk.i64_in _ (by omega)

theorem abs_bd : ∀ (l : List Int) (u : Int), u ≤ (absF u l).1 ∧ (absF u l).1 ≤ u + l.length ∧ (absF u l).2.length ≤ l.length
  | [], u => by simp [absF]
  | z :: t, u => by
    unfold absF
    split
    · have := abs_bd t (u + 1)
      simp only [List.length_cons]
      omega
    · simp; omega
theorem ins_len (m : Int) : ∀ l : List Int, (insF m l).length = l.length + 1
  | [] => rfl
  | z :: t => by
    unfold insF
    split
    · simp
    · simp [ins_len m t]
theorem refAdd_bd (s : Int × List Int) (m : Int) : s.1 ≤ (refAddF s m).1 ∧ (refAddF s m).1 ≤ s.1 + s.2.length + 1 ∧ (refAddF s m).2.length ≤ s.2.length + 1 := by
  unfold refAddF
  split
  · omega
  · have h1 := abs_bd (insF m s.2) s.1
    rw [ins_len] at h1
    omega

theorem Locals.on {w : World} {G : Nat} {u : Int} {A : Option Addr} {n c : Nat} {wr W w1 : World} (h : Locals w G u A n c wr) (hb : Below W.heap.size W w1) (e : SameW wr W) (hG : w.heap.size + 2 ≤ G) : Locals w G u A n c w1 := by
  obtain ⟨j0, j1, j2, j3, j4, j5, hbel, hs⟩ := h
  have hb' := below_via (Below.refl wr.heap.size wr) hb (Nat.le_refl _) e
  exact ⟨(hb'.cell (by simp; omega)).trans j0, (hb'.cell (by simp; omega)).trans j1, (hb'.cell (by simp; omega)).trans j2, (hb'.cell (by simp; omega)).trans j3, (hb'.frozen (by simp; omega)).trans j4, (hb'.frozen (by simp; omega)).trans j5, hbel.trans (hb'.mono hbel.size), Nat.le_trans hs hb'.size⟩

theorem Locals.set {w : World} {G : Nat} {u : Int} {A : Option Addr} {n c : Nat} {wr : World} (h : Locals w G u A n c wr) {p : Addr} (hp : w.heap.size + 2 ≤ p.block) (v : Value) : Locals w G u A n c (wr.setCell p v) := by
  obtain ⟨j0, j1, j2, j3, j4, j5, hbel, hs⟩ := h
  have hb' : Below (w.heap.size + 2) wr (wr.setCell p v) := (Below.refl _ _).setCell hp v
  exact ⟨(hb'.cell (by simp)).trans j0, (hb'.cell (by simp)).trans j1, (hb'.cell (by simp)).trans j2, (hb'.cell (by simp)).trans j3, (hb'.frozen (by simp)).trans j4, (hb'.frozen (by simp)).trans j5, hbel.setCell (by omega) v, by simpa [World.setCell] using hs⟩

def FixRel (w : World) (u : Int) (A : Option Addr) (n c : Nat) (zs : List Int) (k : Nat) (wr : World) : Prop :=
  ∃ (uk : Int) (zk : List Int) (Ak : Option Addr) (ck : Nat), (zs.take k).foldl (fun s x => refAddF s (elF x)) (modF u 40, []) = (uk, zk) ∧ 0 ≤ uk ∧ uk ≤ 40 + 31 * k ∧ zk.length ≤ k ∧
    wr.cell? ⟨w.heap.size + 2, 0, none⟩ = some (.int .i64 uk) ∧ wr.cell? ⟨w.heap.size + 2, 1, none⟩ = some (.slice Ak zk.length ck) ∧ wr.frozen? ⟨w.heap.size + 2, 0, none⟩ = false ∧ wr.frozen? ⟨w.heap.size + 2, 1, none⟩ = false ∧
    wr.ownsRow (w.heap.size + 3) 3 1 (.slice Ak zk.length ck) zk.length (zk.map (.int .i64)) ∧ Locals w (w.heap.size + 3) u A n c wr

set_option maxRecDepth 100000 in
set_option maxRecDepth 100000 in
set_option maxHeartbeats 2000000 in
theorem fix_any (u : Int) (A : Option Addr) (n c : Nat) (zs : List Int) (B : Nat) (w : World) (hB : B ≤ w.heap.size) (hz : IntsAt w B A n zs) (hn : n ≤ 9223372036854775807) :
    Calls Try.prog 46 #[.agg #[.int .i64 u, .slice A n c]] w (OwnSpan w.heap.size none (fixF u zs) w) := by
  have HZ := Lib.hid hz
  have HL : Hid (zs.length = n) := hz.1
  have hmb := mod_bd u 40 (by omega) (by omega)
  clear hz
  go_enter Try.func46, Try.ntmps46
  go_wp2
  go_loopw [4] (fun i wr => ∃ k : Nat, k ≤ n ∧ k ≤ 30 ∧ i = .int .i64 k ∧ Hid (FixRel w u A n c zs k wr)) (fun i _ => 30 - (intOf i).toNat)
  case atStart =>
    refine ⟨0, by omega, by omega, rfl, modF u 40, [], none, 0, rfl, by omega, by omega, by simp, by simp [go_sem, modF], by simp [go_sem], by simp [go_sem], by simp [go_sem], World.ownsRow_nil _ _ _ _, by simp [go_sem], by simp [go_sem], by simp [go_sem], by simp [go_sem], by simp [go_sem], by simp [go_sem], ?_, by simp⟩
    exact (((Below.refl _ _).alloc (Nat.le_refl _) _).alloc (by simp) _).alloc (by simp; omega) _
  case round =>
    obtain ⟨k, hk, hk30, rfl, HR⟩ := hrel
    obtain ⟨uk, zk, Ak, ck, hfold, hu0, hu1, hzl, p0, p1, f0, f1, hown, hloc⟩ := HR.out
    have HFo := Lib.hid hfold
    have HOw := Lib.hid hown
    have HLo := Lib.hid hloc
    obtain ⟨j0, j1, j2, j3, j4, j5, hbel, hsz⟩ := hloc
    have HBe := Lib.hid hbel
    clear hfold hown hbel hmb
    by_cases hlt : k < n ∧ k < 30
    · obtain ⟨hl1, hl2⟩ := hlt
      obtain ⟨b, off, rfl, hbB, hc⟩ := HZ.out.2 (by omega)
      have hck := (HBe.out.cell (p := ⟨b, off + k, none⟩) (by simp; omega)).trans (hc k hl1)
      have hkI : (k : Int) < n := by omega
      have hkJ : (k : Int) < 30 := by omega
      clear hc
      generalize hy : zs.getD k 0 = y at hck
      have HY := Lib.hid hy
      clear hy
      have HE := Lib.hid (el_eq y)
      have hpl := refAdd_bd (uk, zk) (elF y)
      have hfo : (zs.take (k + 1)).foldl (fun s x => refAddF s (elF x)) (modF u 40, []) = refAddF (uk, zk) (elF y) := by
        rw [take_next zs k (by rw [HL.out]; exact hl1), List.foldl_append, HFo.out, HY.out]; rfl
      obtain ⟨s1, HS1⟩ : ∃ s1, Hid (refAddF (uk, zk) (elF y) = s1) := ⟨_, rfl⟩
      rw [HS1.out] at hpl hfo
      obtain ⟨u1, z1⟩ := s1
      have HF1 := Lib.hid hfo
      clear hfo
      simp only at hpl
      go_wp2_with fail
      go_region_law
        (first
          | (go_simp
             go_at_call 66
             rw [HE.out]
             refine (refAdd_any uk Ak zk.length ck zk (elF y) wr.heap.size _ ?_ ?_ ?_ ?_ ?_).mono ?_
             · exact Nat.le_refl _
             · exact ints_same (own_ints HOw.out) rfl
             · omega
             · exact hu0
             · omega
             rw [HS1.out]
             rintro e w1 ⟨A1, c1, rfl, hown1, hg1, _⟩
             have hb1 := grown_none hg1
             have q0 := (hb1.cell (p := ⟨w.heap.size + 2, 0, none⟩) hsz).trans p0
             have q1 := (hb1.cell (p := ⟨w.heap.size + 2, 1, none⟩) hsz).trans p1
             have q2 := (hb1.frozen (p := ⟨w.heap.size + 2, 0, none⟩) hsz).trans f0
             have q3 := (hb1.frozen (p := ⟨w.heap.size + 2, 1, none⟩) hsz).trans f1
             have HL1 : Hid (Locals w (w.heap.size + 3) u (some ⟨b, off, none⟩) n c w1) := Locals.on HLo.out hb1 ⟨rfl, rfl, rfl, rfl⟩ (by omega)
             have HO1 : Hid (w1.ownsRow (w.heap.size + 3) 3 1 (.slice A1 z1.length c1) z1.length (z1.map (.int .i64))) := own_base hown1 hsz
             clear hown1 hg1 hb1))
      all_goals
        go_wp2_with fail
        go_roundw
        case rel =>
          have hn1 : Value.ownBlock (.slice A1 z1.length c1) ≠ some (w.heap.size + 2) := fun e => by have := (HO1.out.lt _ e).1; omega
          refine ⟨k + 1, by omega, by omega, by go_num, u1, z1, A1, c1, HF1.out, by omega, by omega, by omega, by simp [go_sem, q0], by simp [go_sem, q1], by simp [go_sem, q2], by simp [go_sem, q3], ?_, ?_⟩
          · exact own_setCell (own_setCell HO1.out (p := ⟨w.heap.size + 2, 0, none⟩) hn1 _) (p := ⟨w.heap.size + 2, 1, none⟩) hn1 _
          · exact Locals.set (Locals.set HL1.out (by simp) _) (by simp) _
        case measure => simp [intOf]; omega
    · have HE : Hid (fixF u zs = (uk, zk)) := by
        show fixF u zs = (uk, zk)
        unfold fixF
        rw [← HFo.out]
        congr 1
        rcases Nat.lt_or_ge k 30 with h | h
        · have hkn : k = n := by omega
          rw [List.take_of_length_le (by rw [HL.out]; omega), List.take_of_length_le (by rw [HL.out]; omega)]
        · rw [show k = 30 by omega]
      have hf1 : w.heap.size + 1 < wr.heap.size := by omega
      by_cases hkn : k < n
      · have hkI : (k : Int) < n := by omega
        have hkJ : decide ((k : Int) < 30) = false := by simp; omega
        go_wp2
        refine bodyPost_ret (v := .agg #[.int .i64 uk, .slice Ak zk.length ck]) ?_ rfl ?_
        · simp [results, Try.results46, go_sem, j2, j3]
        · exact copy_end (HOw.out) (by omega) HBe.out HE.out rfl
      · have hkI : decide ((k : Int) < n) = false := by simp; omega
        go_wp2
        refine bodyPost_ret (v := .agg #[.int .i64 uk, .slice Ak zk.length ck]) ?_ rfl ?_
        · simp [results, Try.results46, go_sem, j2, j3]
        · exact copy_end (HOw.out) (by omega) HBe.out HE.out rfl
end Go.Proofs.Ytpaiigminmakgaa.Sp

/- The calls' answers said in one form, for the laws: a Span that reads so in the world at hand; the calls turn nothing that was there. And what Fix makes. -/
namespace Go.Proofs.Ytpaiigminmakgaa.Sp
open Go.RowKit

/-- In w the slice (A, c) holds the Extra of the Span s. -/
def SpanIn (w : World) (A : Option Addr) (c : Nat) (s : Int × List Int) : Prop := IntsAt w w.heap.size A s.2.length s.2 ∧ s.2.length ≤ c
def RetSpan (s : Int × List Int) (W : World) (e : Ending) (w' : World) : Prop := ∃ A c, e = .returned (.agg #[.int .i64 s.1, .slice A s.2.length c]) ∧ SpanIn w' A c s ∧ Below W.heap.size W w'

theorem SpanIn.on {W W' w1 : World} {A : Option Addr} {c : Nat} {s : Int × List Int} (h : SpanIn W A c s) (hb : Below W'.heap.size W' w1) (e : SameW W W') : SpanIn w1 A c s :=
  ⟨(ints_via h.1 hb (Nat.le_refl _) e).more (by have := hb.size; rw [e.1] at this; exact this), h.2⟩
theorem SpanIn.same {W W' : World} {A : Option Addr} {c : Nat} {s : Int × List Int} (h : SpanIn W A c s) (e : W'.heap = W.heap) : SpanIn W' A c s := by
  refine ⟨?_, h.2⟩
  have h1 := ints_same h.1 e
  rw [e]
  exact h1
theorem SpanIn.keep {W w1 : World} {A : Option Addr} {c : Nat} {s : Int × List Int} (h : SpanIn W A c s) (hb : Below W.heap.size W w1) : SpanIn w1 A c s := h.on hb ⟨rfl, rfl, rfl, rfl⟩

theorem ret_of_own {W : World} {s : Int × List Int} {e : Ending} {w' : World} (h : OwnSpan W.heap.size none s W e w') : RetSpan s W e w' := by
  obtain ⟨A, c, he, ho, hg, _⟩ := h
  exact ⟨A, c, he, ⟨own_ints ho, own_cap ho⟩, grown_none hg⟩

section
variable {W : World} {A A' : Option Addr} {c c' : Nat} {s t : Int × List Int}
theorem cTo (h : SpanIn W A c s) (hn : s.2.length ≤ 100000) : Calls Try.prog 53 #[.agg #[.int .i64 s.1, .slice A s.2.length c]] W (RetSpan s W) :=
  (to_any s.1 A s.2.length c s.2 W.heap.size W (Nat.le_refl _) h.1 (by omega)).mono fun _ _ h => ret_of_own h
theorem cRefAdd (h : SpanIn W A c s) (hn : s.2.length ≤ 100000) (h0 : 0 ≤ s.1) (h1 : s.1 ≤ 100000) (m : Int) : Calls Try.prog 66 #[.agg #[.int .i64 s.1, .slice A s.2.length c], .int .i64 m] W (RetSpan (refAddF s m) W) :=
  (refAdd_any s.1 A s.2.length c s.2 m W.heap.size W (Nat.le_refl _) h.1 (by omega) h0 (by omega)).mono fun _ _ h => ret_of_own h
theorem cHas (h : SpanIn W A c s) (hn : s.2.length ≤ 100000) (hs : Ok s) (m : Int) : Calls Try.prog 69 #[.agg #[.int .i64 s.1, .slice A s.2.length c], .int .i64 m] W fun e w' => e = .returned (.bool (hasOf s.1 s.2 m)) ∧ Below W.heap.size W w' :=
  has_any s.1 A s.2.length c s.2 m W.heap.size W (Nat.le_refl _) h.1 (by omega) hs.2.1
theorem cRefHas (h : SpanIn W A c s) (hn : s.2.length ≤ 100000) (m : Int) : Calls Try.prog 71 #[.agg #[.int .i64 s.1, .slice A s.2.length c], .int .i64 m] W fun e w' => e = .returned (.bool (refHasF s m)) ∧ Below W.heap.size W w' :=
  refHas_any s.1 A s.2.length c s.2 m W.heap.size W (Nat.le_refl _) h.1 (by omega)
theorem cRefCount (h0 : 0 ≤ s.1) (h1 : s.1 ≤ 100000) (hn : s.2.length ≤ 100000) : Calls Try.prog 65 #[.agg #[.int .i64 s.1, .slice A s.2.length c]] W fun e w' => e = .returned (.int .i64 (s.1 + s.2.length)) ∧ Below W.heap.size W w' :=
  refCount_any s.1 A s.2.length c W h0 (by omega) (by omega)
end

theorem cFix (u : Int) (A : Option Addr) (n c : Nat) (zs : List Int) {B : Nat} {W : World} (hB : B ≤ W.heap.size) (h : IntsAt W B A n zs) (hn : n ≤ 9223372036854775807) : Calls Try.prog 46 #[.agg #[.int .i64 u, .slice A n c]] W (RetSpan (fixF u zs) W) :=
  (fix_any u A n c zs B W hB h hn).mono fun _ _ h => ret_of_own h

/-- Spans as Fix makes them. -/
def Small (s : Int × List Int) : Prop := Ok s ∧ (∀ x, Mem x s → x ≤ 60) ∧ s.1 ≤ 60 ∧ s.2.length ≤ 60

theorem small_u {s : Int × List Int} (hm : ∀ x, Mem x s → x ≤ 60) : s.1 ≤ 60 := by
  rcases Int.lt_or_le s.1 1 with h1 | h1
  · omega
  · exact hm _ (.inl ⟨h1, by omega⟩)

theorem sorted_len : ∀ (l : List Int) (a b : Int), l.Pairwise (· < ·) → (∀ z ∈ l, a < z ∧ z ≤ b) → a ≤ b → (l.length : Int) ≤ b - a
  | [], a, b, _, _, hab => by simp; omega
  | z :: t, a, b, hs, hb, hab => by
    rw [List.pairwise_cons] at hs
    have h1 := hb z (by simp)
    have := sorted_len t z b hs.2 (fun y hy => ⟨hs.1 y hy, (hb y (by simp [hy])).2⟩) h1.2
    simp only [List.length_cons]
    omega

theorem small_of {s : Int × List Int} (h : Ok s) (hm : ∀ x, Mem x s → x ≤ 60) : Small s := by
  have hu := small_u hm
  have hl := sorted_len s.2 s.1 60 h.2.1 (fun z hz => ⟨by have := h.2.2 z hz; omega, hm z (.inr hz)⟩) hu
  have := h.1
  exact ⟨h, hm, hu, by omega⟩

theorem fix_small (u : Int) (zs : List Int) : Small (fixF u zs) := by
  unfold fixF
  have hm := mod_bd u 40 (by omega) (by omega)
  have h0 : Ok (modF u 40, ([] : List Int)) ∧ ∀ x, Mem x (modF u 40, ([] : List Int)) → x ≤ 60 := ⟨⟨hm.1, by simp, by simp⟩, fun x hx => by rcases hx with hx | hx; (simp only at hx; omega); simp at hx⟩
  have hind : ∀ (l : List Int) (s : Int × List Int), (Ok s ∧ ∀ x, Mem x s → x ≤ 60) → (Ok (l.foldl (fun s x => refAddF s (elF x)) s) ∧ ∀ x, Mem x (l.foldl (fun s x => refAddF s (elF x)) s) → x ≤ 60) := by
    intro l
    induction l with
    | nil => intro s h; exact h
    | cons y l ih =>
      intro s h
      refine ih _ ?_
      obtain ⟨a, b⟩ := refAdd_ok h.1 (elF y)
      refine ⟨a, fun x hx => ?_⟩
      rcases (b x).1 hx with hx | ⟨rfl, _, _⟩
      · exact h.2 x hx
      · have := mod_bd y 60 (by omega) (by omega); unfold elF; omega
  obtain ⟨a, b⟩ := hind (zs.take 30) _ h0
  exact small_of a b

theorem union_small {s t : Int × List Int} (hs : Small s) (ht : Small t) : Small (unionF s t) ∧ ∀ x, Mem x (unionF s t) ↔ Mem x s ∨ Mem x t := by
  obtain ⟨a, b⟩ := union_ok hs.1 ht.1 (by have := hs.2.2.1; omega) (by have := ht.2.2.1; omega)
  exact ⟨small_of a (fun x hx => by rcases (b x).1 hx with h | h; exact hs.2.1 x h; exact ht.2.1 x h), b⟩

theorem same_true {s t : Int × List Int} (h : s = t) : sameF s t = true := by unfold sameF; simp [h]
theorem small_right {s : Int × List Int} (h : Small s) : rightF s.1 s.2 = true := by
  have hc : ∀ (l : List Int) (a : Int), l.Pairwise (· < ·) → (∀ z ∈ l, a < z ∧ z ≤ 60) → chainB a l = true := by
    intro l
    induction l with
    | nil => intro a _ _; rfl
    | cons z t ih =>
      intro a hs hb
      rw [List.pairwise_cons] at hs
      have h1 := hb z (by simp)
      unfold chainB
      rw [decide_eq_true (by omega), ih z hs.2 (fun y hy => ⟨hs.1 y hy, (hb y (by simp [hy])).2⟩)]
      rfl
  unfold rightF
  have h0 := h.1.1
  have h2 := h.2.2.1
  have h3 := h.2.2.2
  rw [decide_eq_true (by omega), hc s.2 (s.1 + 1) h.1.2.1 (fun z hz => ⟨h.1.2.2 z hz, h.2.1 z (.inr hz)⟩)]
  rfl
end Go.Proofs.Ytpaiigminmakgaa.Sp
