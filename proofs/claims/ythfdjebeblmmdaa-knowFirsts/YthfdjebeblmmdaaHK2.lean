/- Texts Qa Qb Qc Qd Qe Qf Qm Qg Qh Qi Qj Qk, one behind the other. -/
import Derived.Test.YthfdjebeblmmdaaRows
import Derived.WalkKit
import Derived.WalkSpells
import Derived.WalkLawsBesides
import Derived.BigQuiet
import Derived.Deep.QuietTactic
import Derived.Lib.Hide
import Derived.Maps.AppendAt
import Derived.Deep.RegionLaw
import Derived.Deep.RegionHeld3
import Derived.Deep.DeepCutAuto
import Derived.Deep.RegionWith
/- The span package's small functions: what each call answers (First, Count, Top). -/
namespace Go.Proofs.Ythfdjebeblmmdaa.Sp
open Go.RowKit

/-- In w the slice (A, n) holds the numbers zs, in a block below B. -/
def IntsAt (w : World) (B : Nat) (A : Option Addr) (n : Nat) (zs : List Int) : Prop :=
  zs.length = n ∧ (0 < n → ∃ b off, A = some ⟨b, off, none⟩ ∧ b < B ∧ ∀ k, k < n → w.cell? ⟨b, off + k, none⟩ = some (.int .i64 (zs.getD k 0)))

theorem IntsAt.nil (w : World) (B : Nat) (A : Option Addr) : IntsAt w B A 0 [] := ⟨rfl, fun h => absurd h (by omega)⟩
theorem IntsAt.keep {w w' : World} {B : Nat} {A : Option Addr} {n : Nat} {zs : List Int} (h : IntsAt w B A n zs) (hb : Below B w w') : IntsAt w' B A n zs :=
  ⟨h.1, fun hn => by
    obtain ⟨b, off, e, hlt, hc⟩ := h.2 hn
    exact ⟨b, off, e, hlt, fun k hk => (hb.cell (p := ⟨b, off + k, none⟩) hlt).trans (hc k hk)⟩⟩
theorem IntsAt.more {w : World} {B B' : Nat} {A : Option Addr} {n : Nat} {zs : List Int} (h : IntsAt w B A n zs) (hB : B ≤ B') : IntsAt w B' A n zs :=
  ⟨h.1, fun hn => by
    obtain ⟨b, off, e, hlt, hc⟩ := h.2 hn
    exact ⟨b, off, e, by omega, hc⟩⟩

theorem ret_int {k : IntKind} {a b : Int} (h : a = b) : Ending.returned (.int k a) = .returned (.int k b) := by rw [h]
theorem ret_bool {a b : Bool} (h : a = b) : Ending.returned (.bool a) = .returned (.bool b) := by rw [h]

def firstU (n : Int) : Int := min (max n 0) 1048576
def topOf (u : Int) (zs : List Int) : Int := zs.getLast?.getD u

set_option maxRecDepth 100000 in
set_option maxHeartbeats 400000 in
theorem first_any (n : Int) (w : World) :
    Calls Try.prog 76 #[.int .i64 n] w fun e w' => e = .returned (.agg #[.int .i64 (firstU n), .slice none 0 0]) ∧ Below w.heap.size w w' := by
  have e1 : ∀ m, m = firstU n → Ending.returned (.agg #[.int .i64 m, .slice none 0 0]) = .returned (.agg #[.int .i64 (firstU n), .slice none 0 0]) := fun m h => by rw [h]
  have H := Lib.hid e1
  clear e1
  go_enter Try.func76, Try.ntmps76
  go_wp2
  all_goals
    refine bodyPost_ret (v := .agg #[.int .i64 _, .slice none 0 0]) (by simp [results, Try.results76, go_sem]; rfl) rfl ⟨H.out _ ?_, (Below.refl _ _).alloc (Nat.le_refl _) _⟩
    unfold firstU
    omega

set_option maxRecDepth 100000 in
set_option maxHeartbeats 400000 in
theorem count_any (u : Int) (A : Option Addr) (n c : Nat) (w : World) (h0 : 0 ≤ u) (h1 : u ≤ 1048576) (hn : n ≤ 1099511627776) :
    Calls Try.prog 49 #[.agg #[.int .i64 u, .slice A n c]] w fun e w' => e = .returned (.int .i64 (u + n)) ∧ Below w.heap.size w w' := by
  go_enter Try.func49, Try.ntmps49
  go_wp2
  go_ret
  exact ⟨rfl, (Below.refl _ _).alloc (Nat.le_refl _) _⟩

set_option maxRecDepth 100000 in
set_option maxHeartbeats 400000 in
theorem top_any (u : Int) (A : Option Addr) (n c : Nat) (zs : List Int) (B : Nat) (w : World) (hB : B ≤ w.heap.size) (hz : IntsAt w B A n zs) (hn : n ≤ 1099511627776) :
    Calls Try.prog 93 #[.agg #[.int .i64 u, .slice A n c]] w fun e w' => e = .returned (.int .i64 (topOf u zs)) ∧ Below w.heap.size w w' := by
  rcases Nat.eq_zero_or_pos n with h0 | h0
  · subst h0
    have : zs = [] := List.eq_nil_of_length_eq_zero hz.1
    subst this
    go_enter Try.func93, Try.ntmps93
    go_wp2
    go_ret
    exact ⟨rfl, (Below.refl _ _).alloc (Nat.le_refl _) _⟩
  · obtain ⟨b, off, rfl, hlt, hc⟩ := hz.2 h0
    have hne : ((n : Int) == 0) = false := by simp; omega
    have hp : (0 : Int) ≤ (n : Int) - 1 := by omega
    have hp1 : (1 : Int) ≤ (n : Int) := by omega
    have hq : (n : Int) - 1 < n := by omega
    have hl : zs.length = n := hz.1
    have hc1 := hc (n - 1) (by omega)
    have HT : Hid (zs.getD (n - 1) 0 = topOf u zs) := by
      show zs.getD (n - 1) 0 = topOf u zs
      unfold topOf
      rw [List.getLast?_eq_getElem?, hl, List.getD_eq_getElem?_getD, List.getElem?_eq_getElem (by omega)]
      rfl
    have hbl : b < w.heap.size := by omega
    clear hc hl hz
    go_enter Try.func93, Try.ntmps93
    go_wp2
    go_ret
    trace_state
    exact ⟨ret_int (by simpa using HT.out), (Below.refl _ _).alloc (Nat.le_refl _) _⟩
end Go.Proofs.Ythfdjebeblmmdaa.Sp

/- The library's binary search over rising numbers, and span.Has. -/
namespace Go.Proofs.Ythfdjebeblmmdaa.Sp
open Go.RowKit

set_option maxRecDepth 100000 in
set_option maxHeartbeats 400000 in
theorem less_any (x y : Int) (w : World) :
    Calls Try.prog 91 #[.int .i64 x, .int .i64 y] w fun e w' => e = .returned (.bool (decide (x < y))) ∧ w = w' := by
  have nan : ∀ (z : Int) (w : World), Calls Try.prog 97 #[.int .i64 z] w fun e w' => e = .returned (.bool false) ∧ w = w' := by
    intro z w
    go_enter Try.func97, Try.ntmps97
    go_wp2
    go_ret
    exact ⟨by simp, rfl⟩
  have N := Lib.hid nan
  clear nan
  go_enter Try.func91, Try.ntmps91
  go_wp2_with (go_at_call 97; refine (N.out _ _).mono ?_; rintro e w' ⟨rfl, rfl⟩)
  go_ret
  exact ⟨rfl, rfl⟩

set_option maxRecDepth 100000 in
set_option maxHeartbeats 400000 in
theorem nan_any (z : Int) (w : World) : Calls Try.prog 92 #[.int .i64 z] w fun e w' => e = .returned (.bool false) ∧ w = w' := by
  go_enter Try.func92, Try.ntmps92
  go_wp2
  go_ret
  exact ⟨by simp, rfl⟩

/-- Found, if the number is there. -/
def Found (t : Int) (zs : List Int) (e : Ending) : Prop := ∃ i : Int, e = .returned (.tuple #[.int .i64 i, .bool (decide (t ∈ zs))])

theorem pw_lt {zs : List Int} (hs : zs.Pairwise (· < ·)) (i j : Nat) (hij : i < j) (hj : j < zs.length) : zs.getD i 0 < zs.getD j 0 := by
  have := List.pairwise_iff_getElem.1 hs i j (by omega) hj hij
  simpa [List.getD_eq_getElem?_getD, List.getElem?_eq_getElem hj, List.getElem?_eq_getElem (show i < zs.length by omega)] using this

theorem mem_getD {zs : List Int} {t : Int} : t ∈ zs ↔ ∃ k, k < zs.length ∧ zs.getD k 0 = t := by
  rw [List.mem_iff_getElem]
  constructor
  · rintro ⟨k, hk, e⟩
    exact ⟨k, hk, by simp [List.getD_eq_getElem?_getD, List.getElem?_eq_getElem hk, e]⟩
  · rintro ⟨k, hk, e⟩
    exact ⟨k, hk, by simpa [List.getD_eq_getElem?_getD, List.getElem?_eq_getElem hk] using e⟩

theorem search_lo {zs : List Int} {t : Int} {m : Nat} {n : Nat} (hs : zs.Pairwise (· < ·)) (hl : zs.length = n) (hm : m < n) (h : zs.getD m 0 < t) : ∀ k, k < m + 1 → zs.getD k 0 < t := by
  intro k hk
  rcases Nat.lt_or_ge k m with h1 | h1
  · exact Int.lt_trans (pw_lt hs k m h1 (by omega)) h
  · rw [show k = m by omega]; exact h

theorem search_hi {zs : List Int} {t : Int} {m : Nat} {n : Nat} (hs : zs.Pairwise (· < ·)) (hl : zs.length = n) (h : ¬ zs.getD m 0 < t) : ∀ k, m ≤ k → k < n → t ≤ zs.getD k 0 := by
  intro k hk hkn
  rcases Nat.lt_or_ge m k with h1 | h1
  · have := pw_lt hs m k h1 (by omega); omega
  · rw [show k = m by omega]; omega

theorem search_end {zs : List Int} {t : Int} {a n : Nat} (hs : zs.Pairwise (· < ·)) (hl : zs.length = n) (h : (∀ k, k < a → zs.getD k 0 < t) ∧ ∀ k, a ≤ k → k < n → t ≤ zs.getD k 0) : t ∈ zs ↔ a < n ∧ zs.getD a 0 = t := by
  rw [mem_getD, hl]
  constructor
  · rintro ⟨k, hk, e⟩
    rcases Nat.lt_trichotomy k a with h1 | h1 | h1
    · have := h.1 k h1; omega
    · subst h1; exact ⟨hk, e⟩
    · have h2 := h.2 a (Nat.le_refl _) (by omega)
      have h3 := pw_lt hs a k h1 (by omega)
      omega
  · rintro ⟨h1, h2⟩
    exact ⟨a, h1, h2⟩

set_option maxRecDepth 100000 in
set_option maxHeartbeats 1000000 in
theorem search_any (A : Option Addr) (n c : Nat) (zs : List Int) (t : Int) (B : Nat) (w : World) (hz : IntsAt w B A n zs) (hn : n ≤ 1099511627776) (hs : zs.Pairwise (· < ·)) :
    Calls Try.prog 82 #[.slice A n c, .int .i64 t] w fun e w' => Found t zs e ∧ w = w' := by
  have hl : zs.length = n := hz.1
  have HL := Lib.hid hl
  have HS := Lib.hid hs
  clear hl hs
  go_enter Try.func82, Try.ntmps82
  go_wp2
  go_loop [7, 8, 9] (fun i j _ => ∃ a b : Nat, a ≤ b ∧ b ≤ n ∧ i = .int .i64 a ∧ j = .int .i64 b ∧ Hid ((∀ k, k < a → zs.getD k 0 < t) ∧ ∀ k, b ≤ k → k < n → t ≤ zs.getD k 0)) (fun i j _ => ((intOf j) - (intOf i)).toNat)
  case atStart => exact ⟨0, n, by omega, by omega, rfl, rfl, fun k hk => by omega, fun k hk hk2 => by omega⟩
  case round =>
    obtain ⟨a, b, hab, hbn, rfl, rfl, HQ⟩ := hrel
    by_cases hlt : a < b
    · obtain ⟨blk, off, rfl, hbB, hc⟩ := hz.2 (by omega)
      have hc1 := hc ((a + b) / 2) (by omega)
      clear hc hz
      by_cases hm : zs.getD ((a + b) / 2) 0 < t
      · have HN : Hid ((∀ k, k < (a + b) / 2 + 1 → zs.getD k 0 < t) ∧ ∀ k, b ≤ k → k < n → t ≤ zs.getD k 0) := ⟨search_lo HS.out HL.out (by omega) hm, HQ.out.2⟩
        have hm' : zs[(a + b) / 2]?.getD 0 < t := by simpa [List.getD_eq_getElem?_getD] using hm
        clear hm
        go_wp2_with (go_at_call 91; refine (less_any _ _ _).mono ?_; rintro e w' ⟨rfl, rfl⟩)
        go_round
        case rel => exact ⟨(a + b) / 2 + 1, b, by omega, by omega, by go_num, rfl, HN⟩
        case measure => simp [intOf]; omega
      · have HN : Hid ((∀ k, k < a → zs.getD k 0 < t) ∧ ∀ k, (a + b) / 2 ≤ k → k < n → t ≤ zs.getD k 0) := ⟨HQ.out.1, search_hi HS.out HL.out hm⟩
        have hm' : ¬ zs[(a + b) / 2]?.getD 0 < t := by simpa [List.getD_eq_getElem?_getD] using hm
        clear hm
        go_wp2_with (go_at_call 91; refine (less_any _ _ _).mono ?_; rintro e w' ⟨rfl, rfl⟩)
        go_round
        case rel => exact ⟨a, (a + b) / 2, by omega, by omega, rfl, by go_num, HN⟩
        case measure => simp [intOf]; omega
    · have e : b = a := by omega
      subst e
      have HE : Hid (t ∈ zs ↔ b < n ∧ zs.getD b 0 = t) := search_end HS.out HL.out HQ.out
      by_cases hbn' : b < n
      · obtain ⟨blk, off, rfl, hbB, hc⟩ := hz.2 (by omega)
        have hc1 := hc b hbn'
        clear hc hz
        by_cases he : zs.getD b 0 = t
        · have he' : (zs[b]?.getD 0 == t) = true := by simpa [List.getD_eq_getElem?_getD] using he
          have HF : Hid (decide (t ∈ zs) = true) := by
            show decide (t ∈ zs) = true
            rw [decide_eq_true_eq, HE.out]; exact ⟨hbn', he⟩
          clear he
          go_wp2_with (go_at_call 92; refine (nan_any _ _).mono ?_; rintro e w' ⟨rfl, rfl⟩)
          go_ret2
          exact ⟨⟨_, by rw [HF.out]; rfl⟩, rfl⟩
        · have he' : (zs[b]?.getD 0 == t) = false := by simpa [List.getD_eq_getElem?_getD] using he
          have HF : Hid (decide (t ∈ zs) = false) := by
            show decide (t ∈ zs) = false
            rw [decide_eq_false_iff_not, HE.out]; exact fun h => he h.2
          clear he
          go_wp2_with (go_at_call 92; refine (nan_any _ _).mono ?_; rintro e w' ⟨rfl, rfl⟩)
          go_ret2
          exact ⟨⟨_, by rw [HF.out]; rfl⟩, rfl⟩
      · have HF : Hid (decide (t ∈ zs) = false) := by
          show decide (t ∈ zs) = false
          rw [decide_eq_false_iff_not, HE.out]; exact fun h => hbn' h.1
        clear hz
        go_wp2_with (go_at_call 92; refine (nan_any _ _).mono ?_; rintro e w' ⟨rfl, rfl⟩)
        go_ret2
        exact ⟨⟨_, by rw [HF.out]; rfl⟩, rfl⟩

def hasOf (u : Int) (zs : List Int) (t : Int) : Bool := if t ≤ u then decide (1 ≤ t) else decide (t ∈ zs)

set_option maxRecDepth 100000 in
set_option maxHeartbeats 400000 in
theorem has_any (u : Int) (A : Option Addr) (n c : Nat) (zs : List Int) (t : Int) (B : Nat) (w : World) (hB : B ≤ w.heap.size) (hz : IntsAt w B A n zs) (hn : n ≤ 1099511627776) (hs : zs.Pairwise (· < ·)) :
    Calls Try.prog 64 #[.agg #[.int .i64 u, .slice A n c], .int .i64 t] w fun e w' => e = .returned (.bool (hasOf u zs t)) ∧ Below w.heap.size w w' := by
  have HS := Lib.hid hs
  have HZ := Lib.hid hz
  clear hs hz
  by_cases h : t ≤ u
  · have HF : Hid (hasOf u zs t = decide (1 ≤ t)) := if_pos h
    go_enter Try.func64, Try.ntmps64
    go_wp2
    go_ret
    exact ⟨ret_bool (by rw [HF.out]), (Below.refl _ _).alloc (Nat.le_refl _) _⟩
  · have HF : Hid (hasOf u zs t = decide (t ∈ zs)) := if_neg h
    go_enter Try.func64, Try.ntmps64
    go_wp2_with fail
    refine (search_any A n c zs t B _ (HZ.out.keep ((Below.refl _ _).alloc hB _)) hn HS.out).mono ?_
    rintro e w' ⟨⟨i, rfl⟩, rfl⟩
    go_wp2
    go_ret
    exact ⟨ret_bool (by rw [HF.out]), (Below.refl _ _).alloc (Nat.le_refl _) _⟩
end Go.Proofs.Ythfdjebeblmmdaa.Sp

/- span.push and span.pushAll: a Span that is being made, whose Extra is a row of the call's own. -/
namespace Go.Proofs.Ythfdjebeblmmdaa.Sp
open Go.RowKit

def pushF (s : Int × List Int) (m : Int) : Int × List Int :=
  if m ≤ topOf s.1 s.2 then s else if m = s.1 + 1 then (m, s.2) else (s.1, s.2 ++ [m])

/-- Where a row lies behind a call: where it lay, or in a block that is new. -/
def Lies (v : Value) (row : Option Nat) (H : Nat) : Prop := v.ownBlock = row ∨ ∃ k, v.ownBlock = some k ∧ H ≤ k

/-- The answer is the Span s; its Extra lies in a row of the call's own, from block B on; nothing else that was there has turned. -/
def OwnSpan (B : Nat) (row : Option Nat) (s : Int × List Int) (w : World) (e : Ending) (w' : World) : Prop :=
  ∃ A c, e = .returned (.agg #[.int .i64 s.1, .slice A s.2.length c]) ∧ w'.ownsRow B 3 1 (.slice A s.2.length c) s.2.length (s.2.map (.int .i64)) ∧ w.grownBy w' row ∧ Lies (.slice A s.2.length c) row w.heap.size

theorem grown_of_below {w w' : World} (h : Below w.heap.size w w') (row : Option Nat) : w.grownBy w' row := ⟨h.os, h.tape, h.output, h.size, fun k hk _ => h.block k hk⟩
theorem grown_new_set {a w : World} {row : Option Nat} (h : a.grownBy w row) {p : Addr} (hp : a.heap.size ≤ p.block) (u : Value) : a.grownBy (w.setCell p u) row :=
  ⟨h.os, h.tape, h.output, by simpa [World.setCell] using h.size, fun k hk hne => (Below.heap_setCell w p u k (by omega)).trans (h.block k hk hne)⟩
theorem grown_step {a w w' : World} {row row' : Option Nat} (h : a.grownBy w row) (h' : w.grownBy w' row') (hr : row' = row ∨ ∃ k, row' = some k ∧ a.heap.size ≤ k) : a.grownBy w' row :=
  ⟨h'.os.trans h.os, h'.tape.trans h.tape, h'.output.trans h.output, Nat.le_trans h.size h'.size, fun k hk hne => (h'.block k (Nat.lt_of_lt_of_le hk h.size) (by
    rcases hr with rfl | ⟨j, rfl, hj⟩
    · exact hne
    · intro e; injection e with e; omega)).trans (h.block k hk hne)⟩

theorem own_form {w : World} {B : Nat} {v : Value} {n : Nat} {xs : List Value} (h : w.ownsRow B 3 1 v n xs) : ∃ A c, v = .slice A n c := by
  rcases h.2 with ⟨rfl, rfl⟩ | ⟨g, cap, _, rfl, _⟩
  · exact ⟨none, 0, rfl⟩
  · exact ⟨_, cap, rfl⟩

theorem own_ints {w : World} {B : Nat} {A : Option Addr} {n c : Nat} {zs : List Int} (h : w.ownsRow B 3 1 (.slice A n c) n (zs.map (.int .i64))) : IntsAt w w.heap.size A n zs := by
  have hl : zs.length = n := by have := h.1; simpa using this
  refine ⟨hl, fun hn => ?_⟩
  have hh := h
  rcases h.2 with ⟨_, rfl⟩ | ⟨g, cap, cur, e, hB, hg, hnc, _, hs, ht⟩
  · omega
  · injection e with e1 e2 e3
    subst e1 e3
    refine ⟨g, 0, rfl, (hh.lt g rfl).2, fun k hk => ?_⟩
    rw [Nat.zero_add]
    rw [hh.cellAt k (by omega), List.getElem?_map, List.getElem?_eq_getElem (show k < zs.length by omega)]
    simp [List.getD_eq_getElem?_getD, List.getElem?_eq_getElem (show k < zs.length by omega)]

theorem grown_cell {w w' : World} {row : Option Nat} (hg : w.grownBy w' row) {b : Nat} (o : Nat) (hb : b < w.heap.size) (hne : some b ≠ row) :
    w'.cell? ⟨b, o, none⟩ = w.cell? ⟨b, o, none⟩ ∧ w'.frozen? ⟨b, o, none⟩ = w.frozen? ⟨b, o, none⟩ :=
  ⟨World.cell?_of_block (a := ⟨b, o, none⟩) (hg.block b hb hne), World.frozen?_of_block (a := ⟨b, o, none⟩) (hg.block b hb hne)⟩

theorem own_below {w w' : World} {B : Nat} {v : Value} {n : Nat} {xs : List Value} (h : w.ownsRow B 3 1 v n xs) (hb : Below w.heap.size w w') : w'.ownsRow B 3 1 v n xs :=
  h.kept (row := none) ⟨hb.os, hb.tape, hb.output, hb.size, fun k hk _ => hb.block k hk⟩ (by cases v.ownBlock <;> simp)

theorem Try.info3 : (Try.prog.info? 3).map (fun i => (i.zero, i.size, i.bytes)) = some (some (.int .i64 0), 1, 8) := by kernel_rfl

theorem addr_add (b o j : Nat) : (⟨b, o, none⟩ : Addr).add j = ⟨b, o + j, none⟩ := by unfold Addr.add; split <;> simp_all

theorem ints_cell {w : World} {B : Nat} {ad : Addr} {m : Nat} {ys : List Int} (h : IntsAt w B (some ad) m ys) : ∀ j u, (ys.map (Value.int .i64))[j]? = some u → w.cell? (ad.add j) = some u := by
  intro j u hu
  rw [List.getElem?_map] at hu
  rcases Nat.lt_or_ge j ys.length with hj | hj
  · obtain ⟨b, off, e, _, hc⟩ := h.2 (by have := h.1; omega)
    injection e with e
    subst e
    have h1 := hc j (by have := h.1; omega)
    rw [List.getElem?_eq_getElem hj] at hu
    simp only [Option.map_some, Option.some.injEq] at hu
    subst hu
    rw [addr_add]
    simpa [List.getD_eq_getElem?_getD, List.getElem?_eq_getElem hj] using h1
  · rw [List.getElem?_eq_none hj] at hu
    simp at hu

theorem run_append_ints {ty : TypeId} {w : World} {B B' : Nat} {v : Value} {n : Nat} {zs : List Int} (hown : w.ownsRow B 3 1 v n (zs.map (.int .i64))) {A : Option Addr} {m : Nat} {ys : List Int} (c : Nat)
    (hr : IntsAt w B' A m ys) (hb : n + m ≤ 8796093022208) (hB : B ≤ w.heap.size) :
    ∃ v' w', (Builtin.append_ #[23, 23] ty #[v, .slice A m c]).run Try.prog w = .ok v' w' ∧ w'.ownsRow B 3 1 v' (n + m) ((zs ++ ys).map (.int .i64)) ∧ w.grownBy w' v.ownBlock ∧ (v'.ownBlock = v.ownBlock ∨ v'.ownBlock = some w.heap.size) := by
  obtain ⟨i, hi, hz0, hz1, hz2⟩ := info_parts Try.info3
  rcases A with _ | ad
  · have hm : m = 0 := by
      rcases Nat.eq_zero_or_pos m with h0 | h0
      · exact h0
      · obtain ⟨_, _, h, _⟩ := hr.2 h0
        cases h
    subst hm
    have hy : ys = [] := List.eq_nil_of_length_eq_zero hr.1
    subst hy
    refine ⟨v, w, ?_, by simpa using hown, World.grownBy.refl w _, .inl rfl⟩
    rcases hown.2 with ⟨rfl, rfl⟩ | ⟨g, cap, cur, rfl, _, _, hnc, _⟩
    · simp [Builtin.append_, run_underlying Try.underlying23, sizeOf, typeInfo, hi, Builtin.lenOf, Builtin.firstCells]
    · simp [Builtin.append_, run_underlying Try.underlying23, sizeOf, typeInfo, hi, Builtin.lenOf, Builtin.firstCells, hnc, storeCells]
  · obtain ⟨v', w', hrun, h2, h3, _, h5⟩ := run_append_own_at (P := Try.prog) w B 23 ty 3 i (.int .i64 0) 1 8 Try.underlying23 hi hz0 hz1 hz2 rfl (by decide) v n _ hown ad m c (ys.map (.int .i64)) (by simpa using hr.1) (ints_cell hr)
      (fun u hu => by simp only [List.mem_map] at hu; obtain ⟨_, _, rfl⟩ := hu; rfl) (by unfold maxLen; omega) (by omega) hB
    exact ⟨v', w', hrun, by simpa using h2, h3, h5⟩

theorem wp_append_ints {o : Oper} {a : Act} {K : Act → World → Prop} {Q : Exit → Act → World → Prop} (s x : Operand) (ho : o.op = .call { callee := .builtin .append, args := #[s, x], argTypes := #[23, 23] })
    {w : World} {B B' : Nat} {v : Value} {n : Nat} {zs : List Int} (hs : a.eval s = v) (hown : w.ownsRow B 3 1 v n (zs.map (.int .i64))) {A : Option Addr} {m : Nat} {ys : List Int} {c : Nat} (hx : a.eval x = .slice A m c)
    (hr : IntsAt w B' A m ys) (hb : n + m ≤ 8796093022208) (hB : B ≤ w.heap.size)
    (h : ∀ A' c' w', w'.ownsRow B 3 1 (.slice A' (n + m) c') (n + m) ((zs ++ ys).map (.int .i64)) → w.grownBy w' v.ownBlock → (Value.ownBlock (.slice A' (n + m) c') = v.ownBlock ∨ Value.ownBlock (.slice A' (n + m) c') = some w.heap.size) → K (a.put o.dst (.slice A' (n + m) c')) w') : o.wp Try.prog a w K Q := by
  obtain ⟨v', w', hrun, h2, h3, h4⟩ := run_append_ints (ty := o.type) hown c hr hb hB
  obtain ⟨A', c', rfl⟩ := own_form h2
  unfold Oper.wp execOp
  simp only [ho, resolve, invoke, builtin, Sem.run_bind, Sem.run_pure, Result.andThen_ok, List.map_toArray, List.map_cons, List.map_nil, hs, hx, hrun]
  exact h A' c' w' h2 h3 h4

theorem wpList_append_ints {ops : Array Oper} {rest : List Oper} {o : Oper} {a : Act} {Q : Exit → Act → World → Prop} (hgd : o.guard = none) (s x : Operand) (ho : o.op = .call { callee := .builtin .append, args := #[s, x], argTypes := #[23, 23] })
    {w : World} {B B' : Nat} {v : Value} {n : Nat} {zs : List Int} (hs : a.eval s = v) (hown : w.ownsRow B 3 1 v n (zs.map (.int .i64))) {A : Option Addr} {m : Nat} {ys : List Int} {c : Nat} (hx : a.eval x = .slice A m c)
    (hr : IntsAt w B' A m ys) (hb : n + m ≤ 8796093022208) (hB : B ≤ w.heap.size)
    (h : ∀ A' c' w', w'.ownsRow B 3 1 (.slice A' (n + m) c') (n + m) ((zs ++ ys).map (.int .i64)) → w.grownBy w' v.ownBlock → (Value.ownBlock (.slice A' (n + m) c') = v.ownBlock ∨ Value.ownBlock (.slice A' (n + m) c') = some w.heap.size) → wpList Try.prog ops Q rest (a.put o.dst (.slice A' (n + m) c')) w') :
    wpList Try.prog ops Q (o :: rest) a w :=
  wpList_plain hgd fun _ hK => wp_append_ints s x ho hs hown hx hr hb hB fun A' c' w' h2 h3 h4 => hK _ _ (h A' c' w' h2 h3 h4)

theorem step_append_ints {ops : Array Oper} {o : Oper} {a : Act} {K : Act → World → Prop} {Q : Exit → Act → World → Prop} {E : Prop} (hgd : o.guard = none) (s x : Operand) (ho : o.op = .call { callee := .builtin .append, args := #[s, x], argTypes := #[23, 23] })
    {w : World} {B B' : Nat} {v : Value} {n : Nat} {zs : List Int} (hs : a.eval s = v) (hown : w.ownsRow B 3 1 v n (zs.map (.int .i64))) {A : Option Addr} {m : Nat} {ys : List Int} {c : Nat} (hx : a.eval x = .slice A m c)
    (hr : IntsAt w B' A m ys) (hb : n + m ≤ 8796093022208) (hB : B ≤ w.heap.size)
    (h : ∀ A' c' w', w'.ownsRow B 3 1 (.slice A' (n + m) c') (n + m) ((zs ++ ys).map (.int .i64)) → w.grownBy w' v.ownBlock → (Value.ownBlock (.slice A' (n + m) c') = v.ownBlock ∨ Value.ownBlock (.slice A' (n + m) c') = some w.heap.size) → K (a.put o.dst (.slice A' (n + m) c')) w') :
    if Region.wanted o (yielded ops a.tmps) = true then Oper.wp Try.prog o a w K Q else E := by
  have hw : Region.wanted o (yielded ops a.tmps) = true := by simp [Region.wanted, hgd]
  rw [if_pos hw]
  exact wp_append_ints s x ho hs hown hx hr hb hB h

theorem one_int (w : World) (m : Int) : IntsAt (w.alloc (.cells #[.int .i64 m] 3)) (w.heap.size + 1) (some ⟨w.heap.size, 0, none⟩) 1 [m] :=
  ⟨rfl, fun _ => ⟨_, _, rfl, by omega, fun k hk => by
    have : k = 0 := by omega
    subst this
    simp [go_sem]⟩⟩

theorem own_setCell {w : World} {B : Nat} {v : Value} {n : Nat} {xs : List Value} (h : w.ownsRow B 3 1 v n xs) {p : Addr} (hp : v.ownBlock ≠ some p.block) (u : Value) : (w.setCell p u).ownsRow B 3 1 v n xs :=
  h.kept (row := some p.block) ⟨rfl, rfl, rfl, by simp [World.setCell], fun k _ hk => Below.heap_setCell w p u k (fun e => hk (by rw [e]))⟩ (.inr hp)

theorem below_cells {W w1 : World} (hb : Below W.heap.size W w1) : (∀ b o, b < W.heap.size → w1.cell? ⟨b, o, none⟩ = W.cell? ⟨b, o, none⟩) ∧ (∀ b o, b < W.heap.size → w1.frozen? ⟨b, o, none⟩ = W.frozen? ⟨b, o, none⟩) :=
  ⟨fun b o h => hb.cell (p := ⟨b, o, none⟩) h, fun b o h => hb.frozen (p := ⟨b, o, none⟩) h⟩

theorem grown_new {w1 w3 : World} {o : Obj} {row : Option Nat} (hg : (w1.alloc o).grownBy w3 row) {b : Nat} (hb : b < w1.heap.size) (hne : some b ≠ row) :
    (∀ k, w3.cell? ⟨b, k, none⟩ = w1.cell? ⟨b, k, none⟩) ∧ ∀ k, w3.frozen? ⟨b, k, none⟩ = w1.frozen? ⟨b, k, none⟩ := by
  have h := (hg.block b (by simp; omega) hne).trans (Below.heap_alloc w1 o b hb)
  exact ⟨fun k => World.cell?_of_block (a := ⟨b, k, none⟩) h, fun k => World.frozen?_of_block (a := ⟨b, k, none⟩) h⟩

theorem ownSpan_of {B : Nat} {row : Option Nat} {w w' : World} {A : Option Addr} {n c : Nat} {u : Int} {zs : List Int} {s : Int × List Int} (hs : s = (u, zs)) (hl : zs.length = n)
    (hown : w'.ownsRow B 3 1 (.slice A n c) n (zs.map (.int .i64))) (hg : w.grownBy w' row) (hlie : Lies (.slice A n c) row w.heap.size) : OwnSpan B row s w (.returned (.agg #[.int .i64 u, .slice A n c])) w' := by
  subst hs
  subst hl
  exact ⟨A, c, rfl, hown, hg, hlie⟩

set_option maxRecDepth 100000 in
set_option maxHeartbeats 1000000 in
theorem push_any (u : Int) (A : Option Addr) (n c : Nat) (zs : List Int) (m : Int) (B : Nat) (w : World) (hB : B ≤ w.heap.size) (hown : w.ownsRow B 3 1 (.slice A n c) n (zs.map (.int .i64)))
    (h0 : 0 ≤ u) (h1 : u ≤ 1099511627776) (hn : n ≤ 1099511627776) :
    Calls Try.prog 83 #[.agg #[.int .i64 u, .slice A n c], .int .i64 m] w (OwnSpan B (Value.ownBlock (.slice A n c)) (pushF (u, zs) m) w) := by
  obtain ⟨i0, hi, hz0, hz1, hz2⟩ := info_parts Try.info3
  have hl : zs.length = n := by have := hown.1; simpa using this
  have HO := Lib.hid hown
  have HL := Lib.hid hl
  clear hown hl
  by_cases ht : m ≤ topOf u zs
  · have HF : Hid (pushF (u, zs) m = (u, zs)) := if_pos ht
    go_enter Try.func83, Try.ntmps83
    go_wp2_with fail
    refine (top_any u A n c zs w.heap.size _ (by simp; omega) ((own_ints HO.out).keep (((Below.refl _ _).alloc (Nat.le_refl _) _).alloc (by simp) _)) hn).mono ?_
    rintro e w1 ⟨rfl, hb⟩
    have HB : Hid (Below w.heap.size w w1) := (((Below.refl _ _).alloc (Nat.le_refl _) _).alloc (by simp) _).trans (hb.mono (by simp; omega))
    obtain ⟨hc, hf⟩ := below_cells hb
    have hz : w.heap.size + 1 < w1.heap.size := by have := hb.size; simp at this; omega
    clear hb
    have k00 : w1.cell? ⟨w.heap.size, 0, none⟩ = some (.int .i64 u) := (hc _ _ (by simp; omega)).trans (by simp [go_sem])
    have k01 : w1.cell? ⟨w.heap.size, 1, none⟩ = some (.slice A n c) := (hc _ _ (by simp; omega)).trans (by simp [go_sem])
    have k10 : w1.cell? ⟨w.heap.size + 1, 0, none⟩ = some (.int .i64 0) := (hc _ _ (by simp)).trans (by simp [go_sem])
    have k11 : w1.cell? ⟨w.heap.size + 1, 1, none⟩ = some (.slice none 0 0) := (hc _ _ (by simp)).trans (by simp [go_sem])
    have f00 : w1.frozen? ⟨w.heap.size, 0, none⟩ = false := (hf _ _ (by simp; omega)).trans (by simp [go_sem])
    have f01 : w1.frozen? ⟨w.heap.size, 1, none⟩ = false := (hf _ _ (by simp; omega)).trans (by simp [go_sem])
    have f10 : w1.frozen? ⟨w.heap.size + 1, 0, none⟩ = false := (hf _ _ (by simp)).trans (by simp [go_sem])
    have f11 : w1.frozen? ⟨w.heap.size + 1, 1, none⟩ = false := (hf _ _ (by simp)).trans (by simp [go_sem])
    clear hc hf
    go_wp2
    refine bodyPost_ret (v := .agg #[.int .i64 u, .slice A n c]) ?_ rfl ?_
    · simp [results, Try.results83, go_sem, k10, k11]
    · have hB2 := (HB.out.setCell (p := ⟨w.heap.size + 1, 0, none⟩) (by simp) (.int .i64 u)).setCell (p := ⟨w.heap.size + 1, 1, none⟩) (by simp) (.slice A n c)
      exact ownSpan_of HF.out HL.out (own_below HO.out hB2) (grown_of_below hB2 _) (.inl rfl)
  · by_cases he : m = u + 1
    · have HF : Hid (pushF (u, zs) m = (m, zs)) := by show pushF (u, zs) m = _; unfold pushF; rw [if_neg ht, if_pos he]
      have he' : (m == u + 1) = true := by simp [he]
      have HE := Lib.hid he
      clear he
      go_enter Try.func83, Try.ntmps83
      go_wp2_with fail
      refine (top_any u A n c zs w.heap.size _ (by simp; omega) ((own_ints HO.out).keep (((Below.refl _ _).alloc (Nat.le_refl _) _).alloc (by simp) _)) hn).mono ?_
      rintro e w1 ⟨rfl, hb⟩
      have HB : Hid (Below w.heap.size w w1) := (((Below.refl _ _).alloc (Nat.le_refl _) _).alloc (by simp) _).trans (hb.mono (by simp; omega))
      obtain ⟨hc, hf⟩ := below_cells hb
      have hz : w.heap.size + 1 < w1.heap.size := by have := hb.size; simp at this; omega
      clear hb
      have k00 : w1.cell? ⟨w.heap.size, 0, none⟩ = some (.int .i64 u) := (hc _ _ (by simp; omega)).trans (by simp [go_sem])
      have k01 : w1.cell? ⟨w.heap.size, 1, none⟩ = some (.slice A n c) := (hc _ _ (by simp; omega)).trans (by simp [go_sem])
      have k10 : w1.cell? ⟨w.heap.size + 1, 0, none⟩ = some (.int .i64 0) := (hc _ _ (by simp)).trans (by simp [go_sem])
      have k11 : w1.cell? ⟨w.heap.size + 1, 1, none⟩ = some (.slice none 0 0) := (hc _ _ (by simp)).trans (by simp [go_sem])
      have f00 : w1.frozen? ⟨w.heap.size, 0, none⟩ = false := (hf _ _ (by simp; omega)).trans (by simp [go_sem])
      have f01 : w1.frozen? ⟨w.heap.size, 1, none⟩ = false := (hf _ _ (by simp; omega)).trans (by simp [go_sem])
      have f10 : w1.frozen? ⟨w.heap.size + 1, 0, none⟩ = false := (hf _ _ (by simp)).trans (by simp [go_sem])
      have f11 : w1.frozen? ⟨w.heap.size + 1, 1, none⟩ = false := (hf _ _ (by simp)).trans (by simp [go_sem])
      clear hc hf
      go_wp2
      refine bodyPost_ret (v := .agg #[.int .i64 m, .slice A n c]) ?_ rfl ?_
      · simp [results, Try.results83, go_sem, k10, k11]
      · have hB2 := ((HB.out.setCell (p := ⟨w.heap.size, 0, none⟩) (by simp) (.int .i64 m)).setCell (p := ⟨w.heap.size + 1, 0, none⟩) (by simp) (.int .i64 m)).setCell (p := ⟨w.heap.size + 1, 1, none⟩) (by simp) (.slice A n c)
        exact ownSpan_of HF.out HL.out (own_below HO.out hB2) (grown_of_below hB2 _) (.inl rfl)
    · have HF : Hid (pushF (u, zs) m = (u, zs ++ [m])) := by show pushF (u, zs) m = _; unfold pushF; rw [if_neg ht, if_neg he]
      have he' : (m == u + 1) = false := by simpa using he
      have HE := Lib.hid he
      clear he
      go_enter Try.func83, Try.ntmps83
      go_wp2_with fail
      refine (top_any u A n c zs w.heap.size _ (by simp; omega) ((own_ints HO.out).keep (((Below.refl _ _).alloc (Nat.le_refl _) _).alloc (by simp) _)) hn).mono ?_
      rintro e w1 ⟨rfl, hb⟩
      have HB : Hid (Below w.heap.size w w1) := (((Below.refl _ _).alloc (Nat.le_refl _) _).alloc (by simp) _).trans (hb.mono (by simp; omega))
      obtain ⟨hc, hf⟩ := below_cells hb
      have hz : w.heap.size + 1 < w1.heap.size := by have := hb.size; simp at this; omega
      clear hb
      have k00 : w1.cell? ⟨w.heap.size, 0, none⟩ = some (.int .i64 u) := (hc _ _ (by simp; omega)).trans (by simp [go_sem])
      have k01 : w1.cell? ⟨w.heap.size, 1, none⟩ = some (.slice A n c) := (hc _ _ (by simp; omega)).trans (by simp [go_sem])
      have k10 : w1.cell? ⟨w.heap.size + 1, 0, none⟩ = some (.int .i64 0) := (hc _ _ (by simp)).trans (by simp [go_sem])
      have k11 : w1.cell? ⟨w.heap.size + 1, 1, none⟩ = some (.slice none 0 0) := (hc _ _ (by simp)).trans (by simp [go_sem])
      have f00 : w1.frozen? ⟨w.heap.size, 0, none⟩ = false := (hf _ _ (by simp; omega)).trans (by simp [go_sem])
      have f01 : w1.frozen? ⟨w.heap.size, 1, none⟩ = false := (hf _ _ (by simp; omega)).trans (by simp [go_sem])
      have f10 : w1.frozen? ⟨w.heap.size + 1, 0, none⟩ = false := (hf _ _ (by simp)).trans (by simp [go_sem])
      have f11 : w1.frozen? ⟨w.heap.size + 1, 1, none⟩ = false := (hf _ _ (by simp)).trans (by simp [go_sem])
      clear hc hf
      go_wp2_with (at_builtin; refine wpList_append_ints (B := B) rfl _ _ rfl rfl ((own_below HO.out HB.out).alloc _) rfl (one_int w1 m) (by omega) (by simp; omega) ?_; intro A3 c3 w3 hown3 hg3 hlie3; have HO3 := Lib.hid hown3; have HG3 := Lib.hid hg3; have HLI := Lib.hid hlie3; clear hlie3; have hne3 : ∀ k, w.heap.size ≤ k → some k ≠ Value.ownBlock (.slice A n c) := (fun k hk ek => by have := (HO.out.lt k ek.symm).2; omega); obtain ⟨c0, f0⟩ := grown_new hg3 (b := w.heap.size) (by omega) (hne3 _ (Nat.le_refl _)); obtain ⟨c1, f1⟩ := grown_new hg3 (b := w.heap.size + 1) (by omega) (hne3 _ (by omega)); have q00 := (c0 0).trans k00; have q01 := (c0 1).trans k01; have q10 := (c1 0).trans k10; have q11 := (c1 1).trans k11; have r01 := (f0 1).trans f01; have r10 := (f1 0).trans f10; have r11 := (f1 1).trans f11; clear c0 c1 f0 f1 k00 k01 k10 k11 f00 f01 f10 f11; clear hown3 hg3 hne3)
      refine bodyPost_ret (v := .agg #[.int .i64 u, .slice A3 (n + 1) c3]) ?_ rfl ?_
      · simp [results, Try.results83, go_sem, q10, q11]
      · have hne : ∀ k, w.heap.size ≤ k → k < w1.heap.size → Value.ownBlock (.slice A3 (n + 1) c3) ≠ some k := by
          intro k hk hk2 e
          rcases HLI.out with h | h
          · have := (HO.out.lt k (h.symm.trans e)).2; omega
          · rw [h] at e
            injection e with e
            simp at e
            omega
        have hG2 : w.grownBy w3 (Value.ownBlock (.slice A n c)) := grown_step (grown_of_below (HB.out.alloc (by have := HB.out.size; omega) _) _) HG3.out (.inl rfl)
        have hO2 := own_setCell (own_setCell (own_setCell HO3.out (p := ⟨w.heap.size, 1, none⟩) (hne w.heap.size (Nat.le_refl _) (by omega)) (.slice A3 (n + 1) c3)) (p := ⟨w.heap.size + 1, 0, none⟩) (hne (w.heap.size + 1) (by omega) (by omega)) (.int .i64 u)) (p := ⟨w.heap.size + 1, 1, none⟩) (hne (w.heap.size + 1) (by omega) (by omega)) (.slice A3 (n + 1) c3)
        refine ownSpan_of HF.out (by simp [HL.out]) hO2 (grown_new_set (grown_new_set (grown_new_set hG2 (by simp) _) (by simp) _) (by simp) _) ?_
        rcases HLI.out with h | h
        · exact .inl h
        · exact .inr ⟨_, h, by simp; omega⟩
end Go.Proofs.Ythfdjebeblmmdaa.Sp

/- span.pushAll: push, number by number. -/
namespace Go.Proofs.Ythfdjebeblmmdaa.Sp
open Go.RowKit

theorem push_lo (s : Int × List Int) (m : Int) : s.1 ≤ (pushF s m).1 ∧ (pushF s m).1 ≤ s.1 + 1 ∧ (pushF s m).2.length ≤ s.2.length + 1 := by
  unfold pushF
  split
  · simp; omega
  · split
    · simp; omega
    · simp; omega

/-- What holds behind k pushes, in the world wr: the Span that is being made lies in block H; its Extra is a row of the call's own. -/
def PushRel (w : World) (B H : Nat) (row : Option Nat) (u : Int) (zs ys : List Int) (k : Nat) (wr : World) : Prop :=
  ∃ (uk : Int) (zk : List Int) (A : Option Addr) (c : Nat), (ys.take k).foldl pushF (u, zs) = (uk, zk) ∧ u ≤ uk ∧ uk ≤ u + k ∧ zk.length ≤ zs.length + k ∧
    wr.cell? ⟨H, 0, none⟩ = some (.int .i64 uk) ∧ wr.cell? ⟨H, 1, none⟩ = some (.slice A zk.length c) ∧ wr.frozen? ⟨H, 0, none⟩ = false ∧ wr.frozen? ⟨H, 1, none⟩ = false ∧
    wr.cell? ⟨H + 1, 0, none⟩ = some (.int .i64 0) ∧ wr.cell? ⟨H + 1, 1, none⟩ = some (.slice none 0 0) ∧ wr.frozen? ⟨H + 1, 0, none⟩ = false ∧ wr.frozen? ⟨H + 1, 1, none⟩ = false ∧
    wr.ownsRow B 3 1 (.slice A zk.length c) zk.length (zk.map (.int .i64)) ∧ w.grownBy wr row ∧ Lies (.slice A zk.length c) row (H + 2) ∧ H + 2 ≤ wr.heap.size

theorem take_next (ys : List Int) (k : Nat) (h : k < ys.length) : ys.take (k + 1) = ys.take k ++ [ys.getD k 0] := by
  rw [List.take_succ_eq_append_getElem h]
  simp [List.getD_eq_getElem?_getD, List.getElem?_eq_getElem h]

set_option maxRecDepth 100000 in
set_option maxHeartbeats 1000000 in
theorem pushAll_any (u : Int) (A : Option Addr) (n c : Nat) (zs : List Int) (A' : Option Addr) (m c' : Nat) (ys : List Int) (B : Nat) (w : World) (hB : B ≤ w.heap.size) (hown : w.ownsRow B 3 1 (.slice A n c) n (zs.map (.int .i64)))
    (hys : IntsAt w B A' m ys) (h0 : 0 ≤ u) (h1 : u ≤ 4294967296) (hn : n ≤ 4294967296) (hm : m ≤ 4294967296) :
    Calls Try.prog 84 #[.agg #[.int .i64 u, .slice A n c], .slice A' m c'] w (OwnSpan B (Value.ownBlock (.slice A n c)) (ys.foldl pushF (u, zs)) w) := by
  have hl : zs.length = n := by have := hown.1; simpa using this
  have hrow : ∀ k, Value.ownBlock (.slice A n c) = some k → B ≤ k ∧ k < w.heap.size := hown.lt
  have HR := Lib.hid hrow
  have HO := Lib.hid hown
  have HL := Lib.hid hl
  have HY := Lib.hid hys
  clear hown hl hys hrow
  go_enter Try.func84, Try.ntmps84
  go_wp2
  go_loopw [9] (fun i wr => ∃ k : Nat, k ≤ m ∧ i = .int .i64 k ∧ PushRel w B w.heap.size (Value.ownBlock (.slice A n c)) u zs ys k wr) (fun i _ => m - (intOf i).toNat)
  case atStart =>
    refine ⟨0, Nat.zero_le _, rfl, u, zs, A, c, rfl, by omega, by omega, by omega, ?_⟩
    rw [HL.out]
    refine ⟨by simp [go_sem], by simp [go_sem], by simp [go_sem], by simp [go_sem], by simp [go_sem], by simp [go_sem], by simp [go_sem], by simp [go_sem], (HO.out.alloc _).alloc _, ?_, .inl rfl, by simp⟩
    exact grown_of_below (((Below.refl _ _).alloc (Nat.le_refl _) _).alloc (by simp) _) _
  case round =>
    obtain ⟨k, hk, rfl, HP⟩ := hrel
    obtain ⟨uk, zk, Ak, ck, hfold, hu1, hu2, hzl, c00, c01, f00, f01, c10, c11, f10, f11, hown, hg, hlie, hsz⟩ := HP
    have HFo := Lib.hid hfold
    have HG := Lib.hid hg
    have HLi := Lib.hid hlie
    have HOk := Lib.hid hown
    have hzl' : zk.length ≤ 8589934592 := by rw [HL.out] at hzl; omega
    clear hfold hg hlie hown
    by_cases hlt : k < m
    · obtain ⟨b, off, rfl, hbB, hc⟩ := HY.out.2 (by omega)
      have hck := hc k hlt
      have hkc := (grown_cell HG.out (off + k) (b := b) (by omega) (fun e => by have := (HR.out b e.symm).1; omega)).1.trans hck
      clear hc hck
      go_wp2_with fail
      refine (push_any uk Ak zk.length ck zk (ys.getD k 0) B _ (by omega) HOk.out (by omega) (by omega) (by omega)).mono ?_
      have hpl := push_lo (uk, zk) (ys.getD k 0)
      have hfo : (ys.take (k + 1)).foldl pushF (u, zs) = pushF (uk, zk) (ys.getD k 0) := by
        rw [take_next ys k (by rw [HY.out.1]; omega), List.foldl_append, HFo.out]; rfl
      generalize pushF (uk, zk) (ys.getD k 0) = s1 at hpl hfo ⊢
      obtain ⟨u1, z1⟩ := s1
      have HF1 := Lib.hid hfo
      clear hfo
      rintro e w1 ⟨A1, c1, rfl, hown1, hg1, hl1⟩
      have hneH : ∀ j, w.heap.size ≤ j → j < w.heap.size + 2 → some j ≠ Value.ownBlock (.slice Ak zk.length ck) := by
        intro j hj hj2 e
        rcases HLi.out with h | ⟨q, h, hq⟩
        · have := (HR.out j (by rw [← h, e])).2; omega
        · rw [h] at e; injection e with e; omega
      have g0 := fun o => grown_cell hg1 o (b := w.heap.size) (by omega) (hneH _ (by omega) (by omega))
      have g1 := fun o => grown_cell hg1 o (b := w.heap.size + 1) (by omega) (hneH _ (by omega) (by omega))
      have d00 := (g0 0).1.trans c00
      have d01 := (g0 1).1.trans c01
      have d10 := (g1 0).1.trans c10
      have d11 := (g1 1).1.trans c11
      have e00 := (g0 0).2.trans f00
      have e01 := (g0 1).2.trans f01
      have e10 := (g1 0).2.trans f10
      have e11 := (g1 1).2.trans f11
      have hsz1 : w.heap.size + 2 ≤ w1.heap.size := Nat.le_trans hsz hg1.size
      have hne1 : ∀ j, w.heap.size ≤ j → j < w.heap.size + 2 → Value.ownBlock (.slice A1 z1.length c1) ≠ some j := by
        intro j hj hj2 e
        rcases hl1 with h | ⟨q, h, hq⟩
        · exact hneH j hj hj2 (by rw [← e, ← h])
        · rw [h] at e; injection e with e; omega
      have HN1 := Lib.hid hne1
      have HG1 : Hid (w.grownBy w1 (Value.ownBlock (.slice A n c))) := grown_step HG.out hg1 (by
        rcases HLi.out with h | ⟨q, h, hq⟩
        · exact .inl h
        · exact .inr ⟨q, h, by omega⟩)
      have HL1 : Hid (Lies (.slice A1 z1.length c1) (Value.ownBlock (.slice A n c)) (w.heap.size + 2)) := by
        rcases hl1 with h | ⟨q, h, hq⟩
        · rcases HLi.out with h' | ⟨q', h', hq'⟩
          · exact .inl (h.trans h')
          · exact .inr ⟨q', h.trans h', hq'⟩
        · exact .inr ⟨q, h, by omega⟩
      have HO1 := Lib.hid hown1
      clear hown1 hg1 hl1 hneH g0 g1 hne1 c00 c01 c10 c11 f00 f01 f10 f11
      simp only at hpl
      go_wp2
      go_roundw
      case rel =>
        refine ⟨k + 1, by omega, by go_num, u1, z1, A1, c1, HF1.out, by omega, by omega, by omega, ?_⟩
        refine ⟨by simp [go_sem, d00], by simp [go_sem, d01], by simp [go_sem, e00], by simp [go_sem, e01], by simp [go_sem, d10], by simp [go_sem, d11], by simp [go_sem, e10], by simp [go_sem, e11], ?_, ?_, HL1.out, by simp [World.setCell]; omega⟩
        · exact own_setCell (own_setCell HO1.out (p := ⟨w.heap.size, 0, none⟩) (HN1.out w.heap.size (by omega) (by omega)) _) (p := ⟨w.heap.size, 1, none⟩) (HN1.out w.heap.size (by omega) (by omega)) _
        · exact grown_new_set (grown_new_set HG1.out (by simp) _) (by simp) _
      case measure => simp [intOf]; omega
    · have hkm : k = m := by omega
      go_wp2
      refine bodyPost_ret (v := .agg #[.int .i64 uk, .slice Ak zk.length ck]) ?_ rfl ?_
      · simp [results, Try.results84, go_sem, c10, c11]
      · have hs : ys.foldl pushF (u, zs) = (uk, zk) := by
          rw [← HFo.out, List.take_of_length_le (by rw [HY.out.1]; omega)]
        have hne1 : ∀ j, w.heap.size ≤ j → j < w.heap.size + 2 → Value.ownBlock (.slice Ak zk.length ck) ≠ some j := by
          intro j hj hj2 e
          rcases HLi.out with h | ⟨q, h, hq⟩
          · have := (HR.out j (by rw [← h, e])).2; omega
          · rw [h] at e; injection e with e; omega
        refine ownSpan_of hs rfl (own_setCell (own_setCell HOk.out (p := ⟨w.heap.size + 1, 0, none⟩) (hne1 (w.heap.size + 1) (by omega) (by omega)) _) (p := ⟨w.heap.size + 1, 1, none⟩) (hne1 (w.heap.size + 1) (by omega) (by omega)) _) (grown_new_set (grown_new_set HG.out (by simp) _) (by simp) _) ?_
        rcases HLi.out with h | ⟨q, h, hq⟩
        · exact .inl h
        · exact .inr ⟨q, h, by omega⟩
end Go.Proofs.Ythfdjebeblmmdaa.Sp

/- span.Union: the merge of two, pushed. -/
namespace Go.Proofs.Ythfdjebeblmmdaa.Sp
open Go.RowKit

def mergeF (xs ys : List Int) : List Int := List.merge xs ys (fun x y => decide (x ≤ y))
def unionF (a b : Int × List Int) : Int × List Int := (mergeF a.2 b.2).foldl pushF (firstU (max a.1 b.1), [])

theorem cell_new {w : World} (o : Obj) {b k : Nat} {v : Value} (h : b < w.heap.size) (e : w.cell? ⟨b, k, none⟩ = some v) : (w.alloc o).cell? ⟨b, k, none⟩ = some v := (World.cell?_alloc_lt w o ⟨b, k, none⟩ h).trans e
theorem frozen_new {w : World} (o : Obj) {b k : Nat} (h : b < w.heap.size) (e : w.frozen? ⟨b, k, none⟩ = false) : (w.alloc o).frozen? ⟨b, k, none⟩ = false := (World.frozen?_alloc_old w o ⟨b, k, none⟩ (Nat.ne_of_lt h)).trans e

def lenOf : Value → Nat | .slice _ n _ => n | _ => 0

def UniRel (w : World) (G : Nat) (t : Int × List Int) (xs ys : List Int) (wr : World) : Prop :=
  ∃ (u : Int) (z : List Int) (A : Option Addr) (c : Nat), (mergeF xs ys).foldl pushF (u, z) = t ∧ 0 ≤ u ∧ u + xs.length + ys.length ≤ 4294967296 ∧ z.length + xs.length + ys.length ≤ 4294967296 ∧
    wr.cell? ⟨G, 0, none⟩ = some (.int .i64 u) ∧ wr.cell? ⟨G, 1, none⟩ = some (.slice A z.length c) ∧ wr.frozen? ⟨G, 0, none⟩ = false ∧ wr.frozen? ⟨G, 1, none⟩ = false ∧
    wr.cell? ⟨w.heap.size + 2, 0, none⟩ = some (.int .i64 0) ∧ wr.cell? ⟨w.heap.size + 2, 1, none⟩ = some (.slice none 0 0) ∧ wr.frozen? ⟨w.heap.size + 2, 0, none⟩ = false ∧ wr.frozen? ⟨w.heap.size + 2, 1, none⟩ = false ∧
    wr.ownsRow (G + 1) 3 1 (.slice A z.length c) z.length (z.map (.int .i64)) ∧ Below w.heap.size w wr ∧ G + 1 ≤ wr.heap.size

theorem UniRel.drewN {w : World} {G : Nat} {t : Int × List Int} {xs ys : List Int} {wr : World} (h : UniRel w G t xs ys wr) (k : Nat) : UniRel w G t xs ys (wr.drewN k) := by
  obtain ⟨u, z, A, c, h1, h2, h3, h4, c0, c1, f0, f1, d0, d1, e0, e1, ho, hb, hs⟩ := h
  exact ⟨u, z, A, c, h1, h2, h3, h4, c0, c1, f0, f1, d0, d1, e0, e1, ho, ⟨hb.os, hb.tape, hb.output, hb.size, hb.block⟩, hs⟩

theorem IntsAt.head {w : World} {B : Nat} {A : Option Addr} {n : Nat} {zs : List Int} (h : IntsAt w B A n zs) (hn : 0 < n) :
    ∃ b off x xt, A = some ⟨b, off, none⟩ ∧ b < B ∧ zs = x :: xt ∧ xt.length = n - 1 ∧ w.cell? ⟨b, off, none⟩ = some (.int .i64 x) := by
  obtain ⟨b, off, e, hb, hc⟩ := h.2 hn
  match zs, h.1 with
  | [], h1 => simp at h1; omega
  | x :: xt, h1 => exact ⟨b, off, x, xt, e, hb, rfl, by simp at h1; omega, by simpa using hc 0 hn⟩

theorem cut_one (ad : Addr) (n c : Nat) (hn : 0 < n) (hnc : n ≤ c) : ∃ A', (∀ W, (Instr.slice 23 (.slice (some ad) n c) (some (.int .i64 1)) none none).run Try.prog W = .ok (.slice A' (n - 1) (c - 1)) W) ∧
    ∀ (w : World) (B : Nat) (z : Int) (zs : List Int), IntsAt w B (some ad) n (z :: zs) → IntsAt w B A' (n - 1) zs := by
  have hel : Try.prog.elem 23 = 3 := by kernel_rfl
  have hsz : ∀ W, (sizeOf 3).run Try.prog W = .ok 1 W := fun W => by
    obtain ⟨i, hi, _, hz1, _⟩ := info_parts Try.info3
    simp [sizeOf, typeInfo, hi, hz1]
  refine ⟨if c = 1 then some ad else some (ad.add 1), fun W => ?_, fun w B z zs h => ?_⟩
  · rw [run_slice_l (P := Try.prog) W 23 (some ad) n c (by rw [hel]; exact Try.underlying23) .i64 1 (by omega) (by omega), hel, hsz]
    simp [sliced]
  · refine ⟨by have := h.1; simp at this; omega, fun hp => ?_⟩
    obtain ⟨b, off, e, hb, hc⟩ := h.2 hn
    injection e with e
    subst e
    rw [if_neg (by omega)]
    refine ⟨b, off + 1, by rw [addr_add], hb, fun k hk => ?_⟩
    have := hc (k + 1) (by omega)
    rw [show off + 1 + k = off + (k + 1) by omega, this]
    simp

theorem grown_drewN {w w' : World} {row : Option Nat} {k : Nat} (h : (w.drewN k).grownBy w' row) : w.grownBy w' row := ⟨h.os, h.tape, h.output, h.size, h.block⟩

theorem UniRel.push {w wr w1 : World} {G : Nat} {t : Int × List Int} {xs ys : List Int} {u : Int} {z : List Int} {Az : Option Addr} {cz : Nat} {s : Int × List Int} {A1 : Option Addr} {c1 : Nat}
    (hm : (mergeF xs ys).foldl pushF s = t) (hs : u ≤ s.1 ∧ s.1 ≤ u + 1 ∧ s.2.length ≤ z.length + 1) (hu0 : 0 ≤ u) (hu1 : u + (xs.length + ys.length + 1) ≤ 4294967296) (hz1 : z.length + (xs.length + ys.length + 1) ≤ 4294967296)
    (p0 : wr.cell? ⟨G, 0, none⟩ = some (.int .i64 u)) (p1 : wr.cell? ⟨G, 1, none⟩ = some (.slice Az z.length cz)) (f0 : wr.frozen? ⟨G, 0, none⟩ = false) (f1 : wr.frozen? ⟨G, 1, none⟩ = false)
    (d0 : wr.cell? ⟨w.heap.size + 2, 0, none⟩ = some (.int .i64 0)) (d1 : wr.cell? ⟨w.heap.size + 2, 1, none⟩ = some (.slice none 0 0)) (e0 : wr.frozen? ⟨w.heap.size + 2, 0, none⟩ = false) (e1 : wr.frozen? ⟨w.heap.size + 2, 1, none⟩ = false)
    (hown : wr.ownsRow (G + 1) 3 1 (.slice Az z.length cz) z.length (z.map (.int .i64))) (hbel : Below w.heap.size w wr) (hsz : G + 1 ≤ wr.heap.size) (hG : w.heap.size + 2 < G)
    (hown1 : w1.ownsRow (G + 1) 3 1 (.slice A1 s.2.length c1) s.2.length (s.2.map (.int .i64))) (hg1 : wr.grownBy w1 (Value.ownBlock (.slice Az z.length cz))) :
    UniRel w G t xs ys ((w1.setCell ⟨G, 0, none⟩ (.int .i64 s.1)).setCell ⟨G, 1, none⟩ (.slice A1 s.2.length c1)) := by
  have hnr : ∀ j, j ≤ G → some j ≠ Value.ownBlock (.slice Az z.length cz) := fun j hj e => by have := (hown.lt j e.symm).1; omega
  have hn1 : Value.ownBlock (.slice A1 s.2.length c1) ≠ some G := fun e => by have := (hown1.lt G e).1; omega
  have hgc := fun b o (hb : b ≤ G) => grown_cell hg1 o (b := b) (by omega) (hnr b hb)
  have q0 := (hgc G 0 (Nat.le_refl _)).1.trans p0
  have q1 := (hgc G 1 (Nat.le_refl _)).1.trans p1
  have hne : ∀ i j k, (⟨G, i, none⟩ : Addr) ≠ ⟨w.heap.size + 2, j, k⟩ := fun i j k e => by injection e with e; omega
  refine ⟨s.1, s.2, A1, c1, hm, by omega, by omega, by omega, ?_, ?_, ?_, ?_, ?_, ?_, ?_, ?_, own_setCell (own_setCell hown1 hn1 _) hn1 _, ?_, ?_⟩
  · rw [World.cell?_setCell_other _ _ _ _ (by simp), World.cell?_setCell_same _ _ _ q0]
  · rw [World.cell?_setCell_same _ _ _ ((World.cell?_setCell_other _ _ _ _ (by simp)).trans q1)]
  · simpa [go_sem] using (hgc G 0 (Nat.le_refl _)).2.trans f0
  · simpa [go_sem] using (hgc G 1 (Nat.le_refl _)).2.trans f1
  · rw [World.cell?_setCell_other _ _ _ _ (hne _ _ _), World.cell?_setCell_other _ _ _ _ (hne _ _ _)]; exact (hgc _ 0 (by omega)).1.trans d0
  · rw [World.cell?_setCell_other _ _ _ _ (hne _ _ _), World.cell?_setCell_other _ _ _ _ (hne _ _ _)]; exact (hgc _ 1 (by omega)).1.trans d1
  · simpa [go_sem] using (hgc _ 0 (by omega)).2.trans e0
  · simpa [go_sem] using (hgc _ 1 (by omega)).2.trans e1
  · exact ((hbel.grown hg1 hbel.size (fun k hk => by have := (hown.lt k hk).1; omega)).setCell (by simp; omega) _).setCell (by simp; omega) _
  · have := hg1.size
    simp [World.setCell]
    omega

theorem merge_le {x y : Int} {xs ys : List Int} (h : x ≤ y) : mergeF (x :: xs) (y :: ys) = x :: mergeF xs (y :: ys) := by unfold mergeF; rw [List.cons_merge_cons]; simp [h]
theorem merge_gt {x y : Int} {xs ys : List Int} (h : ¬ x ≤ y) : mergeF (x :: xs) (y :: ys) = y :: mergeF (x :: xs) ys := by unfold mergeF; rw [List.cons_merge_cons]; simp [h]

theorem fold_lo (l : List Int) : ∀ s : Int × List Int, s.1 ≤ (l.foldl pushF s).1 ∧ (l.foldl pushF s).1 ≤ s.1 + l.length ∧ (l.foldl pushF s).2.length ≤ s.2.length + l.length := by
  induction l with
  | nil => intro s; simp
  | cons x l ih =>
    intro s
    have h1 := push_lo s x
    have h2 := ih (pushF s x)
    simp only [List.foldl_cons, List.length_cons]
    omega

theorem own_base {w : World} {B B' : Nat} {v : Value} {n : Nat} {xs : List Value} (h : w.ownsRow B 3 1 v n xs) (hB : B' ≤ B) : w.ownsRow B' 3 1 v n xs := by
  obtain ⟨h1, h2⟩ := h
  refine ⟨h1, ?_⟩
  rcases h2 with h2 | ⟨g, cap, cur, hv, hg, r⟩
  · exact .inl h2
  · exact .inr ⟨g, cap, cur, hv, by omega, r⟩

theorem lies_own {w : World} {B : Nat} {v : Value} {n : Nat} {xs : List Value} (h : w.ownsRow B 3 1 v n xs) {H : Nat} (hH : H ≤ B) : Lies v none H := by
  rcases e : v.ownBlock with _ | k
  · exact .inl e
  · exact .inr ⟨k, e, Nat.le_trans hH (h.lt k e).1⟩

set_option maxRecDepth 100000 in
set_option maxHeartbeats 1000000 in
theorem union_any (a b : Int) (A : Option Addr) (n c : Nat) (xs : List Int) (A' : Option Addr) (m c' : Nat) (ys : List Int) (B : Nat) (w : World) (hB : B ≤ w.heap.size)
    (hxs : IntsAt w B A n xs) (hys : IntsAt w B A' m ys) (hnc : n ≤ c) (hmc : m ≤ c') (hn : n ≤ 1073741824) (hm : m ≤ 1073741824) :
    Calls Try.prog 67 #[.agg #[.int .i64 a, .slice A n c], .agg #[.int .i64 b, .slice A' m c']] w (OwnSpan w.heap.size none (unionF (a, xs) (b, ys)) w) := by
  have HX := Lib.hid hxs
  have HY := Lib.hid hys
  clear hxs hys
  go_enter Try.func67, Try.ntmps67
  go_upto_region 1 with fail
  go_cut [5] (fun s5 wx => ∃ G : Nat, s5 = .pointer (some ⟨G, 0, none⟩) ∧ w.heap.size + 2 < G ∧ wx.cell? ⟨w.heap.size, 1, none⟩ = some (.slice A n c) ∧ wx.cell? ⟨w.heap.size + 1, 1, none⟩ = some (.slice A' m c') ∧ UniRel w G (unionF (a, xs) (b, ys)) xs ys wx)
  case first =>
    go_wp2_with fail
    all_goals
      refine (first_any _ _).mono ?_
      rintro e w1 ⟨rfl, hb⟩
      have k20 : w1.cell? ⟨w.heap.size + 2, 0, none⟩ = some (.int .i64 0) := (hb.cell (by simp)).trans (by simp [go_sem])
      have k21 : w1.cell? ⟨w.heap.size + 2, 1, none⟩ = some (.slice none 0 0) := (hb.cell (by simp)).trans (by simp [go_sem])
      have f20 : w1.frozen? ⟨w.heap.size + 2, 0, none⟩ = false := (hb.frozen (by simp)).trans (by simp [go_sem])
      have f21 : w1.frozen? ⟨w.heap.size + 2, 1, none⟩ = false := (hb.frozen (by simp)).trans (by simp [go_sem])
      have k01 : w1.cell? ⟨w.heap.size, 1, none⟩ = some (.slice A n c) := (hb.cell (by simp; omega)).trans (by simp [go_sem])
      have k11 : w1.cell? ⟨w.heap.size + 1, 1, none⟩ = some (.slice A' m c') := (hb.cell (by simp)).trans (by simp [go_sem])
      have hz : w.heap.size + 2 < w1.heap.size := by have := hb.size; simp at this; omega
      have HB : Hid (Below w.heap.size w w1) := ((((Below.refl _ _).alloc (Nat.le_refl _) _).alloc (by simp) _).alloc (by simp; omega) _).trans (hb.mono (by simp; omega))
      clear hb
      go_wp2_with fail
      go_meet
      case rel =>
        have hl1 : xs.length = n := HX.out.1
        have hl2 : ys.length = m := HY.out.1
        refine ⟨w1.heap.size, rfl, hz, cell_new _ (by omega) k01, cell_new _ (by omega) k11, _, [], none, 0, ?_, ?_, ?_, ?_, by simp [go_sem]; rfl, by simp [go_sem], by simp [go_sem], by simp [go_sem], ?_, ?_, ?_, ?_, World.ownsRow_nil _ _ _ _, HB.out.alloc (by omega) _, by simp⟩
        · show List.foldl pushF _ _ = List.foldl pushF (firstU (max a b), []) (mergeF xs ys)
          first | rw [Int.max_eq_left (by omega)] | rw [Int.max_eq_right (by omega)]
        · unfold firstU; omega
        · unfold firstU; omega
        · simp; omega
        · exact cell_new _ (by omega) k20
        · exact cell_new _ (by omega) k21
        · exact frozen_new _ (by omega) f20
        · exact frozen_new _ (by omega) f21
  case rest =>
    obtain ⟨G, rfl, hG, k01, k11, HU⟩ := hcut
    have HU := Lib.hid HU
    go_wp2_with fail
    go_quiet (fail)
    go_wp2
    go_loopw [6, 7] (fun x y wr => ∃ A1 n1 c1 A2 n2 c2, ∃ xs' ys' : List Int, x = .slice A1 n1 c1 ∧ y = .slice A2 n2 c2 ∧ n1 ≤ c1 ∧ n2 ≤ c2 ∧ n1 ≤ 1073741824 ∧ n2 ≤ 1073741824 ∧ Hid (IntsAt w B A1 n1 xs') ∧ Hid (IntsAt w B A2 n2 ys') ∧ Hid (UniRel w G (unionF (a, xs) (b, ys)) xs' ys' wr)) (fun x y _ => lenOf x + lenOf y)
    case atStart => exact ⟨A, n, c, A', m, c', xs, ys, rfl, rfl, hnc, hmc, hn, hm, HX, HY, HU.out.drewN _⟩
    case round =>
      obtain ⟨A1, n1, c1, A2, n2, c2, xs', ys', rfl, rfl, h1c, h2c, h1n, h2n, HX1, HY1, HU1⟩ := hrel
      by_cases hc : 0 < n1 ∧ 0 < n2
      · obtain ⟨b1, o1, x0, xt, rfl, hb1, rfl, hxl, hx0⟩ := HX1.out.head hc.1
        obtain ⟨b2, o2, y0, yt, rfl, hb2, rfl, hyl, hy0⟩ := HY1.out.head hc.2
        obtain ⟨u, z, Az, cz, hfold, hu0, hu1, hz1, p0, p1, f0, f1, d0, d1, e0, e1, hown, hbel, hsz⟩ := HU1.out
        have kx : wr.cell? ⟨b1, o1, none⟩ = some (.int .i64 x0) := (hbel.cell (p := ⟨b1, o1, none⟩) (by simp; omega)).trans hx0
        have ky : wr.cell? ⟨b2, o2, none⟩ = some (.int .i64 y0) := (hbel.cell (p := ⟨b2, o2, none⟩) (by simp; omega)).trans hy0
        have HFo := Lib.hid hfold
        have HOw := Lib.hid hown
        have HBe := Lib.hid hbel
        obtain ⟨hc1, hc2⟩ := hc
        have q1 : (0 : Int) < n1 := by omega
        have q2 : (0 : Int) < n2 := by omega
        clear hfold hown hbel hx0 hy0 HU1 k01 k11
        have hnr : ∀ j, j ≤ G → some j ≠ Value.ownBlock (.slice Az z.length cz) := fun j hj e => by have := (HOw.out.lt j e.symm).1; omega
        have hb1G : ∀ i j, (⟨G, i, none⟩ : Addr) ≠ ⟨b1, j, none⟩ := fun i j e => by injection e with e; omega
        have hb2G : ∀ i j, (⟨G, i, none⟩ : Addr) ≠ ⟨b2, j, none⟩ := fun i j e => by injection e with e; omega
        obtain ⟨Ax, hsx, hax⟩ := cut_one ⟨b1, o1, none⟩ n1 c1 hc1 h1c
        obtain ⟨Ay, hsy, hay⟩ := cut_one ⟨b2, o2, none⟩ n2 c2 hc2 h2c
        have HAx := Lib.hid hax
        have HAy := Lib.hid hay
        clear hax hay
        by_cases hle : x0 ≤ y0
        · go_wp2_with fail
          go_quiet (fail)
          go_wp2_with fail
          go_region_law
            (first
              | (go_simp
                 go_at_call 83
                 refine (push_any u Az z.length cz z x0 (G + 1) _ ?_ ?_ ?_ ?_ ?_).mono ?_
                 · exact hsz
                 · exact HOw.out
                 · exact hu0
                 · simp at hu1; omega
                 · omega
                 rintro e w1 ⟨A1, c3, rfl, hown1, hg1, hl1⟩
                 have t0 : w1.cell? ⟨G, 0, none⟩ = some (.int .i64 u) := (grown_cell hg1 0 (by exact hsz) (hnr G (Nat.le_refl _))).1.trans p0
                 have t1 : w1.cell? ⟨G, 1, none⟩ = some (.slice Az z.length cz) := (grown_cell hg1 1 (by exact hsz) (hnr G (Nat.le_refl _))).1.trans p1
                 have g0 : w1.frozen? ⟨G, 0, none⟩ = false := (grown_cell hg1 0 (by exact hsz) (hnr G (Nat.le_refl _))).2.trans f0
                 have g1 : w1.frozen? ⟨G, 1, none⟩ = false := (grown_cell hg1 1 (by exact hsz) (hnr G (Nat.le_refl _))).2.trans f1
                 have HO1 := Lib.hid hown1
                 have HG1 := Lib.hid hg1
                 clear hown1 hg1 hl1))
          all_goals
            go_wp2_with fail
            go_roundw
            case rel =>
              (repeat apply Exists.intro)
              exact ⟨⟨Ax, n1 - 1, c1 - 1, _, n2, c2, xt, y0 :: yt, rfl, rfl, by omega, by omega, by omega, by omega, HAx.out _ _ _ _ HX1.out, HY1, UniRel.push (by rw [← HFo.out, merge_le hle]; rfl) (push_lo (u, z) x0) hu0 (by simp at hu1 ⊢; omega) (by simp at hz1 ⊢; omega) p0 p1 f0 f1 d0 d1 e0 e1 HOw.out HBe.out hsz hG HO1.out (grown_drewN HG1.out)⟩, rfl⟩
            case measure => exact show (n1 - 1) + n2 < n1 + n2 by omega
        · go_wp2_with fail
          go_quiet (fail)
          go_wp2_with fail
          go_region_law
            (first
              | (go_simp
                 go_at_call 83
                 refine (push_any u Az z.length cz z y0 (G + 1) _ ?_ ?_ ?_ ?_ ?_).mono ?_
                 · exact hsz
                 · exact HOw.out
                 · exact hu0
                 · simp at hu1; omega
                 · omega
                 rintro e w1 ⟨A1, c3, rfl, hown1, hg1, hl1⟩
                 have t0 : w1.cell? ⟨G, 0, none⟩ = some (.int .i64 u) := (grown_cell hg1 0 (by exact hsz) (hnr G (Nat.le_refl _))).1.trans p0
                 have t1 : w1.cell? ⟨G, 1, none⟩ = some (.slice Az z.length cz) := (grown_cell hg1 1 (by exact hsz) (hnr G (Nat.le_refl _))).1.trans p1
                 have g0 : w1.frozen? ⟨G, 0, none⟩ = false := (grown_cell hg1 0 (by exact hsz) (hnr G (Nat.le_refl _))).2.trans f0
                 have g1 : w1.frozen? ⟨G, 1, none⟩ = false := (grown_cell hg1 1 (by exact hsz) (hnr G (Nat.le_refl _))).2.trans f1
                 have HO1 := Lib.hid hown1
                 have HG1 := Lib.hid hg1
                 clear hown1 hg1 hl1))
          all_goals
            go_wp2_with fail
            go_roundw
            case rel =>
              (repeat apply Exists.intro)
              exact ⟨⟨_, n1, c1, Ay, n2 - 1, c2 - 1, x0 :: xt, yt, rfl, rfl, by omega, by omega, by omega, by omega, HX1, HAy.out _ _ _ _ HY1.out, UniRel.push (by rw [← HFo.out, merge_gt (by omega)]; rfl) (push_lo (u, z) y0) hu0 (by simp at hu1 ⊢; omega) (by simp at hz1 ⊢; omega) p0 p1 f0 f1 d0 d1 e0 e1 HOw.out HBe.out hsz hG HO1.out (grown_drewN HG1.out)⟩, rfl⟩
            case measure => exact show n1 + (n2 - 1) < n1 + n2 by omega
      · obtain ⟨u, z, Az, cz, hfold, hu0, hu1, hz1, p0, p1, f0, f1, d0, d1, e0, e1, hown, hbel, hsz⟩ := HU1.out
        have hcat : (xs' ++ ys').foldl pushF (u, z) = unionF (a, xs) (b, ys) := by
          rw [← hfold]
          rcases Nat.eq_zero_or_pos n1 with h | h
          · rw [List.eq_nil_of_length_eq_zero (HX1.out.1.trans h)]; unfold mergeF; rw [List.nil_merge]; rfl
          · have h2 : n2 = 0 := by omega
            rw [List.eq_nil_of_length_eq_zero (HY1.out.1.trans h2)]; unfold mergeF; rw [List.merge_right]; simp
        have HCat := Lib.hid hcat
        have HOw := Lib.hid hown
        have HBe := Lib.hid hbel
        clear hcat hown hbel hfold HU1 k01 k11
        have hxl0 : xs'.length = n1 := HX1.out.1
        have hyl0 : ys'.length = n2 := HY1.out.1
        have hbu : u ≤ 4294967296 ∧ z.length ≤ 4294967296 ∧ u + n1 ≤ 4294967296 ∧ z.length + n1 ≤ 4294967296 := by omega
        clear hxl0 hyl0 hu1 hz1
        rcases Nat.eq_zero_or_pos n1 with h | h
        · subst h
          go_wp2_with fail
          refine (pushAll_any u Az z.length cz z A1 0 c1 xs' (G + 1) _ hsz HOw.out ((HX1.out.keep (HBe.out.mono hB)).more (by omega)) hu0 (by omega) (by omega) (by omega)).mono ?_
          have hfl := fold_lo xs' (u, z)
          rw [List.foldl_append] at HCat
          generalize xs'.foldl pushF (u, z) = s1 at HCat hfl ⊢
          obtain ⟨u1, z1⟩ := s1
          rintro e w1 ⟨A3, c3, rfl, hown1, hg1, hl1⟩
          have hxl : xs'.length = 0 := HX1.out.1
          have hyl : ys'.length = n2 := HY1.out.1
          have hbd : 0 ≤ u1 ∧ u1 ≤ 4294967296 ∧ z1.length ≤ 4294967296 := by simp only at hfl; omega
          have hnr : ∀ j, j ≤ G → some j ≠ Value.ownBlock (.slice Az z.length cz) := fun j hj e => by have := (HOw.out.lt j e.symm).1; omega
          have b0 := (grown_cell hg1 0 (b := w.heap.size + 2) (by omega) (hnr _ (by omega))).1.trans d0
          have b1 := (grown_cell hg1 1 (b := w.heap.size + 2) (by omega) (hnr _ (by omega))).1.trans d1
          have b2 := (grown_cell hg1 0 (b := w.heap.size + 2) (by omega) (hnr _ (by omega))).2.trans e0
          have b3 := (grown_cell hg1 1 (b := w.heap.size + 2) (by omega) (hnr _ (by omega))).2.trans e1
          have HB1 : Hid (Below w.heap.size w w1) := HBe.out.grown hg1 HBe.out.size (fun k hk => by have := (HOw.out.lt k hk).1; omega)
          have hs1 : G + 1 ≤ w1.heap.size := Nat.le_trans hsz hg1.size
          have HO1 := Lib.hid hown1
          clear hown1 hg1 hl1 hfl hxl hyl d0 d1 e0 e1 p0 p1 f0 f1 hnr
          obtain ⟨hbd1, hbd2, hbd3⟩ := hbd
          go_wp2_with fail
          refine (pushAll_any u1 A3 z1.length c3 z1 A2 n2 c2 ys' (G + 1) _ hs1 HO1.out ((HY1.out.keep (HB1.out.mono hB)).more (by omega)) hbd1 (by omega) (by omega) (by omega)).mono ?_
          have HC2 := Lib.hid HCat.out
          clear HCat
          generalize ys'.foldl pushF (u1, z1) = s2 at HC2 ⊢
          obtain ⟨u2, z2⟩ := s2
          rintro e w2 ⟨A4, c4, rfl, hown2, hg2, hl2⟩
          have hnr : ∀ j, j ≤ G → some j ≠ Value.ownBlock (.slice A3 z1.length c3) := fun j hj e => by have := (HO1.out.lt j e.symm).1; omega
          have a0 := (grown_cell hg2 0 (b := w.heap.size + 2) (by omega) (hnr _ (by omega))).1.trans b0
          have a1 := (grown_cell hg2 1 (b := w.heap.size + 2) (by omega) (hnr _ (by omega))).1.trans b1
          have a2 := (grown_cell hg2 0 (b := w.heap.size + 2) (by omega) (hnr _ (by omega))).2.trans b2
          have a3 := (grown_cell hg2 1 (b := w.heap.size + 2) (by omega) (hnr _ (by omega))).2.trans b3
          have HB2 : Hid (Below w.heap.size w w2) := HB1.out.grown hg2 HB1.out.size (fun k hk => by have := (HO1.out.lt k hk).1; omega)
          have HO2 := Lib.hid hown2
          clear hown2 hg2 hl2 hnr b0 b1 b2 b3
          go_wp2
          refine bodyPost_ret (v := .agg #[.int .i64 u2, .slice A4 z2.length c4]) ?_ rfl ?_
          · simp [results, Try.results67, go_sem, a0, a1]
          · have hn4 : Value.ownBlock (.slice A4 z2.length c4) ≠ some (w.heap.size + 2) := fun e => by have := (HO2.out.lt _ e).1; omega
            exact ownSpan_of HC2.out.symm rfl (own_base (own_setCell (own_setCell HO2.out (p := ⟨w.heap.size + 2, 0, none⟩) hn4 _) (p := ⟨w.heap.size + 2, 1, none⟩) hn4 _) (by omega)) (grown_of_below ((HB2.out.setCell (by simp; omega) _).setCell (by simp; omega) _) _) (lies_own HO2.out (by omega))
        · have hd : (0 : Int) < (n1 : Int) := by omega
          have hd2 : decide ((0 : Int) < (n2 : Int)) = false := by simp; omega
          go_wp2_with fail
          refine (pushAll_any u Az z.length cz z A1 n1 c1 xs' (G + 1) _ hsz HOw.out ((HX1.out.keep (HBe.out.mono hB)).more (by omega)) hu0 (by omega) (by omega) (by omega)).mono ?_
          have hfl := fold_lo xs' (u, z)
          rw [List.foldl_append] at HCat
          generalize xs'.foldl pushF (u, z) = s1 at HCat hfl ⊢
          obtain ⟨u1, z1⟩ := s1
          rintro e w1 ⟨A3, c3, rfl, hown1, hg1, hl1⟩
          have hxl : xs'.length = n1 := HX1.out.1
          have hyl : ys'.length = n2 := HY1.out.1
          have hbd : 0 ≤ u1 ∧ u1 ≤ 4294967296 ∧ z1.length ≤ 4294967296 := by simp only at hfl; omega
          have hnr : ∀ j, j ≤ G → some j ≠ Value.ownBlock (.slice Az z.length cz) := fun j hj e => by have := (HOw.out.lt j e.symm).1; omega
          have b0 := (grown_cell hg1 0 (b := w.heap.size + 2) (by omega) (hnr _ (by omega))).1.trans d0
          have b1 := (grown_cell hg1 1 (b := w.heap.size + 2) (by omega) (hnr _ (by omega))).1.trans d1
          have b2 := (grown_cell hg1 0 (b := w.heap.size + 2) (by omega) (hnr _ (by omega))).2.trans e0
          have b3 := (grown_cell hg1 1 (b := w.heap.size + 2) (by omega) (hnr _ (by omega))).2.trans e1
          have HB1 : Hid (Below w.heap.size w w1) := HBe.out.grown hg1 HBe.out.size (fun k hk => by have := (HOw.out.lt k hk).1; omega)
          have hs1 : G + 1 ≤ w1.heap.size := Nat.le_trans hsz hg1.size
          have HO1 := Lib.hid hown1
          clear hown1 hg1 hl1 hfl hxl hyl d0 d1 e0 e1 p0 p1 f0 f1 hnr
          obtain ⟨hbd1, hbd2, hbd3⟩ := hbd
          go_wp2_with fail
          refine (pushAll_any u1 A3 z1.length c3 z1 A2 n2 c2 ys' (G + 1) _ hs1 HO1.out ((HY1.out.keep (HB1.out.mono hB)).more (by omega)) hbd1 (by omega) (by omega) (by omega)).mono ?_
          have HC2 := Lib.hid HCat.out
          clear HCat
          generalize ys'.foldl pushF (u1, z1) = s2 at HC2 ⊢
          obtain ⟨u2, z2⟩ := s2
          rintro e w2 ⟨A4, c4, rfl, hown2, hg2, hl2⟩
          have hnr : ∀ j, j ≤ G → some j ≠ Value.ownBlock (.slice A3 z1.length c3) := fun j hj e => by have := (HO1.out.lt j e.symm).1; omega
          have a0 := (grown_cell hg2 0 (b := w.heap.size + 2) (by omega) (hnr _ (by omega))).1.trans b0
          have a1 := (grown_cell hg2 1 (b := w.heap.size + 2) (by omega) (hnr _ (by omega))).1.trans b1
          have a2 := (grown_cell hg2 0 (b := w.heap.size + 2) (by omega) (hnr _ (by omega))).2.trans b2
          have a3 := (grown_cell hg2 1 (b := w.heap.size + 2) (by omega) (hnr _ (by omega))).2.trans b3
          have HB2 : Hid (Below w.heap.size w w2) := HB1.out.grown hg2 HB1.out.size (fun k hk => by have := (HO1.out.lt k hk).1; omega)
          have HO2 := Lib.hid hown2
          clear hown2 hg2 hl2 hnr b0 b1 b2 b3
          go_wp2
          refine bodyPost_ret (v := .agg #[.int .i64 u2, .slice A4 z2.length c4]) ?_ rfl ?_
          · simp [results, Try.results67, go_sem, a0, a1]
          · have hn4 : Value.ownBlock (.slice A4 z2.length c4) ≠ some (w.heap.size + 2) := fun e => by have := (HO2.out.lt _ e).1; omega
            exact ownSpan_of HC2.out.symm rfl (own_base (own_setCell (own_setCell HO2.out (p := ⟨w.heap.size + 2, 0, none⟩) hn4 _) (p := ⟨w.heap.size + 2, 1, none⟩) hn4 _) (by omega)) (grown_of_below ((HB2.out.setCell (by simp; omega) _).setCell (by simp; omega) _) _) (lies_own HO2.out (by omega))
end Go.Proofs.Ythfdjebeblmmdaa.Sp

/- span.Add of a number that may be; the law's own little check 'told'. -/
namespace Go.Proofs.Ythfdjebeblmmdaa.Sp
open Go.RowKit

set_option maxRecDepth 100000 in
set_option maxHeartbeats 1000000 in
theorem add_yes (u : Int) (A : Option Addr) (n c : Nat) (zs : List Int) (m : Int) (B : Nat) (w : World) (hB : B ≤ w.heap.size) (hz : IntsAt w B A n zs) (hnc : n ≤ c) (hn : n ≤ 1073741824) (h1 : 1 ≤ m) (h2 : m ≤ 1048576) :
    Calls Try.prog 59 #[.agg #[.int .i64 u, .slice A n c], .int .i64 m] w (OwnSpan w.heap.size none (unionF (u, zs) (0, [m])) w) := by
  have HZ := Lib.hid hz
  clear hz
  go_enter Try.func59, Try.ntmps59
  go_wp2_with fail
  refine (union_any u 0 A n c zs (some ⟨w.heap.size + 2, 0, none⟩) 1 1 [m] (w.heap.size + 3) _ (by simp) ?_ ?_ hnc (by omega) hn (by omega)).mono ?_
  · exact (HZ.out.keep ((((Below.refl _ _).alloc hB _).alloc (by simp; omega) _).alloc (by simp; omega) _)).more (by omega)
  · have := one_int ((w.alloc (Obj.cells #[Value.int IntKind.i64 u, Value.slice A n c] 44)).alloc (Obj.cells #[Value.int IntKind.i64 0, Value.slice none 0 0] 44)) m
    simpa using this
  generalize hs : unionF (u, zs) (0, [m]) = s1
  have HS := Lib.hid hs
  clear hs
  obtain ⟨u1, z1⟩ := s1
  rintro e w1 ⟨A1, c1, rfl, hown, hg, hl⟩
  have hb : Below (((w.alloc (Obj.cells #[Value.int IntKind.i64 u, Value.slice A n c] 44)).alloc (Obj.cells #[Value.int IntKind.i64 0, Value.slice none 0 0] 44)).alloc (Obj.cells #[Value.int IntKind.i64 m] 3)).heap.size _ w1 := ⟨hg.os, hg.tape, hg.output, hg.size, fun k hk => hg.block k hk (by simp)⟩
  have k10 : w1.cell? ⟨w.heap.size + 1, 0, none⟩ = some (.int .i64 0) := (hb.cell (by simp)).trans (by simp [go_sem])
  have k11 : w1.cell? ⟨w.heap.size + 1, 1, none⟩ = some (.slice none 0 0) := (hb.cell (by simp)).trans (by simp [go_sem])
  have f10 : w1.frozen? ⟨w.heap.size + 1, 0, none⟩ = false := (hb.frozen (by simp)).trans (by simp [go_sem])
  have f11 : w1.frozen? ⟨w.heap.size + 1, 1, none⟩ = false := (hb.frozen (by simp)).trans (by simp [go_sem])
  have HB : Hid (Below w.heap.size w w1) := ((((Below.refl _ _).alloc (Nat.le_refl _) _).alloc (by simp) _).alloc (by simp; omega) _).trans (hb.mono (by simp; omega))
  have HO : Hid (w1.ownsRow (w.heap.size + 3) 3 1 (.slice A1 z1.length c1) z1.length (z1.map (.int .i64))) := own_base hown (by simp)
  clear hown hg hl hb
  go_wp2
  refine bodyPost_ret (v := .agg #[.int .i64 u1, .slice A1 z1.length c1]) ?_ rfl ?_
  · simp [results, Try.results59, go_sem, k10, k11]
  · have hn4 : Value.ownBlock (.slice A1 z1.length c1) ≠ some (w.heap.size + 1) := fun e => by have := (HO.out.lt _ e).1; omega
    exact ownSpan_of HS.out rfl (own_base (own_setCell (own_setCell HO.out (p := ⟨w.heap.size + 1, 0, none⟩) hn4 _) (p := ⟨w.heap.size + 1, 1, none⟩) hn4 _) (by omega)) (grown_of_below ((HB.out.setCell (by simp) _).setCell (by simp) _) _) (lies_own HO.out (by omega))

theorem grown_none {w w' : World} (hg : w.grownBy w' none) : Below w.heap.size w w' := ⟨hg.os, hg.tape, hg.output, hg.size, fun k hk => hg.block k hk (by simp)⟩

theorem told_union : unionF (1, [3, 4]) (0, [2]) = (4, []) := by
  have h : mergeF [3, 4] [2] = [2, 3, 4] := by unfold mergeF; simp
  unfold unionF
  simp only [h]
  decide

theorem two_ints (w : World) (a b : Int) : IntsAt (w.alloc (.cells #[.int .i64 a, .int .i64 b] 3)) (w.heap.size + 1) (some ⟨w.heap.size, 0, none⟩) 2 [a, b] :=
  ⟨rfl, fun _ => ⟨_, _, rfl, by omega, fun k hk => by
    rcases (show k = 0 ∨ k = 1 by omega) with rfl | rfl <;> simp⟩⟩

end Go.Proofs.Ythfdjebeblmmdaa.Sp

/- Spans as sets of numbers: plain facts on lists and integers, no program in them. -/
namespace Go.Proofs.Ythfdjebeblmmdaa.Sp

/-- A Span that is the one of its set. -/
def Ok (s : Int × List Int) : Prop := 0 ≤ s.1 ∧ s.2.Pairwise (· < ·) ∧ ∀ z ∈ s.2, s.1 + 1 < z
def Mem (x : Int) (s : Int × List Int) : Prop := (1 ≤ x ∧ x ≤ s.1) ∨ x ∈ s.2

theorem sorted_ext : ∀ {a b : List Int}, a.Pairwise (· < ·) → b.Pairwise (· < ·) → (∀ x, x ∈ a ↔ x ∈ b) → a = b
  | [], [], _, _, _ => rfl
  | [], y :: ys, _, _, h => by have := (h y).2 (by simp); simp at this
  | x :: xs, [], _, _, h => by have := (h x).1 (by simp); simp at this
  | x :: xs, y :: ys, ha, hb, h => by
    rw [List.pairwise_cons] at ha hb
    have e : x = y := by
      have h1 := (h x).1 (by simp)
      have h2 := (h y).2 (by simp)
      simp only [List.mem_cons] at h1 h2
      rcases h1 with h1 | h1
      · exact h1
      · rcases h2 with h2 | h2
        · exact h2.symm
        · have := hb.1 x h1; have := ha.1 y h2; omega
    subst e
    congr 1
    refine sorted_ext ha.2 hb.2 fun z => ?_
    have hz := h z
    simp only [List.mem_cons] at hz
    constructor
    · intro hm
      rcases hz.1 (.inr hm) with e | e
      · have := ha.1 z hm; omega
      · exact e
    · intro hm
      rcases hz.2 (.inr hm) with e | e
      · have := hb.1 z hm; omega
      · exact e

theorem not_next {s : Int × List Int} (h : Ok s) : ¬ Mem (s.1 + 1) s := by
  rintro (h1 | h1)
  · omega
  · have := h.2.2 _ h1; omega

theorem Ok.ext {s t : Int × List Int} (hs : Ok s) (ht : Ok t) (h : ∀ x, Mem x s ↔ Mem x t) : s = t := by
  have hu : s.1 = t.1 := by
    rcases Int.lt_trichotomy s.1 t.1 with h1 | h1 | h1
    · exact absurd ((h _).2 (.inl ⟨by have := hs.1; omega, by omega⟩)) (not_next hs)
    · exact h1
    · exact absurd ((h _).1 (.inl ⟨by have := ht.1; omega, by omega⟩)) (not_next ht)
  have hz : s.2 = t.2 := by
    refine sorted_ext hs.2.1 ht.2.1 fun x => ?_
    constructor
    · intro hx
      rcases (h x).1 (.inr hx) with h1 | h1
      · have := hs.2.2 x hx; omega
      · exact h1
    · intro hx
      rcases (h x).2 (.inr hx) with h1 | h1
      · have := ht.2.2 x hx; omega
      · exact h1
  exact Prod.ext hu hz

theorem top_ge {s : Int × List Int} (h : Ok s) : s.1 ≤ topOf s.1 s.2 := by
  unfold topOf
  rcases e : s.2.getLast? with _ | z
  · simp
  · have := h.2.2 z (List.mem_of_getLast? e); simp; omega

theorem top_mem {u : Int} {zs : List Int} (h : zs ≠ []) : topOf u zs ∈ zs := by
  unfold topOf
  rw [List.getLast?_eq_some_getLast h]
  exact List.getLast_mem h

theorem le_top {u : Int} {zs : List Int} (hs : zs.Pairwise (· < ·)) {z : Int} (hz : z ∈ zs) : z ≤ topOf u zs := by
  unfold topOf
  rcases List.eq_nil_or_concat zs with rfl | ⟨l, y, rfl⟩
  · simp at hz
  · simp only [List.concat_eq_append] at *
    rw [List.getLast?_append]
    simp only [List.getLast?_singleton, Option.some_or, Option.getD_some]
    rw [List.pairwise_append] at hs
    simp only [List.mem_append, List.mem_singleton] at hz
    rcases hz with hz | rfl
    · have := hs.2.2 z hz y (by simp); omega
    · omega

theorem push_ok {s : Int × List Int} {m : Int} (h : Ok s) (hb : ∀ z ∈ s.2, z ≤ m) (h1 : 1 ≤ m) :
    Ok (pushF s m) ∧ (∀ x, Mem x (pushF s m) ↔ Mem x s ∨ x = m) ∧ ∀ z ∈ (pushF s m).2, z ≤ m := by
  unfold pushF
  split
  · rename_i ht
    refine ⟨h, fun x => ⟨.inl, ?_⟩, hb⟩
    rintro (hx | rfl)
    · exact hx
    · by_cases he : s.2 = []
      · refine .inl ⟨h1, ?_⟩
        rw [he] at ht
        simpa [topOf] using ht
      · have h2 := top_mem (u := s.1) he
        have h3 := hb _ h2
        have : x = topOf s.1 s.2 := by omega
        rw [this]
        exact .inr h2
  · rename_i ht
    have hge := top_ge h
    split
    · rename_i he
      have hnil : s.2 = [] := by
        rcases e : s.2 with _ | ⟨z, t⟩
        · rfl
        · have h2 := h.2.2 z (by simp [e]); have h3 := hb z (by simp [e]); omega
      refine ⟨⟨by have := h.1; simp; omega, by simp [hnil], by simp [hnil]⟩, fun x => ?_, by simp [hnil]⟩
      unfold Mem
      simp only [hnil, List.not_mem_nil, or_false]
      omega
    · rename_i he
      refine ⟨⟨h.1, ?_, ?_⟩, fun x => ?_, ?_⟩
      · simp only
        rw [List.pairwise_append]
        refine ⟨h.2.1, by simp, fun a ha b hb2 => ?_⟩
        simp only [List.mem_singleton] at hb2
        subst hb2
        have := le_top (u := s.1) h.2.1 ha
        omega
      · intro z hz
        simp only [List.mem_append, List.mem_singleton] at hz
        rcases hz with hz | rfl
        · exact h.2.2 z hz
        · simp only; omega
      · unfold Mem
        simp only [List.mem_append, List.mem_singleton]
        constructor
        · rintro (a | a | a)
          · exact .inl (.inl a)
          · exact .inl (.inr a)
          · exact .inr a
        · rintro ((a | a) | a)
          · exact .inl a
          · exact .inr (.inl a)
          · exact .inr (.inr a)
      · intro z hz
        simp only [List.mem_append, List.mem_singleton] at hz
        rcases hz with hz | rfl
        · exact hb z hz
        · omega

theorem fold_ok : ∀ (l : List Int) {s : Int × List Int}, Ok s → l.Pairwise (· ≤ ·) → (∀ z ∈ s.2, ∀ m ∈ l, z ≤ m) → (∀ m ∈ l, 1 ≤ m) → Ok (l.foldl pushF s) ∧ ∀ x, Mem x (l.foldl pushF s) ↔ Mem x s ∨ x ∈ l
  | [], s, h, _, _, _ => ⟨h, fun x => by simp⟩
  | m :: l, s, h, hs, hb, h1 => by
    rw [List.pairwise_cons] at hs
    obtain ⟨a, b, c⟩ := push_ok (m := m) h (fun z hz => hb z hz m (by simp)) (h1 m (by simp))
    obtain ⟨d, e⟩ := fold_ok l a hs.2 (fun z hz k hk => by have := c z hz; have := hs.1 k hk; omega) (fun k hk => h1 k (by simp [hk]))
    refine ⟨d, fun x => ?_⟩
    rw [List.foldl_cons, e x, b x, List.mem_cons, or_assoc]

theorem pw_le {zs : List Int} (h : zs.Pairwise (· < ·)) : zs.Pairwise (· ≤ ·) := h.imp (fun h => by omega)

theorem merge_sorted {xs ys : List Int} (hx : xs.Pairwise (· ≤ ·)) (hy : ys.Pairwise (· ≤ ·)) : (mergeF xs ys).Pairwise (· ≤ ·) := by
  unfold mergeF
  have := List.pairwise_merge (le := fun x y : Int => decide (x ≤ y)) (fun a b c => by simp; omega) (fun a b => by simp; omega) xs ys (hx.imp (fun h => by simpa using h)) (hy.imp (fun h => by simpa using h))
  exact this.imp (fun h => by simpa using h)

theorem mem_mergeF {xs ys : List Int} {x : Int} : x ∈ mergeF xs ys ↔ x ∈ xs ∨ x ∈ ys := by unfold mergeF; exact List.mem_merge

theorem union_ok {a b : Int × List Int} (ha : Ok a) (hb : Ok b) (ba : a.1 ≤ 1048576) (bb : b.1 ≤ 1048576) : Ok (unionF a b) ∧ ∀ x, Mem x (unionF a b) ↔ Mem x a ∨ Mem x b := by
  unfold unionF
  have hf : firstU (max a.1 b.1) = max a.1 b.1 := by have := ha.1; unfold firstU; omega
  rw [hf]
  obtain ⟨h1, h2⟩ := fold_ok (mergeF a.2 b.2) (s := (max a.1 b.1, [])) ⟨by have := ha.1; simp; omega, by simp, by simp⟩ (merge_sorted (pw_le ha.2.1) (pw_le hb.2.1)) (by simp)
    (fun m hm => by
      rcases mem_mergeF.1 hm with h | h
      · have := ha.2.2 m h; have := ha.1; omega
      · have := hb.2.2 m h; have := hb.1; omega)
  refine ⟨h1, fun x => ?_⟩
  rw [h2 x, mem_mergeF]
  unfold Mem
  simp only [List.not_mem_nil, or_false]
  constructor
  · rintro (h | h | h)
    · rcases Int.le_total a.1 b.1 with h3 | h3
      · exact .inr (.inl ⟨h.1, by omega⟩)
      · exact .inl (.inl ⟨h.1, by omega⟩)
    · exact .inl (.inr h)
    · exact .inr (.inr h)
  · rintro ((h | h) | (h | h))
    · exact .inl ⟨h.1, by omega⟩
    · exact .inr (.inl h)
    · exact .inl ⟨h.1, by omega⟩
    · exact .inr (.inr h)

theorem has_mem {s : Int × List Int} (h : Ok s) (t : Int) : hasOf s.1 s.2 t = true ↔ Mem t s := by
  unfold hasOf Mem
  split
  · rename_i ht
    simp only [decide_eq_true_eq]
    constructor
    · intro h1; exact .inl ⟨h1, ht⟩
    · rintro (h1 | h1)
      · exact h1.1
      · have := h.2.2 t h1; omega
  · rename_i ht
    simp only [decide_eq_true_eq]
    constructor
    · exact .inr
    · rintro (h1 | h1)
      · omega
      · exact h1

/-- span.Within, as it is reckoned. -/
def withinF (a b : Int × List Int) : Bool := decide (a.1 ≤ b.1) && a.2.all (fun n => hasOf b.1 b.2 n)

theorem within_mem {a b : Int × List Int} (hb : Ok b) : withinF a b = true ↔ ∀ x, Mem x a → Mem x b := by
  unfold withinF
  simp only [Bool.and_eq_true, decide_eq_true_eq, List.all_eq_true]
  constructor
  · rintro ⟨h1, h2⟩ x (hx | hx)
    · exact .inl ⟨hx.1, by omega⟩
    · exact (has_mem hb x).1 (h2 x hx)
  · intro h
    refine ⟨?_, fun x hx => (has_mem hb x).2 (h x (.inr hx))⟩
    rcases Int.lt_or_le b.1 a.1 with h1 | h1
    · exact absurd (h (b.1 + 1) (.inl ⟨by have := hb.1; omega, by omega⟩)) (not_next hb)
    · exact h1

/-- The document's Add: the number put in, then what is side by side taken in. -/
def insF (n : Int) : List Int → List Int
  | [] => [n]
  | z :: t => if n < z then n :: z :: t else z :: insF n t
def absF (u : Int) : List Int → Int × List Int
  | [] => (u, [])
  | z :: t => if z = u + 1 then absF (u + 1) t else (u, z :: t)
def refHasF (s : Int × List Int) (n : Int) : Bool := decide (1 ≤ n ∧ n ≤ s.1) || decide (n ∈ s.2)
def refAddF (s : Int × List Int) (n : Int) : Int × List Int := if n < 1 ∨ 1048576 < n ∨ refHasF s n = true then s else absF s.1 (insF n s.2)

theorem refHas_mem (s : Int × List Int) (n : Int) : refHasF s n = true ↔ Mem n s := by unfold refHasF Mem; simp

theorem ins_mem (n x : Int) : ∀ l : List Int, x ∈ insF n l ↔ x = n ∨ x ∈ l
  | [] => by simp [insF]
  | z :: t => by
    unfold insF
    split
    · simp
    · simp only [List.mem_cons, ins_mem n x t]
      constructor
      · rintro (h | h | h)
        · exact .inr (.inl h)
        · exact .inl h
        · exact .inr (.inr h)
      · rintro (h | h | h)
        · exact .inr (.inl h)
        · exact .inl h
        · exact .inr (.inr h)

theorem ins_sorted (n : Int) : ∀ l : List Int, l.Pairwise (· < ·) → n ∉ l → (insF n l).Pairwise (· < ·)
  | [], _, _ => by simp [insF]
  | z :: t, h, hn => by
    rw [List.pairwise_cons] at h
    simp only [List.mem_cons, not_or] at hn
    unfold insF
    split
    · rename_i hz
      rw [List.pairwise_cons]
      refine ⟨fun y hy => ?_, List.pairwise_cons.2 h⟩
      simp only [List.mem_cons] at hy
      rcases hy with rfl | hy
      · exact hz
      · have := h.1 y hy; omega
    · rename_i hz
      rw [List.pairwise_cons]
      refine ⟨fun y hy => ?_, ins_sorted n t h.2 hn.2⟩
      rcases (ins_mem n y t).1 hy with rfl | hy
      · omega
      · exact h.1 y hy

theorem abs_ok : ∀ (l : List Int) (u : Int), 0 ≤ u → l.Pairwise (· < ·) → (∀ z ∈ l, u < z) → Ok (absF u l) ∧ ∀ x, Mem x (absF u l) ↔ Mem x (u, l)
  | [], u, h0, _, _ => ⟨⟨h0, by simp [absF], by simp [absF]⟩, fun x => Iff.rfl⟩
  | z :: t, u, h0, hs, hb => by
    rw [List.pairwise_cons] at hs
    unfold absF
    split
    · rename_i hz
      obtain ⟨a, b⟩ := abs_ok t (u + 1) (by omega) hs.2 (fun y hy => by have := hs.1 y hy; omega)
      refine ⟨a, fun x => ?_⟩
      rw [b x]
      unfold Mem
      simp only [List.mem_cons]
      constructor
      · rintro (h | h)
        · by_cases hx : x ≤ u
          · exact .inl ⟨h.1, hx⟩
          · exact .inr (.inl (by omega))
        · exact .inr (.inr h)
      · rintro (h | h | h)
        · exact .inl ⟨h.1, by omega⟩
        · exact .inl ⟨by omega, by omega⟩
        · exact .inr h
    · rename_i hz
      refine ⟨⟨h0, List.pairwise_cons.2 hs, fun y hy => ?_⟩, fun x => Iff.rfl⟩
      simp only [List.mem_cons] at hy
      have h1 := hb z (by simp)
      rcases hy with rfl | hy
      · simp only; omega
      · have := hs.1 y hy; simp only; omega

theorem refAdd_ok {s : Int × List Int} (h : Ok s) (n : Int) : Ok (refAddF s n) ∧ ∀ x, Mem x (refAddF s n) ↔ Mem x s ∨ (x = n ∧ 1 ≤ n ∧ n ≤ 1048576) := by
  unfold refAddF
  split
  · rename_i hc
    refine ⟨h, fun x => ⟨.inl, ?_⟩⟩
    rintro (hx | ⟨rfl, h1, h2⟩)
    · exact hx
    · rcases hc with hc | hc | hc
      · omega
      · omega
      · exact (refHas_mem s x).1 hc
  · rename_i hc
    simp only [not_or] at hc
    have hn : ¬ Mem n s := fun hm => hc.2.2 ((refHas_mem s n).2 hm)
    have hns : n ∉ s.2 := fun hm => hn (.inr hm)
    obtain ⟨a, b⟩ := abs_ok (insF n s.2) s.1 h.1 (ins_sorted n s.2 h.2.1 hns) (fun z hz => by
      rcases (ins_mem n z s.2).1 hz with rfl | hz
      · rcases Int.lt_or_le s.1 z with h1 | h1
        · exact h1
        · exact absurd (.inl ⟨by omega, h1⟩) hn
      · have := h.2.2 z hz; omega)
    refine ⟨a, fun x => ?_⟩
    rw [b x]
    unfold Mem
    simp only [ins_mem]
    constructor
    · rintro (h1 | rfl | h1)
      · exact .inl (.inl h1)
      · exact .inr ⟨rfl, by omega, by omega⟩
      · exact .inl (.inr h1)
    · rintro ((h1 | h1) | ⟨rfl, _, _⟩)
      · exact .inl h1
      · exact .inr (.inr h1)
      · exact .inr (.inl rfl)

/-- span.Add, as it is reckoned, of a number that may be. -/
theorem addF_ok {s : Int × List Int} (h : Ok s) (hb : s.1 ≤ 1048576) {m : Int} (h1 : 1 ≤ m) : Ok (unionF s (0, [m])) ∧ ∀ x, Mem x (unionF s (0, [m])) ↔ Mem x s ∨ x = m := by
  unfold unionF
  have hf : firstU (max s.1 0) = s.1 := by have := h.1; unfold firstU; omega
  simp only [hf]
  obtain ⟨a, b⟩ := fold_ok (mergeF s.2 [m]) (s := (s.1, [])) ⟨h.1, by simp, by simp⟩ (merge_sorted (pw_le h.2.1) (by simp)) (by simp)
    (fun k hk => by
      rcases mem_mergeF.1 hk with h3 | h3
      · have := h.2.2 k h3; have := h.1; omega
      · simp at h3; omega)
  refine ⟨a, fun x => ?_⟩
  rw [b x, mem_mergeF]
  unfold Mem
  simp only [List.not_mem_nil, or_false, List.mem_singleton, or_assoc]

theorem add_eq {s : Int × List Int} (h : Ok s) (hb : s.1 ≤ 1048576) {m : Int} (h1 : 1 ≤ m) (h2 : m ≤ 1048576) : unionF s (0, [m]) = refAddF s m := by
  obtain ⟨a, b⟩ := addF_ok h hb h1
  obtain ⟨c, d⟩ := refAdd_ok h m
  refine Ok.ext a c fun x => ?_
  rw [b x, d x]
  constructor
  · rintro (h3 | h3)
    · exact .inl h3
    · exact .inr ⟨h3, h1, h2⟩
  · rintro (h3 | h3)
    · exact .inl h3
    · exact .inr h3.1
end Go.Proofs.Ythfdjebeblmmdaa.Sp

/- The law's To and From: a Span told in the other package's type, its Extra copied. -/
namespace Go.Proofs.Ythfdjebeblmmdaa.Sp
open Go.RowKit

theorem empty_own (w : World) (B g : Nat) (hg : w.heap.size = g) (hB : B ≤ g) : (w.alloc (Obj.cells #[] 3)).drew.ownsRow B 3 1 (.slice (some ⟨g, 0, none⟩) 0 0) 0 (([] : List Int).map (.int .i64)) := by
  subst hg
  exact ⟨rfl, .inr ⟨w.heap.size, 0, #[], rfl, hB, heap_alloc_new w _, Nat.le_refl _, Nat.zero_le _, rfl, rfl⟩⟩

set_option maxRecDepth 100000 in
set_option maxHeartbeats 1000000 in
theorem to_any (u : Int) (A : Option Addr) (n c : Nat) (zs : List Int) (B : Nat) (w : World) (hB : B ≤ w.heap.size) (hz : IntsAt w B A n zs) (hn : n ≤ 1073741824) :
    Calls Try.prog 51 #[.agg #[.int .i64 u, .slice A n c]] w (OwnSpan w.heap.size none (u, zs) w) := by
  have hb0 : Below w.heap.size w (((w.alloc (Obj.cells #[Value.int IntKind.i64 u, Value.slice A n c] 25)).alloc (Obj.cells #[Value.int IntKind.i64 0, Value.slice none 0 0] 44)).alloc (Obj.cells #[] 3)).drew := ((((Below.refl _ _).alloc (Nat.le_refl _) _).alloc (by simp) _).alloc (by simp; omega) _).drew
  have hO : (((w.alloc (Obj.cells #[Value.int IntKind.i64 u, Value.slice A n c] 25)).alloc (Obj.cells #[Value.int IntKind.i64 0, Value.slice none 0 0] 44)).alloc (Obj.cells #[] 3)).drew.ownsRow (w.heap.size + 2) 3 1 (.slice (some ⟨w.heap.size + 2, 0, none⟩) 0 0) 0 (([] : List Int).map (.int .i64)) := empty_own _ _ _ (by simp) (Nat.le_refl _)
  have HR : Hid (IntsAt (((w.alloc (Obj.cells #[Value.int IntKind.i64 u, Value.slice A n c] 25)).alloc (Obj.cells #[Value.int IntKind.i64 0, Value.slice none 0 0] 44)).alloc (Obj.cells #[] 3)).drew B A n zs) := hz.keep (hb0.mono hB)
  have hl : zs.length = n := hz.1
  have HL := Lib.hid hl
  have HO := Lib.hid hO
  have HB0 := Lib.hid hb0
  clear hz hO hb0 hl
  go_enter Try.func51, Try.ntmps51
  go_wp2
  go_region_law
    (first
      | (refine step_append_ints (w := (((w.alloc (Obj.cells #[Value.int IntKind.i64 u, Value.slice A n c] 25)).alloc (Obj.cells #[Value.int IntKind.i64 0, Value.slice none 0 0] 44)).alloc (Obj.cells #[] 3)).drew) (B := w.heap.size + 2) (B' := B) (v := .slice (some ⟨w.heap.size + 2, 0, none⟩) 0 0) (n := 0) (zs := []) (A := A) (m := n) (c := c) (ys := zs) rfl _ _ rfl rfl HO.out rfl HR.out ?_ ?_ ?_
         · omega
         · simp
         intro A3 c3 w3 hown3 hg3 _
         have hne : ∀ k, k < w.heap.size + 2 → some k ≠ Value.ownBlock (.slice (some ⟨w.heap.size + 2, 0, none⟩) 0 0) := fun k hk e => by simp only [Value.ownBlock, Option.some.injEq] at e; omega
         have k00 : w3.cell? ⟨w.heap.size, 0, none⟩ = some (.int .i64 u) := (grown_cell hg3 0 (by simp; omega) (hne _ (by omega))).1.trans (by simp [go_sem])
         have k01 : w3.cell? ⟨w.heap.size, 1, none⟩ = some (.slice A n c) := (grown_cell hg3 1 (by simp; omega) (hne _ (by omega))).1.trans (by simp [go_sem])
         have k10 : w3.cell? ⟨w.heap.size + 1, 0, none⟩ = some (.int .i64 0) := (grown_cell hg3 0 (by simp) (hne _ (by omega))).1.trans (by simp [go_sem])
         have k11 : w3.cell? ⟨w.heap.size + 1, 1, none⟩ = some (.slice none 0 0) := (grown_cell hg3 1 (by simp) (hne _ (by omega))).1.trans (by simp [go_sem])
         have f10 : w3.frozen? ⟨w.heap.size + 1, 0, none⟩ = false := (grown_cell hg3 0 (by simp) (hne _ (by omega))).2.trans (by simp [go_sem])
         have f11 : w3.frozen? ⟨w.heap.size + 1, 1, none⟩ = false := (grown_cell hg3 1 (by simp) (hne _ (by omega))).2.trans (by simp [go_sem])
         have HB3 : Hid (Below w.heap.size w w3) := HB0.out.grown hg3 (by simp; omega) (fun k hk => by simp only [Value.ownBlock, Option.some.injEq] at hk; omega)
         have HO3 := Lib.hid hown3
         clear hown3 hg3 hne))
  all_goals
    go_wp2
    refine bodyPost_ret (v := .agg #[.int .i64 u, .slice A3 n c3]) ?_ rfl ?_
    · simp [results, Try.results51, go_sem, k10, k11]
    · have hO4 := HO3.out
      rw [Nat.zero_add, List.nil_append] at hO4
      have hn4 : Value.ownBlock (.slice A3 n c3) ≠ some (w.heap.size + 1) := fun e => by have := (hO4.lt _ e).1; omega
      exact ownSpan_of rfl HL.out (own_base (own_setCell (own_setCell hO4 (p := ⟨w.heap.size + 1, 0, none⟩) hn4 _) (p := ⟨w.heap.size + 1, 1, none⟩) hn4 _) (by omega)) (grown_of_below ((HB3.out.setCell (by simp) _).setCell (by simp) _) _) (lies_own hO4 (by omega))

set_option maxRecDepth 100000 in
set_option maxHeartbeats 1000000 in
theorem from_any (u : Int) (A : Option Addr) (n c : Nat) (zs : List Int) (B : Nat) (w : World) (hB : B ≤ w.heap.size) (hz : IntsAt w B A n zs) (hn : n ≤ 1073741824) :
    Calls Try.prog 21 #[.agg #[.int .i64 u, .slice A n c]] w (OwnSpan w.heap.size none (u, zs) w) := by
  have hb0 : Below w.heap.size w (((w.alloc (Obj.cells #[Value.int IntKind.i64 u, Value.slice A n c] 44)).alloc (Obj.cells #[Value.int IntKind.i64 0, Value.slice none 0 0] 25)).alloc (Obj.cells #[] 3)).drew := ((((Below.refl _ _).alloc (Nat.le_refl _) _).alloc (by simp) _).alloc (by simp; omega) _).drew
  have hO : (((w.alloc (Obj.cells #[Value.int IntKind.i64 u, Value.slice A n c] 44)).alloc (Obj.cells #[Value.int IntKind.i64 0, Value.slice none 0 0] 25)).alloc (Obj.cells #[] 3)).drew.ownsRow (w.heap.size + 2) 3 1 (.slice (some ⟨w.heap.size + 2, 0, none⟩) 0 0) 0 (([] : List Int).map (.int .i64)) := empty_own _ _ _ (by simp) (Nat.le_refl _)
  have HR : Hid (IntsAt (((w.alloc (Obj.cells #[Value.int IntKind.i64 u, Value.slice A n c] 44)).alloc (Obj.cells #[Value.int IntKind.i64 0, Value.slice none 0 0] 25)).alloc (Obj.cells #[] 3)).drew B A n zs) := hz.keep (hb0.mono hB)
  have hl : zs.length = n := hz.1
  have HL := Lib.hid hl
  have HO := Lib.hid hO
  have HB0 := Lib.hid hb0
  clear hz hO hb0 hl
  go_enter Try.func21, Try.ntmps21
  go_wp2
  go_region_law
    (first
      | (refine step_append_ints (w := (((w.alloc (Obj.cells #[Value.int IntKind.i64 u, Value.slice A n c] 44)).alloc (Obj.cells #[Value.int IntKind.i64 0, Value.slice none 0 0] 25)).alloc (Obj.cells #[] 3)).drew) (B := w.heap.size + 2) (B' := B) (v := .slice (some ⟨w.heap.size + 2, 0, none⟩) 0 0) (n := 0) (zs := []) (A := A) (m := n) (c := c) (ys := zs) rfl _ _ rfl rfl HO.out rfl HR.out ?_ ?_ ?_
         · omega
         · simp
         intro A3 c3 w3 hown3 hg3 _
         have hne : ∀ k, k < w.heap.size + 2 → some k ≠ Value.ownBlock (.slice (some ⟨w.heap.size + 2, 0, none⟩) 0 0) := fun k hk e => by simp only [Value.ownBlock, Option.some.injEq] at e; omega
         have k00 : w3.cell? ⟨w.heap.size, 0, none⟩ = some (.int .i64 u) := (grown_cell hg3 0 (by simp; omega) (hne _ (by omega))).1.trans (by simp [go_sem])
         have k01 : w3.cell? ⟨w.heap.size, 1, none⟩ = some (.slice A n c) := (grown_cell hg3 1 (by simp; omega) (hne _ (by omega))).1.trans (by simp [go_sem])
         have k10 : w3.cell? ⟨w.heap.size + 1, 0, none⟩ = some (.int .i64 0) := (grown_cell hg3 0 (by simp) (hne _ (by omega))).1.trans (by simp [go_sem])
         have k11 : w3.cell? ⟨w.heap.size + 1, 1, none⟩ = some (.slice none 0 0) := (grown_cell hg3 1 (by simp) (hne _ (by omega))).1.trans (by simp [go_sem])
         have f10 : w3.frozen? ⟨w.heap.size + 1, 0, none⟩ = false := (grown_cell hg3 0 (by simp) (hne _ (by omega))).2.trans (by simp [go_sem])
         have f11 : w3.frozen? ⟨w.heap.size + 1, 1, none⟩ = false := (grown_cell hg3 1 (by simp) (hne _ (by omega))).2.trans (by simp [go_sem])
         have HB3 : Hid (Below w.heap.size w w3) := HB0.out.grown hg3 (by simp; omega) (fun k hk => by simp only [Value.ownBlock, Option.some.injEq] at hk; omega)
         have HO3 := Lib.hid hown3
         clear hown3 hg3 hne))
  all_goals
    go_wp2
    refine bodyPost_ret (v := .agg #[.int .i64 u, .slice A3 n c3]) ?_ rfl ?_
    · simp [results, Try.results21, go_sem, k10, k11]
    · have hO4 := HO3.out
      rw [Nat.zero_add, List.nil_append] at hO4
      have hn4 : Value.ownBlock (.slice A3 n c3) ≠ some (w.heap.size + 1) := fun e => by have := (hO4.lt _ e).1; omega
      exact ownSpan_of rfl HL.out (own_base (own_setCell (own_setCell hO4 (p := ⟨w.heap.size + 1, 0, none⟩) hn4 _) (p := ⟨w.heap.size + 1, 1, none⟩) hn4 _) (by omega)) (grown_of_below ((HB3.out.setCell (by simp) _).setCell (by simp) _) _) (lies_own hO4 (by omega))

end Go.Proofs.Ythfdjebeblmmdaa.Sp

/- span.Right and the document's: whether a Span may be. -/
namespace Go.Proofs.Ythfdjebeblmmdaa.Sp
open Go.RowKit

def chainB (b : Int) : List Int → Bool
  | [] => true
  | z :: t => decide (b < z ∧ z ≤ 1048576) && chainB z t
def rightF (u : Int) (zs : List Int) : Bool := decide (0 ≤ u ∧ u ≤ 1048576 ∧ zs.length ≤ 4096) && chainB (u + 1) zs

theorem drop_next (zs : List Int) (k : Nat) (h : k < zs.length) : zs.drop k = zs.getD k 0 :: zs.drop (k + 1) := by
  rw [List.drop_eq_getElem_cons h]
  simp [List.getD_eq_getElem?_getD, List.getElem?_eq_getElem h]

theorem chain_step {b : Int} {zs : List Int} {k : Nat} (h : k < zs.length) : chainB b (zs.drop k) = (decide (b < zs.getD k 0 ∧ zs.getD k 0 ≤ 1048576) && chainB (zs.getD k 0) (zs.drop (k + 1))) := by
  rw [drop_next zs k h]; rfl

set_option maxRecDepth 100000 in
set_option maxHeartbeats 1000000 in
theorem right_any (u : Int) (A : Option Addr) (n c : Nat) (zs : List Int) (B : Nat) (w : World) (hB : B ≤ w.heap.size) (hz : IntsAt w B A n zs) (hn : n ≤ 1073741824) :
    Calls Try.prog 48 #[.agg #[.int .i64 u, .slice A n c]] w fun e w' => e = .returned (.bool (rightF u zs)) ∧ Below w.heap.size w w' := by
  have hl : zs.length = n := hz.1
  have HL := Lib.hid hl
  have HZ := Lib.hid hz
  clear hl hz
  by_cases h1 : u < 0
  · have HF : Hid (rightF u zs = false) := by show rightF u zs = false; unfold rightF; rw [decide_eq_false (by omega)]; rfl
    go_enter Try.func48, Try.ntmps48
    go_wp2
    go_ret
    exact ⟨ret_bool HF.out.symm, (Below.refl _ _).alloc (Nat.le_refl _) _⟩
  by_cases h2 : 1048576 < u
  · have HF : Hid (rightF u zs = false) := by show rightF u zs = false; unfold rightF; rw [decide_eq_false (by omega)]; rfl
    go_enter Try.func48, Try.ntmps48
    go_wp2
    go_ret
    exact ⟨ret_bool HF.out.symm, (Below.refl _ _).alloc (Nat.le_refl _) _⟩
  by_cases h3 : 4096 < n
  · have HF : Hid (rightF u zs = false) := by show rightF u zs = false; unfold rightF; rw [decide_eq_false (by rw [HL.out]; omega)]; rfl
    have h3' : (4096 : Int) < n := by omega
    go_enter Try.func48, Try.ntmps48
    go_wp2
    go_ret
    exact ⟨ret_bool HF.out.symm, (Below.refl _ _).alloc (Nat.le_refl _) _⟩
  have HF : Hid (rightF u zs = chainB (u + 1) zs) := by show rightF u zs = _; unfold rightF; rw [decide_eq_true (by rw [HL.out]; omega)]; rfl
  have h3' : ¬ (4096 : Int) < n := by omega
  go_enter Try.func48, Try.ntmps48
  go_wp2
  go_loop [3, 26] (fun l i => ∃ (k : Nat) (last : Int), k ≤ n ∧ i = .int .i64 k ∧ l = .int .i64 last ∧ Hid (chainB (u + 1) zs = chainB last (zs.drop k))) (fun _ i => n - (intOf i).toNat)
  case atStart => exact ⟨0, u + 1, by omega, rfl, rfl, rfl⟩
  case round =>
    obtain ⟨k, last, hk, rfl, rfl, HC⟩ := hrel
    by_cases hlt : k < n
    · obtain ⟨b, off, rfl, hbB, hc⟩ := HZ.out.2 (by omega)
      have hc1 := hc k hlt
      have hb' : b < w.heap.size := by omega
      have hst := chain_step (b := last) (zs := zs) (k := k) (by rw [HL.out]; exact hlt)
      have HS := Lib.hid hst
      clear hc hst
      by_cases t1 : zs.getD k 0 ≤ last
      · have HE : Hid (rightF u zs = false) := by show rightF u zs = _; rw [HF.out, HC.out, HS.out, decide_eq_false (by omega)]; rfl
        have t1' : zs[k]?.getD 0 ≤ last := by simpa [List.getD_eq_getElem?_getD] using t1
        clear t1
        go_wp2
        go_ret
        exact ⟨ret_bool HE.out.symm, (Below.refl _ _).alloc (Nat.le_refl _) _⟩
      · by_cases t2 : 1048576 < zs.getD k 0
        · have HE : Hid (rightF u zs = false) := by show rightF u zs = _; rw [HF.out, HC.out, HS.out, decide_eq_false (by omega)]; rfl
          have t1' : ¬ zs[k]?.getD 0 ≤ last := by simpa [List.getD_eq_getElem?_getD] using t1
          have t2' : 1048576 < zs[k]?.getD 0 := by simpa [List.getD_eq_getElem?_getD] using t2
          clear t1 t2
          go_wp2
          go_ret
          exact ⟨ret_bool HE.out.symm, (Below.refl _ _).alloc (Nat.le_refl _) _⟩
        · have HE : Hid (chainB (u + 1) zs = chainB (zs.getD k 0) (zs.drop (k + 1))) := by show _ = _; rw [HC.out, HS.out, decide_eq_true (by omega)]; rfl
          have t1' : ¬ zs[k]?.getD 0 ≤ last := by simpa [List.getD_eq_getElem?_getD] using t1
          have t2' : ¬ 1048576 < zs[k]?.getD 0 := by simpa [List.getD_eq_getElem?_getD] using t2
          clear t1 t2
          go_wp2
          go_round
          case rel => exact ⟨k + 1, zs.getD k 0, by omega, by go_num, by simp [List.getD_eq_getElem?_getD], HE⟩
          case measure => simp [intOf]; omega
    · have HE : Hid (rightF u zs = true) := by
        show rightF u zs = _
        rw [HF.out, HC.out, List.drop_of_length_le (by rw [HL.out]; omega)]; rfl
      go_wp2
      go_ret
      exact ⟨ret_bool HE.out.symm, (Below.refl _ _).alloc (Nat.le_refl _) _⟩
end Go.Proofs.Ythfdjebeblmmdaa.Sp

/- The document's own Right. -/
namespace Go.Proofs.Ythfdjebeblmmdaa.Sp
open Go.RowKit

/-- A world that differs from W by draws alone. -/
def Drawn (W wr : World) : Prop := ∃ q, wr = W.drewN q
theorem Drawn.refl (W : World) : Drawn W W := ⟨0, rfl⟩
theorem below_d {B : Nat} {a w : World} (h : Below B a w) (n : Nat) : Below B a (w.drewN n) := ⟨h.os, h.tape, h.output, h.size, h.block⟩

/-- The same memory and streams: draws apart. -/
def SameW (W W' : World) : Prop := W'.heap = W.heap ∧ W'.os = W.os ∧ W'.tape = W.tape ∧ W'.output = W.output
theorem below_via {B : Nat} {w W W' w1 : World} (h : Below B w W) (h1 : Below W'.heap.size W' w1) (hB : B ≤ W.heap.size) (e : SameW W W') : Below B w w1 := by
  obtain ⟨e1, e2, e3, e4⟩ := e
  exact ⟨h1.os.trans (e2.trans h.os), h1.tape.trans (e3.trans h.tape), h1.output.trans (e4.trans h.output), Nat.le_trans h.size (by have := h1.size; rw [e1] at this; exact this), fun k hk => (h1.block k (by rw [e1]; omega)).trans (by rw [e1]; exact h.block k hk)⟩
theorem ints_via {B : Nat} {W W' w1 : World} {A : Option Addr} {n : Nat} {zs : List Int} (h : IntsAt W B A n zs) (h1 : Below W'.heap.size W' w1) (hB : B ≤ W.heap.size) (e : SameW W W') : IntsAt w1 B A n zs :=
  h.keep (below_via (Below.refl _ _) h1 hB e)
theorem ints_same {B : Nat} {W W' : World} {A : Option Addr} {n : Nat} {zs : List Int} (h : IntsAt W B A n zs) (e : W'.heap = W.heap) : IntsAt W' B A n zs :=
  ⟨h.1, fun hn => by
    obtain ⟨b, off, e1, hlt, hc⟩ := h.2 hn
    exact ⟨b, off, e1, hlt, fun k hk => (World.cell?_of_block (a := ⟨b, off + k, none⟩) (by rw [e])).trans (hc k hk)⟩⟩

set_option maxRecDepth 100000 in
set_option maxHeartbeats 1000000 in
theorem refRight_any (u : Int) (A : Option Addr) (n c : Nat) (zs : List Int) (B : Nat) (w : World) (hB : B ≤ w.heap.size) (hz : IntsAt w B A n zs) (hn : n ≤ 1073741824) :
    Calls Try.prog 53 #[.agg #[.int .i64 u, .slice A n c]] w fun e w' => e = .returned (.bool (rightF u zs)) ∧ Below w.heap.size w w' := by
  have hl : zs.length = n := hz.1
  have HL := Lib.hid hl
  have HZ := Lib.hid hz
  clear hl hz
  by_cases h1 : u < 0
  · have HF : Hid (rightF u zs = false) := by show rightF u zs = false; unfold rightF; rw [decide_eq_false (by omega)]; rfl
    go_enter Try.func53, Try.ntmps53
    go_wp2
    go_ret
    exact ⟨ret_bool HF.out.symm, (Below.refl _ _).alloc (Nat.le_refl _) _⟩
  by_cases h2 : 1048576 < u
  · have HF : Hid (rightF u zs = false) := by show rightF u zs = false; unfold rightF; rw [decide_eq_false (by omega)]; rfl
    go_enter Try.func53, Try.ntmps53
    go_wp2
    go_ret
    exact ⟨ret_bool HF.out.symm, (Below.refl _ _).alloc (Nat.le_refl _) _⟩
  by_cases h3 : 4096 < n
  · have HF : Hid (rightF u zs = false) := by show rightF u zs = false; unfold rightF; rw [decide_eq_false (by rw [HL.out]; omega)]; rfl
    have h3' : (4096 : Int) < n := by omega
    go_enter Try.func53, Try.ntmps53
    go_wp2
    go_ret
    exact ⟨ret_bool HF.out.symm, (Below.refl _ _).alloc (Nat.le_refl _) _⟩
  have HF : Hid (rightF u zs = chainB (u + 1) zs) := by show rightF u zs = _; unfold rightF; rw [decide_eq_true (by rw [HL.out]; omega)]; rfl
  have h3' : ¬ (4096 : Int) < n := by omega
  go_enter Try.func53, Try.ntmps53
  go_wp2
  go_loopw [3, 4] (fun l i wr => ∃ (k : Nat) (last : Int), k ≤ n ∧ i = .int .i64 k ∧ l = .int .i64 last ∧ Hid (chainB (u + 1) zs = chainB last (zs.drop k)) ∧ Hid (k = 0 → last = u + 1) ∧ Drawn (w.alloc (Obj.cells #[Value.int IntKind.i64 u, Value.slice A n c] 25)) wr) (fun _ i _ => n - (intOf i).toNat)
  case atStart => exact ⟨0, u + 1, by omega, rfl, rfl, rfl, fun _ => rfl, Drawn.refl _⟩
  case round =>
    obtain ⟨k, last, hk, rfl, rfl, HC, HK, q, rfl⟩ := hrel
    by_cases hlt : k < n
    · obtain ⟨b, off, rfl, hbB, hc⟩ := HZ.out.2 (by omega)
      have hc1 := hc k hlt
      have hb' : b < w.heap.size := by omega
      have hkI : (k : Int) < n := by omega
      have hst := chain_step (b := last) (zs := zs) (k := k) (by rw [HL.out]; exact hlt)
      have HS := Lib.hid hst
      clear hc hst
      generalize hy : zs.getD k 0 = y at hc1 HS
      clear hy
      by_cases t1 : y ≤ last
      · have HE : Hid (rightF u zs = false) := by show rightF u zs = _; rw [HF.out, HC.out, HS.out, decide_eq_false (by omega)]; rfl
        by_cases hk0 : 0 < k
        · have hk1 : (0 : Int) < k := by omega
          go_wp2_with fail
          go_quiet (fail)
          go_wp2
          go_ret
          exact ⟨ret_bool HE.out.symm, by repeat (first | exact (Below.refl _ _).alloc (Nat.le_refl _) _ | refine below_d ?_ _)⟩
        · have hk1 : decide ((0 : Int) < k) = false := by simp; omega
          have hlast := HK.out (by omega)
          have t3 : y ≤ u + 1 := by omega
          clear hlast
          go_wp2_with fail
          go_quiet (fail)
          go_wp2
          go_ret
          exact ⟨ret_bool HE.out.symm, by repeat (first | exact (Below.refl _ _).alloc (Nat.le_refl _) _ | refine below_d ?_ _)⟩
      · have t1' : decide (y ≤ last) = false := by simpa using t1
        by_cases t2 : 1048576 < y
        · have HE : Hid (rightF u zs = false) := by show rightF u zs = _; rw [HF.out, HC.out, HS.out, decide_eq_false (by omega)]; rfl
          go_wp2_with fail
          go_quiet (fail)
          go_wp2
          go_ret
          exact ⟨ret_bool HE.out.symm, by repeat (first | exact (Below.refl _ _).alloc (Nat.le_refl _) _ | refine below_d ?_ _)⟩
        · have HE : Hid (chainB (u + 1) zs = chainB y (zs.drop (k + 1))) := by show _ = _; rw [HC.out, HS.out, decide_eq_true (by omega)]; rfl
          have t2' : decide (1048576 < y) = false := by simpa using t2
          go_wp2_with fail
          go_quiet (fail)
          go_wp2
          go_roundw
          case rel => exact ⟨k + 1, y, by omega, by go_num, rfl, HE, fun h => by omega, _, rfl⟩
          case measure => simp [intOf]; omega
    · have HE : Hid (rightF u zs = true) := by
        show rightF u zs = _
        rw [HF.out, HC.out, List.drop_of_length_le (by rw [HL.out]; omega)]; rfl
      go_wp2
      go_ret
      exact ⟨ret_bool HE.out.symm, by repeat (first | exact (Below.refl _ _).alloc (Nat.le_refl _) _ | refine below_d ?_ _)⟩

theorem ints_take {w : World} {B : Nat} {A : Option Addr} {n m : Nat} {zs : List Int} (h : IntsAt w B A n zs) (hm : m ≤ n) : IntsAt w B A m (zs.take m) :=
  ⟨by rw [List.length_take, h.1]; omega, fun hp => by
    obtain ⟨b, off, e, hlt, hc⟩ := h.2 (by omega)
    refine ⟨b, off, e, hlt, fun k hk => (hc k (by omega)).trans ?_⟩
    simp [List.getD_eq_getElem?_getD, hk]⟩

end Go.Proofs.Ythfdjebeblmmdaa.Sp

/- The document's Has, Count, Top and Same; the program's Same (slices.Equal) and Within. -/
namespace Go.Proofs.Ythfdjebeblmmdaa.Sp
open Go.RowKit

theorem mem_drop_iff {zs : List Int} {t : Int} {k : Nat} (h : ∀ j, j < k → j < zs.length → zs.getD j 0 ≠ t) (hk : k = zs.length) : t ∉ zs := by
  rw [mem_getD]
  rintro ⟨j, hj, e⟩
  exact h j (by omega) hj e

set_option maxRecDepth 100000 in
set_option maxHeartbeats 1000000 in
theorem refHas_any (u : Int) (A : Option Addr) (n c : Nat) (zs : List Int) (t : Int) (B : Nat) (w : World) (hB : B ≤ w.heap.size) (hz : IntsAt w B A n zs) (hn : n ≤ 1073741824) :
    Calls Try.prog 65 #[.agg #[.int .i64 u, .slice A n c], .int .i64 t] w fun e w' => e = .returned (.bool (refHasF (u, zs) t)) ∧ Below w.heap.size w w' := by
  have HL : Hid (zs.length = n) := hz.1
  have HZ := Lib.hid hz
  clear hz
  by_cases h1 : 1 ≤ t ∧ t ≤ u
  · have HF : Hid (refHasF (u, zs) t = true) := by show refHasF (u, zs) t = true; unfold refHasF; rw [decide_eq_true h1]; rfl
    obtain ⟨h1a, h1b⟩ := h1
    go_enter Try.func65, Try.ntmps65
    go_wp2
    go_ret
    exact ⟨ret_bool HF.out.symm, (Below.refl _ _).alloc (Nat.le_refl _) _⟩
  have HF : Hid (refHasF (u, zs) t = decide (t ∈ zs)) := by show refHasF (u, zs) t = _; unfold refHasF; rw [decide_eq_false h1]; rfl
  have rest : ∀ (P : Prop), (P ↔ 1 ≤ t) → P ∨ ¬ P := fun P _ => Classical.em P
  clear rest
  by_cases h2 : 1 ≤ t
  all_goals
    first
      | (have h3 : decide (t ≤ u) = false := by simp; omega)
      | (have h3 : decide (1 ≤ t) = false := by simp; omega)
    go_enter Try.func65, Try.ntmps65
    go_wp2
    go_loop [5] (fun i => ∃ k : Nat, k ≤ n ∧ i = .int .i64 k ∧ Hid (∀ j, j < k → j < zs.length → zs.getD j 0 ≠ t)) (fun i => n - (intOf i).toNat)
    case atStart => exact ⟨0, by omega, rfl, fun j hj => by omega⟩
    case round =>
      obtain ⟨k, hk, rfl, HQ⟩ := hrel
      by_cases hlt : k < n
      · obtain ⟨b, off, rfl, hbB, hc⟩ := HZ.out.2 (by omega)
        have hc1 := hc k hlt
        have hb' : b < w.heap.size := by omega
        clear hc
        by_cases he : zs.getD k 0 = t
        · have he' : (zs[k]?.getD 0 == t) = true := by simpa [List.getD_eq_getElem?_getD] using he
          have HE : Hid (refHasF (u, zs) t = true) := by show refHasF (u, zs) t = _; rw [HF.out, decide_eq_true_eq, mem_getD]; exact ⟨k, by rw [HL.out]; exact hlt, he⟩
          clear he
          go_wp2
          go_ret
          exact ⟨ret_bool HE.out.symm, (Below.refl _ _).alloc (Nat.le_refl _) _⟩
        · have he' : (zs[k]?.getD 0 == t) = false := by simpa [List.getD_eq_getElem?_getD] using he
          have HE : Hid (∀ j, j < k + 1 → j < zs.length → zs.getD j 0 ≠ t) := fun j hj hj2 => by
            rcases Nat.lt_or_ge j k with h | h
            · exact HQ.out j h hj2
            · rw [show j = k by omega]; exact he
          clear he
          go_wp2
          go_round
          case rel => exact ⟨k + 1, by omega, by go_num, HE⟩
          case measure => simp [intOf]; omega
      · have HE : Hid (refHasF (u, zs) t = false) := by
          show refHasF (u, zs) t = _
          rw [HF.out, decide_eq_false_iff_not]
          exact mem_drop_iff HQ.out (by rw [HL.out]; omega)
        go_wp2
        go_ret
        exact ⟨ret_bool HE.out.symm, (Below.refl _ _).alloc (Nat.le_refl _) _⟩

set_option maxRecDepth 100000 in
set_option maxHeartbeats 400000 in
theorem refCount_any (u : Int) (A : Option Addr) (n c : Nat) (w : World) (h0 : 0 ≤ u) (h1 : u ≤ 1048576) (hn : n ≤ 1099511627776) :
    Calls Try.prog 54 #[.agg #[.int .i64 u, .slice A n c]] w fun e w' => e = .returned (.int .i64 (u + n)) ∧ Below w.heap.size w w' := by
  go_enter Try.func54, Try.ntmps54
  go_wp2
  go_ret
  exact ⟨rfl, (Below.refl _ _).alloc (Nat.le_refl _) _⟩

theorem eq_of_cells {xs ys : List Int} {n : Nat} (hx : xs.length = n) (hy : ys.length = n) (h : ∀ j, j < n → xs.getD j 0 = ys.getD j 0) : xs = ys := by
  refine List.ext_getElem (by omega) fun i h1 h2 => ?_
  have := h i (by omega)
  simpa [List.getD_eq_getElem?_getD, List.getElem?_eq_getElem h1, List.getElem?_eq_getElem h2] using this

set_option maxRecDepth 100000 in
set_option maxHeartbeats 1000000 in
theorem equal_any (A : Option Addr) (n c : Nat) (xs : List Int) (A' : Option Addr) (m c' : Nat) (ys : List Int) (B : Nat) (w : World) (hx : IntsAt w B A n xs) (hy : IntsAt w B A' m ys) (hn : n ≤ 1073741824) :
    Calls Try.prog 94 #[.slice A n c, .slice A' m c'] w fun e w' => e = .returned (.bool (decide (xs = ys))) ∧ Below w.heap.size w w' := by
  have HX := Lib.hid hx
  have HY := Lib.hid hy
  clear hx hy
  by_cases hnm : n = m
  · subst hnm
    go_enter Try.func94, Try.ntmps94
    go_wp2
    go_loopw [13] (fun i wr => ∃ (k q : Nat), k ≤ n ∧ i = .int .i64 k ∧ Hid (∀ j, j < k → xs.getD j 0 = ys.getD j 0) ∧ wr = w.drewN q) (fun i _ => n - (intOf i).toNat)
    case atStart => exact ⟨0, 0, by omega, rfl, fun j hj => by omega, rfl⟩
    case round =>
      obtain ⟨k, q, hk, rfl, HQ, rfl⟩ := hrel
      by_cases hlt : k < n
      · obtain ⟨b, off, rfl, hbB, hc⟩ := HX.out.2 (by omega)
        obtain ⟨b', off', rfl, hbB', hc'⟩ := HY.out.2 (by omega)
        have hc1 := hc k hlt
        have hc2 := hc' k hlt
        have hkI : (k : Int) < n := by omega
        clear hc hc'
        generalize hp : xs.getD k 0 = x at hc1
        generalize hr : ys.getD k 0 = y at hc2
        have HP := Lib.hid hp
        have HRr := Lib.hid hr
        clear hp hr
        by_cases he : x = y
        · have he' : (x != y) = false := by simp [he]
          have HE : Hid (∀ j, j < k + 1 → xs.getD j 0 = ys.getD j 0) := fun j hj => by
            rcases Nat.lt_or_ge j k with h | h
            · exact HQ.out j h
            · rw [show j = k by omega, HP.out, HRr.out, he]
          clear he
          go_wp2_with fail
          go_quiet (fail)
          go_wp2
          go_roundw
          case rel => exact ⟨k + 1, _, by omega, by go_num, HE, rfl⟩
          case measure => simp [intOf]; omega
        · have he' : (x != y) = true := by simpa using he
          have HE : Hid (decide (xs = ys) = false) := by
            show decide (xs = ys) = false
            rw [decide_eq_false_iff_not]
            intro h
            rw [← HP.out, ← HRr.out, h] at he
            exact he rfl
          clear he
          go_wp2_with fail
          go_quiet (fail)
          go_wp2
          go_ret
          exact ⟨ret_bool HE.out.symm, by repeat (first | exact Below.refl _ _ | refine below_d ?_ _)⟩
      · have HE : Hid (decide (xs = ys) = true) := by
          show decide (xs = ys) = true
          rw [decide_eq_true_eq]
          exact eq_of_cells HX.out.1 HY.out.1 (fun j hj => HQ.out j (by omega))
        go_wp2
        go_ret
        exact ⟨ret_bool HE.out.symm, by repeat (first | exact Below.refl _ _ | refine below_d ?_ _)⟩
  · have hd : ((n : Int) != (m : Int)) = true := by simp; omega
    have HE : Hid (decide (xs = ys) = false) := by
      show decide (xs = ys) = false
      rw [decide_eq_false_iff_not]
      intro h
      exact hnm (by rw [← HX.out.1, ← HY.out.1, h])
    go_enter Try.func94, Try.ntmps94
    go_wp2
    go_ret
    exact ⟨ret_bool HE.out.symm, Below.refl _ _⟩

def sameF (a b : Int × List Int) : Bool := decide (a = b)

set_option maxRecDepth 100000 in
set_option maxHeartbeats 1000000 in
theorem same_any (a : Int) (A : Option Addr) (n c : Nat) (xs : List Int) (b : Int) (A' : Option Addr) (m c' : Nat) (ys : List Int) (B : Nat) (w : World) (hB : B ≤ w.heap.size) (hx : IntsAt w B A n xs) (hy : IntsAt w B A' m ys) (hn : n ≤ 1073741824) :
    Calls Try.prog 85 #[.agg #[.int .i64 a, .slice A n c], .agg #[.int .i64 b, .slice A' m c']] w fun e w' => e = .returned (.bool (sameF (a, xs) (b, ys))) ∧ Below w.heap.size w w' := by
  have HX := Lib.hid hx
  have HY := Lib.hid hy
  clear hx hy
  by_cases h : a = b
  · have h' : (a == b) = true := by simp [h]
    have HF : Hid (sameF (a, xs) (b, ys) = decide (xs = ys)) := by show sameF (a, xs) (b, ys) = _; unfold sameF; simp [h]
    clear h
    go_enter Try.func85, Try.ntmps85
    go_wp2_with fail
    refine (equal_any A n c xs A' m c' ys B _ (HX.out.keep (((Below.refl _ _).alloc hB _).alloc (by simp; omega) _)) (HY.out.keep (((Below.refl _ _).alloc hB _).alloc (by simp; omega) _)) hn).mono ?_
    rintro e w1 ⟨rfl, hb1⟩
    have HB1 : Hid (Below w.heap.size w w1) := (((Below.refl _ _).alloc (Nat.le_refl _) _).alloc (by simp) _).trans (hb1.mono (by simp; omega))
    clear hb1
    go_wp2
    go_ret
    exact ⟨ret_bool HF.out.symm, HB1.out⟩
  · have h' : (a == b) = false := by simpa using h
    have HF : Hid (sameF (a, xs) (b, ys) = false) := by show sameF (a, xs) (b, ys) = _; unfold sameF; simp [h]
    clear h
    go_enter Try.func85, Try.ntmps85
    go_wp2
    go_ret
    exact ⟨ret_bool HF.out.symm, ((Below.refl _ _).alloc (Nat.le_refl _) _).alloc (by simp) _⟩
end Go.Proofs.Ythfdjebeblmmdaa.Sp

/- span.Within; the document's Same. -/
namespace Go.Proofs.Ythfdjebeblmmdaa.Sp
open Go.RowKit

theorem all_take_next {p : Int → Bool} {zs : List Int} {k : Nat} (h : k < zs.length) : (zs.take (k + 1)).all p = ((zs.take k).all p && p (zs.getD k 0)) := by
  rw [take_next zs k h, List.all_append]
  simp

set_option maxRecDepth 100000 in
set_option maxHeartbeats 1000000 in
theorem within_any (a : Int) (A : Option Addr) (n c : Nat) (xs : List Int) (b : Int) (A' : Option Addr) (m c' : Nat) (ys : List Int) (B : Nat) (w : World) (hB : B ≤ w.heap.size) (hx : IntsAt w B A n xs) (hy : IntsAt w B A' m ys)
    (hn : n ≤ 1073741824) (hm : m ≤ 1073741824) (hs : ys.Pairwise (· < ·)) :
    Calls Try.prog 70 #[.agg #[.int .i64 a, .slice A n c], .agg #[.int .i64 b, .slice A' m c']] w fun e w' => e = .returned (.bool (withinF (a, xs) (b, ys))) ∧ Below w.heap.size w w' := by
  have HX := Lib.hid hx
  have HY := Lib.hid hy
  have HS := Lib.hid hs
  clear hx hy hs
  by_cases h : a ≤ b
  · have HF : Hid (withinF (a, xs) (b, ys) = xs.all (fun t => hasOf b ys t)) := by show withinF (a, xs) (b, ys) = _; unfold withinF; simp [h]
    go_enter Try.func70, Try.ntmps70
    go_wp2
    go_loopw [15] (fun i wr => ∃ (k : Nat), k ≤ n ∧ i = .int .i64 k ∧ Hid ((xs.take k).all (fun t => hasOf b ys t) = true) ∧ wr.cell? ⟨w.heap.size + 1, 0, none⟩ = some (.int .i64 b) ∧ wr.cell? ⟨w.heap.size + 1, 1, none⟩ = some (.slice A' m c') ∧ w.heap.size + 2 ≤ wr.heap.size ∧ Hid (Below w.heap.size w wr)) (fun i _ => n - (intOf i).toNat)
    case atStart => exact ⟨0, by omega, rfl, rfl, by simp [go_sem], by simp [go_sem], by simp, ((Below.refl _ _).alloc (Nat.le_refl _) _).alloc (by simp) _⟩
    case round =>
      obtain ⟨k, hk, rfl, HQ, k0, k1, hsz, HB⟩ := hrel
      by_cases hlt : k < n
      · obtain ⟨blk, off, rfl, hbB, hc⟩ := HX.out.2 (by omega)
        have hc1 := (HB.out.cell (p := ⟨blk, off + k, none⟩) (by simp; omega)).trans (hc k hlt)
        clear hc
        go_wp2_with fail
        refine (has_any b A' m c' ys (xs.getD k 0) B _ (Nat.le_trans hB HB.out.size) (HY.out.keep (HB.out.mono hB)) (by omega) HS.out).mono ?_
        rintro e w1 ⟨rfl, hb1⟩
        have q0 := (hb1.cell (p := ⟨w.heap.size + 1, 0, none⟩) hsz).trans k0
        have q1 := (hb1.cell (p := ⟨w.heap.size + 1, 1, none⟩) hsz).trans k1
        have HB1 : Hid (Below w.heap.size w w1) := HB.out.trans (hb1.mono HB.out.size)
        have hsz1 : w.heap.size + 2 ≤ w1.heap.size := Nat.le_trans hsz hb1.size
        clear hb1 k0 k1
        rcases hv : hasOf b ys (xs.getD k 0) with _ | _
        · have HE : Hid (withinF (a, xs) (b, ys) = false) := by
            show withinF (a, xs) (b, ys) = _
            rw [HF.out, List.all_eq_false]
            exact ⟨xs.getD k 0, mem_getD.2 ⟨k, by rw [HX.out.1]; exact hlt, rfl⟩, by rw [hv]; exact Bool.false_ne_true⟩
          clear hv
          go_wp2
          go_ret
          exact ⟨ret_bool HE.out.symm, HB1.out⟩
        · have HE : Hid ((xs.take (k + 1)).all (fun t => hasOf b ys t) = true) := by
            show _ = true
            rw [all_take_next (by rw [HX.out.1]; exact hlt), HQ.out, hv]; rfl
          clear hv
          go_wp2
          go_roundw
          case rel => exact ⟨k + 1, by omega, by go_num, HE, q0, q1, hsz1, HB1⟩
          case measure => simp [intOf]; omega
      · have HE : Hid (withinF (a, xs) (b, ys) = true) := by
          show withinF (a, xs) (b, ys) = _
          have h1 := HQ.out
          rw [List.take_of_length_le (by rw [HX.out.1]; omega)] at h1
          rw [HF.out, h1]
        go_wp2
        go_ret
        exact ⟨ret_bool HE.out.symm, HB.out⟩
  · have HF : Hid (withinF (a, xs) (b, ys) = false) := by show withinF (a, xs) (b, ys) = _; unfold withinF; simp [h]
    go_enter Try.func70, Try.ntmps70
    go_wp2
    go_ret
    exact ⟨ret_bool HF.out.symm, ((Below.refl _ _).alloc (Nat.le_refl _) _).alloc (by simp) _⟩

set_option maxRecDepth 100000 in
set_option maxHeartbeats 1000000 in
theorem refSame_any (a : Int) (A : Option Addr) (n c : Nat) (xs : List Int) (b : Int) (A' : Option Addr) (m c' : Nat) (ys : List Int) (B : Nat) (w : World) (hB : B ≤ w.heap.size) (hx : IntsAt w B A n xs) (hy : IntsAt w B A' m ys) (hn : n ≤ 1073741824) :
    Calls Try.prog 20 #[.agg #[.int .i64 a, .slice A n c], .agg #[.int .i64 b, .slice A' m c']] w fun e w' => e = .returned (.bool (sameF (a, xs) (b, ys))) ∧ Below w.heap.size w w' := by
  have HX := Lib.hid hx
  have HY := Lib.hid hy
  clear hx hy
  by_cases h : a = b
  · have h' : (a != b) = false := by simp [h]
    have HF : Hid (sameF (a, xs) (b, ys) = decide (xs = ys)) := by show sameF (a, xs) (b, ys) = _; unfold sameF; simp [h]
    clear h
    by_cases hnm : n = m
    · subst hnm
      go_enter Try.func20, Try.ntmps20
      go_wp2
      go_loopw [5] (fun i wr => ∃ (k q : Nat), k ≤ n ∧ i = .int .i64 k ∧ Hid (∀ j, j < k → xs.getD j 0 = ys.getD j 0) ∧ wr = ((w.alloc (Obj.cells #[Value.int IntKind.i64 a, Value.slice A n c] 25)).alloc (Obj.cells #[Value.int IntKind.i64 b, Value.slice A' n c'] 25)).drewN q) (fun i _ => n - (intOf i).toNat)
      case atStart => exact ⟨0, 0, by omega, rfl, fun j hj => by omega, rfl⟩
      case round =>
        obtain ⟨k, q, hk, rfl, HQ, rfl⟩ := hrel
        by_cases hlt : k < n
        · obtain ⟨b1, o1, rfl, hbB, hc⟩ := HX.out.2 (by omega)
          obtain ⟨b2, o2, rfl, hbB', hc'⟩ := HY.out.2 (by omega)
          have hc1 := hc k hlt
          have hc2 := hc' k hlt
          have hkI : (k : Int) < n := by omega
          have hb1 : b1 < w.heap.size := by omega
          have hb2 : b2 < w.heap.size := by omega
          have hb1' : b1 < w.heap.size + 1 := by omega
          have hb2' : b2 < w.heap.size + 1 := by omega
          clear hc hc'
          generalize hp : xs.getD k 0 = x at hc1
          generalize hr : ys.getD k 0 = y at hc2
          have HP := Lib.hid hp
          have HRr := Lib.hid hr
          clear hp hr
          by_cases he : x = y
          · have he' : (x != y) = false := by simp [he]
            have HE : Hid (∀ j, j < k + 1 → xs.getD j 0 = ys.getD j 0) := fun j hj => by
              rcases Nat.lt_or_ge j k with h | h
              · exact HQ.out j h
              · rw [show j = k by omega, HP.out, HRr.out, he]
            clear he
            go_wp2_with fail
            go_quiet (fail)
            go_wp2
            go_roundw
            case rel => exact ⟨k + 1, _, by omega, by go_num, HE, rfl⟩
            case measure => simp [intOf]; omega
          · have he' : (x != y) = true := by simpa using he
            have HE : Hid (decide (xs = ys) = false) := by
              show decide (xs = ys) = false
              rw [decide_eq_false_iff_not]
              intro h
              rw [← HP.out, ← HRr.out, h] at he
              exact he rfl
            clear he
            go_wp2_with fail
            go_quiet (fail)
            go_wp2
            go_ret
            exact ⟨ret_bool (HF.out.trans HE.out).symm, by repeat (first | exact ((Below.refl _ _).alloc (Nat.le_refl _) _).alloc (by simp) _ | refine below_d ?_ _)⟩
        · have HE : Hid (decide (xs = ys) = true) := by
            show decide (xs = ys) = true
            rw [decide_eq_true_eq]
            exact eq_of_cells HX.out.1 HY.out.1 (fun j hj => HQ.out j (by omega))
          go_wp2
          go_ret
          exact ⟨ret_bool (HF.out.trans HE.out).symm, by repeat (first | exact ((Below.refl _ _).alloc (Nat.le_refl _) _).alloc (by simp) _ | refine below_d ?_ _)⟩
    · have hd : ((n : Int) != (m : Int)) = true := by simp; omega
      have HE : Hid (decide (xs = ys) = false) := by
        show decide (xs = ys) = false
        rw [decide_eq_false_iff_not]
        intro h
        exact hnm (by rw [← HX.out.1, ← HY.out.1, h])
      go_enter Try.func20, Try.ntmps20
      go_wp2
      go_ret
      exact ⟨ret_bool (HF.out.trans HE.out).symm, ((Below.refl _ _).alloc (Nat.le_refl _) _).alloc (by simp) _⟩
  · have h' : (a != b) = true := by simpa using h
    have HF : Hid (sameF (a, xs) (b, ys) = false) := by show sameF (a, xs) (b, ys) = _; unfold sameF; simp [h]
    clear h
    go_enter Try.func20, Try.ntmps20
    go_wp2
    go_ret
    exact ⟨ret_bool HF.out.symm, ((Below.refl _ _).alloc (Nat.le_refl _) _).alloc (by simp) _⟩
end Go.Proofs.Ythfdjebeblmmdaa.Sp
