/- Texts of zones come back: a number's digits, what stands between the bytes of a kind, words, steps. Mathematics; no program in it. -/
import Derived.Test.YtkklikkmpmlnbaaDoorZj
import Derived.Lib.AtoiTie
import Derived.Lib.ItoaMem
import Derived.Lib.SplitLaws
namespace Go.Proofs.YtkklikkmpmlnbaaDoor
open Go.RowKit

theorem decFrom_app (a b : List UInt8) : ∀ acc : Nat, Lib.decFrom acc (a ++ b) = (Lib.decFrom acc a).bind fun n => Lib.decFrom n b := by
  induction a with
  | nil => intro acc; rfl
  | cons x l ih =>
    intro acc
    have e1 : Lib.decFrom acc (x :: l ++ b) = match Lib.digitVal x with
      | some d => Lib.decFrom (acc * 10 + d) (l ++ b)
      | none => none := rfl
    have e2 : Lib.decFrom acc (x :: l) = match Lib.digitVal x with
      | some d => Lib.decFrom (acc * 10 + d) l
      | none => none := rfl
    rw [e1, e2]
    cases Lib.digitVal x with
    | none => rfl
    | some d => exact ih _
theorem digitVal_of (d : Nat) (h : d < 10) : Lib.digitVal (UInt8.ofNat (48 + d)) = some d := by
  have e : (UInt8.ofNat (48 + d)).toNat = 48 + d := by rw [UInt8.toNat_ofNat']; omega
  unfold Lib.digitVal
  rw [e, if_pos (by omega)]
  congr 1
  omega
theorem decFrom_digit (acc d : Nat) (h : d < 10) : Lib.decFrom acc [UInt8.ofNat (48 + d)] = some (acc * 10 + d) := by
  unfold Lib.decFrom
  rw [digitVal_of d h]
  rfl
theorem decDigits_dec : ∀ (m u : Nat), u ≤ m → Lib.decFrom 0 (Lib.decDigits u) = some u := by
  intro m
  induction m with
  | zero =>
    intro u h
    rw [Lib.decDigits_one (by omega), decFrom_digit 0 u (by omega)]
    congr 1; omega
  | succ m ih =>
    intro u h
    by_cases h1 : u < 10
    · rw [Lib.decDigits_one h1, decFrom_digit 0 u h1]
      congr 1; omega
    · rw [Lib.decDigits, dif_neg h1, decFrom_app, ih (u / 10) (by omega)]
      show Lib.decFrom (u / 10) [UInt8.ofNat (48 + u % 10)] = _
      rw [decFrom_digit _ _ (by omega)]
      congr 1; omega
theorem decDigits_digit : ∀ (m u : Nat), u ≤ m → ∀ b ∈ Lib.decDigits u, 48 ≤ b.toNat ∧ b.toNat ≤ 57 := by
  intro m
  induction m with
  | zero =>
    intro u h b hb
    rw [Lib.decDigits_one (by omega), List.mem_singleton] at hb
    subst hb
    rw [UInt8.toNat_ofNat']; omega
  | succ m ih =>
    intro u h b hb
    by_cases h1 : u < 10
    · rw [Lib.decDigits_one h1, List.mem_singleton] at hb
      subst hb
      rw [UInt8.toNat_ofNat']; omega
    · rw [Lib.decDigits, dif_neg h1] at hb
      rcases List.mem_append.mp hb with hb | hb
      · exact ih (u / 10) (by omega) b hb
      · rw [List.mem_singleton] at hb
        subst hb
        rw [UInt8.toNat_ofNat']; omega
theorem decDigits_ne (u : Nat) : Lib.decDigits u ≠ [] := by
  rw [Lib.decDigits]
  split <;> simp
theorem decDigits_le : ∀ (k u : Nat), u < 10 ^ (k + 1) → (Lib.decDigits u).length ≤ k + 1 := by
  intro k
  induction k with
  | zero =>
    intro u h
    rw [Lib.decDigits_one (by simpa using h)]
    simp
  | succ k ih =>
    intro u h
    by_cases h1 : u < 10
    · rw [Lib.decDigits_one h1]; simp
    · rw [Lib.decDigits, dif_neg h1, List.length_append, List.length_singleton]
      have h2 : u / 10 < 10 ^ (k + 1) := by
        have e : 10 ^ (k + 1 + 1) = 10 ^ (k + 1) * 10 := Nat.pow_succ ..
        omega
      have := ih _ h2
      omega
theorem decNat_dec (u : Nat) : Lib.decNat (Lib.decDigits u) = some u := by
  unfold Lib.decNat
  rw [if_neg (by have := decDigits_ne u; simpa using this)]
  exact decDigits_dec u u (Nat.le_refl _)
theorem atoi_itoa (n : Int) : Lib.atoi (Lib.itoa n) = some n := by
  unfold Lib.itoa
  by_cases h : n < 0
  · rw [if_pos h]
    unfold Lib.atoi
    simp only [beq_self_eq_true, if_true]
    rw [decNat_dec]
    show some (-(n.natAbs : Int)) = some n
    congr 1; omega
  · rw [if_neg h]
    have hd := decNat_dec n.toNat
    have hm := decDigits_digit n.toNat n.toNat (Nat.le_refl _)
    have hne := decDigits_ne n.toNat
    generalize Lib.decDigits n.toNat = l at *
    cases l with
    | nil => exact absurd rfl hne
    | cons b r =>
      have hb := hm b (by simp)
      have e1 : (b == 45) = false := by
        rw [beq_eq_false_iff_ne]; intro e; subst e; simp at hb
      have e2 : (b == 43) = false := by
        rw [beq_eq_false_iff_ne]; intro e; subst e; simp at hb
      unfold Lib.atoi
      simp only [e1, e2, Bool.false_eq_true, if_false]
      rw [hd]
      show some ((n.toNat : Int)) = some n
      congr 1; omega
theorem itoa_short (n : Int) (h : n.natAbs < 10 ^ 8) : (Lib.itoa n).length ≤ 9 := by
  unfold Lib.itoa
  split
  · rw [List.length_cons]
    have := decDigits_le 7 n.natAbs h
    omega
  · have := decDigits_le 7 n.toNat (by omega)
    omega
theorem itoaB_list (n : Int) : (itoaB n).data.toList = Lib.itoa n := rfl
theorem numF_itoa (n : Int) (h : n.natAbs < 10 ^ 8) : numF (itoaB n) = some n := by
  unfold numF
  rw [itoaB_list, Lib.atoiAll_short _ (by have := itoa_short n h; omega), atoi_itoa]
  show (if eqW (itoaB n) (itoaB n) = true then some n else none) = some n
  rw [if_pos ((eqW_iff _ _).mpr rfl)]
theorem itoa_bytes (n : Int) : ∀ b ∈ Lib.itoa n, b.toNat = 45 ∨ (48 ≤ b.toNat ∧ b.toNat ≤ 57) := by
  intro b hb
  unfold Lib.itoa at hb
  split at hb
  · rcases List.mem_cons.mp hb with rfl | hb
    · exact .inl rfl
    · exact .inr (decDigits_digit _ _ (Nat.le_refl _) b hb)
  · exact .inr (decDigits_digit _ _ (Nat.le_refl _) b hb)

/-- What stands between the bytes c. -/
def splitL (c : UInt8) : List UInt8 → List (List UInt8)
  | [] => [[]]
  | b :: r => if b = c then [] :: splitL c r else match splitL c r with
    | [] => [[b]]
    | x :: l => (b :: x) :: l
theorem splitL_none {c : UInt8} : ∀ {l : List UInt8}, c ∉ l → splitL c l = [l]
  | [], _ => rfl
  | b :: r, h => by
    have h1 : b ≠ c := fun e => h (by simp [e])
    have h2 : c ∉ r := fun e => h (by simp [e])
    unfold splitL
    rw [if_neg h1, splitL_none h2]
theorem splitL_at {c : UInt8} {b : List UInt8} : ∀ {a : List UInt8}, c ∉ a → splitL c (a ++ c :: b) = a :: splitL c b
  | [], _ => by show splitL c (c :: b) = _; unfold splitL; rw [if_pos rfl]; cases b <;> rfl
  | x :: a, h => by
    have h1 : x ≠ c := fun e => h (by simp [e])
    have h2 : c ∉ a := fun e => h (by simp [e])
    have e : splitL c (x :: a ++ c :: b) = if x = c then [] :: splitL c (a ++ c :: b) else match splitL c (a ++ c :: b) with
      | [] => [[x]]
      | y :: l => (x :: y) :: l := rfl
    rw [e, if_neg h1, splitL_at h2]
theorem index_none {c : UInt8} : ∀ {l : List UInt8}, c ∉ l → Lib.index l [c] = -1
  | [], _ => by simp [Lib.index]
  | b :: r, h => by
    have h1 : c ≠ b := fun e => h (by simp [e])
    have h2 : c ∉ r := fun e => h (by simp [e])
    unfold Lib.index
    rw [index_none h2]
    simp [List.isPrefixOf, h1]
theorem index_at {c : UInt8} {b : List UInt8} : ∀ {a : List UInt8}, c ∉ a → Lib.index (a ++ c :: b) [c] = (a.length : Int)
  | [], _ => by show Lib.index (c :: b) [c] = 0; unfold Lib.index; simp [List.isPrefixOf]
  | x :: a, h => by
    have h1 : c ≠ x := fun e => h (by simp [e])
    have h2 : c ∉ a := fun e => h (by simp [e])
    show Lib.index (x :: (a ++ c :: b)) [c] = _
    unfold Lib.index
    rw [index_at h2]
    have e1 : ([c] : List UInt8).isPrefixOf (x :: (a ++ c :: b)) = false := by simp [List.isPrefixOf, h1]
    rw [e1]
    simp only [Bool.false_eq_true, if_false]
    rw [if_neg (by simp), List.length_cons]
    omega
def ofL (l : List UInt8) : ByteArray := ⟨l.toArray⟩
theorem ofL_list (s : ByteArray) : ofL s.data.toList = s := rfl
theorem pieces_split (c : UInt8) : ∀ (m : Nat) (l : List UInt8), l.length ≤ m → pieces ⟨#[c]⟩ (ofL l) = (splitL c l).map ofL := by
  intro m
  induction m with
  | zero =>
    intro l h
    obtain rfl : l = [] := List.eq_nil_of_length_eq_zero (by omega)
    have hx : Lib.indexB (ofL []) ⟨#[c]⟩ = -1 := by show Lib.index [] [c] = -1; exact index_none (by simp)
    unfold pieces
    rw [Lib.splitB_miss _ _ _ _ hx]
    rfl
  | succ m ih =>
    intro l h
    by_cases hc : c ∈ l
    · obtain ⟨a, b, rfl, ha⟩ := List.eq_append_cons_of_mem hc
      have hx : Lib.indexB (ofL (a ++ c :: b)) ⟨#[c]⟩ = (a.length : Int) := index_at ha
      have hcount : Lib.countB (ofL (a ++ c :: b)) ⟨#[c]⟩ = Lib.countB (ofL b) ⟨#[c]⟩ + 1 := by
        show Lib.count (a ++ c :: b) [c] = Lib.count b [c] + 1
        rw [Lib.count_one, Lib.count_one, List.count_append, List.count_cons_self, List.count_eq_zero_of_not_mem ha]
        omega
      unfold pieces
      rw [hcount, Lib.splitB_hit _ _ _ _ _ hx, splitL_at ha]
      have e1 : (ofL (a ++ c :: b)).extract 0 (a.length + 0) = ofL a := by
        apply toList_inj
        rw [Lib.toList_data, Lib.toList_data]
        simp [ofL, ByteArray.extract, ByteArray.copySlice]
      have e2 : (ofL (a ++ c :: b)).extract (a.length + (ByteArray.mk #[c]).size) (ofL (a ++ c :: b)).size = ofL b := by
        apply toList_inj
        rw [Lib.toList_data, Lib.toList_data]
        simp [ofL, ByteArray.extract, ByteArray.copySlice, ByteArray.size]
        exact List.take_of_length_le (by omega)
      rw [e1, e2]
      have := ih b (by simp at h; omega)
      unfold pieces at this
      rw [this]
      rfl
    · have hx : Lib.indexB (ofL l) ⟨#[c]⟩ = -1 := index_none hc
      unfold pieces
      rw [Lib.splitB_miss _ _ _ _ hx, splitL_none hc]
      rfl
theorem splitL_join (c : UInt8) : ∀ (xs : List (List UInt8)), xs ≠ [] → (∀ x ∈ xs, c ∉ x) → splitL c (Lib.join xs [c]) = xs
  | [], h, _ => absurd rfl h
  | [x], _, h => by rw [Lib.join_one, splitL_none (h x (by simp))]
  | x :: y :: r, _, h => by
    have e : Lib.join (x :: y :: r) [c] = x ++ c :: Lib.join (y :: r) [c] := by
      rw [Lib.join_cons, Lib.join_cons]
      rfl
    rw [e, splitL_at (h x (by simp)), splitL_join c (y :: r) (by simp) fun z hz => h z (by simp [hz])]
theorem pieces_join (c : UInt8) (xs : List (List UInt8)) (h0 : xs ≠ []) (h : ∀ x ∈ xs, c ∉ x) : pieces ⟨#[c]⟩ (ofL (Lib.join xs [c])) = xs.map ofL := by
  rw [pieces_split c _ _ (Nat.le_refl _), splitL_join c xs h0 h]
theorem name_bytes (op : Int) : ∀ b ∈ (nameF op).data.toList, 97 ≤ b.toNat := by
  unfold nameF
  repeat (split; · decide)
  decide
theorem opF_name {op : Int} (h1 : 1 ≤ op) (h6 : op ≤ 6) : opF (nameF op) = op := by
  have : op = 1 ∨ op = 2 ∨ op = 3 ∨ op = 4 ∨ op = 5 ∨ op = 6 := by omega
  have e1 : opF (nameF 1) = 1 := by kernel_rfl
  have e2 : opF (nameF 2) = 2 := by kernel_rfl
  have e3 : opF (nameF 3) = 3 := by kernel_rfl
  have e4 : opF (nameF 4) = 4 := by kernel_rfl
  have e5 : opF (nameF 5) = 5 := by kernel_rfl
  have e6 : opF (nameF 6) = 6 := by kernel_rfl
  rcases this with h | h | h | h | h | h <;> rw [h] <;> assumption
theorem not_sep {l : List UInt8} {c : UInt8} (hc : c.toNat < 45) (h : ∀ b ∈ l, 45 ≤ b.toNat) : c ∉ l := fun e => by have := h c e; omega
theorem itoa_ge (n : Int) : ∀ b ∈ Lib.itoa n, 45 ≤ b.toNat := fun b hb => by rcases itoa_bytes n b hb with h | h <;> omega
theorem name_ge (op : Int) : ∀ b ∈ (nameF op).data.toList, 45 ≤ b.toNat := fun b hb => by have := name_bytes op b hb; omega
/-- A step's words. -/
def wordsF (r : RSt) : List (List UInt8) := if r.op = 2 ∨ r.op = 3 then [(nameF r.op).data.toList, Lib.itoa r.x, Lib.itoa r.y, Lib.itoa r.sz] else [(nameF r.op).data.toList]
theorem stepText_words (r : RSt) : stepTextF r = ofL (Lib.join (wordsF r) [32]) := by
  unfold stepTextF wordsF
  split
  · apply toList_inj
    rw [Lib.toList_data, Lib.toList_data]
    rw [Lib.join_cons]
    simp [ofL, Lib.joinTail, itoaB, ByteArray.data_append]
  · rw [Lib.join_one, ofL_list]
theorem words_ge (r : RSt) : ∀ x ∈ wordsF r, ∀ b ∈ x, 45 ≤ b.toNat := by
  intro x hx
  unfold wordsF at hx
  split at hx
  · simp only [List.mem_cons, List.not_mem_nil, or_false] at hx
    rcases hx with rfl | rfl | rfl | rfl
    · exact name_ge _
    · exact itoa_ge _
    · exact itoa_ge _
    · exact itoa_ge _
  · rw [List.mem_singleton] at hx
    subst hx
    exact name_ge _
theorem words_pos (r : RSt) : wordsF r ≠ [] := by unfold wordsF; split <;> simp
theorem step_pieces (r : RSt) : pieces ⟨#[32]⟩ (stepTextF r) = (wordsF r).map ofL := by
  rw [stepText_words]
  exact pieces_join 32 _ (words_pos r) fun x hx => not_sep (by decide) (words_ge r x hx)
theorem fits_ops {r : RSt} (h : fitsR r = true) : (1 ≤ r.op ∧ r.op ≤ 6) ∧ r.x.natAbs < 10 ^ 8 ∧ r.y.natAbs < 10 ^ 8 ∧ r.sz.natAbs < 10 ^ 8 ∧ (¬ (r.op = 2 ∨ r.op = 3) → r.x = 0 ∧ r.y = 0 ∧ r.sz = 0) := by
  unfold fitsR at h
  split at h
  · rw [Bool.and_eq_true, whole_iff, within_iff] at h
    omega
  · split at h
    · rw [Bool.and_eq_true, whole_iff, within_iff] at h
      omega
    · split at h
      · simp only [Bool.and_eq_true, decide_eq_true_eq] at h
        omega
      · cases h
theorem stepQ_text {r : RSt} (h : fitsR r = true) : stepQ (pieces ⟨#[32]⟩ (stepTextF r)) = r := by
  obtain ⟨⟨h1, h6⟩, hx, hy, hz, h0⟩ := fits_ops h
  rw [step_pieces]
  unfold wordsF
  have hn := opF_name h1 h6
  by_cases hc : r.op = 2 ∨ r.op = 3
  · rw [if_pos hc]
    unfold stepQ
    simp only [List.map_cons, List.map_nil, List.getD_cons_zero, List.getD_cons_succ, ofL_list, List.length_cons, List.length_nil]
    rw [hn, if_pos hc, if_pos trivial]
    show numbersQ r.op (itoaB r.x) (itoaB r.y) (itoaB r.sz) = r
    unfold numbersQ
    rw [numF_itoa _ hx, numF_itoa _ hy, numF_itoa _ hz]
  · rw [if_neg hc]
    unfold stepQ
    simp only [List.map_cons, List.map_nil, List.getD_cons_zero, ofL_list, List.length_cons, List.length_nil]
    rw [hn, if_neg hc, if_pos trivial]
    obtain ⟨e1, e2, e3⟩ := h0 hc
    obtain ⟨op, x, y, sz⟩ := r
    simp only at e1 e2 e3
    subst e1 e2 e3
    rfl
theorem join_ge {xs : List (List UInt8)} {m : Nat} {c : UInt8} (h : ∀ x ∈ xs, ∀ b ∈ x, m ≤ b.toNat) (hc : m ≤ c.toNat) : ∀ b ∈ Lib.join xs [c], m ≤ b.toNat := by
  intro b hb
  cases xs with
  | nil => rw [Lib.join_nil] at hb; simp at hb
  | cons x r =>
    rw [Lib.join_cons] at hb
    rcases List.mem_append.mp hb with hb | hb
    · exact h x (by simp) b hb
    · unfold Lib.joinTail at hb
      obtain ⟨l, hl, hbl⟩ := List.mem_flatten.mp hb
      obtain ⟨y, hy, rfl⟩ := List.mem_map.mp hl
      rcases List.mem_append.mp hbl with hbl | hbl
      · rw [List.mem_singleton] at hbl; subst hbl; exact hc
      · exact h y (by simp [hy]) b hbl
theorem stepText_no (r : RSt) : (44 : UInt8) ∉ (stepTextF r).data.toList := by
  rw [stepText_words]
  intro h
  rcases (show (44 : UInt8).toNat = 32 ∨ 45 ≤ (44 : UInt8).toNat by
    have := splitL_join 32 (wordsF r) (words_pos r) fun x hx => not_sep (by decide) (words_ge r x hx)
    cases hw : wordsF r with
    | nil => exact absurd hw (words_pos r)
    | cons x l =>
      have hj : (44 : UInt8) ∈ Lib.join (x :: l) [32] := by rw [← hw]; exact h
      rw [Lib.join_cons] at hj
      have hge := words_ge r
      rw [hw] at hge
      rcases List.mem_append.mp hj with hj | hj
      · exact .inr (hge x (by simp) _ hj)
      · unfold Lib.joinTail at hj
        obtain ⟨q, hq, hbq⟩ := List.mem_flatten.mp hj
        obtain ⟨y, hy, rfl⟩ := List.mem_map.mp hq
        rcases List.mem_append.mp hbq with hbq | hbq
        · rw [List.mem_singleton] at hbq; exact absurd hbq (by decide)
        · exact .inr (hge y (by simp [hy]) _ hbq)) with h | h
  · exact absurd h (by decide)
  · exact absurd h (by decide)
theorem right_pos1 {rs : List RSt} (h : rightZ rs = true) : 0 < rs.length := by
  have h' := right_fold h
  rcases Nat.eq_zero_or_pos rs.length with h0 | h0
  · rw [List.eq_nil_of_length_eq_zero h0] at h'
    cases h'.2
  · exact h0
theorem text_pieces {rs : List RSt} (h : rightZ rs = true) : pieces ⟨#[44]⟩ (textF rs) = rs.map stepTextF := by
  have hp := right_pos1 h
  unfold textF
  rw [if_pos h]
  have := pieces_join 44 ((rs.map stepTextF).map (·.data.toList)) (by simp; intro e; rw [e] at hp; simp at hp) (by
    intro x hx
    obtain ⟨y, hy, rfl⟩ := List.mem_map.mp hx
    obtain ⟨z, hz, rfl⟩ := List.mem_map.mp hy
    exact stepText_no z)
  refine Eq.trans this ?_
  rw [List.map_map]
  have e : (ofL ∘ fun x : ByteArray => x.data.toList) = id := by funext x; exact ofL_list x
  rw [e, List.map_id]
/-- A zone comes back by its text. -/
theorem parse_text {rs : List RSt} (h : rightZ rs = true) : parseQ (textF rs) = rs := by
  unfold parseQ
  rw [text_pieces h, List.map_map]
  have hf : ∀ r ∈ rs, fitsR r = true := fun r hr => by
    obtain ⟨k, hk⟩ := List.getElem?_of_mem hr
    exact (run_step 0 0 h hk).1
  clear h
  induction rs with
  | nil => rfl
  | cons r l ih =>
    rw [List.map_cons, ih fun z hz => hf z (by simp [hz])]
    congr 1
    exact stepQ_text (hf r (by simp))
theorem parse_none {rs : List RSt} (h : rightZ rs = false) : rightZ (parseQ (textF rs)) = false := by
  unfold textF
  rw [h]
  kernel_rfl
end Go.Proofs.YtkklikkmpmlnbaaDoor
