/- The document's Has and Union over rows of texts. -/
import Derived.Test.YthfdjebeblmmdaaHUc
import Derived.Test.YthfdjebeblmmdaaHK1
import Derived.BigRegion
namespace Go.Proofs.Ythfdjebeblmmdaa
open Go.RowKit

/-- Is it among them? -/
def hasT (zs : List ByteArray) (a : ByteArray) : Bool := zs.any fun s => decide (s = a)
theorem hasT_iff (zs : List ByteArray) (a : ByteArray) : hasT zs a = true ↔ a ∈ zs := by simp [hasT]
theorem hasT_no {zs : List ByteArray} {a : ByteArray} (h : ¬ a ∈ zs) : hasT zs a = false := by rw [Bool.eq_false_iff]; exact fun e => h ((hasT_iff _ _).mp e)
theorem take_mem {zs : List ByteArray} {k : Nat} {z a : ByteArray} (h : zs[k]? = some z) : a ∈ zs.take (k + 1) ↔ a ∈ zs.take k ∨ a = z := by rw [snocT h]; simp

set_option maxRecDepth 100000 in
set_option maxHeartbeats 2000000 in
theorem rhas_any (A : Option Addr) (n c : Nat) (zs : List ByteArray) (a : ByteArray) (B : Nat) (w : World) (hz : RowAt cellsT 1 w B A n zs) (hn : n ≤ 1099511627776) :
    Calls Try.prog 75 #[.slice A n c, .string a] w fun e w' => e = .returned (.bool (hasT zs a)) ∧ w = w' := by
  have hl : zs.length = n := hz.1
  have HL := Lib.hid hl
  have HZ := Lib.hid hz
  clear hl hz
  go_enter Try.func75, Try.ntmps75
  go_wp2
  go_loop [5] (fun i => ∃ k : Nat, k ≤ n ∧ i = .int .i64 k ∧ Hid (¬ a ∈ zs.take k)) (fun i => n - (intOf i).toNat)
  case atStart => exact ⟨0, by omega, rfl, by show ¬ _; simp⟩
  case round =>
    obtain ⟨k, hk, rfl, HO⟩ := hrel
    by_cases hlt : k < n
    · obtain ⟨blk, off, s, rfl, hbB, hzk, hc⟩ := HZ.out.text (Below.refl _ _) hlt
      by_cases he : s = a
      · have HR : Hid (hasT zs a = true) := (hasT_iff _ _).mpr (by rw [← he]; exact List.mem_of_getElem? hzk)
        have hq := beq_yes he
        clear he hzk
        go_wp2
        go_ret
        exact ⟨by rw [HR.out]; rfl, rfl⟩
      · have HN : Hid (¬ a ∈ zs.take (k + 1)) := by
          show ¬ _
          rw [take_mem hzk]
          rintro (h | h)
          · exact HO.out h
          · exact he h.symm
        have hq := beq_no he
        clear he hzk
        go_wp2
        go_round
        case rel => exact ⟨k + 1, by omega, by go_num, HN⟩
        case measure => simp [intOf]; omega
    · have HR : Hid (hasT zs a = false) := hasT_no (by have := HO.out; rwa [List.take_of_length_le (by have := HL.out; omega)] at this)
      go_wp2
      go_ret
      exact ⟨by rw [HR.out]; rfl, rfl⟩
theorem rhas_is (A : Option Addr) (n c : Nat) (zs : List ByteArray) (a : ByteArray) (B : Nat) (b : Bool) (h : Hid (hasT zs a = b)) (w : World) (hz : RowAt cellsT 1 w B A n zs) (hn : n ≤ 1099511627776) :
    Calls Try.prog 75 #[.slice A n c, .string a] w fun e w' => e = .returned (.bool b) ∧ w = w' := by
  rw [← h.out]; exact rhas_any A n c zs a B w hz hn

theorem rown_emptyT (e : TypeId) (w : World) : (w.alloc (.cells #[] e)).ownsRow w.heap.size e 1 (.slice (some ⟨w.heap.size, 0, none⟩) 0 0) 0 (rowCells cellsT []) :=
  ⟨by simp [rowCells], .inr ⟨w.heap.size, 0, #[], rfl, Nat.le_refl _, heap_alloc_new w _, Nat.le_refl _, Nat.zero_le _, by simp, by simp [rowCells]⟩⟩
/-- What is put has gone left past post. -/
def SinkRel (w : World) (d : List ByteArray) (x : ByteArray) (g N c : Nat) (pre post : List ByteArray) (wr : World) : Prop :=
  pre ++ post = d ∧ (∀ y ∈ post, 0 < cmpId y x) ∧ wr.ownsRow w.heap.size 9 1 (.slice (some ⟨g, 0, none⟩) N c) N (rowCells cellsT (pre ++ x :: post)) ∧ Below w.heap.size w wr
theorem SinkRel.len {w : World} {d : List ByteArray} {x : ByteArray} {g N c : Nat} {pre post : List ByteArray} {wr : World} (h : SinkRel w d x g N c pre post wr) : pre.length + 1 + post.length = N := by
  have := h.2.2.1.1
  rw [rowCells_length rowR.len] at this
  simp at this
  omega
theorem sink_facts {w : World} {d : List ByteArray} {x y : ByteArray} {g N c : Nat} {pre post : List ByteArray} {wr : World} (h : SinkRel w d x g N c (pre ++ [y]) post wr) {k : Nat} (hk : k = pre.length + 1) :
    wr.cell? ⟨g, k - 1, none⟩ = some (.string y) ∧ wr.cell? ⟨g, k, none⟩ = some (.string x) ∧ g < wr.heap.size ∧ w.heap.size ≤ g := by
  have hv := own_row rowR h.2.2.1
  have hl := h.len
  simp at hl
  have hg := h.2.2.1.lt g rfl
  subst hk
  obtain ⟨b, off, s, e, _, hs, hc⟩ := hv.text (Below.refl _ _) (k := pre.length) (by omega)
  injection e with e
  injection e with e1 e2
  subst e1 e2
  obtain ⟨b, off, s', e, _, hs', hc'⟩ := hv.text (Below.refl _ _) (k := pre.length + 1) (by omega)
  injection e with e
  injection e with e1 e2
  subst e1 e2
  simp at hs hs'
  subst hs hs'
  simp only [Nat.zero_add] at hc hc'
  exact ⟨by rw [Nat.add_sub_cancel]; exact hc, hc', hg.2, hg.1⟩
theorem set_two {α : Type} (P : List α) (a b : α) (S : List α) (a' b' : α) : ((P ++ a :: b :: S).set P.length a').set (P.length + 1) b' = P ++ a' :: b' :: S := by
  induction P with
  | nil => rfl
  | cons x P ih => simp
theorem sink_swap {w : World} {d : List ByteArray} {x y : ByteArray} {g N c : Nat} {pre post : List ByteArray} {wr wq w' : World} (h : SinkRel w d x g N c (pre ++ [y]) post wr) {k : Nat} (hk : k = pre.length + 1) (hp : ∀ v ∈ y :: post, 0 < cmpId v x)
    (hq : wq.heap = wr.heap ∧ wq.os = wr.os ∧ wq.tape = wr.tape ∧ wq.output = wr.output)
    (hw : w' = ((wq.setCell ⟨g, k - 1, none⟩ (.string x)).setCell ⟨g, k, none⟩ (.string y)).drew) : SinkRel w d x g N c pre (y :: post) w' := by
  obtain ⟨h1, h2, h3, h4⟩ := h
  have hbq : Below wr.heap.size wr wq := ⟨hq.2.1, hq.2.2.1, hq.2.2.2, by rw [hq.1]; exact Nat.le_refl _, fun k _ => by rw [hq.1]⟩
  have hg := (h3.lt g rfl).1
  have h5 := rown_below h3 hbq
  have h6 := ((h5.stored (k - 1) (.string x)).1.stored k (.string y)).1
  subst hk
  rw [Nat.add_sub_cancel, rowT_map, show (pre ++ [y] ++ x :: post).map Value.string = pre.map Value.string ++ .string y :: .string x :: post.map Value.string by simp] at h6
  have e := set_two (pre.map Value.string) (.string y) (.string x) (post.map Value.string) (.string x) (.string y)
  rw [List.length_map] at e
  rw [e, show pre.map Value.string ++ .string x :: .string y :: post.map Value.string = (pre ++ x :: y :: post).map Value.string by simp, ← rowT_map] at h6
  subst hw
  rw [Nat.add_sub_cancel]
  exact ⟨by rw [← h1]; simp, hp, h6.drew, (((h4.trans (hbq.mono h4.size)).setCell (p := ⟨g, pre.length, none⟩) hg _).setCell (p := ⟨g, pre.length + 1, none⟩) hg _).drew⟩
theorem frozenT {w : World} {B : Nat} {e : TypeId} {g n c : Nat} {xs : List Value} (h : w.ownsRow B e 1 (.slice (some ⟨g, 0, none⟩) n c) n xs) (j : Nat) : w.frozen? ⟨g, j, none⟩ = false := by
  rcases h.2 with ⟨hv, _⟩ | ⟨g', cap, cur, hv, hB, hh, hnc, hm, hs, ht⟩
  · cases hv
  · injection hv with e1 _ e3
    injection e1 with e1
    injection e1 with e1
    subst e1
    simp [World.frozen?, hh]
/-- One more, sunk. -/
theorem isUnion_sunk {l pre post : List ByteArray} {x : ByteArray} (h : IsUnion l (pre ++ post)) (hx : ¬ x ∈ pre ++ post) (hp : ∀ y ∈ post, 0 < cmpId y x) (hq : ∀ y, pre.getLast? = some y → cmpId y x ≤ 0) : IsUnion (l ++ [x]) (pre ++ x :: post) := by
  obtain ⟨hr, hm⟩ := h
  have hr' := List.pairwise_append.mp hr
  have hpre : ∀ y ∈ pre, cmpId y x < 0 := by
    intro y hy
    have hlt : ∀ z ∈ pre, z ≠ x := fun z hz e => hx (by simp [← e, hz])
    rcases List.eq_nil_or_concat pre with e | ⟨pre', z, e⟩
    · subst e; simp at hy
    · rw [List.concat_eq_append] at e
      subst e
      have hz := hq z (by simp)
      have hzx : cmpId z x < 0 := by
        have hne : cmpId z x ≠ 0 := fun e => hlt z (by simp) ((cmpId_zero z x).mp e)
        omega
      rcases List.mem_append.mp hy with hy' | hy'
      · have := (List.pairwise_append.mp hr'.1).2.2 y hy' z (by simp)
        exact cmpId_lt y z x this (by omega)
      · simp at hy'; subst hy'; exact hzx
  refine ⟨List.pairwise_append.mpr ⟨hr'.1, List.pairwise_cons.mpr ⟨fun y hy => ?_, hr'.2.1⟩, fun a ha b hb => ?_⟩, fun s => ?_⟩
  · have := hp y hy; rw [cmpId_neg y x]; omega
  · rcases List.mem_cons.mp hb with e | hb
    · subst e; exact hpre a ha
    · exact hr'.2.2 a ha b hb
  · have := hm s
    simp only [List.mem_append, List.mem_cons, List.not_mem_nil, or_false] at this ⊢
    rw [← this]
    constructor
    · rintro (h | h | h)
      · exact .inl (.inl h)
      · exact .inr h
      · exact .inl (.inr h)
    · rintro ((h | h) | h)
      · exact .inl h
      · exact .inr (.inr h)
      · exact .inr (.inl h)
theorem isUnion_had {l o : List ByteArray} {x : ByteArray} (h : IsUnion l o) (hx : x ∈ o) : IsUnion (l ++ [x]) o := ⟨h.1, fun s => by
  rw [h.2, List.mem_append, List.mem_singleton]
  constructor
  · exact .inl
  · rintro (h' | h')
    · exact h'
    · subst h'; exact (h.2 _).mp hx⟩
theorem sink_other {w : World} {d : List ByteArray} {x y v1 v2 : ByteArray} {g N c : Nat} {pre post : List ByteArray} {wr wq w' : World} (h : SinkRel w d x g N c (pre ++ [y]) post wr) {k : Nat}
    (hq : wq.heap = wr.heap ∧ wq.os = wr.os ∧ wq.tape = wr.tape ∧ wq.output = wr.output)
    (hw : w' = ((wq.setCell ⟨g, k - 1, none⟩ (.string v1)).setCell ⟨g, k, none⟩ (.string v2)).drew) {B n : Nat} {v : Value} {xs : List Value} (ha : wr.ownsRow B 9 1 v n xs) (hne : v.ownBlock ≠ some g) : w'.ownsRow B 9 1 v n xs := by
  have hbq : Below wr.heap.size wr wq := ⟨hq.2.1, hq.2.2.1, hq.2.2.2, by rw [hq.1]; exact Nat.le_refl _, fun k _ => by rw [hq.1]⟩
  have h5 := rown_below h.2.2.1 hbq
  have h6 := h5.stored (k - 1) (.string v1)
  have h7 := h6.1.stored k (.string v2)
  subst hw
  exact (rown_grown (rown_grown (rown_below ha hbq) h6.2 (.inr hne)) h7.2 (.inr hne)).drew
/-- The rows at hand in the loop: all; of it k done; out. -/
structure UnRel (w : World) (all : List ByteArray) (Aa : Option Addr) (ca : Nat) (k : Nat) (o : List ByteArray) (Ao : Option Addr) (co : Nat) (wr : World) : Prop where
  fa : wr.ownsRow w.heap.size 9 1 (.slice Aa all.length ca) all.length (rowCells cellsT all)
  un : IsUnion (all.take k) o
  len : o.length ≤ k
  out : wr.ownsRow w.heap.size 9 1 (.slice Ao o.length co) o.length (rowCells cellsT o)
  below : Below w.heap.size w wr
  two : Value.ownBlock (.slice Ao o.length co) = none ∨ Value.ownBlock (.slice Aa all.length ca) ≠ Value.ownBlock (.slice Ao o.length co)
structure InRel (w : World) (all : List ByteArray) (Aa : Option Addr) (ca : Nat) (o : List ByteArray) (x : ByteArray) (g c : Nat) (pre post : List ByteArray) (wr : World) : Prop where
  fa : wr.ownsRow w.heap.size 9 1 (.slice Aa all.length ca) all.length (rowCells cellsT all)
  sink : SinkRel w o x g (o.length + 1) c pre post wr
  two : Value.ownBlock (.slice Aa all.length ca) ≠ some g
theorem isUnion_nil : IsUnion [] [] := ⟨List.Pairwise.nil, fun _ => Iff.rfl⟩
theorem InRel.done {w : World} {all : List ByteArray} {Aa : Option Addr} {ca k : Nat} {o : List ByteArray} {x : ByteArray} {g c : Nat} {pre post : List ByteArray} {wr wq : World} (h : InRel w all Aa ca o x g c pre post wr) (hun : IsUnion (all.take k) o) (hlen : o.length ≤ k) (hx : ¬ x ∈ o) (hk : all[k]? = some x)
    (hp : ∀ y, pre.getLast? = some y → cmpId y x ≤ 0) (hq : wq.heap = wr.heap ∧ wq.os = wr.os ∧ wq.tape = wr.tape ∧ wq.output = wr.output) : UnRel w all Aa ca (k + 1) (pre ++ x :: post) (some ⟨g, 0, none⟩) c wq := by
  obtain ⟨ha, ⟨e, hpost, hown, hb⟩, h2⟩ := h
  have hbq : Below wr.heap.size wr wq := ⟨hq.2.1, hq.2.2.1, hq.2.2.2, by rw [hq.1]; exact Nat.le_refl _, fun k _ => by rw [hq.1]⟩
  have hl : (pre ++ x :: post).length = o.length + 1 := by rw [← e]; simp; omega
  refine ⟨rown_below ha hbq, ?_, by rw [hl]; omega, ?_, hb.trans (hbq.mono hb.size), .inr ?_⟩
  · rw [snocT hk]
    rw [← e] at hun hx
    exact isUnion_sunk hun hx hpost hp
  · rw [hl]; exact rown_below hown hbq
  · exact h2

set_option maxRecDepth 100000 in
set_option maxHeartbeats 8000000 in
theorem runion_any (A : Option Addr) (n c : Nat) (zs : List ByteArray) (A' : Option Addr) (n' c' : Nat) (ys : List ByteArray) (B : Nat) (w : World) (hB : B ≤ w.heap.size) (hz : RowAt cellsT 1 w B A n zs) (hy : RowAt cellsT 1 w B A' n' ys) (hn : n + n' ≤ 1073741824) (hsh : ∀ s ∈ zs ++ ys, s.size ≤ 9223372036854775807) :
    Calls Try.prog 36 #[.slice A n c, .slice A' n' c'] w (OwnRow cellsT 1 9 (unionF (zs ++ ys)) w) := by
  have hl : zs.length = n := hz.1
  have hl' : ys.length = n' := hy.1
  have HB1 : Hid (Below w.heap.size w (w.alloc (.cells #[] 9))) := (Below.refl _ _).alloc (Nat.le_refl _) _
  have HO1 : Hid ((w.alloc (.cells #[] 9)).ownsRow w.heap.size 9 1 (.slice (some ⟨w.heap.size, 0, none⟩) 0 0) 0 (rowCells cellsT [])) := rown_emptyT 9 w
  have HZ := Lib.hid hz
  have HY := Lib.hid hy
  clear hz hy
  obtain ⟨al, hal⟩ : ∃ al, zs ++ ys = al := ⟨_, rfl⟩
  rw [hal]
  go_enter Try.func36, Try.ntmps36
  go_wp2_with (first
    | (at_builtin; refine wpList_append_row rowR (B := w.heap.size) (v := .slice (some ⟨w.heap.size, 0, none⟩) 0 0) (n := 0) (zs := []) (m := n) (ys := zs) (c := c) rfl _ _ rfl rfl HO1.out rfl (HZ.out.keep (HB1.out.mono hB)) (by omega) HB1.out.size ?_; intro A2 c2 w2 hown2 hg2 _; have HO2 : Hid (w2.ownsRow w.heap.size 9 1 (.slice A2 n c2) n (rowCells cellsT zs)) := (by rw [Nat.zero_add, List.nil_append] at hown2; exact hown2); have HB2 : Hid (Below w.heap.size w w2) := HB1.out.grown hg2 HB1.out.size (fun i hi => (HO1.out.lt i hi).1); clear hown2 hg2)
    | (at_builtin; refine wpList_append_row rowR (B := w.heap.size) (v := .slice A2 n c2) (n := n) (zs := zs) (m := n') (ys := ys) (c := c') rfl _ _ rfl rfl HO2.out rfl (HY.out.keep (HB2.out.mono hB)) (by omega) HB2.out.size ?_; intro A3 c3 w3 hown3 hg3 _; have HO3 := Lib.hid hown3; have HB3 : Hid (Below w.heap.size w w3) := HB2.out.grown hg3 HB2.out.size (fun i hi => (HO2.out.lt i hi).1); clear hown3 hg3))
  have hlal : n + n' = al.length := by rw [← hal, List.length_append]; omega
  have HA : Hid (w3.ownsRow w.heap.size 9 1 (.slice A3 al.length c3) al.length (rowCells cellsT al)) := by
    have := HO3.out
    rw [hal, hlal] at this
    exact this
  have hbound : al.length ≤ 1073741824 := by omega
  rw [hal] at hsh
  have HSH := Lib.hid hsh
  rw [hlal]
  clear hlal hal hsh HO3 HO2 HO1 HZ HY HB2 HB1 hl hl'
  go_loopw [5, 7] (fun v i wr => ∃ (k : Nat) (o : List ByteArray) (Ao : Option Addr) (co : Nat), k ≤ al.length ∧ i = .int .i64 k ∧ v = .slice Ao o.length co ∧ Hid (UnRel w al A3 c3 k o Ao co wr)) (fun _ i _ => al.length - (intOf i).toNat)
  case atStart => exact ⟨0, [], none, 0, by omega, rfl, rfl, ⟨HA.out, isUnion_nil, Nat.le_refl _, rown_nil _ _, HB3.out, .inl rfl⟩⟩
  case round =>
    obtain ⟨k, o, Ao, co, hk, rfl, rfl, HU⟩ := hrel
    by_cases hlt : k < al.length
    · obtain ⟨blk, off, s, rfl, hbB, hzk, hc⟩ := (own_row rowR HU.out.fa).text (Below.refl _ _) hlt
      have hi1 : (k : Int) < (al.length : Int) := by omega
      have hol := HU.out.len
      obtain ⟨b, hb⟩ : ∃ b, hasT o s = b := ⟨_, rfl⟩
      have HHB := Lib.hid hb
      have HOR : Hid (RowAt cellsT 1 wr wr.heap.size Ao o.length o) := own_row rowR HU.out.out
      have HZK := Lib.hid hzk
      clear hzk
      cases b with
      | true =>
        have HU2 : Hid (UnRel w al (some ⟨blk, off, none⟩) c3 (k + 1) o Ao co wr) := ⟨HU.out.fa, by rw [snocT HZK.out]; exact isUnion_had HU.out.un ((hasT_iff _ _).mp HHB.out), by omega, HU.out.out, HU.out.below, HU.out.two⟩
        go_wp2_with (go_at_call 75; refine (rhas_is Ao o.length co o s wr.heap.size true HHB _ HOR.out (by omega)).mono ?_; rintro e w' ⟨rfl, rfl⟩)
        go_roundw
        case rel => exact ⟨k + 1, o, Ao, co, by omega, by go_num, rfl, HU2⟩
        case measure => simp [intOf]; omega
      | false =>
        have HX : Hid (¬ s ∈ o) := fun h => by have := (hasT_iff _ _).mpr h; rw [HHB.out] at this; cases this
        have HR1 : Hid (RowAt cellsT 1 (wr.alloc (.cells #[.string s] 9)) (wr.heap.size + 1) (some ⟨wr.heap.size, 0, none⟩) 1 [s]) := one_row rowR (heap_alloc_new wr _)
        have HO1 := Lib.hid (HU.out.out.alloc (.cells #[.string s] 9))
        have HA1 := Lib.hid (HU.out.fa.alloc (.cells #[.string s] 9))
        have hsz := HU.out.below.size
        obtain ⟨wo, rfl⟩ : ∃ wo : World, wo = wr := ⟨_, rfl⟩
        go_wp2_with (first
          | (go_at_call 75; refine (rhas_is Ao o.length co o s wo.heap.size false HHB _ HOR.out (by omega)).mono ?_; rintro e w' ⟨rfl, rfl⟩)
          | (at_builtin; refine wpList_append_row rowR (B := w.heap.size) (v := .slice Ao o.length co) (n := o.length) (zs := o) (m := 1) (ys := [s]) rfl _ _ rfl rfl HO1.out rfl HR1.out (by omega) (by simp; omega) ?_; intro A4 c4 w4 hown4 hg4 hat4; have HO4 := Lib.hid hown4; have HG4 := Lib.hid hg4; have HAT4 := Lib.hid hat4; clear hown4 hg4 hat4))
        obtain ⟨g, c5, hform, hgB, hglt⟩ := HO4.out.form (by omega)
        injection hform with hA hn4 hc4
        subst hA hc4
        have HI0 : Hid (InRel w al (some ⟨blk, off, none⟩) c3 o s g c4 o [] w4) := by
          refine ⟨rown_grown HA1.out HG4.out HU.out.two, ⟨by simp, fun y hy => by simp at hy, HO4.out, ?_⟩, ?_⟩
          · exact (HU.out.below.alloc hsz _).grown HG4.out (Nat.le_trans hsz (by simp)) (fun g e => (HU.out.out.lt g e).1)
          · rcases HAT4.out with e | e
            · rcases HU.out.two with h | h
              · rw [h] at e; cases e
              · rw [← e] at h; exact h
            · intro e2
              have h1 := (HU.out.fa.lt blk rfl).2
              have e3 : blk = g := by injection e2
              have e4 : g = (wo.alloc (.cells #[.string s] 9)).heap.size := by injection e
              simp at e4
              omega
        have hkl : ((o.length : Int) + 1) - 1 = o.length := by omega
        have HUN := Lib.hid HU.out.un
        have hob : o.length ≤ 1073741824 := by omega
        have HOL : Hid (o.length ≤ k) := HU.out.len
        have hsal : s ∈ al := List.mem_of_getElem? HZK.out
        have hmem : ∀ y ∈ o, y ∈ al := fun y hy => List.mem_of_mem_take ((HUN.out.2 y).mp hy)
        have HMEM := Lib.hid hmem
        clear HO4 HG4 HAT4 HA1 HO1 HR1 HOR HU hc hmem hsal hol
        go_loopw [8] (fun i wr => ∃ (j : Nat) (pre post : List ByteArray), pre.length = j ∧ j ≤ o.length ∧ i = .int .i64 j ∧ Hid (InRel w al (some ⟨blk, off, none⟩) c3 o s g c4 pre post wr)) (fun i _ => (intOf i).toNat)
        case atStart => exact ⟨o.length, o, [], rfl, Nat.le_refl _, by go_num, HI0⟩
        case round =>
          obtain ⟨j, pre, post, hpj, hjo, rfl, HI⟩ := hrel
          have hln := HI.out.sink.len
          have HLn : Hid ((pre ++ s :: post).length = o.length + 1) := by show _ = _; simp; omega
          by_cases h0 : j = 0
          · have hgd : decide (0 < j) = false := by simp; omega
            have hpre : pre = [] := List.eq_nil_of_length_eq_zero (by omega)
            have HLast : Hid (∀ y, pre.getLast? = some y → cmpId y s ≤ 0) := fun y hy => by rw [hpre] at hy; simp at hy
            clear h0 hpj hpre
            go_wp2_with fail
            go_quiet (fail)
            go_wp2_with fail
            go_roundw
            case rel => exact ⟨k + 1, pre ++ s :: post, some ⟨g, 0, none⟩, c4, by omega, by go_num, by rw [HLn.out], HI.out.done HUN.out HOL.out HX.out HZK.out HLast.out ⟨rfl, rfl, rfl, rfl⟩⟩
            case measure => simp [intOf]; omega
          · rcases List.eq_nil_or_concat pre with e | ⟨pre', y, e⟩
            · subst e; simp at hpj; omega
            · rw [List.concat_eq_append] at e
              subst e
              have hk' : j = pre'.length + 1 := by simpa using hpj.symm
              obtain ⟨hy0, hx0, hglt2, hgw⟩ := sink_facts HI.out.sink hk'
              simp at hln
              have hyo : y ∈ o := by rw [← HI.out.sink.1]; simp
              have HSZ : Hid (y.size ≤ 9223372036854775807) := HSH.out y (HMEM.out y hyo)
              have hgd : decide (0 < j) = true := by simp; omega
              have hj0 : (1 : Int) ≤ (j : Int) := by omega
              have hj1 : (0 : Int) ≤ (j : Int) - 1 := by omega
              have hj2 : (j : Int) - 1 < (o.length : Int) + 1 := by omega
              have hj3 : ((j : Int) - 1).toNat = j - 1 := by omega
              have hj4 : IntKind.i64.wrap ((j : Int) - 1) = (j : Int) - 1 := IntWalk.i64_in _ (by omega)
              have hj5 : (0 : Int) ≤ (j : Int) := by omega
              have hj6 : (j : Int) < (o.length : Int) + 1 := by omega
              obtain ⟨q, hq⟩ : ∃ q, cmpId y s = q := ⟨_, rfl⟩
              have HYQ : Hid (Lib.compareBytes y.data.toList s.data.toList = q) := hq
              by_cases hgt : 0 < q
              · have HPost : Hid (∀ v ∈ y :: post, 0 < cmpId v s) := by
                  intro v hv
                  rcases List.mem_cons.mp hv with rfl | hv
                  · rw [hq]; exact hgt
                  · exact HI.out.sink.2.1 v hv
                have HK := Lib.hid hk'
                clear hq hyo h0 hpj hk' hln
                go_wp2_with fail
                go_quiet ((go_at_call 55; exact quiet_drawn (rcompare_is _ _ _ HYQ _ HSZ)))
                go_wp2_with fail
                have hF := frozenT HI.out.sink.2.2.1
                generalize hwq : wr.drewN _ = wq
                have ey0 : wq.cell? ⟨g, j - 1, none⟩ = some (.string y) := by rw [← hwq]; exact hy0
                have ex0 : wq.cell? ⟨g, j, none⟩ = some (.string s) := by rw [← hwq]; exact hx0
                have fy0 : wq.frozen? ⟨g, j - 1, none⟩ = false := by rw [← hwq]; exact hF _
                have fx0 : wq.frozen? ⟨g, j, none⟩ = false := by rw [← hwq]; exact hF _
                have n1 : (j - 1 = j) = False := eq_false (by omega)
                have n2 : (j = j - 1) = False := eq_false (by omega)
                have HWQ := Lib.hid hwq
                clear hwq hy0 hx0 hF
                go_region
                go_wp2_with fail
                go_roundw
                case rel => exact ⟨j - 1, pre', y :: post, by have := HK.out; omega, by omega, by go_num, sink_other HI.out.sink (by rw [← HWQ.out]; exact ⟨rfl, rfl, rfl, rfl⟩) rfl HI.out.fa HI.out.two, sink_swap HI.out.sink HK.out HPost.out (by rw [← HWQ.out]; exact ⟨rfl, rfl, rfl, rfl⟩) rfl, HI.out.two⟩
                case measure => simp [intOf]; omega
              · have HLast : Hid (∀ v, (pre' ++ [y]).getLast? = some v → cmpId v s ≤ 0) := fun v hv => by simp at hv; subst hv; omega
                clear hq hyo h0 hpj hk' hln
                go_wp2_with fail
                go_quiet ((go_at_call 55; exact quiet_drawn (rcompare_is _ _ _ HYQ _ HSZ)))
                go_wp2_with fail
                go_roundw
                case rel => exact ⟨k + 1, (pre' ++ [y]) ++ s :: post, some ⟨g, 0, none⟩, c4, by omega, by go_num, by rw [HLn.out], HI.out.done HUN.out HOL.out HX.out HZK.out HLast.out ⟨rfl, rfl, rfl, rfl⟩⟩
                case measure => simp [intOf]; omega
    · obtain rfl : k = al.length := by omega
      have HR : Hid (o = unionF al) := union_is (by have := HU.out.un; rwa [List.take_length] at this)
      go_wp2
      go_ret
      rw [← HR.out]
      exact ⟨Ao, co, rfl, HU.out.out, HU.out.below⟩
end Go.Proofs.Ythfdjebeblmmdaa
