/- frame: Put. -/
import Derived.Test.YtbookbgfipbaoaaGreatDoorH15
import Derived.Test.YtbookbgfipbaoaaGreatDoorH16
namespace Go.Proofs.YtbookbgfipbaoaaGreatDoor
open Go.RowKit

theorem name_size {s : ByteArray} (h : rightL s.data.toList = true) : s.size ≤ 6 := by
  have := (rightL_iff _).mp h
  simpa using this.1.2.1
theorem chain_most {b : Int} {zs : List Int} (h : Sp.chainB b zs = true) : ∀ z ∈ zs, z ≤ 1048576 := by
  induction zs generalizing b with
  | nil => intro z hz; simp at hz
  | cons x r ih =>
    unfold Sp.chainB at h
    rw [Bool.and_eq_true, decide_eq_true_eq] at h
    intro z hz
    rcases List.mem_cons.mp hz with rfl | hz
    · exact h.1.2
    · exact ih h.2 z hz
theorem span_most {u : Int} {v : List Int} (h : Sp.rightF u v = true) : 0 ≤ u ∧ u ≤ 1048576 ∧ v.length ≤ 4096 ∧ ∀ z ∈ v, z ≤ 1048576 := by
  unfold Sp.rightF at h
  rw [Bool.and_eq_true, decide_eq_true_eq] at h
  exact ⟨h.1.1, h.1.2.1, h.1.2.2, chain_most h.2⟩
theorem zoneText_size (rs : List Zo.RSt) : (Zo.textF rs).size ≤ 2272 := by
  cases h : Zo.rightZ rs with
  | true => rw [Zo.tk_all h]; exact Zo.tk_size h _
  | false => unfold Zo.textF; rw [h, if_neg (by decide)]; decide
/-- What a Put of lists asks. -/
structure OkF (f : Frm) : Prop where
  src : f.src.size ≤ 6
  dst : f.dst.size ≤ 6
  clock : f.clock ≤ 1048576
  know : f.know.length ≤ 64 ∧ ∀ x ∈ f.know, x.1.size ≤ 6 ∧ x.2.1 ≤ 1048576 ∧ x.2.2.length ≤ 4096 ∧ ∀ y ∈ x.2.2, y ≤ 1048576
  members : f.members.length ≤ 64 ∧ ∀ x ∈ f.members, x.size ≤ 6
  certs : f.certs.length ≤ 64 ∧ ∀ x ∈ f.certs, x.1.size ≤ 6 ∧ x.2 ≤ 1048576
  rows : f.rows.length ≤ 64 ∧ ∀ x ∈ f.rows, x.1.size ≤ 6 ∧ x.2.length ≤ 64 ∧ ∀ y ∈ x.2, y.1.size ≤ 6 ∧ y.2 ≤ 1048576
  items : f.items.length ≤ 32 ∧ ∀ x ∈ f.items, By.rightI x = true
  floor : f.floor.length ≤ 64 ∧ ∀ x ∈ f.floor, x.1.size ≤ 6 ∧ x.2 ≤ 1048576
theorem okAt_most {x : At} (h : okAt x = true) : x.1.size ≤ 6 ∧ x.2 ≤ 1048576 := ⟨name_size (okAt_pos h).2.2, (okAt_pos h).2.1⟩
theorem rightVec_most {v : List At} (h : rightVecF v = true) : v.length ≤ 64 ∧ ∀ x ∈ v, x.1.size ≤ 6 ∧ x.2 ≤ 1048576 := by
  unfold rightVecF at h
  rw [Bool.and_eq_true, decide_eq_true_eq] at h
  exact ⟨h.1, fun x hx => okAt_most (((good_iff v).mp h.2).2 x hx)⟩
theorem rm_most {p : Option ByteArray} {l : List ByteArray} (h : rmF p l = true) : ∀ x ∈ l, x.size ≤ 6 := by
  induction l generalizing p with
  | nil => intro x hx; simp at hx
  | cons a r ih =>
    unfold rmF at h
    simp only [Bool.and_eq_true] at h
    intro x hx
    rcases List.mem_cons.mp hx with rfl | hx
    · exact name_size h.1
    · exact ih h.2.2 x hx
theorem ok_of {f : Frm} (h : rightFrm f = true) : OkF f := by
  unfold rightFrm at h
  rw [Bool.and_eq_true, Bool.and_eq_true] at h
  obtain ⟨⟨h1, h2⟩, h3⟩ := h
  have hnews : rightNewsF f = true → f.floor.length = 0 → OkF f := fun h hf => by
    unfold rightNewsF at h
    simp only [Bool.and_eq_true, decide_eq_true_eq] at h
    obtain ⟨⟨k1, k2⟩, ⟨k3, k4⟩, k5, k6, k7, k8⟩ := h
    unfold rightMembersF at k5
    unfold rightRowsF at k7
    unfold rightItemsF at k8
    simp only [Bool.and_eq_true, decide_eq_true_eq, List.all_eq_true] at k5 k7 k8
    refine ⟨name_size h1, name_size h2, k4, ⟨k1, fun x hx => ?_⟩, ⟨k5.1, rm_most k5.2⟩, rightVec_most k6, ⟨k7.1, fun x hx => ?_⟩, k8, ?_⟩
    · have g := ((Kn.rightM_iff _).mp k2).2 x hx
      have g2 := span_most g.2.1
      exact ⟨name_size g.1, g2.2.1, g2.2.2.1, g2.2.2.2⟩
    · have g := ((Mx.rightM_iff _).mp k7.2.1).2 x hx
      exact ⟨name_size g.1, k7.2.2 x hx, fun y hy => okAt_most (g.2.1.2 y hy)⟩
    · rw [List.eq_nil_of_length_eq_zero hf]
      exact ⟨by simp, fun x hx => by simp at hx⟩
  by_cases k1 : f.kind = 1
  · rw [if_pos k1] at h3
    simp only [Bool.and_eq_true, decide_eq_true_eq] at h3
    exact hnews h3.1 h3.2.2.2.2
  · rw [if_neg k1] at h3
    by_cases k2 : f.kind = 2
    · rw [if_pos k2] at h3
      simp only [Bool.and_eq_true, decide_eq_true_eq] at h3
      exact hnews h3.1 h3.2.2
    · rw [if_neg k2] at h3
      by_cases k3 : f.kind = 3
      · rw [if_pos k3, Bool.and_eq_true] at h3
        have e := (sameFrm_iff _ _).mp h3.2
        have e2 : ∀ x : Frm, f = x → staleOf f = x → OkF f := fun x hx hy => by
          refine ⟨name_size h1, name_size h2, ?_, ⟨?_, ?_⟩, ⟨?_, ?_⟩, ⟨?_, ?_⟩, ⟨?_, ?_⟩, ⟨?_, ?_⟩, rightVec_most h3.1⟩ <;> rw [hx, ← hy] <;> simp [staleOf]
        exact e2 _ e rfl
      · rw [if_neg k3] at h3
        exact absurd h3 (by decide)

def hdB (f : Frm) : List UInt8 := (numB f.kind ++ txtB f.src) ++ txtB f.dst
def newsB (f : Frm) : List UInt8 := (((hdB f ++ allB knownB f.know) ++ numB f.clock) ++ allB txtB f.members) ++ allB atB f.certs ++ allB rowB f.rows
def frmB (f : Frm) : List UInt8 := if rightFrm f then (if f.kind = 3 then hdB f ++ allB atB f.floor
  else if f.kind = 1 then (newsB f ++ txtB (Zo.textF f.zone)) ++ allB By.bytesF f.items
  else if f.kind = 2 then (newsB f ++ allB By.bytesF f.items) ++ numB (truthF f.whole)
  else newsB f ++ allB By.bytesF f.items) else []
theorem all_len {α : Type} {f : α → List UInt8} {l : List α} (m n : Nat) (hl : l.length ≤ n) (hn : n ≤ 10000) (h : ∀ x ∈ l, (f x).length ≤ m) : (allB f l).length ≤ 9 + n * m := by
  have h1 := flat_len f m l h
  have h2 := numB_len (l.length : Int) (by omega)
  have h3 : l.length * m ≤ n * m := Nat.mul_le_mul_right m hl
  unfold allB
  rw [List.length_append]
  omega
theorem at_len {x : At} (h : x.1.size ≤ 6 ∧ x.2 ≤ 1048576) : (atB x).length ≤ 24 := by
  have h1 := txtB_len x.1 (by omega)
  have h2 := numB_len x.2 (by omega)
  unfold atB
  rw [List.length_append]
  omega
theorem txt_len6 {x : ByteArray} (h : x.size ≤ 6) : (txtB x).length ≤ 15 := by
  have h1 := txtB_len x (by omega)
  omega
theorem known_len {x : ByteArray × (Int × List Int)} (h : x.1.size ≤ 6 ∧ x.2.1 ≤ 1048576 ∧ x.2.2.length ≤ 4096 ∧ ∀ y ∈ x.2.2, y ≤ 1048576) : (knownB x).length ≤ 40000 := by
  have h1 := txt_len6 h.1
  have h2 := numB_len x.2.1 (by omega)
  have h3 := all_len (f := numB) 9 4096 h.2.2.1 (by omega) fun y hy => numB_len y (by have := h.2.2.2 y hy; omega)
  unfold knownB
  rw [List.length_append, List.length_append]
  omega
theorem row_len {x : ByteArray × List At} (h : x.1.size ≤ 6 ∧ x.2.length ≤ 64 ∧ ∀ y ∈ x.2, y.1.size ≤ 6 ∧ y.2 ≤ 1048576) : (rowB x).length ≤ 2000 := by
  have h1 := txt_len6 h.1
  have h3 := all_len (f := atB) 24 64 h.2.1 (by omega) fun y hy => at_len (h.2.2 y hy)
  unfold rowB
  rw [List.length_append]
  omega
theorem truth_le (b : Bool) : truthF b ≤ 1 := by cases b <;> decide
/-- A part's Put, at whatever world and row: the bytes X come behind. -/
def Adds (F : FuncId) (args : List Value) (X : List UInt8) (B : Nat) (W1 : World) : Prop :=
  ∀ (W : World) (A : Option Addr) (c : Nat) (bs : List UInt8), Below B W1 W → B ≤ W.heap.size → W.ownsRow B 5 1 (.slice A bs.length c) bs.length (By.bytesV bs) → bs.length ≤ 50000000 →
    Calls Tryz.prog F (Value.slice A bs.length c :: args).toArray W (PutRet B (.slice A bs.length c) (bs ++ X) W)
def PartsAt (f : Frm) (h : Lie) (B : Nat) (W1 : World) : Prop :=
    (Adds 37 [.int .i64 f.kind] (numB f.kind) B W1 ∧ (numB f.kind).length ≤ 9) ∧
    (Adds 38 [.string f.src] (txtB f.src) B W1 ∧ (txtB f.src).length ≤ 15) ∧
    (Adds 38 [.string f.dst] (txtB f.dst) B W1 ∧ (txtB f.dst).length ≤ 15) ∧
    (Adds 39 [.slice h.fA f.floor.length h.fc, .func (.func 40) #[] #[]] (allB atB f.floor) B W1 ∧ (allB atB f.floor).length ≤ 2000) ∧
    (Adds 41 [.slice h.kA f.know.length h.kc, .func (.func 42) #[] #[]] (allB knownB f.know) B W1 ∧ (allB knownB f.know).length ≤ 3000000) ∧
    (Adds 37 [.int .i64 f.clock] (numB f.clock) B W1 ∧ (numB f.clock).length ≤ 9) ∧
    (Adds 43 [.slice h.mA f.members.length h.mc, .func (.func 38) #[] #[]] (allB txtB f.members) B W1 ∧ (allB txtB f.members).length ≤ 2000) ∧
    (Adds 39 [.slice h.cA f.certs.length h.cc, .func (.func 40) #[] #[]] (allB atB f.certs) B W1 ∧ (allB atB f.certs).length ≤ 2000) ∧
    (Adds 44 [.slice h.rA f.rows.length h.rc, .func (.func 45) #[] #[]] (allB rowB f.rows) B W1 ∧ (allB rowB f.rows).length ≤ 200000) ∧
    (Adds 46 [.string (Zo.textF f.zone)] (txtB (Zo.textF f.zone)) B W1 ∧ (txtB (Zo.textF f.zone)).length ≤ 3000) ∧
    (Adds 48 [.slice h.iA f.items.length h.ic, .func (.func 49) #[] #[]] (allB By.bytesF f.items) B W1 ∧ (allB By.bytesF f.items).length ≤ 40000) ∧
    (Adds 37 [.int .i64 (truthF f.whole)] (numB (truthF f.whole)) B W1 ∧ (numB (truthF f.whole)).length ≤ 9)
set_option maxRecDepth 100000 in
set_option maxHeartbeats 4000000 in
theorem putParts (f : Frm) (h : Lie) (B : Nat) (W0 W1 : World) (hk63 : f.kind ≤ 9223372036854775807) (ha : FrmAt W0 B f h) (hb0 : Below B W0 W1) (ok : OkF f) : PartsAt f h B W1 := by
  have l1 : (numB f.kind).length ≤ 9 := numB_len _ hk63
  have l2 : (txtB f.src).length ≤ 15 := txt_len6 ok.src
  have l3 : (txtB f.dst).length ≤ 15 := txt_len6 ok.dst
  have l4 : (allB atB f.floor).length ≤ 2000 := Nat.le_trans (all_len 24 64 ok.floor.1 (by omega) fun x hx => at_len (ok.floor.2 x hx)) (by omega)
  have l5 : (allB knownB f.know).length ≤ 3000000 := Nat.le_trans (all_len 40000 64 ok.know.1 (by omega) fun x hx => known_len (ok.know.2 x hx)) (by omega)
  have l6 : (numB f.clock).length ≤ 9 := numB_len _ (by have := ok.clock; omega)
  have l7 : (allB txtB f.members).length ≤ 2000 := Nat.le_trans (all_len 15 64 ok.members.1 (by omega) fun x hx => txt_len6 (ok.members.2 x hx)) (by omega)
  have l8 : (allB atB f.certs).length ≤ 2000 := Nat.le_trans (all_len 24 64 ok.certs.1 (by omega) fun x hx => at_len (ok.certs.2 x hx)) (by omega)
  have l9 : (allB rowB f.rows).length ≤ 200000 := Nat.le_trans (all_len 2000 64 ok.rows.1 (by omega) fun x hx => row_len (ok.rows.2 x hx)) (by omega)
  have l10 : (txtB (Zo.textF f.zone)).length ≤ 3000 := by have h1 := zoneText_size f.zone; have h2 := txtB_len (Zo.textF f.zone) (by omega); omega
  have l11 : (allB By.bytesF f.items).length ≤ 40000 := Nat.le_trans (all_len 1000 32 ok.items.1 (by omega) fun x hx => By.bytesF_len (ok.items.2 x hx)) (by omega)
  have l12 : (numB (truthF f.whole)).length ≤ 9 := numB_len _ (by have := truth_le f.whole; omega)
  exact ⟨⟨fun W A c bs hb hB ho hl => putNum_any A c bs B _ W ho hB (by omega) hk63, l1⟩,
      ⟨fun W A c bs hb hB ho hl => putId_any A c bs B _ W ho hB (by omega) (by have := ok.src; omega), l2⟩,
      ⟨fun W A c bs hb hB ho hl => putId_any A c bs B _ W ho hB (by omega) (by have := ok.dst; omega), l3⟩,
      ⟨fun W A c bs hb hB ho hl => putAllAt_any A c bs B _ _ _ _ W ho hB ((ha.floor.keep hb0).keep hb) (by have := ok.floor.1; omega) (fun x hx => ⟨by have := (ok.floor.2 x hx).1; omega, by have := (ok.floor.2 x hx).2; omega⟩) (by omega), l4⟩,
      ⟨fun W A c bs hb hB ho hl => putAllKnown_any A c bs B _ _ _ _ W ho hB ((ha.know.keep hb0).keep hb) (by have := ok.know.1; omega) (fun x hx => by have := ok.know.2 x hx; exact ⟨by omega, by omega, by omega, fun y hy => by have := this.2.2.2 y hy; omega⟩) (by omega), l5⟩,
      ⟨fun W A c bs hb hB ho hl => putNum_any A c bs B _ W ho hB (by omega) (by have := ok.clock; omega), l6⟩,
      ⟨fun W A c bs hb hB ho hl => putAllId_any A c bs B _ _ _ _ W ho hB ((ha.members.keep hb0).keep hb) (by have := ok.members.1; omega) (fun x hx => by have := ok.members.2 x hx; omega) (by omega), l7⟩,
      ⟨fun W A c bs hb hB ho hl => putAllAt_any A c bs B _ _ _ _ W ho hB ((ha.certs.keep hb0).keep hb) (by have := ok.certs.1; omega) (fun x hx => ⟨by have := (ok.certs.2 x hx).1; omega, by have := (ok.certs.2 x hx).2; omega⟩) (by omega), l8⟩,
      ⟨fun W A c bs hb hB ho hl => putAllRow_any A c bs B _ _ _ _ W ho hB ((ha.rows.keep hb0).keep hb) (by have := ok.rows.1; omega) (fun x hx => by have := ok.rows.2 x hx; exact ⟨by omega, by omega, fun y hy => ⟨by have := (this.2.2 y hy).1; omega, by have := (this.2.2 y hy).2; omega⟩⟩) (by omega), l9⟩,
      ⟨fun W A c bs hb hB ho hl => putText_any A c bs B _ W ho hB (by omega) (by have := zoneText_size f.zone; omega), l10⟩,
      ⟨fun W A c bs hb hB ho hl => putAllItem_any A c bs B _ _ _ _ W ho hB ((ha.items.keep hb0).keep hb) (by have := ok.items.1; omega) (fun x hx => ⟨ok.items.2 x hx, (By.right_small (ok.items.2 x hx)).1, (By.right_small (ok.items.2 x hx)).2⟩) (by omega), l11⟩,
      ⟨fun W A c bs hb hB ho hl => putNum_any A c bs B _ W ho hB (by omega) (by have := truth_le f.whole; omega), l12⟩⟩
set_option maxRecDepth 100000 in
set_option maxHeartbeats 4000000 in
theorem put12_any (f : Frm) (h : Lie) (B0 : Nat) (w : World) (hB0 : B0 ≤ w.heap.size) (ha : FrmAt w B0 f h) (na : FewF f) (hg : Zo.Glob w) :
    Calls Tryz.prog 14 #[frmV f h] w (By.OwnBytes (frmB f) w) := by
  have HR : Hid (∀ W, Below w.heap.size w W → Calls Tryz.prog 10 #[frmV f h] W fun e w' => e = .returned (.bool (rightFrm f)) ∧ Below W.heap.size W w') := fun W hb => right12_any f h B0 W (Nat.le_trans hB0 hb.size) (ha.keep (hb.mono hB0)) na
  have HF : Hid (frmB f = if rightFrm f then (if f.kind = 3 then hdB f ++ allB atB f.floor
    else if f.kind = 1 then (newsB f ++ txtB (Zo.textF f.zone)) ++ allB By.bytesF f.items
    else if f.kind = 2 then (newsB f ++ allB By.bytesF f.items) ++ numB (truthF f.whole)
    else newsB f ++ allB By.bytesF f.items) else []) := rfl
  have hkind : rightFrm f = true → f.kind = 1 ∨ f.kind = 2 ∨ f.kind = 3 := fun h => by
    unfold rightFrm at h
    rw [Bool.and_eq_true] at h
    by_cases k1 : f.kind = 1
    · exact .inl k1
    · by_cases k2 : f.kind = 2
      · exact .inr (.inl k2)
      · by_cases k3 : f.kind = 3
        · exact .inr (.inr k3)
        · rw [if_neg k1, if_neg k2, if_neg k3] at h
          exact absurd h.2 (by decide)
  have HT : Hid (∀ W, Below w.heap.size w W → Calls Tryz.prog 47 #[.slice h.zA f.zone.length h.zc] W fun e w' => e = .returned (.string (Zo.textF f.zone)) ∧ Below W.heap.size W w') := fun W hb => by
    obtain ⟨zs, z1, z2⟩ := ha.zone
    exact Zo.text_any _ _ _ zs _ B0 W (Nat.le_trans hB0 hb.size) (z1.keep (hb.mono hB0)) z2 (hg.below hb)
  rcases hr : rightFrm f with _ | _
  · rw [hr] at HF HR
    clear hkind HT hr
    generalize frmB f = PF at *
    unfold frmV at *
    obtain ⟨p1, p2, p3, p4, p5, p6, p7, p8, p9, p10, p11, p12⟩ := f
    simp only at HF HR ⊢
    go_enter Tryz.func14, Tryz.ntmps14
    go_upto_region 1 with fail
    have HKB : Hid (Blk (w.alloc (.cells #[.int .i64 p1, .string p2, .string p3, .slice h.kA p4.length h.kc, .int .i64 p5, .slice h.mA p6.length h.mc, .slice h.cA p7.length h.cc, .slice h.rA p8.length h.rc, .slice h.zA p9.length h.zc, .slice h.iA p10.length h.ic, .bool p11, .slice h.fA p12.length h.fc] 45)) w.heap.size [.int .i64 p1, .string p2, .string p3, .slice h.kA p4.length h.kc, .int .i64 p5, .slice h.mA p6.length h.mc, .slice h.cA p7.length h.cc, .slice h.rA p8.length h.rc, .slice h.zA p9.length h.zc, .slice h.iA p10.length h.ic, .bool p11, .slice h.fA p12.length h.fc]) := Blk.new w [.int .i64 p1, .string p2, .string p3, .slice h.kA p4.length h.kc, .int .i64 p5, .slice h.mA p6.length h.mc, .slice h.cA p7.length h.cc, .slice h.rA p8.length h.rc, .slice h.zA p9.length h.zc, .slice h.iA p10.length h.ic, .bool p11, .slice h.fA p12.length h.fc] 45
    have HB : Hid (Below w.heap.size w (w.alloc (.cells #[.int .i64 p1, .string p2, .string p3, .slice h.kA p4.length h.kc, .int .i64 p5, .slice h.mA p6.length h.mc, .slice h.cA p7.length h.cc, .slice h.rA p8.length h.rc, .slice h.zA p9.length h.zc, .slice h.iA p10.length h.ic, .bool p11, .slice h.fA p12.length h.fc] 45))) := (Below.refl _ _).alloc (Nat.le_refl _) _
    generalize (w.alloc (.cells #[.int .i64 p1, .string p2, .string p3, .slice h.kA p4.length h.kc, .int .i64 p5, .slice h.mA p6.length h.mc, .slice h.cA p7.length h.cc, .slice h.rA p8.length h.rc, .slice h.zA p9.length h.zc, .slice h.iA p10.length h.ic, .bool p11, .slice h.fA p12.length h.fc] 45)) = W0 at *
    obtain ⟨k0, k1, k2, k3, k4, k5, k6, k7, k8, k9, k10, k11⟩ := HKB.out.cs
    go_wp2_with fail
    clear k0 k1 k2 k3 k4 k5 k6 k7 k8 k9 k10 k11
    refine (HR.out _ HB.out).mono ?_
    rintro e W1 ⟨rfl, hb⟩
    replace HKB := Lib.hid (HKB.out.below hb)
    replace HB := Lib.hid (HB.out.trans (hb.mono HB.out.size))
    clear hb HR
    go_wp2
    go_ret
    have e : PF = [] := by rw [HF.out]; rfl
    rw [e]
    exact ⟨none, 0, rfl, World.ownsRow_nil _ _ _ _, HB.out⟩
  · have hk := hkind hr
    have HP : Hid (∀ (W1 : World), Below w.heap.size w W1 → PartsAt f h W1.heap.size W1) := fun W1 hb => putParts f h W1.heap.size W1 W1 (by rcases hk with e | e | e <;> omega) ((ha.keep (hb.mono hB0)).more (Nat.le_trans hB0 hb.size)) (Below.refl _ _) (ok_of hr)
    rw [hr, if_pos rfl] at HF
    rw [hr] at HR
    clear hkind hr ha na hg
    unfold newsB hdB at HF
    unfold PartsAt at HP
    generalize frmB f = PF at *
    generalize Zo.textF f.zone = zt at *
    generalize hth : truthF f.whole = th at *
    unfold frmV at *
    obtain ⟨p1, p2, p3, p4, p5, p6, p7, p8, p9, p10, p11, p12⟩ := f
    simp only at HF HR HT HP hk hth ⊢
    go_enter Tryz.func14, Tryz.ntmps14
    go_upto_region 1 with fail
    have HKB : Hid (Blk (w.alloc (.cells #[.int .i64 p1, .string p2, .string p3, .slice h.kA p4.length h.kc, .int .i64 p5, .slice h.mA p6.length h.mc, .slice h.cA p7.length h.cc, .slice h.rA p8.length h.rc, .slice h.zA p9.length h.zc, .slice h.iA p10.length h.ic, .bool p11, .slice h.fA p12.length h.fc] 45)) w.heap.size [.int .i64 p1, .string p2, .string p3, .slice h.kA p4.length h.kc, .int .i64 p5, .slice h.mA p6.length h.mc, .slice h.cA p7.length h.cc, .slice h.rA p8.length h.rc, .slice h.zA p9.length h.zc, .slice h.iA p10.length h.ic, .bool p11, .slice h.fA p12.length h.fc]) := Blk.new w [.int .i64 p1, .string p2, .string p3, .slice h.kA p4.length h.kc, .int .i64 p5, .slice h.mA p6.length h.mc, .slice h.cA p7.length h.cc, .slice h.rA p8.length h.rc, .slice h.zA p9.length h.zc, .slice h.iA p10.length h.ic, .bool p11, .slice h.fA p12.length h.fc] 45
    have HB : Hid (Below w.heap.size w (w.alloc (.cells #[.int .i64 p1, .string p2, .string p3, .slice h.kA p4.length h.kc, .int .i64 p5, .slice h.mA p6.length h.mc, .slice h.cA p7.length h.cc, .slice h.rA p8.length h.rc, .slice h.zA p9.length h.zc, .slice h.iA p10.length h.ic, .bool p11, .slice h.fA p12.length h.fc] 45))) := (Below.refl _ _).alloc (Nat.le_refl _) _
    generalize (w.alloc (.cells #[.int .i64 p1, .string p2, .string p3, .slice h.kA p4.length h.kc, .int .i64 p5, .slice h.mA p6.length h.mc, .slice h.cA p7.length h.cc, .slice h.rA p8.length h.rc, .slice h.zA p9.length h.zc, .slice h.iA p10.length h.ic, .bool p11, .slice h.fA p12.length h.fc] 45)) = W0 at *
    obtain ⟨k0, k1, k2, k3, k4, k5, k6, k7, k8, k9, k10, k11⟩ := HKB.out.cs
    go_wp2_with fail
    clear k0 k1 k2 k3 k4 k5 k6 k7 k8 k9 k10 k11
    refine (HR.out _ HB.out).mono ?_
    rintro e W1 ⟨rfl, hb⟩
    replace HKB := Lib.hid (HKB.out.below hb)
    replace HB := Lib.hid (HB.out.trans (hb.mono HB.out.size))
    clear hb HR
    obtain ⟨⟨hp1, l1⟩, ⟨hp2, l2⟩, ⟨hp3, l3⟩, ⟨hp4, l4⟩, ⟨hp5, l5⟩, ⟨hp6, l6⟩, ⟨hp7, l7⟩, ⟨hp8, l8⟩, ⟨hp9, l9⟩, ⟨hp10, l10⟩, ⟨hp11, l11⟩, ⟨hp12, l12⟩⟩ := HP.out W1 HB.out
    clear HP
    have HP1 := Lib.hid hp1
    generalize numB p1 = X1 at *
    clear hp1
    have HP2 := Lib.hid hp2
    generalize txtB p2 = X2 at *
    clear hp2
    have HP3 := Lib.hid hp3
    generalize txtB p3 = X3 at *
    clear hp3
    have HP4 := Lib.hid hp4
    generalize allB atB p12 = X4 at *
    clear hp4
    have HP5 := Lib.hid hp5
    generalize allB knownB p4 = X5 at *
    clear hp5
    have HP6 := Lib.hid hp6
    generalize numB p5 = X6 at *
    clear hp6
    have HP7 := Lib.hid hp7
    generalize allB txtB p6 = X7 at *
    clear hp7
    have HP8 := Lib.hid hp8
    generalize allB atB p7 = X8 at *
    clear hp8
    have HP9 := Lib.hid hp9
    generalize allB rowB p8 = X9 at *
    clear hp9
    have HP10 := Lib.hid hp10
    generalize txtB zt = X10 at *
    clear hp10
    have HP11 := Lib.hid hp11
    generalize allB By.bytesF p10 = X11 at *
    clear hp11
    have HP12 := Lib.hid hp12
    generalize numB th = X12 at *
    clear hp12
    have HG0 : Hid (Grew W1.heap.size (.slice none 0 0) W1 (.slice none ([] : List UInt8).length 0) ([] : List UInt8).length [] W1) := Grew.refl (World.ownsRow_nil _ _ _ _)
    have hl0 : ([] : List UInt8).length ≤ 0 := by simp
    have hl00 : ([] : List UInt8).length = 0 := rfl
    have kB : w.heap.size < W1.heap.size := HKB.out.z
    generalize hBB : W1.heap.size = B at *
    have hB0' : B ≤ W1.heap.size := Nat.le_of_eq hBB.symm
    obtain ⟨k0, k1, k2, k3, k4, k5, k6, k7, k8, k9, k10, k11⟩ := HKB.out.cs
    go_wp2_with fail
    clear k0 k1 k2 k3 k4 k5 k6 k7 k8 k9 k10 k11
    refine (HP1.out _ none 0 [] (HG0.out.low (World.ownsRow_nil _ _ _ _) hB0') hB0' HG0.out.own (by omega)).mono ?_
    have hl1 : ([] ++ X1).length ≤ 9 := by rw [List.length_append]; omega
    generalize hL1 : [] ++ X1 = L1 at *
    have HL1 := Lib.hid hL1
    clear hL1
    rintro e w1 ⟨A1, c1, rfl, hg⟩
    have hb := hg.low HG0.out.own hB0'
    replace HKB := Lib.hid (HKB.out.keep hb kB)
    have hB1 := Nat.le_trans hB0' hg.grown.size
    have HG1 := Lib.hid (HG0.out.trans hg)
    clear hg hb
    obtain ⟨k0, k1, k2, k3, k4, k5, k6, k7, k8, k9, k10, k11⟩ := HKB.out.cs
    go_wp2_with fail
    clear k0 k1 k2 k3 k4 k5 k6 k7 k8 k9 k10 k11
    refine (HP2.out _ A1 c1 L1 (HG1.out.low (World.ownsRow_nil _ _ _ _) hB0') hB1 HG1.out.own (by omega)).mono ?_
    have hl2 : (L1 ++ X2).length ≤ 24 := by rw [List.length_append]; omega
    generalize hL2 : L1 ++ X2 = L2 at *
    have HL2 := Lib.hid hL2
    clear hL2
    rintro e w2 ⟨A2, c2, rfl, hg⟩
    have hb := hg.low HG1.out.own hB1
    replace HKB := Lib.hid (HKB.out.keep hb kB)
    have hB2 := Nat.le_trans hB1 hg.grown.size
    have HG2 := Lib.hid (HG1.out.trans hg)
    clear hg hb
    obtain ⟨k0, k1, k2, k3, k4, k5, k6, k7, k8, k9, k10, k11⟩ := HKB.out.cs
    go_wp2_with fail
    clear k0 k1 k2 k3 k4 k5 k6 k7 k8 k9 k10 k11
    refine (HP3.out _ A2 c2 L2 (HG2.out.low (World.ownsRow_nil _ _ _ _) hB0') hB2 HG2.out.own (by omega)).mono ?_
    have hl3 : (L2 ++ X3).length ≤ 39 := by rw [List.length_append]; omega
    generalize hL3 : L2 ++ X3 = L3 at *
    have HL3 := Lib.hid hL3
    clear hL3
    rintro e w3 ⟨A3, c3, rfl, hg⟩
    have hb := hg.low HG2.out.own hB2
    replace HKB := Lib.hid (HKB.out.keep hb kB)
    have hB3 := Nat.le_trans hB2 hg.grown.size
    have HG3 := Lib.hid (HG2.out.trans hg)
    clear hg hb
    rcases hk with hk1 | hk1 | hk1
    · subst hk1
      obtain ⟨k0, k1, k2, k3, k4, k5, k6, k7, k8, k9, k10, k11⟩ := HKB.out.cs
      go_wp2_with fail
      clear k0 k1 k2 k3 k4 k5 k6 k7 k8 k9 k10 k11
      refine (HP5.out _ A3 c3 L3 (HG3.out.low (World.ownsRow_nil _ _ _ _) hB0') hB3 HG3.out.own (by omega)).mono ?_
      have hl4 : (L3 ++ X5).length ≤ 3000039 := by rw [List.length_append]; omega
      generalize hL4 : L3 ++ X5 = L4 at *
      have HL4 := Lib.hid hL4
      clear hL4
      rintro e w4 ⟨A4, c4, rfl, hg⟩
      have hb := hg.low HG3.out.own hB3
      replace HKB := Lib.hid (HKB.out.keep hb kB)
      have hB4 := Nat.le_trans hB3 hg.grown.size
      have HG4 := Lib.hid (HG3.out.trans hg)
      clear hg hb
      obtain ⟨k0, k1, k2, k3, k4, k5, k6, k7, k8, k9, k10, k11⟩ := HKB.out.cs
      go_wp2_with fail
      clear k0 k1 k2 k3 k4 k5 k6 k7 k8 k9 k10 k11
      refine (HP6.out _ A4 c4 L4 (HG4.out.low (World.ownsRow_nil _ _ _ _) hB0') hB4 HG4.out.own (by omega)).mono ?_
      have hl5 : (L4 ++ X6).length ≤ 3000048 := by rw [List.length_append]; omega
      generalize hL5 : L4 ++ X6 = L5 at *
      have HL5 := Lib.hid hL5
      clear hL5
      rintro e w5 ⟨A5, c5, rfl, hg⟩
      have hb := hg.low HG4.out.own hB4
      replace HKB := Lib.hid (HKB.out.keep hb kB)
      have hB5 := Nat.le_trans hB4 hg.grown.size
      have HG5 := Lib.hid (HG4.out.trans hg)
      clear hg hb
      obtain ⟨k0, k1, k2, k3, k4, k5, k6, k7, k8, k9, k10, k11⟩ := HKB.out.cs
      go_wp2_with fail
      clear k0 k1 k2 k3 k4 k5 k6 k7 k8 k9 k10 k11
      refine (HP7.out _ A5 c5 L5 (HG5.out.low (World.ownsRow_nil _ _ _ _) hB0') hB5 HG5.out.own (by omega)).mono ?_
      have hl6 : (L5 ++ X7).length ≤ 3002048 := by rw [List.length_append]; omega
      generalize hL6 : L5 ++ X7 = L6 at *
      have HL6 := Lib.hid hL6
      clear hL6
      rintro e w6 ⟨A6, c6, rfl, hg⟩
      have hb := hg.low HG5.out.own hB5
      replace HKB := Lib.hid (HKB.out.keep hb kB)
      have hB6 := Nat.le_trans hB5 hg.grown.size
      have HG6 := Lib.hid (HG5.out.trans hg)
      clear hg hb
      obtain ⟨k0, k1, k2, k3, k4, k5, k6, k7, k8, k9, k10, k11⟩ := HKB.out.cs
      go_wp2_with fail
      clear k0 k1 k2 k3 k4 k5 k6 k7 k8 k9 k10 k11
      refine (HP8.out _ A6 c6 L6 (HG6.out.low (World.ownsRow_nil _ _ _ _) hB0') hB6 HG6.out.own (by omega)).mono ?_
      have hl7 : (L6 ++ X8).length ≤ 3004048 := by rw [List.length_append]; omega
      generalize hL7 : L6 ++ X8 = L7 at *
      have HL7 := Lib.hid hL7
      clear hL7
      rintro e w7 ⟨A7, c7, rfl, hg⟩
      have hb := hg.low HG6.out.own hB6
      replace HKB := Lib.hid (HKB.out.keep hb kB)
      have hB7 := Nat.le_trans hB6 hg.grown.size
      have HG7 := Lib.hid (HG6.out.trans hg)
      clear hg hb
      obtain ⟨k0, k1, k2, k3, k4, k5, k6, k7, k8, k9, k10, k11⟩ := HKB.out.cs
      go_wp2_with fail
      clear k0 k1 k2 k3 k4 k5 k6 k7 k8 k9 k10 k11
      refine (HP9.out _ A7 c7 L7 (HG7.out.low (World.ownsRow_nil _ _ _ _) hB0') hB7 HG7.out.own (by omega)).mono ?_
      have hl8 : (L7 ++ X9).length ≤ 3204048 := by rw [List.length_append]; omega
      generalize hL8 : L7 ++ X9 = L8 at *
      have HL8 := Lib.hid hL8
      clear hL8
      rintro e w8 ⟨A8, c8, rfl, hg⟩
      have hb := hg.low HG7.out.own hB7
      replace HKB := Lib.hid (HKB.out.keep hb kB)
      have hB8 := Nat.le_trans hB7 hg.grown.size
      have HG8 := Lib.hid (HG7.out.trans hg)
      clear hg hb
      have hbz := HB.out.trans ((HG8.out.low (World.ownsRow_nil _ _ _ _) hB0').mono (by rw [← hBB]; exact HB.out.size))
      obtain ⟨k0, k1, k2, k3, k4, k5, k6, k7, k8, k9, k10, k11⟩ := HKB.out.cs
      go_wp2_with fail
      clear k0 k1 k2 k3 k4 k5 k6 k7 k8 k9 k10 k11
      refine (HT.out _ hbz).mono ?_
      rintro e wz ⟨rfl, hb⟩
      replace HG8 := Lib.hid (HG8.out.below hb)
      replace HKB := Lib.hid (HKB.out.below hb)
      replace hB8 := Nat.le_trans hB8 hb.size
      clear hb hbz
      obtain ⟨k0, k1, k2, k3, k4, k5, k6, k7, k8, k9, k10, k11⟩ := HKB.out.cs
      go_wp2_with fail
      clear k0 k1 k2 k3 k4 k5 k6 k7 k8 k9 k10 k11
      refine (HP10.out _ A8 c8 L8 (HG8.out.low (World.ownsRow_nil _ _ _ _) hB0') hB8 HG8.out.own (by omega)).mono ?_
      have hl9 : (L8 ++ X10).length ≤ 3207048 := by rw [List.length_append]; omega
      generalize hL9 : L8 ++ X10 = L9 at *
      have HL9 := Lib.hid hL9
      clear hL9
      rintro e w9 ⟨A9, c9, rfl, hg⟩
      have hb := hg.low HG8.out.own hB8
      replace HKB := Lib.hid (HKB.out.keep hb kB)
      have hB9 := Nat.le_trans hB8 hg.grown.size
      have HG9 := Lib.hid (HG8.out.trans hg)
      clear hg hb
      obtain ⟨k0, k1, k2, k3, k4, k5, k6, k7, k8, k9, k10, k11⟩ := HKB.out.cs
      go_wp2_with fail
      clear k0 k1 k2 k3 k4 k5 k6 k7 k8 k9 k10 k11
      refine (HP11.out _ A9 c9 L9 (HG9.out.low (World.ownsRow_nil _ _ _ _) hB0') hB9 HG9.out.own (by omega)).mono ?_
      have hl10 : (L9 ++ X11).length ≤ 3247048 := by rw [List.length_append]; omega
      generalize hL10 : L9 ++ X11 = L10 at *
      have HL10 := Lib.hid hL10
      clear hL10
      rintro e w10 ⟨A10, c10, rfl, hg⟩
      have hb := hg.low HG9.out.own hB9
      replace HKB := Lib.hid (HKB.out.keep hb kB)
      have hB10 := Nat.le_trans hB9 hg.grown.size
      have HG10 := Lib.hid (HG9.out.trans hg)
      clear hg hb
      obtain ⟨k0, k1, k2, k3, k4, k5, k6, k7, k8, k9, k10, k11⟩ := HKB.out.cs
      go_wp2
      go_ret
      have e : PF = L10 := by rw [HF.out, ← HL10.out, ← HL9.out, ← HL8.out, ← HL7.out, ← HL6.out, ← HL5.out, ← HL4.out, ← HL3.out, ← HL2.out, ← HL1.out]; simp
      rw [e]
      exact ⟨A10, c10, rfl, By.own_base HG10.out.own (by rw [← hBB]; exact HB.out.size), HB.out.trans ((HG10.out.low (World.ownsRow_nil _ _ _ _) hB0').mono (by rw [← hBB]; exact HB.out.size))⟩
    · subst hk1
      obtain ⟨k0, k1, k2, k3, k4, k5, k6, k7, k8, k9, k10, k11⟩ := HKB.out.cs
      go_wp2_with fail
      clear k0 k1 k2 k3 k4 k5 k6 k7 k8 k9 k10 k11
      refine (HP5.out _ A3 c3 L3 (HG3.out.low (World.ownsRow_nil _ _ _ _) hB0') hB3 HG3.out.own (by omega)).mono ?_
      have hl4 : (L3 ++ X5).length ≤ 3000039 := by rw [List.length_append]; omega
      generalize hL4 : L3 ++ X5 = L4 at *
      have HL4 := Lib.hid hL4
      clear hL4
      rintro e w4 ⟨A4, c4, rfl, hg⟩
      have hb := hg.low HG3.out.own hB3
      replace HKB := Lib.hid (HKB.out.keep hb kB)
      have hB4 := Nat.le_trans hB3 hg.grown.size
      have HG4 := Lib.hid (HG3.out.trans hg)
      clear hg hb
      obtain ⟨k0, k1, k2, k3, k4, k5, k6, k7, k8, k9, k10, k11⟩ := HKB.out.cs
      go_wp2_with fail
      clear k0 k1 k2 k3 k4 k5 k6 k7 k8 k9 k10 k11
      refine (HP6.out _ A4 c4 L4 (HG4.out.low (World.ownsRow_nil _ _ _ _) hB0') hB4 HG4.out.own (by omega)).mono ?_
      have hl5 : (L4 ++ X6).length ≤ 3000048 := by rw [List.length_append]; omega
      generalize hL5 : L4 ++ X6 = L5 at *
      have HL5 := Lib.hid hL5
      clear hL5
      rintro e w5 ⟨A5, c5, rfl, hg⟩
      have hb := hg.low HG4.out.own hB4
      replace HKB := Lib.hid (HKB.out.keep hb kB)
      have hB5 := Nat.le_trans hB4 hg.grown.size
      have HG5 := Lib.hid (HG4.out.trans hg)
      clear hg hb
      obtain ⟨k0, k1, k2, k3, k4, k5, k6, k7, k8, k9, k10, k11⟩ := HKB.out.cs
      go_wp2_with fail
      clear k0 k1 k2 k3 k4 k5 k6 k7 k8 k9 k10 k11
      refine (HP7.out _ A5 c5 L5 (HG5.out.low (World.ownsRow_nil _ _ _ _) hB0') hB5 HG5.out.own (by omega)).mono ?_
      have hl6 : (L5 ++ X7).length ≤ 3002048 := by rw [List.length_append]; omega
      generalize hL6 : L5 ++ X7 = L6 at *
      have HL6 := Lib.hid hL6
      clear hL6
      rintro e w6 ⟨A6, c6, rfl, hg⟩
      have hb := hg.low HG5.out.own hB5
      replace HKB := Lib.hid (HKB.out.keep hb kB)
      have hB6 := Nat.le_trans hB5 hg.grown.size
      have HG6 := Lib.hid (HG5.out.trans hg)
      clear hg hb
      obtain ⟨k0, k1, k2, k3, k4, k5, k6, k7, k8, k9, k10, k11⟩ := HKB.out.cs
      go_wp2_with fail
      clear k0 k1 k2 k3 k4 k5 k6 k7 k8 k9 k10 k11
      refine (HP8.out _ A6 c6 L6 (HG6.out.low (World.ownsRow_nil _ _ _ _) hB0') hB6 HG6.out.own (by omega)).mono ?_
      have hl7 : (L6 ++ X8).length ≤ 3004048 := by rw [List.length_append]; omega
      generalize hL7 : L6 ++ X8 = L7 at *
      have HL7 := Lib.hid hL7
      clear hL7
      rintro e w7 ⟨A7, c7, rfl, hg⟩
      have hb := hg.low HG6.out.own hB6
      replace HKB := Lib.hid (HKB.out.keep hb kB)
      have hB7 := Nat.le_trans hB6 hg.grown.size
      have HG7 := Lib.hid (HG6.out.trans hg)
      clear hg hb
      obtain ⟨k0, k1, k2, k3, k4, k5, k6, k7, k8, k9, k10, k11⟩ := HKB.out.cs
      go_wp2_with fail
      clear k0 k1 k2 k3 k4 k5 k6 k7 k8 k9 k10 k11
      refine (HP9.out _ A7 c7 L7 (HG7.out.low (World.ownsRow_nil _ _ _ _) hB0') hB7 HG7.out.own (by omega)).mono ?_
      have hl8 : (L7 ++ X9).length ≤ 3204048 := by rw [List.length_append]; omega
      generalize hL8 : L7 ++ X9 = L8 at *
      have HL8 := Lib.hid hL8
      clear hL8
      rintro e w8 ⟨A8, c8, rfl, hg⟩
      have hb := hg.low HG7.out.own hB7
      replace HKB := Lib.hid (HKB.out.keep hb kB)
      have hB8 := Nat.le_trans hB7 hg.grown.size
      have HG8 := Lib.hid (HG7.out.trans hg)
      clear hg hb
      obtain ⟨k0, k1, k2, k3, k4, k5, k6, k7, k8, k9, k10, k11⟩ := HKB.out.cs
      go_wp2_with fail
      clear k0 k1 k2 k3 k4 k5 k6 k7 k8 k9 k10 k11
      refine (HP11.out _ A8 c8 L8 (HG8.out.low (World.ownsRow_nil _ _ _ _) hB0') hB8 HG8.out.own (by omega)).mono ?_
      have hl9 : (L8 ++ X11).length ≤ 3244048 := by rw [List.length_append]; omega
      generalize hL9 : L8 ++ X11 = L9 at *
      have HL9 := Lib.hid hL9
      clear hL9
      rintro e w9 ⟨A9, c9, rfl, hg⟩
      have hb := hg.low HG8.out.own hB8
      replace HKB := Lib.hid (HKB.out.keep hb kB)
      have hB9 := Nat.le_trans hB8 hg.grown.size
      have HG9 := Lib.hid (HG8.out.trans hg)
      clear hg hb
      obtain ⟨k0, k1, k2, k3, k4, k5, k6, k7, k8, k9, k10, k11⟩ := HKB.out.cs
      go_wp2_with fail
      clear k0 k1 k2 k3 k4 k5 k6 k7 k8 k9 k10 k11
      refine (truth_any p11 _).mono ?_
      rw [hth]
      rintro e wt ⟨rfl, rfl⟩
      obtain ⟨k0, k1, k2, k3, k4, k5, k6, k7, k8, k9, k10, k11⟩ := HKB.out.cs
      go_wp2_with fail
      clear k0 k1 k2 k3 k4 k5 k6 k7 k8 k9 k10 k11
      refine (HP12.out _ A9 c9 L9 (HG9.out.low (World.ownsRow_nil _ _ _ _) hB0') hB9 HG9.out.own (by omega)).mono ?_
      have hl10 : (L9 ++ X12).length ≤ 3244057 := by rw [List.length_append]; omega
      generalize hL10 : L9 ++ X12 = L10 at *
      have HL10 := Lib.hid hL10
      clear hL10
      rintro e w10 ⟨A10, c10, rfl, hg⟩
      have hb := hg.low HG9.out.own hB9
      replace HKB := Lib.hid (HKB.out.keep hb kB)
      have hB10 := Nat.le_trans hB9 hg.grown.size
      have HG10 := Lib.hid (HG9.out.trans hg)
      clear hg hb
      obtain ⟨k0, k1, k2, k3, k4, k5, k6, k7, k8, k9, k10, k11⟩ := HKB.out.cs
      go_wp2
      go_ret
      have e : PF = L10 := by rw [HF.out, ← HL10.out, ← HL9.out, ← HL8.out, ← HL7.out, ← HL6.out, ← HL5.out, ← HL4.out, ← HL3.out, ← HL2.out, ← HL1.out]; simp
      rw [e]
      exact ⟨A10, c10, rfl, By.own_base HG10.out.own (by rw [← hBB]; exact HB.out.size), HB.out.trans ((HG10.out.low (World.ownsRow_nil _ _ _ _) hB0').mono (by rw [← hBB]; exact HB.out.size))⟩
    · subst hk1
      obtain ⟨k0, k1, k2, k3, k4, k5, k6, k7, k8, k9, k10, k11⟩ := HKB.out.cs
      go_wp2_with fail
      clear k0 k1 k2 k3 k4 k5 k6 k7 k8 k9 k10 k11
      refine (HP4.out _ A3 c3 L3 (HG3.out.low (World.ownsRow_nil _ _ _ _) hB0') hB3 HG3.out.own (by omega)).mono ?_
      have hl4 : (L3 ++ X4).length ≤ 2039 := by rw [List.length_append]; omega
      generalize hL4 : L3 ++ X4 = L4 at *
      have HL4 := Lib.hid hL4
      clear hL4
      rintro e w4 ⟨A4, c4, rfl, hg⟩
      have hb := hg.low HG3.out.own hB3
      replace HKB := Lib.hid (HKB.out.keep hb kB)
      have hB4 := Nat.le_trans hB3 hg.grown.size
      have HG4 := Lib.hid (HG3.out.trans hg)
      clear hg hb
      obtain ⟨k0, k1, k2, k3, k4, k5, k6, k7, k8, k9, k10, k11⟩ := HKB.out.cs
      go_wp2
      go_ret
      have e : PF = L4 := by rw [HF.out, ← HL4.out, ← HL3.out, ← HL2.out, ← HL1.out]; simp
      rw [e]
      exact ⟨A4, c4, rfl, By.own_base HG4.out.own (by rw [← hBB]; exact HB.out.size), HB.out.trans ((HG4.out.low (World.ownsRow_nil _ _ _ _) hB0').mono (by rw [← hBB]; exact HB.out.size))⟩
end Go.Proofs.YtbookbgfipbaoaaGreatDoor

/- frame: what is taken of a Reader, part by part. -/
namespace Go.Proofs.YtbookbgfipbaoaaGreatDoor
open Go.RowKit
open By (Rd ReaderAt)

/-- A Reader whose blocks lie below N. -/
structure Rdr (w : World) (R g N : Nat) (st : Rd) : Prop where
  rd : ReaderAt w R g st
  lt : R < N
  b : st.1 ≠ [] → g < N
  le : N ≤ w.heap.size
theorem Rdr.below {w w' : World} {R g N : Nat} {st : Rd} (h : Rdr w R g N st) (hb : Below w.heap.size w w') : Rdr w' R g N st := ⟨h.rd.keep hb, h.lt, h.b, Nat.le_trans h.le hb.size⟩
theorem Rdr.set {w : World} {R g N : Nat} {st : Rd} (h : Rdr w R g N st) {p : Addr} (hp : N ≤ p.block) (u : Value) : Rdr (w.setCell p u) R g N st :=
  ⟨h.rd.setOwn (by have := h.lt; omega) (fun hn => by have := h.b hn; omega) u, h.lt, h.b, by simp; exact h.le⟩
theorem Rdr.grown {w w' : World} {R g N : Nat} {st : Rd} (h : Rdr w R g N st) {row : Option Nat} (hg : w.grownBy w' row) (hr : ∀ b, row = some b → N ≤ b) : Rdr w' R g N st := by
  refine ⟨?_, h.lt, h.b, Nat.le_trans h.le hg.size⟩
  rcases row with _ | b
  · exact h.rd.keep ⟨hg.os, hg.tape, hg.output, hg.size, fun k hk => hg.block k hk (by simp)⟩
  · have := hr b rfl
    exact h.rd.other hg (by have := h.lt; omega) (fun hn => by have := h.b hn; omega)
/-- It has read on. -/
theorem Rdr.on {w w' : World} {R g N : Nat} {st st' : Rd} (h : Rdr w R g N st) (hr : ReaderAt w' R g st') (hg : w.grownBy w' (some R)) (hs : st'.1 ≠ [] → st.1 ≠ []) : Rdr w' R g N st' := ⟨hr, h.lt, fun hn => h.b (hs hn), Nat.le_trans h.le hg.size⟩
def RdT (v : Value) (R g N : Nat) (st : Rd) (w : World) (e : Ending) (w' : World) : Prop := e = .returned v ∧ Rdr w' R g N st ∧ w.grownBy w' (some R)
theorem own_setP {w : World} {B d : Nat} {e : TypeId} {v : Value} {n : Nat} {xs : List Value} (h : w.ownsRow B e d v n xs) {p : Addr} (hp : p.block < B) (u : Value) : (w.setCell p u).ownsRow B e d v n xs :=
  h.kept (row := some p.block) (By.grown_set u) (by
    rcases hv : v.ownBlock with _ | b
    · exact .inl rfl
    · refine .inr fun e => ?_
      injection e with e
      have := (h.lt b hv).1
      omega)
theorem own_read {w w' : World} {B d : Nat} {e : TypeId} {v : Value} {n : Nat} {xs : List Value} (h : w.ownsRow B e d v n xs) {R : Nat} (hR : R < B) (hg : w.grownBy w' (some R)) : w'.ownsRow B e d v n xs :=
  h.kept hg (.inr fun e => by have := (h.lt R e).1; omega)
theorem grown_row {a u w : World} {R : Nat} {row : Option Nat} (h : a.grownBy u (some R)) (hg : u.grownBy w row) (hr : ∀ b, row = some b → a.heap.size ≤ b) : a.grownBy w (some R) := h.andThen hg fun j e => .inl (hr j e)
theorem take_rest {st : Rd} (h : (By.tkE st).1 ≠ []) : st.1 ≠ [] := by
  have e1 : By.tk1 st = By.numF st 31 := by unfold By.tk1; rfl
  have e2 : By.tk2 st = By.textF (By.tk1 st).2 6 := by unfold By.tk2; rfl
  have e3 : By.tk3 st = By.numF (By.tk2 st).2 1048576 := by unfold By.tk3; rfl
  have e4 : By.tk4 st = By.numF (By.tk3 st).2 1048576 := by unfold By.tk4; rfl
  have e5 : By.tk5 st = By.numF (By.tk4 st).2 2 := by unfold By.tk5; rfl
  have e6 : By.tk6 st = By.numF (By.tk5 st).2 2000 := by unfold By.tk6; rfl
  have e7 : By.tk7 st = By.numF (By.tk6 st).2 2000 := by unfold By.tk7; rfl
  have e8 : By.tk8 st = By.textF (By.tkS st) 16 := by unfold By.tk8; rfl
  have g1 : (By.tk1 st).2.1 ≠ [] → st.1 ≠ [] := fun h => by rw [e1] at h; exact By.num_rest h
  have g2 : (By.tk2 st).2.1 ≠ [] → st.1 ≠ [] := fun h => by rw [e2] at h; exact g1 (By.text_rest h)
  have g3 : (By.tk3 st).2.1 ≠ [] → st.1 ≠ [] := fun h => by rw [e3] at h; exact g2 (By.num_rest h)
  have g4 : (By.tk4 st).2.1 ≠ [] → st.1 ≠ [] := fun h => by rw [e4] at h; exact g3 (By.num_rest h)
  have h1 : (By.tk5 st).2.1 ≠ [] → st.1 ≠ [] := fun h => by rw [e5] at h; exact g4 (By.num_rest h)
  have g6 : (By.tk6 st).2.1 ≠ [] → st.1 ≠ [] := fun h => by rw [e6] at h; exact h1 (By.num_rest h)
  have h7 : (By.tk7 st).2.1 ≠ [] → st.1 ≠ [] := fun h => by rw [e7] at h; exact g6 (By.num_rest h)
  have h2 : (By.tkS st).1 ≠ [] → st.1 ≠ [] := fun h => by
    by_cases hc : (By.tk5 st).1 ≠ 0
    · have e : By.tkS st = (By.tk7 st).2 := by unfold By.tkS; rw [if_pos hc]
      rw [e] at h
      exact h7 h
    · have e : By.tkS st = (By.tk5 st).2 := by unfold By.tkS; rw [if_neg hc]
      rw [e] at h
      exact h1 h
  by_cases hc : (By.tk5 st).1 = 2
  · have e : By.tkE st = (By.tk8 st).2 := by unfold By.tkE; rw [if_pos hc]
    rw [e] at h
    rw [e8] at h
    exact h2 (By.text_rest h)
  · have e : By.tkE st = By.tkS st := by unfold By.tkE; rw [if_neg hc]
    rw [e] at h
    exact h2 h

def tkId (st : Rd) : ByteArray × Rd := (⟨(By.textF st 6).1.toArray⟩, (By.textF st 6).2)
def tkNum (st : Rd) : Int × Rd := By.numF st 1048576
def tkAt (st : Rd) : At × Rd := (((tkId st).1, (tkNum (tkId st).2).1), (tkNum (tkId st).2).2)
def many {α : Type} (one : Rd → α × Rd) : Nat → Rd → List α × Rd
  | 0, st => ([], st)
  | n + 1, st => ((many one n st).1 ++ [(one (many one n st).2).1], (one (many one n st).2).2)
def tkAll {α : Type} (one : Rd → α × Rd) (most : Int) (st : Rd) : List α × Rd := many one (By.numF st most).1.toNat (By.numF st most).2
def tkRow (st : Rd) : (ByteArray × List At) × Rd := (((tkId st).1, (tkAll tkAt 64 (tkId st).2).1), (tkAll tkAt 64 (tkId st).2).2)
def tkKnown (st : Rd) : (ByteArray × (Int × List Int)) × Rd :=
  (((tkId st).1, ((tkNum (tkId st).2).1, (tkAll tkNum 4096 (tkNum (tkId st).2).2).1)), (tkAll tkNum 4096 (tkNum (tkId st).2).2).2)
theorem many_len {α : Type} (one : Rd → α × Rd) : ∀ (n : Nat) (st : Rd), (many one n st).1.length = n
  | 0, _ => rfl
  | n + 1, st => by show ((many one n st).1 ++ [_]).length = _; rw [List.length_append, many_len one n st]; rfl
theorem num_count (st : Rd) (most : Int) (hm : 0 ≤ most) : ∃ k : Nat, (By.numF st most).1 = k ∧ (k : Int) ≤ most := by
  have := By.num_le st most
  exact ⟨(By.numF st most).1.toNat, by omega, by omega⟩

theorem rnum_rdr {R g N : Nat} {st : Rd} (most : Int) (w : World) (h : Rdr w R g N st) : Calls Tryz.prog 123 #[.pointer (some ⟨R, 0, none⟩), .int .i64 most] w (RdT (.int .i64 (By.numF st most).1) R g N (By.numF st most).2 w) :=
  (By.num_any most w h.rd).mono fun _ _ k => ⟨k.1, h.on k.2.1 k.2.2.1 By.num_rest, k.2.2.1⟩
theorem rtext_rdr {R g N : Nat} {st : Rd} (most : Int) (w : World) (h : Rdr w R g N st) : Calls Tryz.prog 173 #[.pointer (some ⟨R, 0, none⟩), .int .i64 most] w (RdT (.string ⟨(By.textF st most).1.toArray⟩) R g N (By.textF st most).2 w) :=
  (By.text_any most w h.rd).mono fun _ _ k => ⟨k.1, h.on k.2.1 k.2.2.1 By.text_rest, k.2.2.1⟩
theorem ritem_rdr {R g N : Nat} {st : Rd} (w : World) (h : Rdr w R g N st) : Calls Tryz.prog 193 #[.pointer (some ⟨R, 0, none⟩)] w (RdT (.tuple #[By.itmV (if By.okI st then By.rawI st else By.zeroI), .bool (By.okI st)]) R g N (By.tkE st) w) :=
  (By.take_any w h.rd).mono fun _ _ k => ⟨k.1, h.on k.2.1 k.2.2 take_rest, k.2.2⟩
set_option maxRecDepth 100000 in
theorem takeId_any {R g N : Nat} {st : Rd} (w : World) (h : Rdr w R g N st) : Calls Tryz.prog 124 #[.pointer (some ⟨R, 0, none⟩)] w (RdT (.string (tkId st).1) R g N ((tkId st).2) w) := by
  have HC := Lib.hid (rtext_rdr 6 w h)
  clear h
  go_enter Tryz.func124, Tryz.ntmps124
  go_wp2_with fail
  refine HC.out.mono ?_
  rintro e w1 ⟨rfl, h1, h2⟩
  have H1 := Lib.hid h1
  have H2 := Lib.hid h2
  clear h1 h2
  go_wp2
  go_ret
  exact ⟨rfl, H1.out, H2.out⟩
set_option maxRecDepth 100000 in
theorem takeNum_any {R g N : Nat} {st : Rd} (w : World) (h : Rdr w R g N st) : Calls Tryz.prog 129 #[.pointer (some ⟨R, 0, none⟩)] w (RdT (.int .i64 (tkNum st).1) R g N ((tkNum st).2) w) := by
  have HC := Lib.hid (rnum_rdr 1048576 w h)
  clear h
  go_enter Tryz.func129, Tryz.ntmps129
  go_wp2_with fail
  refine HC.out.mono ?_
  rintro e w1 ⟨rfl, h1, h2⟩
  have H1 := Lib.hid h1
  have H2 := Lib.hid h2
  clear h1 h2
  go_wp2
  go_ret
  exact ⟨rfl, H1.out, H2.out⟩
set_option maxRecDepth 100000 in
set_option maxHeartbeats 2000000 in
theorem takeAt_any {R g N : Nat} {st : Rd} (w : World) (h : Rdr w R g N st) : Calls Tryz.prog 126 #[.pointer (some ⟨R, 0, none⟩)] w (RdT (.agg #[.string (tkAt st).1.1, .int .i64 (tkAt st).1.2]) R g N (tkAt st).2 w) := by
  have HR := Lib.hid (h.below ((Below.refl _ _).alloc (Nat.le_refl _) (.cells #[.string ⟨#[]⟩, .int .i64 0] 95)))
  have hRlt := h.lt
  have hle := h.le
  have HG : Hid (w.grownBy (w.alloc (.cells #[.string ⟨#[]⟩, .int .i64 0] 95)) (some R)) := By.grown_alloc w _ _
  clear h
  go_enter Tryz.func126, Tryz.ntmps126
  go_upto_region 1 with fail
  have k0 : (w.alloc (.cells #[.string ⟨#[]⟩, .int .i64 0] 95)).cell? ⟨w.heap.size, 0, none⟩ = some (.string ⟨#[]⟩) := by simp [go_sem]
  have kf0 : (w.alloc (.cells #[.string ⟨#[]⟩, .int .i64 0] 95)).frozen? ⟨w.heap.size, 0, none⟩ = false := by simp [go_sem]
  have k1 : (w.alloc (.cells #[.string ⟨#[]⟩, .int .i64 0] 95)).cell? ⟨w.heap.size, 1, none⟩ = some (.int .i64 0) := by simp [go_sem]
  have kf1 : (w.alloc (.cells #[.string ⟨#[]⟩, .int .i64 0] 95)).frozen? ⟨w.heap.size, 1, none⟩ = false := by simp [go_sem]
  have kz : w.heap.size < (w.alloc (.cells #[.string ⟨#[]⟩, .int .i64 0] 95)).heap.size := by simp <;> omega
  have HN : Hid (some w.heap.size ≠ (some R : Option Nat)) := fun e => by injection e with e; omega
  have hP : w.heap.size < (w.alloc (.cells #[.string ⟨#[]⟩, .int .i64 0] 95)).heap.size := by simp
  generalize (w.alloc (.cells #[.string ⟨#[]⟩, .int .i64 0] 95)) = W0 at *
  generalize hPP : w.heap.size = P at *
  go_wp2_with fail
  refine (takeId_any _ (by exact HR.out)).mono ?_
  rintro e w1 ⟨rfl, hr, hg⟩
  replace k0 := (hg.cell_far ⟨P, 0, none⟩ kz HN.out).trans k0
  replace kf0 := (hg.frozen_far ⟨P, 0, none⟩ kz HN.out).trans kf0
  replace k1 := (hg.cell_far ⟨P, 1, none⟩ kz HN.out).trans k1
  replace kf1 := (hg.frozen_far ⟨P, 1, none⟩ kz HN.out).trans kf1
  replace kz := Nat.lt_of_lt_of_le kz hg.size
  have HR1 := Lib.hid hr
  replace HG := Lib.hid (HG.out.trans hg)
  clear hr hg HR
  go_wp2_with fail
  refine (takeNum_any _ (by exact HR1.out)).mono ?_
  rintro e w2 ⟨rfl, hr, hg⟩
  replace k0 := (hg.cell_far ⟨P, 0, none⟩ kz HN.out).trans k0
  replace kf0 := (hg.frozen_far ⟨P, 0, none⟩ kz HN.out).trans kf0
  replace k1 := (hg.cell_far ⟨P, 1, none⟩ kz HN.out).trans k1
  replace kf1 := (hg.frozen_far ⟨P, 1, none⟩ kz HN.out).trans kf1
  replace kz := Nat.lt_of_lt_of_le kz hg.size
  have HR2 := Lib.hid hr
  replace HG := Lib.hid (HG.out.trans hg)
  clear hr hg HR1
  
  go_wp2
  refine bodyPost_ret (v := .agg #[.string (tkId st).1, .int .i64 (tkNum (tkId st).2).1]) ?_ rfl ?_
  · simp [results, Tryz.results126, go_sem, k0, k1]
  · exact ⟨rfl, ((HR2.out.set (p := ⟨P, _, none⟩) (by show N ≤ P; omega) _).set (p := ⟨P, _, none⟩) (by show N ≤ P; omega) _), (By.grown_own (By.grown_own HG.out (by show _ ≤ P; omega) _) (by show _ ≤ P; omega) _)⟩
def TkRow {α : Type} (cf : α → List Value) (d : Nat) (e : TypeId) (l : List α) (R g N : Nat) (st : Rd) (w : World) (en : Ending) (w' : World) : Prop :=
  ∃ A c, en = .returned (.slice A l.length c) ∧ w'.ownsRow w.heap.size e d (.slice A l.length c) l.length (rowCells cf l) ∧ Rdr w' R g N st ∧ w.grownBy w' (some R)
def cellsA (x : At) : List Value := [.string x.1, .int .i64 x.2]
def cellsN (x : Int) : List Value := [.int .i64 x]
theorem cellsA_one (x : At) : ∀ u ∈ cellsA x, u.oneCell' = true := by
  intro u hu
  simp only [cellsA, List.mem_cons, List.not_mem_nil, or_false] at hu
  rcases hu with rfl | rfl <;> rfl
theorem cellsN_one (x : Int) : ∀ u ∈ cellsN x, u.oneCell' = true := by
  intro u hu
  simp only [cellsN, List.mem_singleton] at hu
  subst hu; rfl
theorem tyA : RowTy cellsA 2 24 (.agg #[.string ⟨#[]⟩, .int .i64 0]) 37 95 := ⟨Tryz.underlying37, by kernel_rfl, rfl, by omega, by omega, fun _ => rfl, cellsA_one⟩
theorem tyN : RowTy cellsN 1 8 (.int .i64 0) 65 3 := ⟨Tryz.underlying65, by kernel_rfl, rfl, by omega, by omega, fun _ => rfl, cellsN_one⟩
theorem tyK : RowTy Kn.cellsH 3 48 Kn.zeroH 34 100 := ⟨Tryz.underlying34, by kernel_rfl, rfl, by omega, by omega, fun _ => rfl, Kn.cellsH_one⟩
theorem tyR : RowTy Mx.cellsH 2 40 Mx.zeroH 39 105 := ⟨Tryz.underlying39, by kernel_rfl, rfl, by omega, by omega, fun _ => rfl, Mx.cellsH_one⟩
theorem intRow (zs : List Int) : rowCells cellsN zs = zs.map (.int .i64) := by
  induction zs with
  | nil => rfl
  | cons x r ih => show [_] ++ rowCells cellsN r = _; rw [ih]; rfl
set_option maxRecDepth 100000 in
set_option maxHeartbeats 2000000 in
theorem takeAllAt_any {R g N : Nat} {st : Rd} (most : Int) (hm : 0 ≤ most) (hm2 : most ≤ 5000) (w : World) (h : Rdr w R g N st) :
    Calls Tryz.prog 125 #[.pointer (some ⟨R, 0, none⟩), .int .i64 most, .func (.func 126) #[] #[]] w (TkRow cellsA 2 95 (tkAll tkAt most st).1 R g N (tkAll tkAt most st).2 w) := by
  obtain ⟨n, hn, hnm⟩ := num_count st most hm
  have HC := Lib.hid (rnum_rdr most w h)
  have hRlt := h.lt
  have hle := h.le
  clear h
  rw [hn] at HC
  have HT : Hid (tkAll tkAt most st = many tkAt n (By.numF st most).2) := by show tkAll tkAt most st = _; unfold tkAll; rw [hn]; rfl
  generalize (By.numF st most).2 = s0 at *
  clear hn
  go_enter Tryz.func125, Tryz.ntmps125
  go_wp2_with fail
  refine HC.out.mono ?_
  rintro e w1 ⟨rfl, hr, hg⟩
  have HR := Lib.hid hr
  have HG := Lib.hid hg
  clear hr hg HC
  go_wp2
  go_loopw [7, 11] (fun v i wr => ∃ (k : Nat) (A : Option Addr) (c : Nat), k ≤ n ∧ i = .int .i64 k ∧ v = .slice A k c ∧ Hid (wr.ownsRow w.heap.size 95 2 (.slice A k c) k (rowCells cellsA (many tkAt k s0).1)) ∧ Hid (Rdr wr R g N (many tkAt k s0).2) ∧ Hid (w.grownBy wr (some R))) (fun _ i _ => n - (intOf i).toNat)
  case atStart => exact ⟨0, none, 0, by omega, rfl, rfl, rown_nil _ _, HR, HG⟩
  case round =>
    clear HR HG
    obtain ⟨k, A, c, hk, rfl, rfl, HO, HR, HG⟩ := hrel
    by_cases hlt : k < n
    · have hi1 : (k : Int) < (n : Int) := by omega
      have hS : many tkAt (k + 1) s0 = ((many tkAt k s0).1 ++ [(tkAt (many tkAt k s0).2).1], (tkAt (many tkAt k s0).2).2) := rfl
      have HS := Lib.hid hS
      clear hS
      have HK := Lib.hid (many_len tkAt k s0)
      generalize many tkAt k s0 = M0 at *
      obtain ⟨l0, t0⟩ := M0
      simp only at HO HR HS HK
      have HC := Lib.hid (takeAt_any _ HR.out)
      go_wp2_with fail
      refine HC.out.mono ?_
      rintro e w2 ⟨rfl, hr, hg⟩
      have HR2 := Lib.hid hr
      have HO2 := Lib.hid (own_read HO.out (by omega) hg)
      have HG2 := Lib.hid (HG.out.trans hg)
      clear hr hg HC HR HO HG
      generalize hX : (tkAt t0).1 = X at *
      generalize (tkAt t0).2 = t1 at *
      have HX : Hid (RowAt cellsA 2 (w2.alloc (.cells #[.string X.1, .int .i64 X.2] 95)) (w2.heap.size + 1) (some ⟨w2.heap.size, 0, none⟩) 1 [X]) := one_row tyA (heap_alloc_new w2 _)
      have hb2 : Below w2.heap.size w2 (w2.alloc (.cells #[.string X.1, .int .i64 X.2] 95)) := (Below.refl _ _).alloc (Nat.le_refl _) _
      have HO3 := Lib.hid (rown_below HO2.out hb2)
      have HR3 := Lib.hid (HR2.out.below hb2)
      have HG3 := Lib.hid (HG2.out.trans (By.grown_of_below hb2 _))
      clear HR2 HO2 HG2 hb2
      have hsz := HG3.out.size
      go_wp2_with (at_builtin; refine wpList_append_row tyA (B := w.heap.size) (B' := w2.heap.size + 1) (v := .slice A k c) (n := k) (zs := l0) (A := some ⟨w2.heap.size, 0, none⟩) (m := 1) (c := 1) (ys := [X]) rfl _ _ rfl rfl HO3.out rfl HX.out (by omega) (by exact hsz) ?_; intro A3 c3 w3 hown3 hg3 _; have HR4 := Lib.hid (HR3.out.grown hg3 (fun b e => Nat.le_trans hle (HO3.out.lt b e).1)); have HG4 := Lib.hid (grown_row HG3.out hg3 (fun b e => (HO3.out.lt b e).1)); have HO4 := Lib.hid hown3; clear hown3 hg3 HO3 HR3 HG3 HX)
      go_roundw
      case rel =>
        refine ⟨k + 1, A3, c3, by omega, by go_num, rfl, ?_, ?_, HG4⟩
        · rw [HS.out]; exact HO4
        · rw [HS.out]; exact HR4
      case measure => simp [intOf]; omega
    · obtain rfl : k = n := by omega
      have hi1 : ¬ (k : Int) < k := by omega
      go_wp2
      go_ret
      have hl := many_len tkAt k s0
      rw [HT.out]
      refine ⟨A, c, by rw [hl]; rfl, by rw [hl]; exact HO.out, HR.out, HG.out⟩
set_option maxRecDepth 100000 in
set_option maxHeartbeats 2000000 in
theorem takeAllNum_any {R g N : Nat} {st : Rd} (most : Int) (hm : 0 ≤ most) (hm2 : most ≤ 5000) (w : World) (h : Rdr w R g N st) :
    Calls Tryz.prog 174 #[.pointer (some ⟨R, 0, none⟩), .int .i64 most, .func (.func 129) #[] #[]] w (TkRow cellsN 1 3 (tkAll tkNum most st).1 R g N (tkAll tkNum most st).2 w) := by
  obtain ⟨n, hn, hnm⟩ := num_count st most hm
  have HC := Lib.hid (rnum_rdr most w h)
  have hRlt := h.lt
  have hle := h.le
  clear h
  rw [hn] at HC
  have HT : Hid (tkAll tkNum most st = many tkNum n (By.numF st most).2) := by show tkAll tkNum most st = _; unfold tkAll; rw [hn]; rfl
  generalize (By.numF st most).2 = s0 at *
  clear hn
  go_enter Tryz.func174, Tryz.ntmps174
  go_wp2_with fail
  refine HC.out.mono ?_
  rintro e w1 ⟨rfl, hr, hg⟩
  have HR := Lib.hid hr
  have HG := Lib.hid hg
  clear hr hg HC
  go_wp2
  go_loopw [7, 11] (fun v i wr => ∃ (k : Nat) (A : Option Addr) (c : Nat), k ≤ n ∧ i = .int .i64 k ∧ v = .slice A k c ∧ Hid (wr.ownsRow w.heap.size 3 1 (.slice A k c) k (rowCells cellsN (many tkNum k s0).1)) ∧ Hid (Rdr wr R g N (many tkNum k s0).2) ∧ Hid (w.grownBy wr (some R))) (fun _ i _ => n - (intOf i).toNat)
  case atStart => exact ⟨0, none, 0, by omega, rfl, rfl, rown_nil _ _, HR, HG⟩
  case round =>
    clear HR HG
    obtain ⟨k, A, c, hk, rfl, rfl, HO, HR, HG⟩ := hrel
    by_cases hlt : k < n
    · have hi1 : (k : Int) < (n : Int) := by omega
      have hS : many tkNum (k + 1) s0 = ((many tkNum k s0).1 ++ [(tkNum (many tkNum k s0).2).1], (tkNum (many tkNum k s0).2).2) := rfl
      have HS := Lib.hid hS
      clear hS
      have HK := Lib.hid (many_len tkNum k s0)
      generalize many tkNum k s0 = M0 at *
      obtain ⟨l0, t0⟩ := M0
      simp only at HO HR HS HK
      have HC := Lib.hid (takeNum_any _ HR.out)
      go_wp2_with fail
      refine HC.out.mono ?_
      rintro e w2 ⟨rfl, hr, hg⟩
      have HR2 := Lib.hid hr
      have HO2 := Lib.hid (own_read HO.out (by omega) hg)
      have HG2 := Lib.hid (HG.out.trans hg)
      clear hr hg HC HR HO HG
      generalize hX : (tkNum t0).1 = X at *
      generalize (tkNum t0).2 = t1 at *
      have HX : Hid (RowAt cellsN 1 (w2.alloc (.cells #[.int .i64 X] 3)) (w2.heap.size + 1) (some ⟨w2.heap.size, 0, none⟩) 1 [X]) := one_row tyN (heap_alloc_new w2 _)
      have hb2 : Below w2.heap.size w2 (w2.alloc (.cells #[.int .i64 X] 3)) := (Below.refl _ _).alloc (Nat.le_refl _) _
      have HO3 := Lib.hid (rown_below HO2.out hb2)
      have HR3 := Lib.hid (HR2.out.below hb2)
      have HG3 := Lib.hid (HG2.out.trans (By.grown_of_below hb2 _))
      clear HR2 HO2 HG2 hb2
      have hsz := HG3.out.size
      go_wp2_with (at_builtin; refine wpList_append_row tyN (B := w.heap.size) (B' := w2.heap.size + 1) (v := .slice A k c) (n := k) (zs := l0) (A := some ⟨w2.heap.size, 0, none⟩) (m := 1) (c := 1) (ys := [X]) rfl _ _ rfl rfl HO3.out rfl HX.out (by omega) (by exact hsz) ?_; intro A3 c3 w3 hown3 hg3 _; have HR4 := Lib.hid (HR3.out.grown hg3 (fun b e => Nat.le_trans hle (HO3.out.lt b e).1)); have HG4 := Lib.hid (grown_row HG3.out hg3 (fun b e => (HO3.out.lt b e).1)); have HO4 := Lib.hid hown3; clear hown3 hg3 HO3 HR3 HG3 HX)
      go_roundw
      case rel =>
        refine ⟨k + 1, A3, c3, by omega, by go_num, rfl, ?_, ?_, HG4⟩
        · rw [HS.out]; exact HO4
        · rw [HS.out]; exact HR4
      case measure => simp [intOf]; omega
    · obtain rfl : k = n := by omega
      have hi1 : ¬ (k : Int) < k := by omega
      go_wp2
      go_ret
      have hl := many_len tkNum k s0
      rw [HT.out]
      refine ⟨A, c, by rw [hl]; rfl, by rw [hl]; exact HO.out, HR.out, HG.out⟩
set_option maxRecDepth 100000 in
set_option maxHeartbeats 2000000 in
theorem takeAllId_any {R g N : Nat} {st : Rd} (most : Int) (hm : 0 ≤ most) (hm2 : most ≤ 5000) (w : World) (h : Rdr w R g N st) :
    Calls Tryz.prog 130 #[.pointer (some ⟨R, 0, none⟩), .int .i64 most, .func (.func 124) #[] #[]] w (TkRow cellsT 1 33 (tkAll tkId most st).1 R g N (tkAll tkId most st).2 w) := by
  obtain ⟨n, hn, hnm⟩ := num_count st most hm
  have HC := Lib.hid (rnum_rdr most w h)
  have hRlt := h.lt
  have hle := h.le
  clear h
  rw [hn] at HC
  have HT : Hid (tkAll tkId most st = many tkId n (By.numF st most).2) := by show tkAll tkId most st = _; unfold tkAll; rw [hn]; rfl
  generalize (By.numF st most).2 = s0 at *
  clear hn
  go_enter Tryz.func130, Tryz.ntmps130
  go_wp2_with fail
  refine HC.out.mono ?_
  rintro e w1 ⟨rfl, hr, hg⟩
  have HR := Lib.hid hr
  have HG := Lib.hid hg
  clear hr hg HC
  go_wp2
  go_loopw [7, 11] (fun v i wr => ∃ (k : Nat) (A : Option Addr) (c : Nat), k ≤ n ∧ i = .int .i64 k ∧ v = .slice A k c ∧ Hid (wr.ownsRow w.heap.size 33 1 (.slice A k c) k (rowCells cellsT (many tkId k s0).1)) ∧ Hid (Rdr wr R g N (many tkId k s0).2) ∧ Hid (w.grownBy wr (some R))) (fun _ i _ => n - (intOf i).toNat)
  case atStart => exact ⟨0, none, 0, by omega, rfl, rfl, rown_nil _ _, HR, HG⟩
  case round =>
    clear HR HG
    obtain ⟨k, A, c, hk, rfl, rfl, HO, HR, HG⟩ := hrel
    by_cases hlt : k < n
    · have hi1 : (k : Int) < (n : Int) := by omega
      have hS : many tkId (k + 1) s0 = ((many tkId k s0).1 ++ [(tkId (many tkId k s0).2).1], (tkId (many tkId k s0).2).2) := rfl
      have HS := Lib.hid hS
      clear hS
      have HK := Lib.hid (many_len tkId k s0)
      generalize many tkId k s0 = M0 at *
      obtain ⟨l0, t0⟩ := M0
      simp only at HO HR HS HK
      have HC := Lib.hid (takeId_any _ HR.out)
      go_wp2_with fail
      refine HC.out.mono ?_
      rintro e w2 ⟨rfl, hr, hg⟩
      have HR2 := Lib.hid hr
      have HO2 := Lib.hid (own_read HO.out (by omega) hg)
      have HG2 := Lib.hid (HG.out.trans hg)
      clear hr hg HC HR HO HG
      generalize hX : (tkId t0).1 = X at *
      generalize (tkId t0).2 = t1 at *
      have HX : Hid (RowAt cellsT 1 (w2.alloc (.cells #[.string X] 33)) (w2.heap.size + 1) (some ⟨w2.heap.size, 0, none⟩) 1 [X]) := one_row rowT (heap_alloc_new w2 _)
      have hb2 : Below w2.heap.size w2 (w2.alloc (.cells #[.string X] 33)) := (Below.refl _ _).alloc (Nat.le_refl _) _
      have HO3 := Lib.hid (rown_below HO2.out hb2)
      have HR3 := Lib.hid (HR2.out.below hb2)
      have HG3 := Lib.hid (HG2.out.trans (By.grown_of_below hb2 _))
      clear HR2 HO2 HG2 hb2
      have hsz := HG3.out.size
      go_wp2_with (at_builtin; refine wpList_append_row rowT (B := w.heap.size) (B' := w2.heap.size + 1) (v := .slice A k c) (n := k) (zs := l0) (A := some ⟨w2.heap.size, 0, none⟩) (m := 1) (c := 1) (ys := [X]) rfl _ _ rfl rfl HO3.out rfl HX.out (by omega) (by exact hsz) ?_; intro A3 c3 w3 hown3 hg3 _; have HR4 := Lib.hid (HR3.out.grown hg3 (fun b e => Nat.le_trans hle (HO3.out.lt b e).1)); have HG4 := Lib.hid (grown_row HG3.out hg3 (fun b e => (HO3.out.lt b e).1)); have HO4 := Lib.hid hown3; clear hown3 hg3 HO3 HR3 HG3 HX)
      go_roundw
      case rel =>
        refine ⟨k + 1, A3, c3, by omega, by go_num, rfl, ?_, ?_, HG4⟩
        · rw [HS.out]; exact HO4
        · rw [HS.out]; exact HR4
      case measure => simp [intOf]; omega
    · obtain rfl : k = n := by omega
      have hi1 : ¬ (k : Int) < k := by omega
      go_wp2
      go_ret
      have hl := many_len tkId k s0
      rw [HT.out]
      refine ⟨A, c, by rw [hl]; rfl, by rw [hl]; exact HO.out, HR.out, HG.out⟩
end Go.Proofs.YtbookbgfipbaoaaGreatDoor
