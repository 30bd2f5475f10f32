/- Plain mathematics of Vecs: a rising row of numbers from 1 on is told by how far each one is; Join, Meet, Drop and put in these words. -/
import Derived.Test.YtbookbgfipbaoaaGreatDoorH4
import Derived.Laws.StructEq
import Derived.Test.YtbookbgfipbaoaaGreatDoorH2
import Derived.Test.YtbookbgfipbaoaaGreatDoorRows
import Derived.WalkKit
import Derived.WalkSpells
import Derived.WalkLawsBesides
import Derived.BigQuiet
import Derived.Deep.QuietTactic
import Derived.Lib.Hide
import Derived.Maps.AppendAt
import Derived.Deep.RegionLaw
import Derived.Deep.RegionHeld3
import Derived.Deep.DeepCutAuto
import Derived.Deep.RegionWith
namespace Go.Proofs.YtbookbgfipbaoaaGreatDoor

def Pos (zs : List At) : Prop := ∀ x ∈ zs, 1 ≤ x.2
theorem ofF_nonneg {zs : List At} (h : Pos zs) (a : ByteArray) : 0 ≤ ofF zs a := by
  induction zs with
  | nil => exact Int.le_refl _
  | cons x r ih =>
    unfold ofF
    split
    · have := h x (by simp); omega
    · exact ih fun y hy => h y (by simp [hy])
theorem ofF_ahead {y : At} {ys : List At} (h : Rising (y :: ys)) {a : ByteArray} (ha : cmpId a y.1 < 0) : ofF (y :: ys) a = 0 := by
  apply ofF_none
  rintro z hz rfl
  rcases List.mem_cons.mp hz with rfl | hz
  · rw [cmpId_self] at ha; omega
  · have h1 := (List.pairwise_cons.mp h).1 z hz
    have := cmpId_lt _ _ _ ha (show cmpId y.1 z.1 ≤ 0 by omega)
    rw [cmpId_self] at this; omega
theorem ofF_tail {x : At} {xs : List At} (h : Rising (x :: xs)) : ofF xs x.1 = 0 := by
  apply ofF_none
  intro z hz e
  have h1 := (List.pairwise_cons.mp h).1 z hz
  rw [e, cmpId_self] at h1; omega
theorem ofF_head (x : At) (xs : List At) : ofF (x :: xs) x.1 = x.2 := by unfold ofF; rw [if_pos rfl]
theorem ofF_cons_ne {x : At} {xs : List At} {a : ByteArray} (h : x.1 ≠ a) : ofF (x :: xs) a = ofF xs a := by rw [ofF, if_neg h]

/-- Two rising rows of numbers from 1 on in which each one is as far are the same. -/
theorem vec_ext : ∀ {xs ys : List At}, Rising xs → Rising ys → Pos xs → Pos ys → (∀ a, ofF xs a = ofF ys a) → xs = ys
  | [], [], _, _, _, _, _ => rfl
  | [], y :: ys, _, _, _, py, h => by
    have := h y.1
    rw [ofF_head] at this
    have := py y (by simp)
    simp only [ofF] at *
    omega
  | x :: xs, [], _, _, px, _, h => by
    have := h x.1
    rw [ofF_head] at this
    have := px x (by simp)
    simp only [ofF] at *
    omega
  | x :: xs, y :: ys, hx, hy, px, py, h => by
    have p1 := px x (by simp)
    have p2 := py y (by simp)
    have h1 := h x.1
    have h2 := h y.1
    rw [ofF_head] at h1 h2
    rcases cmpId_three x.1 y.1 with c | c | c
    · rw [ofF_ahead hy (by omega)] at h1; omega
    · have e := (cmpId_zero _ _).mp c
      rw [e, ofF_head] at h1
      have exy : x = y := Prod.ext e h1
      subst exy
      congr 1
      refine vec_ext hx.tail hy.tail px.tail py.tail fun a => ?_
      by_cases ha : x.1 = a
      · rw [← ha, ofF_tail hx, ofF_tail hy]
      · have := h a
        rwa [ofF_cons_ne ha, ofF_cons_ne ha] at this
    · have c' := cmpId_neg x.1 y.1
      rw [ofF_ahead hx (by omega)] at h2; omega

theorem mem_join : ∀ (xs ys : List At) {z : At}, z ∈ joinF xs ys → z ∈ xs ∨ z ∈ ys ∨ ∃ x ∈ xs, ∃ y ∈ ys, x.1 = y.1 ∧ z = (x.1, max x.2 y.2)
  | [], ys, z, h => by rw [joinF] at h; exact Or.inr (Or.inl h)
  | x :: xs, [], z, h => by rw [joinF_nil] at h; exact Or.inl h
  | x :: xs, y :: ys, z, h => by
    rcases cmpId_three x.1 y.1 with c | c | c
    · rw [joinF_lt (by omega)] at h
      rcases List.mem_cons.mp h with rfl | h
      · exact Or.inl (by simp)
      · rcases mem_join xs (y :: ys) h with h | h | ⟨u, hu, v, hv, e⟩
        · exact Or.inl (by simp [h])
        · exact Or.inr (Or.inl h)
        · exact Or.inr (Or.inr ⟨u, by simp [hu], v, hv, e⟩)
    · rw [joinF_eq c] at h
      rcases List.mem_cons.mp h with rfl | h
      · exact Or.inr (Or.inr ⟨x, by simp, y, by simp, (cmpId_zero _ _).mp c, rfl⟩)
      · rcases mem_join xs ys h with h | h | ⟨u, hu, v, hv, e⟩
        · exact Or.inl (by simp [h])
        · exact Or.inr (Or.inl (by simp [h]))
        · exact Or.inr (Or.inr ⟨u, by simp [hu], v, by simp [hv], e⟩)
    · rw [joinF_gt (by omega)] at h
      rcases List.mem_cons.mp h with rfl | h
      · exact Or.inr (Or.inl (by simp))
      · rcases mem_join (x :: xs) ys h with h | h | ⟨u, hu, v, hv, e⟩
        · exact Or.inl h
        · exact Or.inr (Or.inl (by simp [h]))
        · exact Or.inr (Or.inr ⟨u, hu, v, by simp [hv], e⟩)
  termination_by xs ys => xs.length + ys.length
theorem join_id {xs ys : List At} {z : At} (h : z ∈ joinF xs ys) : (∃ x ∈ xs, x.1 = z.1) ∨ ∃ y ∈ ys, y.1 = z.1 := by
  rcases mem_join xs ys h with h | h | ⟨u, hu, v, hv, e, rfl⟩
  · exact Or.inl ⟨z, h, rfl⟩
  · exact Or.inr ⟨z, h, rfl⟩
  · exact Or.inl ⟨u, hu, rfl⟩
theorem rising_join : ∀ {xs ys : List At}, Rising xs → Rising ys → Rising (joinF xs ys)
  | [], ys, _, hy => by rw [joinF]; exact hy
  | x :: xs, [], hx, _ => by rw [joinF_nil]; exact hx
  | x :: xs, y :: ys, hx, hy => by
    have hx1 := (List.pairwise_cons.mp hx).1
    have hy1 := (List.pairwise_cons.mp hy).1
    rcases cmpId_three x.1 y.1 with c | c | c
    · rw [joinF_lt (by omega)]
      refine List.pairwise_cons.mpr ⟨fun z hz => ?_, rising_join hx.tail hy⟩
      rcases join_id hz with ⟨u, hu, e⟩ | ⟨u, hu, e⟩
      · rw [← e]; exact hx1 u hu
      · rw [← e]
        rcases List.mem_cons.mp hu with rfl | hu
        · omega
        · exact cmpId_lt _ _ _ (show cmpId x.1 y.1 < 0 by omega) (by have := hy1 u hu; omega)
    · rw [joinF_eq c]
      have e := (cmpId_zero _ _).mp c
      refine List.pairwise_cons.mpr ⟨fun z hz => ?_, rising_join hx.tail hy.tail⟩
      rcases join_id hz with ⟨u, hu, e2⟩ | ⟨u, hu, e2⟩
      · rw [← e2]; exact hx1 u hu
      · rw [← e2]; show cmpId x.1 u.1 < 0; rw [e]; exact hy1 u hu
    · rw [joinF_gt (by omega)]
      have c' := cmpId_neg x.1 y.1
      refine List.pairwise_cons.mpr ⟨fun z hz => ?_, rising_join hx hy.tail⟩
      rcases join_id hz with ⟨u, hu, e⟩ | ⟨u, hu, e⟩
      · rw [← e]
        rcases List.mem_cons.mp hu with rfl | hu
        · omega
        · exact cmpId_lt _ _ _ (show cmpId y.1 x.1 < 0 by omega) (by have := hx1 u hu; omega)
      · rw [← e]; exact hy1 u hu
  termination_by xs ys => xs.length + ys.length
theorem pos_join {xs ys : List At} (px : Pos xs) (py : Pos ys) : Pos (joinF xs ys) := fun z hz => by
  rcases mem_join xs ys hz with h | h | ⟨u, hu, v, hv, _, rfl⟩
  · exact px z h
  · exact py z h
  · have := px u hu; show 1 ≤ max u.2 v.2; omega
theorem ofF_join : ∀ {xs ys : List At}, Rising xs → Rising ys → Pos xs → Pos ys → ∀ a, ofF (joinF xs ys) a = max (ofF xs a) (ofF ys a)
  | [], ys, _, _, _, py, a => by rw [joinF]; have := ofF_nonneg py a; simp only [ofF]; omega
  | x :: xs, [], _, _, px, _, a => by rw [joinF_nil]; have := ofF_nonneg px a; simp only [ofF] at *; omega
  | x :: xs, y :: ys, hx, hy, px, py, a => by
    have p1 := px x (by simp)
    have p2 := py y (by simp)
    rcases cmpId_three x.1 y.1 with c | c | c
    · rw [joinF_lt (by omega)]
      by_cases ha : x.1 = a
      · subst ha
        rw [ofF_head, ofF_head, ofF_ahead hy (by omega)]; omega
      · rw [ofF_cons_ne ha, ofF_cons_ne ha, ofF_join hx.tail hy px.tail py a]
    · rw [joinF_eq c]
      have e := (cmpId_zero _ _).mp c
      by_cases ha : x.1 = a
      · subst ha
        rw [ofF, if_pos rfl, ofF_head, e, ofF_head]
      · rw [ofF_cons_ne (x := (x.1, max x.2 y.2)) ha, ofF_cons_ne ha, ofF_cons_ne (show y.1 ≠ a by rw [← e]; exact ha), ofF_join hx.tail hy.tail px.tail py.tail a]
    · rw [joinF_gt (by omega)]
      have c' := cmpId_neg x.1 y.1
      by_cases ha : y.1 = a
      · subst ha
        rw [ofF_head, ofF_head, ofF_ahead hx (by omega)]; omega
      · rw [ofF_cons_ne ha, ofF_cons_ne (x := y) ha, ofF_join hx hy.tail px py.tail a]
  termination_by xs ys => xs.length + ys.length
theorem join_len : ∀ (xs ys : List At), (joinF xs ys).length ≤ xs.length + ys.length
  | [], ys => by rw [joinF]; simp
  | x :: xs, [] => by rw [joinF_nil]; simp
  | x :: xs, y :: ys => by
    rcases cmpId_three x.1 y.1 with c | c | c
    · rw [joinF_lt (by omega)]; have := join_len xs (y :: ys); simp at this ⊢; omega
    · rw [joinF_eq c]; have := join_len xs ys; simp at this ⊢; omega
    · rw [joinF_gt (by omega)]; have := join_len (x :: xs) ys; simp at this ⊢; omega
  termination_by xs ys => xs.length + ys.length

theorem rising_drop {zs : List At} (h : Rising zs) (a : ByteArray) : Rising (dropF zs a) := List.Pairwise.filter _ h
theorem pos_drop {zs : List At} (h : Pos zs) (a : ByteArray) : Pos (dropF zs a) := fun x hx => h x (List.mem_filter.mp hx).1
theorem drop_ne {zs : List At} {a : ByteArray} {x : At} (h : x ∈ dropF zs a) : x.1 ≠ a := by
  have := (List.mem_filter.mp h).2; simpa using this
theorem ofF_drop (zs : List At) (a b : ByteArray) : ofF (dropF zs a) b = if b = a then 0 else ofF zs b := by
  by_cases e : b = a
  · subst e; rw [if_pos rfl]; exact ofF_none fun x hx => drop_ne hx
  · rw [if_neg e]
    induction zs with
    | nil => rfl
    | cons x r ih =>
      by_cases hx : x.1 = a
      · rw [dropF, List.filter_cons, if_neg (by simpa using hx), ofF_cons_ne (fun h => e (h.symm.trans hx))]; exact ih
      · rw [dropF, List.filter_cons, if_pos (by simpa using hx)]
        by_cases hb : x.1 = b
        · rw [ofF, if_pos hb, ofF, if_pos hb]
        · rw [ofF_cons_ne hb, ofF_cons_ne hb]; exact ih

/-- One is just so far. -/
def putV (zs : List At) (a : ByteArray) (z : Int) : List At := if z < 1 then dropF zs a else joinF (dropF zs a) [(a, z)]
theorem rising_one (x : At) : Rising [x] := List.pairwise_singleton _ _
theorem pos_one {x : At} (h : 1 ≤ x.2) : Pos [x] := fun y hy => by simp at hy; subst hy; exact h
theorem rising_put {zs : List At} (h : Rising zs) (a : ByteArray) (z : Int) : Rising (putV zs a z) := by
  unfold putV; split
  · exact rising_drop h a
  · exact rising_join (rising_drop h a) (rising_one _)
theorem pos_put {zs : List At} (h : Pos zs) (a : ByteArray) (z : Int) : Pos (putV zs a z) := by
  unfold putV; split
  · exact pos_drop h a
  · exact pos_join (pos_drop h a) (pos_one (by show 1 ≤ z; omega))
theorem ofF_put {zs : List At} (h : Rising zs) (p : Pos zs) (a : ByteArray) (z : Int) (b : ByteArray) : ofF (putV zs a z) b = if b = a then max z 0 else ofF zs b := by
  unfold putV
  split
  · rw [ofF_drop]; split <;> omega
  · rw [ofF_join (rising_drop h a) (rising_one _) (pos_drop p a) (pos_one (by show 1 ≤ z; omega)), ofF_drop]
    by_cases e : b = a
    · subst e; rw [if_pos rfl, if_pos rfl, ofF, if_pos rfl]; omega
    · rw [if_neg e, if_neg e, ofF_cons_ne (fun h => e h.symm)]
      have := ofF_nonneg p b
      simp only [ofF]; omega
theorem ofF_split (pre post : List At) (x : At) (b : ByteArray) (h : ∀ y ∈ pre ++ post, y.1 ≠ x.1) : ofF (pre ++ x :: post) b = if b = x.1 then x.2 else ofF (pre ++ post) b := by
  induction pre with
  | nil =>
    simp only [List.nil_append]
    by_cases e : b = x.1
    · subst e; rw [if_pos rfl, ofF_head]
    · rw [if_neg e, ofF_cons_ne (fun h => e h.symm)]
  | cons y r ih =>
    have hy := h y (by simp)
    have ih' := ih fun z hz => h z (by simp at hz ⊢; exact Or.inr hz)
    rw [List.cons_append, List.cons_append]
    by_cases hb : y.1 = b
    · rw [ofF, if_pos hb, ofF, if_pos hb, if_neg (fun e => hy (hb.trans e))]
    · rw [ofF_cons_ne hb, ofF_cons_ne hb]; exact ih'
/-- What put leaves of a rising row. -/
theorem put_is {zs : List At} {a : ByteArray} {z : Int} {r : List At} (h : Rising zs) (p : Pos zs) (hz : 1 ≤ z) (hr : PutIs (dropF zs a) (a, z) r) : r = putV zs a z := by
  obtain ⟨pre, post, hd, rfl, hpost, hlast⟩ := hr
  have hR := rising_drop h a
  have hP := pos_drop p a
  have hne : ∀ y ∈ pre ++ post, y.1 ≠ a := fun y hy => by rw [hd] at hy; exact drop_ne hy
  rw [← hd] at hR hP
  have hR2 := List.pairwise_append.mp hR
  refine vec_ext ?_ (rising_put h a z) ?_ (pos_put p a z) fun b => ?_
  · refine List.pairwise_append.mpr ⟨hR2.1, List.pairwise_cons.mpr ⟨fun y hy => ?_, hR2.2.1⟩, fun y hy v hv => ?_⟩
    · have h1 : 0 < cmpId y.1 a := hpost y hy
      have h2 := cmpId_neg y.1 a
      show cmpId a y.1 < 0
      omega
    · rcases List.mem_cons.mp hv with rfl | hv
      · show cmpId y.1 a < 0
        rcases List.eq_nil_or_concat pre with e | ⟨p', l, e⟩
        · subst e; simp at hy
        · rw [List.concat_eq_append] at e
          subst e
          have h1 : cmpId l.1 a ≤ 0 := hlast l (by simp)
          have h2 : cmpId l.1 a ≠ 0 := fun e => hne l (by simp) ((cmpId_zero _ _).mp e)
          rcases List.mem_append.mp hy with hy | hy
          · have h3 := (List.pairwise_append.mp hR2.1).2.2 y hy l (by simp)
            exact cmpId_lt _ _ _ h3 h1
          · simp at hy; subst hy; omega
      · exact hR2.2.2 y hy v hv
  · intro y hy
    rcases List.mem_append.mp hy with hy | hy
    · exact hP y (by simp [hy])
    · rcases List.mem_cons.mp hy with rfl | hy
      · exact hz
      · exact hP y (by simp [hy])
  · rw [ofF_put h p, ofF_split _ _ _ _ hne, hd, ofF_drop]
    by_cases e : b = a
    · subst e; rw [if_pos rfl, if_pos rfl]; show z = max z 0; omega
    · rw [if_neg e, if_neg e, if_neg e]

theorem within_iff {xs ys : List At} (hx : Rising xs) (py : Pos ys) : withinF xs ys = true ↔ ∀ a, ofF xs a ≤ ofF ys a := by
  unfold withinF
  rw [List.all_eq_true]
  constructor
  · intro h a
    by_cases h0 : ofF xs a = 0
    · rw [h0]; exact ofF_nonneg py a
    · obtain ⟨x, hxm, rfl⟩ := ofF_pos h0
      rw [ofF_mem hx hxm]
      simpa using h x hxm
  · intro h x hxm
    have := h x.1
    rw [ofF_mem hx hxm] at this
    simpa using this

theorem right_iff (zs : List At) : rightV zs = true ↔ Rising zs ∧ ∀ x ∈ zs, okAt x = true := by
  rw [rightV_iff]
  constructor
  · intro h
    refine ⟨List.pairwise_iff_getElem.mpr fun i j hi hj hij => ?_, fun x hx => ?_⟩
    · have key : ∀ m, i + m + 1 < zs.length → cmpId (zs.getD i atNil).1 (zs.getD (i + m + 1) atNil).1 < 0 := by
        intro m
        induction m with
        | zero => intro hm; have := (h (i + 1) hm).2 (by omega); simpa using this
        | succ m ih =>
          intro hm
          have h1 := ih (by omega)
          have h2 := (h (i + (m + 1) + 1) hm).2 (by omega)
          exact cmpId_lt _ _ _ h1 (by rw [show i + (m + 1) + 1 - 1 = i + m + 1 by omega] at h2; omega)
      have := key (j - i - 1) (by omega)
      rw [show i + (j - i - 1) + 1 = j by omega] at this
      simpa [List.getD_eq_getElem?_getD, hi, hj] using this
    · obtain ⟨k, hk, e⟩ := mem_getD hx
      rw [← e]; exact (h k hk).1
  · rintro ⟨h1, h2⟩ j hj
    exact ⟨h2 _ (getD_mem hj), fun h0 => rising_lt h1 (j - 1) j (by omega) hj⟩
theorem okAt_pos {x : At} (h : okAt x = true) : 1 ≤ x.2 ∧ x.2 ≤ 1048576 ∧ rightL x.1.data.toList = true := by
  unfold okAt at h; simp at h; exact ⟨h.2.1, h.2.2, h.1⟩
end Go.Proofs.YtbookbgfipbaoaaGreatDoor

/- The document's put, Set and Within of a right Vec; the law's From. -/
namespace Go.Proofs.YtbookbgfipbaoaaGreatDoor
open Go.RowKit

/-- A Vec that may be. -/
def Good (zs : List At) : Prop := Rising zs ∧ ∀ x ∈ zs, okAt x = true
theorem good_iff (zs : List At) : rightV zs = true ↔ Good zs := right_iff zs
set_option maxRecDepth 100000 in
set_option maxHeartbeats 2000000 in
theorem put_any (A : Option Addr) (n c : Nat) (zs : List At) (a : ByteArray) (z : Int) (B : Nat) (w : World) (hB : B ≤ w.heap.size) (hz : VecAt w B A n zs) (hn : n ≤ 1000000) (hg : Good zs) :
    Calls Tryz.prog 116 #[.slice A n c, .string a, .int .i64 z] w (OwnVec w.heap.size 169 (putV zs a z) w) := by
  by_cases h1 : z < 1
  · have HZ := Lib.hid hz
    have HP : Hid (putV zs a z = dropF zs a) := if_pos h1
    rw [HP.out]
    clear hz hg HP
    go_enter Tryz.func116, Tryz.ntmps116
    go_wp2_with fail
    refine (rdrop_any A n c zs a B _ hB HZ.out (by omega)).mono ?_
    rintro e w1 ⟨A1, c1, rfl, hc1, ho1, hb1⟩
    go_wp2
    go_ret
    exact ⟨A1, c1, rfl, hc1, ho1, hb1⟩
  · refine (put_loop A n c zs a z B w hB hz hn (by omega) hg.short).mono ?_
    rintro e w1 ⟨r, hr, ho⟩
    rw [← put_is hg.1 hg.pos (by omega) hr]
    exact ho

theorem own_empty (w : World) (B : Nat) (e : TypeId) (hB : B ≤ w.heap.size) : (w.alloc (.cells #[] e)).ownsRow B e 2 (.slice (some ⟨w.heap.size, 0, none⟩) 0 0) 0 (atCells []) :=
  ⟨rfl, .inr ⟨w.heap.size, 0, #[], rfl, hB, heap_alloc_new w _, Nat.le_refl _, by unfold maxLen; omega, rfl, rfl⟩⟩

end Go.Proofs.YtbookbgfipbaoaaGreatDoor

/- The law's From; whether two Vecs are the same. -/
namespace Go.Proofs.YtbookbgfipbaoaaGreatDoor
open Go.RowKit

theorem fields_ref : Tryz.prog.fieldsOf 169 = #[{ name := "Id", type := 9, offset := 0, embedded := false, tag := "", pkgPath := "", byteOffset := 0 }, { name := "N", type := 3, offset := 1, embedded := false, tag := "", pkgPath := "", byteOffset := 16 }] := by
  unfold Program.fieldsOf
  rw [Tryz.underlying169]
theorem neq_ref (x y : At) (w : World) : (binOp .neq 169 (.agg #[.string x.1, .int .i64 x.2]) (.agg #[.string y.1, .int .i64 y.2])).run Tryz.prog w = .ok (.bool (!((x.1.toList == y.1.toList) && (x.2 == y.2)))) w := by
  rw [run_neq_struct, run_equalIn_struct w 9999 169 _ _ (by rw [fields_ref]; exact Tryz.underlying169) (by kernel_rfl), fields_ref]
  cases h1 : (x.1.toList == y.1.toList)
  · simp [Op.eqFields, go_sem, h1, Tryz.underlying9]
  · cases h2 : (x.2 == y.2)
    · simp [Op.eqFields, go_sem, h1, h2, Tryz.underlying9, Tryz.underlying3]
    · simp [Op.eqFields, go_sem, h1, h2, Tryz.underlying9, Tryz.underlying3]
theorem neq_same_ref (x : At) : ∀ W, (binOp .neq 169 (.agg #[.string x.1, .int .i64 x.2]) (.agg #[.string x.1, .int .i64 x.2])).run Tryz.prog W = .ok (.bool false) W := fun W => by
  rw [neq_ref x x W, beq_yes rfl]; simp
theorem neq_other_ref {x y : At} (h : ¬ x = y) : ∀ W, (binOp .neq 169 (.agg #[.string x.1, .int .i64 x.2]) (.agg #[.string y.1, .int .i64 y.2])).run Tryz.prog W = .ok (.bool true) W := fun W => by
  rw [neq_ref x y W]
  by_cases h1 : x.1 = y.1
  · have h2 : (x.2 == y.2) = false := by simp; exact fun e => h (Prod.ext h1 e)
    rw [beq_yes h1, h2]; rfl
  · rw [beq_no h1]; rfl
theorem guard_ref (op : BinOp) (p q : Operand) (xs ys : Array Value) (W : World) : (eqGuard op 169 p q (.agg xs) (.agg ys)).run Tryz.prog W = .ok () W := run_eqGuard_agg (P := Tryz.prog) W op 169 p q xs ys (by kernel_rfl)

theorem fields_vec : Tryz.prog.fieldsOf 95 = #[{ name := "Id", type := 33, offset := 0, embedded := false, tag := "", pkgPath := "", byteOffset := 0 }, { name := "N", type := 3, offset := 1, embedded := false, tag := "", pkgPath := "", byteOffset := 16 }] := by
  unfold Program.fieldsOf
  rw [Tryz.underlying95]
theorem neq_vec (x y : At) (w : World) : (binOp .neq 95 (.agg #[.string x.1, .int .i64 x.2]) (.agg #[.string y.1, .int .i64 y.2])).run Tryz.prog w = .ok (.bool (!((x.1.toList == y.1.toList) && (x.2 == y.2)))) w := by
  rw [run_neq_struct, run_equalIn_struct w 9999 95 _ _ (by rw [fields_vec]; exact Tryz.underlying95) (by kernel_rfl), fields_vec]
  cases h1 : (x.1.toList == y.1.toList)
  · simp [Op.eqFields, go_sem, h1, Tryz.underlying33]
  · cases h2 : (x.2 == y.2)
    · simp [Op.eqFields, go_sem, h1, h2, Tryz.underlying33, Tryz.underlying3]
    · simp [Op.eqFields, go_sem, h1, h2, Tryz.underlying33, Tryz.underlying3]
theorem neq_same_vec (x : At) : ∀ W, (binOp .neq 95 (.agg #[.string x.1, .int .i64 x.2]) (.agg #[.string x.1, .int .i64 x.2])).run Tryz.prog W = .ok (.bool false) W := fun W => by
  rw [neq_vec x x W, beq_yes rfl]; simp
theorem neq_other_vec {x y : At} (h : ¬ x = y) : ∀ W, (binOp .neq 95 (.agg #[.string x.1, .int .i64 x.2]) (.agg #[.string y.1, .int .i64 y.2])).run Tryz.prog W = .ok (.bool true) W := fun W => by
  rw [neq_vec x y W]
  by_cases h1 : x.1 = y.1
  · have h2 : (x.2 == y.2) = false := by simp; exact fun e => h (Prod.ext h1 e)
    rw [beq_yes h1, h2]; rfl
  · rw [beq_no h1]; rfl
theorem guard_vec (op : BinOp) (p q : Operand) (xs ys : Array Value) (W : World) : (eqGuard op 95 p q (.agg xs) (.agg ys)).run Tryz.prog W = .ok () W := run_eqGuard_agg (P := Tryz.prog) W op 95 p q xs ys (by kernel_rfl)

set_option maxRecDepth 100000 in
set_option maxHeartbeats 4000000 in
theorem rsame_any (A : Option Addr) (n c : Nat) (zs : List At) (A' : Option Addr) (n' c' : Nat) (ys : List At) (B : Nat) (w : World) (hz : VecAt w B A n zs) (hy : VecAt w B A' n' ys) (hn : n ≤ 1099511627776) (hn' : n' ≤ 1099511627776) :
    Calls Tryz.prog 76 #[.slice A n c, .slice A' n' c'] w fun e w' => e = .returned (.bool (decide (zs = ys))) ∧ Hid (Drawn w w') := by
  have hl : zs.length = n := hz.1
  have hl' : ys.length = n' := hy.1
  by_cases hnn : n = n'
  · subst hnn
    have HL := Lib.hid hl
    have HL' := Lib.hid hl'
    have HZ := Lib.hid hz
    have HY := Lib.hid hy
    clear hl hl' hz hy
    go_enter Tryz.func76, Tryz.ntmps76
    go_wp2
    go_loopw [5] (fun i wr => ∃ k : Nat, k ≤ n ∧ i = .int .i64 k ∧ Hid (zs.take k = ys.take k) ∧ Hid (Drawn w wr)) (fun i _ => n - (intOf i).toNat)
    case atStart => exact ⟨0, by omega, rfl, rfl, Drawn.refl w⟩
    case round =>
      obtain ⟨k, hk, rfl, HA, HD⟩ := hrel
      by_cases hlt : k < n
      · obtain ⟨b1, o1, rfl, hb1, hc1, hc2⟩ := HZ.out.cells (drawn_below HD.out B) (k := k) hlt
        obtain ⟨b2, o2, rfl, hb2, hd1, hd2⟩ := HY.out.cells (drawn_below HD.out B) (k := k) hlt
        have hi0 : (0 : Int) ≤ (k : Int) := by omega
        have hi1 : (k : Int) < (n : Int) := by omega
        have hkz : k < zs.length := by have := HL.out; omega
        have hky : k < ys.length := by have := HL'.out; omega
        by_cases he : zs.getD k atNil = ys.getD k atNil
        · have HN : Hid (zs.take (k + 1) = ys.take (k + 1)) := by show _ = _; rw [take_snoc hkz, take_snoc hky, HA.out, he]
          rw [← he] at hd1 hd2
          generalize zs.getD k atNil = x at hc1 hc2 hd1 hd2
          have hq := neq_same_ref x
          have hgu := guard_ref
          clear he hkz hky
          go_wp2_with fail
          go_quiet (fail)
          go_wp2
          go_roundw
          case rel => exact ⟨k + 1, by omega, by go_num, HN, HD.out.more _⟩
          case measure => simp [intOf]; omega
        · have HF : Hid (decide (zs = ys) = false) := decide_eq_false (fun e => he (by rw [e]))
          generalize zs.getD k atNil = x at hc1 hc2 he
          generalize ys.getD k atNil = y at hd1 hd2 he
          have hq := neq_other_ref he
          have hgu := guard_ref
          clear he hkz hky
          go_wp2_with fail
          go_quiet (fail)
          go_wp2
          go_ret
          exact ⟨ret_bool HF.out.symm, HD.out.more _⟩
      · have HF : Hid (decide (zs = ys) = true) := decide_eq_true (by
          have := HA.out
          rwa [List.take_of_length_le (by have := HL.out; omega), List.take_of_length_le (by have := HL'.out; omega)] at this)
        go_wp2
        go_ret
        exact ⟨ret_bool HF.out.symm, HD.out⟩
  · have HF : Hid (decide (zs = ys) = false) := decide_eq_false (fun e => hnn (by rw [← hl, ← hl', e]))
    have hne : ((n : Int) != (n' : Int)) = true := by simp; omega
    have hne' : (n != n') = true := by simp [hnn]
    clear hl hl' hz hy hnn
    go_enter Tryz.func76, Tryz.ntmps76
    go_wp2
    go_ret
    exact ⟨ret_bool HF.out.symm, Drawn.refl w⟩



set_option maxRecDepth 100000 in
set_option maxHeartbeats 4000000 in
theorem equal_any (A : Option Addr) (n c : Nat) (zs : List At) (A' : Option Addr) (n' c' : Nat) (ys : List At) (B : Nat) (w : World) (hz : VecAt w B A n zs) (hy : VecAt w B A' n' ys) (hn : n ≤ 1099511627776) (hn' : n' ≤ 1099511627776) :
    Calls Tryz.prog 136 #[.slice A n c, .slice A' n' c'] w fun e w' => e = .returned (.bool (decide (zs = ys))) ∧ Hid (Drawn w w') := by
  have hl : zs.length = n := hz.1
  have hl' : ys.length = n' := hy.1
  by_cases hnn : n = n'
  · subst hnn
    have HL := Lib.hid hl
    have HL' := Lib.hid hl'
    have HZ := Lib.hid hz
    have HY := Lib.hid hy
    clear hl hl' hz hy
    go_enter Tryz.func136, Tryz.ntmps136
    go_wp2
    go_loopw [13] (fun i wr => ∃ k : Nat, k ≤ n ∧ i = .int .i64 k ∧ Hid (zs.take k = ys.take k) ∧ Hid (Drawn w wr)) (fun i _ => n - (intOf i).toNat)
    case atStart => exact ⟨0, by omega, rfl, rfl, Drawn.refl w⟩
    case round =>
      obtain ⟨k, hk, rfl, HA, HD⟩ := hrel
      by_cases hlt : k < n
      · obtain ⟨b1, o1, rfl, hb1, hc1, hc2⟩ := HZ.out.cells (drawn_below HD.out B) (k := k) hlt
        obtain ⟨b2, o2, rfl, hb2, hd1, hd2⟩ := HY.out.cells (drawn_below HD.out B) (k := k) hlt
        have hi0 : (0 : Int) ≤ (k : Int) := by omega
        have hi1 : (k : Int) < (n : Int) := by omega
        have hkz : k < zs.length := by have := HL.out; omega
        have hky : k < ys.length := by have := HL'.out; omega
        by_cases he : zs.getD k atNil = ys.getD k atNil
        · have HN : Hid (zs.take (k + 1) = ys.take (k + 1)) := by show _ = _; rw [take_snoc hkz, take_snoc hky, HA.out, he]
          rw [← he] at hd1 hd2
          generalize zs.getD k atNil = x at hc1 hc2 hd1 hd2
          have hq := neq_same_vec x
          have hgu := guard_vec
          clear he hkz hky
          go_wp2_with fail
          go_quiet (fail)
          go_wp2
          go_roundw
          case rel => exact ⟨k + 1, by omega, by go_num, HN, HD.out.more _⟩
          case measure => simp [intOf]; omega
        · have HF : Hid (decide (zs = ys) = false) := decide_eq_false (fun e => he (by rw [e]))
          generalize zs.getD k atNil = x at hc1 hc2 he
          generalize ys.getD k atNil = y at hd1 hd2 he
          have hq := neq_other_vec he
          have hgu := guard_vec
          clear he hkz hky
          go_wp2_with fail
          go_quiet (fail)
          go_wp2
          go_ret
          exact ⟨ret_bool HF.out.symm, HD.out.more _⟩
      · have HF : Hid (decide (zs = ys) = true) := decide_eq_true (by
          have := HA.out
          rwa [List.take_of_length_le (by have := HL.out; omega), List.take_of_length_le (by have := HL'.out; omega)] at this)
        go_wp2
        go_ret
        exact ⟨ret_bool HF.out.symm, HD.out⟩
  · have HF : Hid (decide (zs = ys) = false) := decide_eq_false (fun e => hnn (by rw [← hl, ← hl', e]))
    have hne : ((n : Int) != (n' : Int)) = true := by simp; omega
    have hne' : (n != n') = true := by simp [hnn]
    clear hl hl' hz hy hnn
    go_enter Tryz.func136, Tryz.ntmps136
    go_wp2
    go_ret
    exact ⟨ret_bool HF.out.symm, Drawn.refl w⟩

set_option maxHeartbeats 1000000 in
theorem same_any (A : Option Addr) (n c : Nat) (zs : List At) (A' : Option Addr) (n' c' : Nat) (ys : List At) (B : Nat) (w : World) (hz : VecAt w B A n zs) (hy : VecAt w B A' n' ys) (hn : n ≤ 1099511627776) (hn' : n' ≤ 1099511627776) :
    Calls Tryz.prog 70 #[.slice A n c, .slice A' n' c'] w fun e w' => e = .returned (.bool (decide (zs = ys))) ∧ Hid (Drawn w w') := by
  have HZ := Lib.hid hz
  have HY := Lib.hid hy
  clear hz hy
  go_enter Tryz.func70, Tryz.ntmps70
  go_wp2_with fail
  refine (equal_any A n c zs A' n' c' ys B _ HZ.out HY.out hn hn').mono ?_
  rintro e w1 ⟨rfl, hd⟩
  go_wp2
  go_ret
  exact ⟨rfl, hd⟩
end Go.Proofs.YtbookbgfipbaoaaGreatDoor

/- The document's Fix: a name out of any text. -/
namespace Go.Proofs.YtbookbgfipbaoaaGreatDoor
open Go.RowKit

end Go.Proofs.YtbookbgfipbaoaaGreatDoor

/- The document's Fix, Join and Meet of Vecs. -/
namespace Go.Proofs.YtbookbgfipbaoaaGreatDoor
open Go.RowKit

end Go.Proofs.YtbookbgfipbaoaaGreatDoor

/- The document's Join and Meet of Vecs that may be. -/
namespace Go.Proofs.YtbookbgfipbaoaaGreatDoor
open Go.RowKit

end Go.Proofs.YtbookbgfipbaoaaGreatDoor

/- Rows that are at hand, all together. -/
namespace Go.Proofs.YtbookbgfipbaoaaGreatDoor
open Go.RowKit

end Go.Proofs.YtbookbgfipbaoaaGreatDoor

/- The span package's small functions: what each call answers (First, Count, Top). -/
namespace Go.Proofs.YtbookbgfipbaoaaGreatDoor.Sp
open Go.RowKit

/-- In w the slice (A, n) holds the numbers zs, in a block below B. -/
def IntsAt (w : World) (B : Nat) (A : Option Addr) (n : Nat) (zs : List Int) : Prop :=
  zs.length = n ∧ (0 < n → ∃ b off, A = some ⟨b, off, none⟩ ∧ b < B ∧ ∀ k, k < n → w.cell? ⟨b, off + k, none⟩ = some (.int .i64 (zs.getD k 0)))

theorem IntsAt.nil (w : World) (B : Nat) (A : Option Addr) : IntsAt w B A 0 [] := ⟨rfl, fun h => absurd h (by omega)⟩
theorem IntsAt.keep {w w' : World} {B : Nat} {A : Option Addr} {n : Nat} {zs : List Int} (h : IntsAt w B A n zs) (hb : Below B w w') : IntsAt w' B A n zs :=
  ⟨h.1, fun hn => by
    obtain ⟨b, off, e, hlt, hc⟩ := h.2 hn
    exact ⟨b, off, e, hlt, fun k hk => (hb.cell (p := ⟨b, off + k, none⟩) hlt).trans (hc k hk)⟩⟩
theorem IntsAt.more {w : World} {B B' : Nat} {A : Option Addr} {n : Nat} {zs : List Int} (h : IntsAt w B A n zs) (hB : B ≤ B') : IntsAt w B' A n zs :=
  ⟨h.1, fun hn => by
    obtain ⟨b, off, e, hlt, hc⟩ := h.2 hn
    exact ⟨b, off, e, by omega, hc⟩⟩

theorem ret_bool {a b : Bool} (h : a = b) : Ending.returned (.bool a) = .returned (.bool b) := by rw [h]

set_option maxRecDepth 100000 in
set_option maxHeartbeats 400000 in
theorem count_any (u : Int) (A : Option Addr) (n c : Nat) (w : World) (h0 : 0 ≤ u) (h1 : u ≤ 1048576) (hn : n ≤ 1099511627776) :
    Calls Tryz.prog 149 #[.agg #[.int .i64 u, .slice A n c]] w fun e w' => e = .returned (.int .i64 (u + n)) ∧ Below w.heap.size w w' := by
  go_enter Tryz.func149, Tryz.ntmps149
  go_wp2
  go_ret
  exact ⟨rfl, (Below.refl _ _).alloc (Nat.le_refl _) _⟩

end Go.Proofs.YtbookbgfipbaoaaGreatDoor.Sp

/- The library's binary search over rising numbers, and span.Has. -/
namespace Go.Proofs.YtbookbgfipbaoaaGreatDoor.Sp
open Go.RowKit

end Go.Proofs.YtbookbgfipbaoaaGreatDoor.Sp

/- span.push and span.pushAll: a Span that is being made, whose Extra is a row of the call's own. -/
namespace Go.Proofs.YtbookbgfipbaoaaGreatDoor.Sp
open Go.RowKit

/-- Where a row lies behind a call: where it lay, or in a block that is new. -/
def Lies (v : Value) (row : Option Nat) (H : Nat) : Prop := v.ownBlock = row ∨ ∃ k, v.ownBlock = some k ∧ H ≤ k

/-- The answer is the Span s; its Extra lies in a row of the call's own, from block B on; nothing else that was there has turned. -/
def OwnSpan (B : Nat) (row : Option Nat) (s : Int × List Int) (w : World) (e : Ending) (w' : World) : Prop :=
  ∃ A c, e = .returned (.agg #[.int .i64 s.1, .slice A s.2.length c]) ∧ w'.ownsRow B 3 1 (.slice A s.2.length c) s.2.length (s.2.map (.int .i64)) ∧ w.grownBy w' row ∧ Lies (.slice A s.2.length c) row w.heap.size

theorem grown_of_below {w w' : World} (h : Below w.heap.size w w') (row : Option Nat) : w.grownBy w' row := ⟨h.os, h.tape, h.output, h.size, fun k hk _ => h.block k hk⟩
theorem own_form {w : World} {B : Nat} {v : Value} {n : Nat} {xs : List Value} (h : w.ownsRow B 3 1 v n xs) : ∃ A c, v = .slice A n c := by
  rcases h.2 with ⟨rfl, rfl⟩ | ⟨g, cap, _, rfl, _⟩
  · exact ⟨none, 0, rfl⟩
  · exact ⟨_, cap, rfl⟩

theorem own_ints {w : World} {B : Nat} {A : Option Addr} {n c : Nat} {zs : List Int} (h : w.ownsRow B 3 1 (.slice A n c) n (zs.map (.int .i64))) : IntsAt w w.heap.size A n zs := by
  have hl : zs.length = n := by have := h.1; simpa using this
  refine ⟨hl, fun hn => ?_⟩
  have hh := h
  rcases h.2 with ⟨_, rfl⟩ | ⟨g, cap, cur, e, hB, hg, hnc, _, hs, ht⟩
  · omega
  · injection e with e1 e2 e3
    subst e1 e3
    refine ⟨g, 0, rfl, (hh.lt g rfl).2, fun k hk => ?_⟩
    rw [Nat.zero_add]
    rw [hh.cellAt k (by omega), List.getElem?_map, List.getElem?_eq_getElem (show k < zs.length by omega)]
    simp [List.getD_eq_getElem?_getD, List.getElem?_eq_getElem (show k < zs.length by omega)]

theorem grown_cell {w w' : World} {row : Option Nat} (hg : w.grownBy w' row) {b : Nat} (o : Nat) (hb : b < w.heap.size) (hne : some b ≠ row) :
    w'.cell? ⟨b, o, none⟩ = w.cell? ⟨b, o, none⟩ ∧ w'.frozen? ⟨b, o, none⟩ = w.frozen? ⟨b, o, none⟩ :=
  ⟨World.cell?_of_block (a := ⟨b, o, none⟩) (hg.block b hb hne), World.frozen?_of_block (a := ⟨b, o, none⟩) (hg.block b hb hne)⟩

theorem Tryz.info3 : (Tryz.prog.info? 3).map (fun i => (i.zero, i.size, i.bytes)) = some (some (.int .i64 0), 1, 8) := by kernel_rfl

theorem addr_add (b o j : Nat) : (⟨b, o, none⟩ : Addr).add j = ⟨b, o + j, none⟩ := by unfold Addr.add; split <;> simp_all

theorem ints_cell {w : World} {B : Nat} {ad : Addr} {m : Nat} {ys : List Int} (h : IntsAt w B (some ad) m ys) : ∀ j u, (ys.map (Value.int .i64))[j]? = some u → w.cell? (ad.add j) = some u := by
  intro j u hu
  rw [List.getElem?_map] at hu
  rcases Nat.lt_or_ge j ys.length with hj | hj
  · obtain ⟨b, off, e, _, hc⟩ := h.2 (by have := h.1; omega)
    injection e with e
    subst e
    have h1 := hc j (by have := h.1; omega)
    rw [List.getElem?_eq_getElem hj] at hu
    simp only [Option.map_some, Option.some.injEq] at hu
    subst hu
    rw [addr_add]
    simpa [List.getD_eq_getElem?_getD, List.getElem?_eq_getElem hj] using h1
  · rw [List.getElem?_eq_none hj] at hu
    simp at hu

theorem run_append_ints {ty : TypeId} {w : World} {B B' : Nat} {v : Value} {n : Nat} {zs : List Int} (hown : w.ownsRow B 3 1 v n (zs.map (.int .i64))) {A : Option Addr} {m : Nat} {ys : List Int} (c : Nat)
    (hr : IntsAt w B' A m ys) (hb : n + m ≤ 8796093022208) (hB : B ≤ w.heap.size) :
    ∃ v' w', (Builtin.append_ #[65, 65] ty #[v, .slice A m c]).run Tryz.prog w = .ok v' w' ∧ w'.ownsRow B 3 1 v' (n + m) ((zs ++ ys).map (.int .i64)) ∧ w.grownBy w' v.ownBlock ∧ (v'.ownBlock = v.ownBlock ∨ v'.ownBlock = some w.heap.size) := by
  obtain ⟨i, hi, hz0, hz1, hz2⟩ := info_parts Tryz.info3
  rcases A with _ | ad
  · have hm : m = 0 := by
      rcases Nat.eq_zero_or_pos m with h0 | h0
      · exact h0
      · obtain ⟨_, _, h, _⟩ := hr.2 h0
        cases h
    subst hm
    have hy : ys = [] := List.eq_nil_of_length_eq_zero hr.1
    subst hy
    refine ⟨v, w, ?_, by simpa using hown, World.grownBy.refl w _, .inl rfl⟩
    rcases hown.2 with ⟨rfl, rfl⟩ | ⟨g, cap, cur, rfl, _, _, hnc, _⟩
    · simp [Builtin.append_, run_underlying Tryz.underlying65, sizeOf, typeInfo, hi, Builtin.lenOf, Builtin.firstCells]
    · simp [Builtin.append_, run_underlying Tryz.underlying65, sizeOf, typeInfo, hi, Builtin.lenOf, Builtin.firstCells, hnc, storeCells]
  · obtain ⟨v', w', hrun, h2, h3, _, h5⟩ := run_append_own_at (P := Tryz.prog) w B 65 ty 3 i (.int .i64 0) 1 8 Tryz.underlying65 hi hz0 hz1 hz2 rfl (by decide) v n _ hown ad m c (ys.map (.int .i64)) (by simpa using hr.1) (ints_cell hr)
      (fun u hu => by simp only [List.mem_map] at hu; obtain ⟨_, _, rfl⟩ := hu; rfl) (by unfold maxLen; omega) (by omega) hB
    exact ⟨v', w', hrun, by simpa using h2, h3, h5⟩

theorem wp_append_ints {o : Oper} {a : Act} {K : Act → World → Prop} {Q : Exit → Act → World → Prop} (s x : Operand) (ho : o.op = .call { callee := .builtin .append, args := #[s, x], argTypes := #[65, 65] })
    {w : World} {B B' : Nat} {v : Value} {n : Nat} {zs : List Int} (hs : a.eval s = v) (hown : w.ownsRow B 3 1 v n (zs.map (.int .i64))) {A : Option Addr} {m : Nat} {ys : List Int} {c : Nat} (hx : a.eval x = .slice A m c)
    (hr : IntsAt w B' A m ys) (hb : n + m ≤ 8796093022208) (hB : B ≤ w.heap.size)
    (h : ∀ A' c' w', w'.ownsRow B 3 1 (.slice A' (n + m) c') (n + m) ((zs ++ ys).map (.int .i64)) → w.grownBy w' v.ownBlock → (Value.ownBlock (.slice A' (n + m) c') = v.ownBlock ∨ Value.ownBlock (.slice A' (n + m) c') = some w.heap.size) → K (a.put o.dst (.slice A' (n + m) c')) w') : o.wp Tryz.prog a w K Q := by
  obtain ⟨v', w', hrun, h2, h3, h4⟩ := run_append_ints (ty := o.type) hown c hr hb hB
  obtain ⟨A', c', rfl⟩ := own_form h2
  unfold Oper.wp execOp
  simp only [ho, resolve, invoke, builtin, Sem.run_bind, Sem.run_pure, Result.andThen_ok, List.map_toArray, List.map_cons, List.map_nil, hs, hx, hrun]
  exact h A' c' w' h2 h3 h4

theorem step_append_ints {ops : Array Oper} {o : Oper} {a : Act} {K : Act → World → Prop} {Q : Exit → Act → World → Prop} {E : Prop} (hgd : o.guard = none) (s x : Operand) (ho : o.op = .call { callee := .builtin .append, args := #[s, x], argTypes := #[65, 65] })
    {w : World} {B B' : Nat} {v : Value} {n : Nat} {zs : List Int} (hs : a.eval s = v) (hown : w.ownsRow B 3 1 v n (zs.map (.int .i64))) {A : Option Addr} {m : Nat} {ys : List Int} {c : Nat} (hx : a.eval x = .slice A m c)
    (hr : IntsAt w B' A m ys) (hb : n + m ≤ 8796093022208) (hB : B ≤ w.heap.size)
    (h : ∀ A' c' w', w'.ownsRow B 3 1 (.slice A' (n + m) c') (n + m) ((zs ++ ys).map (.int .i64)) → w.grownBy w' v.ownBlock → (Value.ownBlock (.slice A' (n + m) c') = v.ownBlock ∨ Value.ownBlock (.slice A' (n + m) c') = some w.heap.size) → K (a.put o.dst (.slice A' (n + m) c')) w') :
    if Region.wanted o (yielded ops a.tmps) = true then Oper.wp Tryz.prog o a w K Q else E := by
  have hw : Region.wanted o (yielded ops a.tmps) = true := by simp [Region.wanted, hgd]
  rw [if_pos hw]
  exact wp_append_ints s x ho hs hown hx hr hb hB h

theorem own_setCell {w : World} {B : Nat} {v : Value} {n : Nat} {xs : List Value} (h : w.ownsRow B 3 1 v n xs) {p : Addr} (hp : v.ownBlock ≠ some p.block) (u : Value) : (w.setCell p u).ownsRow B 3 1 v n xs :=
  h.kept (row := some p.block) ⟨rfl, rfl, rfl, by simp [World.setCell], fun k _ hk => Below.heap_setCell w p u k (fun e => hk (by rw [e]))⟩ (.inr hp)

theorem ownSpan_of {B : Nat} {row : Option Nat} {w w' : World} {A : Option Addr} {n c : Nat} {u : Int} {zs : List Int} {s : Int × List Int} (hs : s = (u, zs)) (hl : zs.length = n)
    (hown : w'.ownsRow B 3 1 (.slice A n c) n (zs.map (.int .i64))) (hg : w.grownBy w' row) (hlie : Lies (.slice A n c) row w.heap.size) : OwnSpan B row s w (.returned (.agg #[.int .i64 u, .slice A n c])) w' := by
  subst hs
  subst hl
  exact ⟨A, c, rfl, hown, hg, hlie⟩

end Go.Proofs.YtbookbgfipbaoaaGreatDoor.Sp

/- span.pushAll: push, number by number. -/
namespace Go.Proofs.YtbookbgfipbaoaaGreatDoor.Sp
open Go.RowKit

end Go.Proofs.YtbookbgfipbaoaaGreatDoor.Sp

/- span.Union: the merge of two, pushed. -/
namespace Go.Proofs.YtbookbgfipbaoaaGreatDoor.Sp
open Go.RowKit

theorem own_base {w : World} {B B' : Nat} {v : Value} {n : Nat} {xs : List Value} (h : w.ownsRow B 3 1 v n xs) (hB : B' ≤ B) : w.ownsRow B' 3 1 v n xs := by
  obtain ⟨h1, h2⟩ := h
  refine ⟨h1, ?_⟩
  rcases h2 with h2 | ⟨g, cap, cur, hv, hg, r⟩
  · exact .inl h2
  · exact .inr ⟨g, cap, cur, hv, by omega, r⟩

theorem lies_own {w : World} {B : Nat} {v : Value} {n : Nat} {xs : List Value} (h : w.ownsRow B 3 1 v n xs) {H : Nat} (hH : H ≤ B) : Lies v none H := by
  rcases e : v.ownBlock with _ | k
  · exact .inl e
  · exact .inr ⟨k, e, Nat.le_trans hH (h.lt k e).1⟩

end Go.Proofs.YtbookbgfipbaoaaGreatDoor.Sp

/- span.Add of a number that may be; the law's own little check 'told'. -/
namespace Go.Proofs.YtbookbgfipbaoaaGreatDoor.Sp
open Go.RowKit

end Go.Proofs.YtbookbgfipbaoaaGreatDoor.Sp

/- Spans as sets of numbers: plain facts on lists and integers, no program in them. -/
namespace Go.Proofs.YtbookbgfipbaoaaGreatDoor.Sp

end Go.Proofs.YtbookbgfipbaoaaGreatDoor.Sp

/- The law's To and From: a Span told in the other package's type, its Extra copied. -/
namespace Go.Proofs.YtbookbgfipbaoaaGreatDoor.Sp
open Go.RowKit

theorem empty_own (w : World) (B g : Nat) (hg : w.heap.size = g) (hB : B ≤ g) : (w.alloc (Obj.cells #[] 3)).drew.ownsRow B 3 1 (.slice (some ⟨g, 0, none⟩) 0 0) 0 (([] : List Int).map (.int .i64)) := by
  subst hg
  exact ⟨rfl, .inr ⟨w.heap.size, 0, #[], rfl, hB, heap_alloc_new w _, Nat.le_refl _, Nat.zero_le _, rfl, rfl⟩⟩

set_option maxRecDepth 100000 in
set_option maxHeartbeats 1000000 in
theorem to_any (u : Int) (A : Option Addr) (n c : Nat) (zs : List Int) (B : Nat) (w : World) (hB : B ≤ w.heap.size) (hz : IntsAt w B A n zs) (hn : n ≤ 1073741824) :
    Calls Tryz.prog 99 #[.agg #[.int .i64 u, .slice A n c]] w (OwnSpan w.heap.size none (u, zs) w) := by
  have hb0 : Below w.heap.size w (((w.alloc (Obj.cells #[Value.int IntKind.i64 u, Value.slice A n c] 67)).alloc (Obj.cells #[Value.int IntKind.i64 0, Value.slice none 0 0] 98)).alloc (Obj.cells #[] 3)).drew := ((((Below.refl _ _).alloc (Nat.le_refl _) _).alloc (by simp) _).alloc (by simp; omega) _).drew
  have hO : (((w.alloc (Obj.cells #[Value.int IntKind.i64 u, Value.slice A n c] 67)).alloc (Obj.cells #[Value.int IntKind.i64 0, Value.slice none 0 0] 98)).alloc (Obj.cells #[] 3)).drew.ownsRow (w.heap.size + 2) 3 1 (.slice (some ⟨w.heap.size + 2, 0, none⟩) 0 0) 0 (([] : List Int).map (.int .i64)) := empty_own _ _ _ (by simp) (Nat.le_refl _)
  have HR : Hid (IntsAt (((w.alloc (Obj.cells #[Value.int IntKind.i64 u, Value.slice A n c] 67)).alloc (Obj.cells #[Value.int IntKind.i64 0, Value.slice none 0 0] 98)).alloc (Obj.cells #[] 3)).drew B A n zs) := hz.keep (hb0.mono hB)
  have hl : zs.length = n := hz.1
  have HL := Lib.hid hl
  have HO := Lib.hid hO
  have HB0 := Lib.hid hb0
  clear hz hO hb0 hl
  go_enter Tryz.func99, Tryz.ntmps99
  go_wp2
  go_region_law
    (first
      | (refine step_append_ints (w := (((w.alloc (Obj.cells #[Value.int IntKind.i64 u, Value.slice A n c] 67)).alloc (Obj.cells #[Value.int IntKind.i64 0, Value.slice none 0 0] 98)).alloc (Obj.cells #[] 3)).drew) (B := w.heap.size + 2) (B' := B) (v := .slice (some ⟨w.heap.size + 2, 0, none⟩) 0 0) (n := 0) (zs := []) (A := A) (m := n) (c := c) (ys := zs) rfl _ _ rfl rfl HO.out rfl HR.out ?_ ?_ ?_
         · omega
         · simp
         intro A3 c3 w3 hown3 hg3 _
         have hne : ∀ k, k < w.heap.size + 2 → some k ≠ Value.ownBlock (.slice (some ⟨w.heap.size + 2, 0, none⟩) 0 0) := fun k hk e => by simp only [Value.ownBlock, Option.some.injEq] at e; omega
         have k00 : w3.cell? ⟨w.heap.size, 0, none⟩ = some (.int .i64 u) := (grown_cell hg3 0 (by simp; omega) (hne _ (by omega))).1.trans (by simp [go_sem])
         have k01 : w3.cell? ⟨w.heap.size, 1, none⟩ = some (.slice A n c) := (grown_cell hg3 1 (by simp; omega) (hne _ (by omega))).1.trans (by simp [go_sem])
         have k10 : w3.cell? ⟨w.heap.size + 1, 0, none⟩ = some (.int .i64 0) := (grown_cell hg3 0 (by simp) (hne _ (by omega))).1.trans (by simp [go_sem])
         have k11 : w3.cell? ⟨w.heap.size + 1, 1, none⟩ = some (.slice none 0 0) := (grown_cell hg3 1 (by simp) (hne _ (by omega))).1.trans (by simp [go_sem])
         have f10 : w3.frozen? ⟨w.heap.size + 1, 0, none⟩ = false := (grown_cell hg3 0 (by simp) (hne _ (by omega))).2.trans (by simp [go_sem])
         have f11 : w3.frozen? ⟨w.heap.size + 1, 1, none⟩ = false := (grown_cell hg3 1 (by simp) (hne _ (by omega))).2.trans (by simp [go_sem])
         have HB3 : Hid (Below w.heap.size w w3) := HB0.out.grown hg3 (by simp; omega) (fun k hk => by simp only [Value.ownBlock, Option.some.injEq] at hk; omega)
         have HO3 := Lib.hid hown3
         clear hown3 hg3 hne))
  all_goals
    go_wp2
    refine bodyPost_ret (v := .agg #[.int .i64 u, .slice A3 n c3]) ?_ rfl ?_
    · simp [results, Tryz.results99, go_sem, k10, k11]
    · have hO4 := HO3.out
      rw [Nat.zero_add, List.nil_append] at hO4
      have hn4 : Value.ownBlock (.slice A3 n c3) ≠ some (w.heap.size + 1) := fun e => by have := (hO4.lt _ e).1; omega
      exact ownSpan_of rfl HL.out (own_base (own_setCell (own_setCell hO4 (p := ⟨w.heap.size + 1, 0, none⟩) hn4 _) (p := ⟨w.heap.size + 1, 1, none⟩) hn4 _) (by omega)) (grown_of_below ((HB3.out.setCell (by simp) _).setCell (by simp) _) _) (lies_own hO4 (by omega))

end Go.Proofs.YtbookbgfipbaoaaGreatDoor.Sp

/- span.Right and the document's: whether a Span may be. -/
namespace Go.Proofs.YtbookbgfipbaoaaGreatDoor.Sp
open Go.RowKit

def chainB (b : Int) : List Int → Bool
  | [] => true
  | z :: t => decide (b < z ∧ z ≤ 1048576) && chainB z t
def rightF (u : Int) (zs : List Int) : Bool := decide (0 ≤ u ∧ u ≤ 1048576 ∧ zs.length ≤ 4096) && chainB (u + 1) zs

theorem drop_next (zs : List Int) (k : Nat) (h : k < zs.length) : zs.drop k = zs.getD k 0 :: zs.drop (k + 1) := by
  rw [List.drop_eq_getElem_cons h]
  simp [List.getD_eq_getElem?_getD, List.getElem?_eq_getElem h]

theorem chain_step {b : Int} {zs : List Int} {k : Nat} (h : k < zs.length) : chainB b (zs.drop k) = (decide (b < zs.getD k 0 ∧ zs.getD k 0 ≤ 1048576) && chainB (zs.getD k 0) (zs.drop (k + 1))) := by
  rw [drop_next zs k h]; rfl

set_option maxRecDepth 100000 in
set_option maxHeartbeats 1000000 in
theorem right_any (u : Int) (A : Option Addr) (n c : Nat) (zs : List Int) (B : Nat) (w : World) (hB : B ≤ w.heap.size) (hz : IntsAt w B A n zs) (hn : n ≤ 1073741824) :
    Calls Tryz.prog 148 #[.agg #[.int .i64 u, .slice A n c]] w fun e w' => e = .returned (.bool (rightF u zs)) ∧ Below w.heap.size w w' := by
  have hl : zs.length = n := hz.1
  have HL := Lib.hid hl
  have HZ := Lib.hid hz
  clear hl hz
  by_cases h1 : u < 0
  · have HF : Hid (rightF u zs = false) := by show rightF u zs = false; unfold rightF; rw [decide_eq_false (by omega)]; rfl
    go_enter Tryz.func148, Tryz.ntmps148
    go_wp2
    go_ret
    exact ⟨ret_bool HF.out.symm, (Below.refl _ _).alloc (Nat.le_refl _) _⟩
  by_cases h2 : 1048576 < u
  · have HF : Hid (rightF u zs = false) := by show rightF u zs = false; unfold rightF; rw [decide_eq_false (by omega)]; rfl
    go_enter Tryz.func148, Tryz.ntmps148
    go_wp2
    go_ret
    exact ⟨ret_bool HF.out.symm, (Below.refl _ _).alloc (Nat.le_refl _) _⟩
  by_cases h3 : 4096 < n
  · have HF : Hid (rightF u zs = false) := by show rightF u zs = false; unfold rightF; rw [decide_eq_false (by rw [HL.out]; omega)]; rfl
    have h3' : (4096 : Int) < n := by omega
    go_enter Tryz.func148, Tryz.ntmps148
    go_wp2
    go_ret
    exact ⟨ret_bool HF.out.symm, (Below.refl _ _).alloc (Nat.le_refl _) _⟩
  have HF : Hid (rightF u zs = chainB (u + 1) zs) := by show rightF u zs = _; unfold rightF; rw [decide_eq_true (by rw [HL.out]; omega)]; rfl
  have h3' : ¬ (4096 : Int) < n := by omega
  go_enter Tryz.func148, Tryz.ntmps148
  go_wp2
  go_loop [3, 26] (fun l i => ∃ (k : Nat) (last : Int), k ≤ n ∧ i = .int .i64 k ∧ l = .int .i64 last ∧ Hid (chainB (u + 1) zs = chainB last (zs.drop k))) (fun _ i => n - (intOf i).toNat)
  case atStart => exact ⟨0, u + 1, by omega, rfl, rfl, rfl⟩
  case round =>
    obtain ⟨k, last, hk, rfl, rfl, HC⟩ := hrel
    by_cases hlt : k < n
    · obtain ⟨b, off, rfl, hbB, hc⟩ := HZ.out.2 (by omega)
      have hc1 := hc k hlt
      have hb' : b < w.heap.size := by omega
      have hst := chain_step (b := last) (zs := zs) (k := k) (by rw [HL.out]; exact hlt)
      have HS := Lib.hid hst
      clear hc hst
      by_cases t1 : zs.getD k 0 ≤ last
      · have HE : Hid (rightF u zs = false) := by show rightF u zs = _; rw [HF.out, HC.out, HS.out, decide_eq_false (by omega)]; rfl
        have t1' : zs[k]?.getD 0 ≤ last := by simpa [List.getD_eq_getElem?_getD] using t1
        clear t1
        go_wp2
        go_ret
        exact ⟨ret_bool HE.out.symm, (Below.refl _ _).alloc (Nat.le_refl _) _⟩
      · by_cases t2 : 1048576 < zs.getD k 0
        · have HE : Hid (rightF u zs = false) := by show rightF u zs = _; rw [HF.out, HC.out, HS.out, decide_eq_false (by omega)]; rfl
          have t1' : ¬ zs[k]?.getD 0 ≤ last := by simpa [List.getD_eq_getElem?_getD] using t1
          have t2' : 1048576 < zs[k]?.getD 0 := by simpa [List.getD_eq_getElem?_getD] using t2
          clear t1 t2
          go_wp2
          go_ret
          exact ⟨ret_bool HE.out.symm, (Below.refl _ _).alloc (Nat.le_refl _) _⟩
        · have HE : Hid (chainB (u + 1) zs = chainB (zs.getD k 0) (zs.drop (k + 1))) := by show _ = _; rw [HC.out, HS.out, decide_eq_true (by omega)]; rfl
          have t1' : ¬ zs[k]?.getD 0 ≤ last := by simpa [List.getD_eq_getElem?_getD] using t1
          have t2' : ¬ 1048576 < zs[k]?.getD 0 := by simpa [List.getD_eq_getElem?_getD] using t2
          clear t1 t2
          go_wp2
          go_round
          case rel => exact ⟨k + 1, zs.getD k 0, by omega, by go_num, by simp [List.getD_eq_getElem?_getD], HE⟩
          case measure => simp [intOf]; omega
    · have HE : Hid (rightF u zs = true) := by
        show rightF u zs = _
        rw [HF.out, HC.out, List.drop_of_length_le (by rw [HL.out]; omega)]; rfl
      go_wp2
      go_ret
      exact ⟨ret_bool HE.out.symm, (Below.refl _ _).alloc (Nat.le_refl _) _⟩
end Go.Proofs.YtbookbgfipbaoaaGreatDoor.Sp

/- The document's own Right. -/
namespace Go.Proofs.YtbookbgfipbaoaaGreatDoor.Sp
open Go.RowKit

/-- A world that differs from W by draws alone. -/
def Drawn (W wr : World) : Prop := ∃ q, wr = W.drewN q
theorem Drawn.refl (W : World) : Drawn W W := ⟨0, rfl⟩
theorem below_d {B : Nat} {a w : World} (h : Below B a w) (n : Nat) : Below B a (w.drewN n) := ⟨h.os, h.tape, h.output, h.size, h.block⟩

set_option maxRecDepth 100000 in
set_option maxHeartbeats 1000000 in
theorem refRight_any (u : Int) (A : Option Addr) (n c : Nat) (zs : List Int) (B : Nat) (w : World) (hB : B ≤ w.heap.size) (hz : IntsAt w B A n zs) (hn : n ≤ 1073741824) :
    Calls Tryz.prog 156 #[.agg #[.int .i64 u, .slice A n c]] w fun e w' => e = .returned (.bool (rightF u zs)) ∧ Below w.heap.size w w' := by
  have hl : zs.length = n := hz.1
  have HL := Lib.hid hl
  have HZ := Lib.hid hz
  clear hl hz
  by_cases h1 : u < 0
  · have HF : Hid (rightF u zs = false) := by show rightF u zs = false; unfold rightF; rw [decide_eq_false (by omega)]; rfl
    go_enter Tryz.func156, Tryz.ntmps156
    go_wp2
    go_ret
    exact ⟨ret_bool HF.out.symm, (Below.refl _ _).alloc (Nat.le_refl _) _⟩
  by_cases h2 : 1048576 < u
  · have HF : Hid (rightF u zs = false) := by show rightF u zs = false; unfold rightF; rw [decide_eq_false (by omega)]; rfl
    go_enter Tryz.func156, Tryz.ntmps156
    go_wp2
    go_ret
    exact ⟨ret_bool HF.out.symm, (Below.refl _ _).alloc (Nat.le_refl _) _⟩
  by_cases h3 : 4096 < n
  · have HF : Hid (rightF u zs = false) := by show rightF u zs = false; unfold rightF; rw [decide_eq_false (by rw [HL.out]; omega)]; rfl
    have h3' : (4096 : Int) < n := by omega
    go_enter Tryz.func156, Tryz.ntmps156
    go_wp2
    go_ret
    exact ⟨ret_bool HF.out.symm, (Below.refl _ _).alloc (Nat.le_refl _) _⟩
  have HF : Hid (rightF u zs = chainB (u + 1) zs) := by show rightF u zs = _; unfold rightF; rw [decide_eq_true (by rw [HL.out]; omega)]; rfl
  have h3' : ¬ (4096 : Int) < n := by omega
  go_enter Tryz.func156, Tryz.ntmps156
  go_wp2
  go_loopw [3, 4] (fun l i wr => ∃ (k : Nat) (last : Int), k ≤ n ∧ i = .int .i64 k ∧ l = .int .i64 last ∧ Hid (chainB (u + 1) zs = chainB last (zs.drop k)) ∧ Hid (k = 0 → last = u + 1) ∧ Drawn (w.alloc (Obj.cells #[Value.int IntKind.i64 u, Value.slice A n c] 67)) wr) (fun _ i _ => n - (intOf i).toNat)
  case atStart => exact ⟨0, u + 1, by omega, rfl, rfl, rfl, fun _ => rfl, Drawn.refl _⟩
  case round =>
    obtain ⟨k, last, hk, rfl, rfl, HC, HK, q, rfl⟩ := hrel
    by_cases hlt : k < n
    · obtain ⟨b, off, rfl, hbB, hc⟩ := HZ.out.2 (by omega)
      have hc1 := hc k hlt
      have hb' : b < w.heap.size := by omega
      have hkI : (k : Int) < n := by omega
      have hst := chain_step (b := last) (zs := zs) (k := k) (by rw [HL.out]; exact hlt)
      have HS := Lib.hid hst
      clear hc hst
      generalize hy : zs.getD k 0 = y at hc1 HS
      clear hy
      by_cases t1 : y ≤ last
      · have HE : Hid (rightF u zs = false) := by show rightF u zs = _; rw [HF.out, HC.out, HS.out, decide_eq_false (by omega)]; rfl
        by_cases hk0 : 0 < k
        · have hk1 : (0 : Int) < k := by omega
          go_wp2_with fail
          go_quiet (fail)
          go_wp2
          go_ret
          exact ⟨ret_bool HE.out.symm, by repeat (first | exact (Below.refl _ _).alloc (Nat.le_refl _) _ | refine below_d ?_ _)⟩
        · have hk1 : decide ((0 : Int) < k) = false := by simp; omega
          have hlast := HK.out (by omega)
          have t3 : y ≤ u + 1 := by omega
          clear hlast
          go_wp2_with fail
          go_quiet (fail)
          go_wp2
          go_ret
          exact ⟨ret_bool HE.out.symm, by repeat (first | exact (Below.refl _ _).alloc (Nat.le_refl _) _ | refine below_d ?_ _)⟩
      · have t1' : decide (y ≤ last) = false := by simpa using t1
        by_cases t2 : 1048576 < y
        · have HE : Hid (rightF u zs = false) := by show rightF u zs = _; rw [HF.out, HC.out, HS.out, decide_eq_false (by omega)]; rfl
          go_wp2_with fail
          go_quiet (fail)
          go_wp2
          go_ret
          exact ⟨ret_bool HE.out.symm, by repeat (first | exact (Below.refl _ _).alloc (Nat.le_refl _) _ | refine below_d ?_ _)⟩
        · have HE : Hid (chainB (u + 1) zs = chainB y (zs.drop (k + 1))) := by show _ = _; rw [HC.out, HS.out, decide_eq_true (by omega)]; rfl
          have t2' : decide (1048576 < y) = false := by simpa using t2
          go_wp2_with fail
          go_quiet (fail)
          go_wp2
          go_roundw
          case rel => exact ⟨k + 1, y, by omega, by go_num, rfl, HE, fun h => by omega, _, rfl⟩
          case measure => simp [intOf]; omega
    · have HE : Hid (rightF u zs = true) := by
        show rightF u zs = _
        rw [HF.out, HC.out, List.drop_of_length_le (by rw [HL.out]; omega)]; rfl
      go_wp2
      go_ret
      exact ⟨ret_bool HE.out.symm, by repeat (first | exact (Below.refl _ _).alloc (Nat.le_refl _) _ | refine below_d ?_ _)⟩

end Go.Proofs.YtbookbgfipbaoaaGreatDoor.Sp
