/- Texts Pe Pf Pg Ph Gc, one behind the other. -/
import Derived.Test.YtpaiigminmakgaaHB
import Derived.Laws.OwnMore
/- store.Drop, Put. -/
namespace Go.Proofs.Ytpaiigminmakgaa
open Go.RowKit

theorem concatR_two (G c0 c1 n0 n1 : Nat) (A0 A1 : Option Addr) (b0 b1 : List Itm) (e : TypeId) (fr : Nat × Nat) (B : Nat) (w : World) (hB : B ≤ w.heap.size) (h : w.heap[G]? = some (.cells #[.slice A0 n0 c0, .slice A1 n1 c1] e fr)) (z0 : RowAt cellsP 8 w B A0 n0 b0) (z1 : RowAt cellsP 8 w B A1 n1 b1) (hn : n0 + n1 ≤ 1073741824) (C : Nat) :
    Calls Try.prog 39 #[.slice (some ⟨G, 0, none⟩) 2 C] w (OwnRow cellsP 8 46 (b0 ++ b1) w) := by
  have e0 := z0.1
  have e1 := z1.1
  subst e0 e1
  have hG : G < w.heap.size := by
    rcases Nat.lt_or_ge G w.heap.size with hlt | hge
    · exact hlt
    · rw [Array.getElem?_eq_none hge] at h; cases h
  have := concatR_any G 2 C [⟨A0, c0, b0⟩, ⟨A1, c1, b1⟩] B w hB rfl (fun k hk => ?_) hG (fun k hk => ?_) (by simp [allP]; omega) (by omega) (by omega)
  · simpa [allP] using this
  · have hk' : k < 2 := hk
    match k, hk' with
    | 0, _ => have := cell_of_row w G 0 _ _ _ h; simpa using this
    | 1, _ => have := cell_of_row w G 1 _ _ _ h; simpa using this
  · have hk' : k < 2 := hk
    match k, hk' with
    | 0, _ => exact z0
    | 1, _ => exact z1
theorem concatR_three (G c0 c1 c2 n0 n1 n2 : Nat) (A0 A1 A2 : Option Addr) (b0 b1 b2 : List Itm) (e : TypeId) (fr : Nat × Nat) (B : Nat) (w : World) (hB : B ≤ w.heap.size) (h : w.heap[G]? = some (.cells #[.slice A0 n0 c0, .slice A1 n1 c1, .slice A2 n2 c2] e fr)) (z0 : RowAt cellsP 8 w B A0 n0 b0) (z1 : RowAt cellsP 8 w B A1 n1 b1) (z2 : RowAt cellsP 8 w B A2 n2 b2) (hn : n0 + n1 + n2 ≤ 1073741824) (C : Nat) :
    Calls Try.prog 39 #[.slice (some ⟨G, 0, none⟩) 3 C] w (OwnRow cellsP 8 46 (b0 ++ (b1 ++ b2)) w) := by
  have e0 := z0.1
  have e1 := z1.1
  have e2 := z2.1
  subst e0 e1 e2
  have hG : G < w.heap.size := by
    rcases Nat.lt_or_ge G w.heap.size with hlt | hge
    · exact hlt
    · rw [Array.getElem?_eq_none hge] at h; cases h
  have := concatR_any G 3 C [⟨A0, c0, b0⟩, ⟨A1, c1, b1⟩, ⟨A2, c2, b2⟩] B w hB rfl (fun k hk => ?_) hG (fun k hk => ?_) (by simp [allP]; omega) (by omega) (by omega)
  · simpa [allP] using this
  · have hk' : k < 3 := hk
    match k, hk' with
    | 0, _ => have := cell_of_row w G 0 _ _ _ h; simpa using this
    | 1, _ => have := cell_of_row w G 1 _ _ _ h; simpa using this
    | 2, _ => have := cell_of_row w G 2 _ _ _ h; simpa using this
  · have hk' : k < 3 := hk
    match k, hk' with
    | 0, _ => exact z0
    | 1, _ => exact z1
    | 2, _ => exact z2
theorem own_up {α : Type} {cf : α → List Value} {d : Nat} {e : TypeId} {zs : List α} {w w1 w' : World} {en : Ending} (h : OwnRow cf d e zs w1 en w') (hb : Below w.heap.size w w1) : OwnRow cf d e zs w en w' := by
  obtain ⟨A, c, h1, h2, h3⟩ := h
  exact ⟨A, c, h1, rown_base h2 hb.size, hb.trans (h3.mono hb.size)⟩

set_option maxRecDepth 100000 in
set_option maxHeartbeats 4000000 in
theorem dropS_any (A : Option Addr) (n c : Nat) (zs : List Itm) (k : Int) (B : Nat) (w : World) (hB : B ≤ w.heap.size) (hz : RowAt cellsP 8 w B A n zs) (hnc : n ≤ c) (hn : n ≤ 1073741824) (hs : Keys zs) :
    Calls Try.prog 23 #[.slice A n c, .int .i64 k] w (OwnRow cellsP 8 46 (dropF zs k) w) := by
  have HZ := Lib.hid hz
  have H := Lib.hid (find_any A n c zs k B w hB hz (by omega) hs)
  have HS := Lib.hid hs
  have HL := Lib.hid hz.1
  clear hz hs
  go_enter Try.func23, Try.ntmps23
  go_wp2_with fail
  refine H.out.mono ?_
  rintro e w1 ⟨⟨p, hp, HP, rfl⟩, hb⟩
  have HB := Lib.hid hb
  have HPK := Lib.hid HP
  clear hb HP H
  have hpn : p ≤ n := by have := HL.out; omega
  clear hp
  rcases hf : isAt zs k p with _ | _
  · have HD : Hid (dropF zs k = zs) := by
      show _ = _
      unfold dropF
      rw [← parts_low HPK.out, ← parts_high HS.out HPK.out hf, List.take_append_drop]
    clear hf
    go_wp2_with fail
    refine (cloneR_any A n c zs B w1 (Nat.le_trans hB HB.out.size) (HZ.out.keep (HB.out.mono hB)) hn).mono ?_
    rintro e w2 ⟨A2, c2, rfl, ho, hb2⟩
    have HO := Lib.hid ho
    have HB2 := Lib.hid hb2
    clear ho hb2
    go_wp2
    go_ret
    rw [HD.out]
    exact ⟨A2, c2, rfl, rown_base HO.out HB.out.size, HB.out.trans (HB2.out.mono HB.out.size)⟩
  · have HD : Hid (dropF zs k = zs.take p ++ zs.drop (p + 1)) := by
      show _ = _
      unfold dropF
      rw [← parts_low HPK.out, ← parts_high1 HS.out HPK.out hf]
    obtain ⟨y, hy, _⟩ := isAt_true hf
    have hpn1 : p + 1 ≤ n := by have := (List.getElem?_eq_some_iff.mp hy).1; have := HL.out; omega
    clear hf hy
    have h1 := cut_upto A n c p hpn hnc
    obtain ⟨A', h2, h3⟩ := cut_from A n c (p + 1) hpn1 hnc
    rw [show ((p + 1 : Nat) : Int) = IntKind.i64.wrap ((p : Int) + 1) by rw [IntWalk.i64_in _ (by omega)]; omega] at h2
    have HA' := Lib.hid h3
    clear h3
    go_upto_region 4 with fail
    refine wp_region_held_drew (S := fun _ => True) (by kernel_rfl) trivial (fun hHeld => ?_)
    refine wpAnyH_take (i := 0) (oi := { dst := some 17, op := Go.Op.move (Go.Operand.tmp 0), type := 38, pos := "store.go:66", after := #[], guard := none }) (v := ?_) rfl (by kernel_rfl) (by kernel_rfl) (by kernel_rfl) (fun _ _ _ h => h) (Or.inl ⟨rfl, ?_⟩) (by assumption) ?_
    rotate_left
    · intro wz hSw; (try dsimp only at hSw); go_simp; try (with_reducible rfl)
    try simp only [Act.put, List.setIfInBounds_toArray, List.set_cons_zero, List.set_cons_succ]
    refine wpAnyH_take (i := 1) (oi := { dst := some 18, op := Go.Op.move (Go.Operand.tmp 5), type := 3, pos := "store.go:66", after := #[], guard := none }) (v := ?_) rfl (by kernel_rfl) (by kernel_rfl) (by kernel_rfl) (fun _ _ _ h => h) (Or.inl ⟨rfl, ?_⟩) (by assumption) ?_
    rotate_left
    · intro wz hSw; (try dsimp only at hSw); go_simp; try (with_reducible rfl)
    try simp only [Act.put, List.setIfInBounds_toArray, List.set_cons_zero, List.set_cons_succ]
    refine wpAnyH_take (i := 2) (oi := { dst := some 19, op := Go.Op.slice 38 (Go.Operand.tmp 17) none (some (Go.Operand.tmp 18)) none, type := 38, pos := "store.go:66", after := #[{ on := 0, ground := Go.Ground.data }, { on := 1, ground := Go.Ground.data }], guard := none }) (v := ?_) rfl (by kernel_rfl) (by kernel_rfl) (by kernel_rfl) (fun _ _ _ h => h) (Or.inl ⟨rfl, ?_⟩) (by assumption) ?_
    rotate_left
    · intro wz hSw; (try dsimp only at hSw); go_simp; try (with_reducible rfl)
    try simp only [Act.put, List.setIfInBounds_toArray, List.set_cons_zero, List.set_cons_succ]
    refine wpAnyH_take (i := 3) (oi := { dst := some 20, op := Go.Op.move (Go.Operand.tmp 0), type := 38, pos := "store.go:66", after := #[], guard := none }) (v := ?_) rfl (by kernel_rfl) (by kernel_rfl) (by kernel_rfl) (fun _ _ _ h => h) (Or.inl ⟨rfl, ?_⟩) (by assumption) ?_
    rotate_left
    · intro wz hSw; (try dsimp only at hSw); go_simp; try (with_reducible rfl)
    try simp only [Act.put, List.setIfInBounds_toArray, List.set_cons_zero, List.set_cons_succ]
    refine wpAnyH_take (i := 4) (oi := { dst := some 21, op := Go.Op.move (Go.Operand.tmp 5), type := 3, pos := "store.go:66", after := #[], guard := none }) (v := ?_) rfl (by kernel_rfl) (by kernel_rfl) (by kernel_rfl) (fun _ _ _ h => h) (Or.inl ⟨rfl, ?_⟩) (by assumption) ?_
    rotate_left
    · intro wz hSw; (try dsimp only at hSw); go_simp; try (with_reducible rfl)
    try simp only [Act.put, List.setIfInBounds_toArray, List.set_cons_zero, List.set_cons_succ]
    refine wpAnyH_take (i := 5) (oi := { dst := some 22, op := Go.Op.binOp Go.BinOp.add 3 (Go.Operand.tmp 21) (Go.Operand.const (Go.Value.int Go.IntKind.i64 1)) 3, type := 3, pos := "store.go:66", after := #[{ on := 4, ground := Go.Ground.data }], guard := none }) (v := ?_) rfl (by kernel_rfl) (by kernel_rfl) (by kernel_rfl) (fun _ _ _ h => h) (Or.inl ⟨rfl, ?_⟩) (by assumption) ?_
    rotate_left
    · intro wz hSw; (try dsimp only at hSw); go_simp; try (with_reducible rfl)
    try simp only [Act.put, List.setIfInBounds_toArray, List.set_cons_zero, List.set_cons_succ]
    refine wpAnyH_take (i := 6) (oi := { dst := some 23, op := Go.Op.slice 38 (Go.Operand.tmp 20) (some (Go.Operand.tmp 22)) none none, type := 38, pos := "store.go:66", after := #[{ on := 3, ground := Go.Ground.data }, { on := 5, ground := Go.Ground.data }], guard := none }) (v := ?_) rfl (by kernel_rfl) (by kernel_rfl) (by kernel_rfl) (fun _ _ _ h => h) (Or.inl ⟨rfl, ?_⟩) (by assumption) ?_
    rotate_left
    · intro wz hSw; (try dsimp only at hSw); go_simp; try (with_reducible rfl)
    try simp only [Act.put, List.setIfInBounds_toArray, List.set_cons_zero, List.set_cons_succ]
    refine wpAnyH_ready (rs := [7]) (by kernel_rfl) (by simp) ?_
    refine (AllReadyH.cons (o := { dst := some 24, op := Go.Op.buildSlice 107 2 #[(0, Go.Operand.tmp 19), (1, Go.Operand.tmp 23)], type := 107, pos := "store.go:66", after := #[{ on := 2, ground := Go.Ground.data }, { on := 6, ground := Go.Ground.data }], guard := none }) rfl (fun K hK => ?_) AllReadyH.nil)
    go_simp
    have hb1 : Below w1.heap.size w1 (w1.alloc (.cells #[.slice A p c, .slice A' (n - (p + 1)) (c - (p + 1))] 38)).drew := ((Below.refl _ _).alloc (Nat.le_refl _) _).drew
    replace HB := Lib.hid (HB.out.trans (hb1.mono HB.out.size))
    have HG : Hid ((w1.alloc (.cells #[.slice A p c, .slice A' (n - (p + 1)) (c - (p + 1))] 38)).drew.heap[w1.heap.size]? = some (.cells #[.slice A p c, .slice A' (n - (p + 1)) (c - (p + 1))] 38)) := heap_alloc_new w1 _
    have HZ1 := Lib.hid (HZ.out.keep (HB.out.mono hB))
    clear hb1
    generalize (w1.alloc (.cells #[.slice A p c, .slice A' (n - (p + 1)) (c - (p + 1))] 38)).drew = w2 at *
    generalize w1.heap.size = G at *
    refine hK.out _ _ trivial (fun hHeld => ?_)
    clear hK K
    try simp only [Act.put, List.setIfInBounds_toArray, List.set_cons_zero, List.set_cons_succ]
    refine wpAnyH_ready (rs := [8]) (by kernel_rfl) (by simp) ?_
    refine (AllReadyH.cons (o := { dst := some 25, op := Go.Op.call { callee := Go.Callee.value (Go.Operand.func 39), args := #[Go.Operand.tmp 24], argTypes := #[107] }, type := 38, pos := "store.go:66", after := #[{ on := 7, ground := Go.Ground.data }], guard := none }) rfl (fun K hK => ?_) AllReadyH.nil)
    go_simp
    go_at_call 39
    refine (concatR_two G c (c - (p + 1)) p (n - (p + 1)) A A' (zs.take p) (zs.drop (p + 1)) 38 (0, 0) B _ (Nat.le_trans hB HB.out.size) HG.out (HZ1.out.take hpn) (HA'.out _ _ _ HZ1.out) (by omega) _).mono ?_
    rw [← HD.out]
    rintro e w3 ⟨A3, c3, rfl, ho, hb3⟩
    have HO := Lib.hid (rown_base ho HB.out.size)
    replace HB := Lib.hid (HB.out.trans (hb3.mono HB.out.size))
    clear ho hb3 HG HZ1
    refine hK.out _ _ trivial (fun hHeld => ?_)
    clear hK K
    try simp only [Act.put, List.setIfInBounds_toArray, List.set_cons_zero, List.set_cons_succ]
    refine wpAnyH_take (i := 9) (oi := { dst := some 4, op := Go.Op.assign (Go.Operand.tmp 25), type := 38, pos := "store.go:66", after := #[{ on := 8, ground := Go.Ground.data }, { on := 8, ground := Go.Ground.chain }, { on := 0, ground := Go.Ground.phase }, { on := 1, ground := Go.Ground.phase }, { on := 2, ground := Go.Ground.phase }, { on := 3, ground := Go.Ground.phase }, { on := 4, ground := Go.Ground.phase }, { on := 5, ground := Go.Ground.phase }, { on := 6, ground := Go.Ground.phase }, { on := 7, ground := Go.Ground.phase }, { on := 8, ground := Go.Ground.phase }], guard := none }) (v := ?_) rfl (by kernel_rfl) (by kernel_rfl) (by kernel_rfl) (fun _ _ _ h => h) (Or.inl ⟨rfl, ?_⟩) (by assumption) ?_
    rotate_left
    · intro wz hSw; (try dsimp only at hSw); go_simp; try (with_reducible rfl)
    try simp only [Act.put, List.setIfInBounds_toArray, List.set_cons_zero, List.set_cons_succ]
    refine wpAnyH_done (by kernel_rfl) ?_ _
    go_wp2
    go_ret
    exact ⟨A3, c3, rfl, HO.out, HB.out⟩
/-- What there is when x came, and whether that is another one. -/
def putF (zs : List Itm) (x : Itm) : List Itm × Bool := match getF zs x.key with
  | none => (insF zs x, true)
  | some y => if replF x y then (insF zs x, true) else (zs, false)
def PutRet (zs : List Itm) (x : Itm) (w : World) (e : Ending) (w' : World) : Prop :=
  ∃ A c, e = .returned (.tuple #[.slice A (putF zs x).1.length c, .bool (putF zs x).2]) ∧ w'.ownsRow w.heap.size 46 8 (.slice A (putF zs x).1.length c) (putF zs x).1.length (rowCells cellsP (putF zs x).1) ∧ Below w.heap.size w w'
theorem put_ret {zs ys : List Itm} {x : Itm} {b : Bool} {w w' : World} {A : Option Addr} {c : Nat} (h : putF zs x = (ys, b)) (ho : w'.ownsRow w.heap.size 46 8 (.slice A ys.length c) ys.length (rowCells cellsP ys)) (hb : Below w.heap.size w w') : PutRet zs x w (.returned (.tuple #[.slice A ys.length c, .bool b])) w' := by
  unfold PutRet
  rw [h]
  exact ⟨A, c, rfl, ho, hb⟩
theorem put_new {zs : List Itm} {x : Itm} (h : getF zs x.key = none) : putF zs x = (insF zs x, true) := by unfold putF; rw [h]
theorem put_over {zs : List Itm} {x y : Itm} (h : getF zs x.key = some y) (hr : replF x y = true) : putF zs x = (insF zs x, true) := by unfold putF; rw [h]; simp [hr]
theorem put_not {zs : List Itm} {x y : Itm} (h : getF zs x.key = some y) (hr : replF x y = false) : putF zs x = (zs, false) := by unfold putF; rw [h]; simp [hr]

set_option maxRecDepth 100000 in
set_option maxHeartbeats 8000000 in
theorem putS_any (A : Option Addr) (n c : Nat) (zs : List Itm) (x0 : Itm) (B : Nat) (w : World) (hB : B ≤ w.heap.size) (hz : RowAt cellsP 8 w B A n zs) (hnc : n ≤ c) (hn : n ≤ 1000000) (hs : Keys zs) :
    Calls Try.prog 16 #[.slice A n c, itmV x0] w (PutRet zs x0 w) := by
  have HS := Lib.hid hs
  have HL := Lib.hid hz.1
  have HR : Hid (∀ y w, Calls Try.prog 40 #[itmV x0, itmV y] w fun e w' => e = .returned (.bool (replF x0 y)) ∧ Below w.heap.size w w') := fun y w => replaces_any x0 y w
  have HX := Lib.hid (show cellsP x0 = [.int .i64 x0.key, .string x0.ver.id, .int .i64 x0.ver.seq, .int .i64 x0.ver.stamp, .bool x0.dead, .complex .f64 (fl x0.x) (fl x0.y), .string x0.text, .bool x0.held] from rfl)
  have HI := Lib.hid (show itmV x0 = .agg #[.int .i64 x0.key, .string x0.ver.id, .int .i64 x0.ver.seq, .int .i64 x0.ver.stamp, .bool x0.dead, .complex .f64 (fl x0.x) (fl x0.y), .string x0.text, .bool x0.held] from rfl)
  rw [HI.out]
  rw [HI.out] at HR
  clear HI
  have HIN := Lib.hid (show insF zs x0 = lowF zs x0.key ++ x0 :: highF zs x0.key from rfl)
  obtain ⟨PN, PO, PNO⟩ : (Hid (getF zs x0.key = none → putF zs x0 = (insF zs x0, true))) ∧ (Hid (∀ y, getF zs x0.key = some y → replF x0 y = true → putF zs x0 = (insF zs x0, true))) ∧ (Hid (∀ y, getF zs x0.key = some y → replF x0 y = false → putF zs x0 = (zs, false))) := ⟨put_new, fun _ => put_over, fun _ => put_not⟩
  generalize x0.key = key at *
  generalize x0.ver.id = d at *
  generalize x0.ver.seq = a at *
  generalize x0.ver.stamp = s at *
  generalize x0.dead = dead at *
  generalize fl x0.x = fx at *
  generalize fl x0.y = fy at *
  generalize x0.text = text at *
  generalize x0.held = held at *
  have hb0 : Below w.heap.size w (w.alloc (.cells #[.int .i64 key, .string d, .int .i64 a, .int .i64 s, .bool dead, .complex .f64 fx fy, .string text, .bool held] 46)) := (Below.refl _ _).alloc (Nat.le_refl _) _
  have HZ := Lib.hid hz
  have H := Lib.hid (find_any A n c zs key B (w.alloc (.cells #[.int .i64 key, .string d, .int .i64 a, .int .i64 s, .bool dead, .complex .f64 fx fy, .string text, .bool held] 46)) (by simp; omega) (hz.keep (hb0.mono hB)) (by omega) hs)
  clear hz hs
  go_enter Try.func16, Try.ntmps16
  go_wp2_with fail
  refine H.out.mono ?_
  rintro e w1 ⟨⟨p, hp, HP, rfl⟩, hb⟩
  have k0 : (w.alloc (.cells #[.int .i64 key, .string d, .int .i64 a, .int .i64 s, .bool dead, .complex .f64 fx fy, .string text, .bool held] 46)).cell? ⟨w.heap.size, 0, none⟩ = some (.int .i64 key) := by simp [go_sem]
  have kf0 : (w.alloc (.cells #[.int .i64 key, .string d, .int .i64 a, .int .i64 s, .bool dead, .complex .f64 fx fy, .string text, .bool held] 46)).frozen? ⟨w.heap.size, 0, none⟩ = false := by simp [go_sem]
  have k1 : (w.alloc (.cells #[.int .i64 key, .string d, .int .i64 a, .int .i64 s, .bool dead, .complex .f64 fx fy, .string text, .bool held] 46)).cell? ⟨w.heap.size, 1, none⟩ = some (.string d) := by simp [go_sem]
  have kf1 : (w.alloc (.cells #[.int .i64 key, .string d, .int .i64 a, .int .i64 s, .bool dead, .complex .f64 fx fy, .string text, .bool held] 46)).frozen? ⟨w.heap.size, 1, none⟩ = false := by simp [go_sem]
  have k2 : (w.alloc (.cells #[.int .i64 key, .string d, .int .i64 a, .int .i64 s, .bool dead, .complex .f64 fx fy, .string text, .bool held] 46)).cell? ⟨w.heap.size, 2, none⟩ = some (.int .i64 a) := by simp [go_sem]
  have kf2 : (w.alloc (.cells #[.int .i64 key, .string d, .int .i64 a, .int .i64 s, .bool dead, .complex .f64 fx fy, .string text, .bool held] 46)).frozen? ⟨w.heap.size, 2, none⟩ = false := by simp [go_sem]
  have k3 : (w.alloc (.cells #[.int .i64 key, .string d, .int .i64 a, .int .i64 s, .bool dead, .complex .f64 fx fy, .string text, .bool held] 46)).cell? ⟨w.heap.size, 3, none⟩ = some (.int .i64 s) := by simp [go_sem]
  have kf3 : (w.alloc (.cells #[.int .i64 key, .string d, .int .i64 a, .int .i64 s, .bool dead, .complex .f64 fx fy, .string text, .bool held] 46)).frozen? ⟨w.heap.size, 3, none⟩ = false := by simp [go_sem]
  have k4 : (w.alloc (.cells #[.int .i64 key, .string d, .int .i64 a, .int .i64 s, .bool dead, .complex .f64 fx fy, .string text, .bool held] 46)).cell? ⟨w.heap.size, 4, none⟩ = some (.bool dead) := by simp [go_sem]
  have kf4 : (w.alloc (.cells #[.int .i64 key, .string d, .int .i64 a, .int .i64 s, .bool dead, .complex .f64 fx fy, .string text, .bool held] 46)).frozen? ⟨w.heap.size, 4, none⟩ = false := by simp [go_sem]
  have k5 : (w.alloc (.cells #[.int .i64 key, .string d, .int .i64 a, .int .i64 s, .bool dead, .complex .f64 fx fy, .string text, .bool held] 46)).cell? ⟨w.heap.size, 5, none⟩ = some (.complex .f64 fx fy) := by simp [go_sem]
  have kf5 : (w.alloc (.cells #[.int .i64 key, .string d, .int .i64 a, .int .i64 s, .bool dead, .complex .f64 fx fy, .string text, .bool held] 46)).frozen? ⟨w.heap.size, 5, none⟩ = false := by simp [go_sem]
  have k6 : (w.alloc (.cells #[.int .i64 key, .string d, .int .i64 a, .int .i64 s, .bool dead, .complex .f64 fx fy, .string text, .bool held] 46)).cell? ⟨w.heap.size, 6, none⟩ = some (.string text) := by simp [go_sem]
  have kf6 : (w.alloc (.cells #[.int .i64 key, .string d, .int .i64 a, .int .i64 s, .bool dead, .complex .f64 fx fy, .string text, .bool held] 46)).frozen? ⟨w.heap.size, 6, none⟩ = false := by simp [go_sem]
  have k7 : (w.alloc (.cells #[.int .i64 key, .string d, .int .i64 a, .int .i64 s, .bool dead, .complex .f64 fx fy, .string text, .bool held] 46)).cell? ⟨w.heap.size, 7, none⟩ = some (.bool held) := by simp [go_sem]
  have kf7 : (w.alloc (.cells #[.int .i64 key, .string d, .int .i64 a, .int .i64 s, .bool dead, .complex .f64 fx fy, .string text, .bool held] 46)).frozen? ⟨w.heap.size, 7, none⟩ = false := by simp [go_sem]
  have kz : w.heap.size < (w.alloc (.cells #[.int .i64 key, .string d, .int .i64 a, .int .i64 s, .bool dead, .complex .f64 fx fy, .string text, .bool held] 46)).heap.size := by simp <;> omega
  replace k0 := (hb.cell (p := ⟨w.heap.size, 0, none⟩) kz).trans k0
  replace kf0 := (hb.frozen (p := ⟨w.heap.size, 0, none⟩) kz).trans kf0
  replace k1 := (hb.cell (p := ⟨w.heap.size, 1, none⟩) kz).trans k1
  replace kf1 := (hb.frozen (p := ⟨w.heap.size, 1, none⟩) kz).trans kf1
  replace k2 := (hb.cell (p := ⟨w.heap.size, 2, none⟩) kz).trans k2
  replace kf2 := (hb.frozen (p := ⟨w.heap.size, 2, none⟩) kz).trans kf2
  replace k3 := (hb.cell (p := ⟨w.heap.size, 3, none⟩) kz).trans k3
  replace kf3 := (hb.frozen (p := ⟨w.heap.size, 3, none⟩) kz).trans kf3
  replace k4 := (hb.cell (p := ⟨w.heap.size, 4, none⟩) kz).trans k4
  replace kf4 := (hb.frozen (p := ⟨w.heap.size, 4, none⟩) kz).trans kf4
  replace k5 := (hb.cell (p := ⟨w.heap.size, 5, none⟩) kz).trans k5
  replace kf5 := (hb.frozen (p := ⟨w.heap.size, 5, none⟩) kz).trans kf5
  replace k6 := (hb.cell (p := ⟨w.heap.size, 6, none⟩) kz).trans k6
  replace kf6 := (hb.frozen (p := ⟨w.heap.size, 6, none⟩) kz).trans kf6
  replace k7 := (hb.cell (p := ⟨w.heap.size, 7, none⟩) kz).trans k7
  replace kf7 := (hb.frozen (p := ⟨w.heap.size, 7, none⟩) kz).trans kf7
  replace kz := Nat.lt_of_lt_of_le kz hb.size
  have HB : Hid (Below w.heap.size w w1) := hb0.trans (hb.mono (by simp))
  have HPK := Lib.hid HP
  clear hb hb0 HP H
  have hpn : p ≤ n := by have := HL.out; omega
  clear hp
  have h1 := cut_upto A n c p hpn hnc
  rcases hf : isAt zs key p with _ | _
  · have HG0 := Lib.hid (PN.out (get_no HS.out HPK.out hf))
    have HD : Hid (insF zs x0 = zs.take p ++ ([x0] ++ zs.drop p)) := by show _ = _; rw [HIN.out, ← parts_low HPK.out, ← parts_high HS.out HPK.out hf]; rfl
    clear hf
    obtain ⟨A', h2, h3⟩ := cut_from A n c p hpn hnc
    have HA' := Lib.hid h3
    clear h3
    go_upto_region 3 with fail
    refine wp_region_held_drew (S := fun w' => w'.cell? ⟨w.heap.size, 0, none⟩ = some (.int .i64 key) ∧ w'.cell? ⟨w.heap.size, 1, none⟩ = some (.string d) ∧ w'.cell? ⟨w.heap.size, 2, none⟩ = some (.int .i64 a) ∧ w'.cell? ⟨w.heap.size, 3, none⟩ = some (.int .i64 s) ∧ w'.cell? ⟨w.heap.size, 4, none⟩ = some (.bool dead) ∧ w'.cell? ⟨w.heap.size, 5, none⟩ = some (.complex .f64 fx fy) ∧ w'.cell? ⟨w.heap.size, 6, none⟩ = some (.string text) ∧ w'.cell? ⟨w.heap.size, 7, none⟩ = some (.bool held)) (by kernel_rfl) ⟨k0, k1, k2, k3, k4, k5, k6, k7⟩ (fun hHeld => ?_)
    refine wpAnyH_take (i := 0) (oi := { dst := some 18, op := Go.Op.move (Go.Operand.tmp 0), type := 38, pos := "store.go:44", after := #[], guard := none }) (v := ?_) rfl (by kernel_rfl) (by kernel_rfl) (by kernel_rfl) (fun _ _ _ h => h) (Or.inl ⟨rfl, ?_⟩) (by assumption) ?_
    rotate_left
    · intro wz hSw; (try dsimp only at hSw); go_simp; try (with_reducible rfl)
    try simp only [Act.put, List.setIfInBounds_toArray, List.set_cons_zero, List.set_cons_succ]
    refine wpAnyH_take (i := 1) (oi := { dst := some 19, op := Go.Op.move (Go.Operand.tmp 6), type := 3, pos := "store.go:44", after := #[], guard := none }) (v := ?_) rfl (by kernel_rfl) (by kernel_rfl) (by kernel_rfl) (fun _ _ _ h => h) (Or.inl ⟨rfl, ?_⟩) (by assumption) ?_
    rotate_left
    · intro wz hSw; (try dsimp only at hSw); go_simp; try (with_reducible rfl)
    try simp only [Act.put, List.setIfInBounds_toArray, List.set_cons_zero, List.set_cons_succ]
    refine wpAnyH_take (i := 2) (oi := { dst := some 20, op := Go.Op.slice 38 (Go.Operand.tmp 18) none (some (Go.Operand.tmp 19)) none, type := 38, pos := "store.go:44", after := #[{ on := 0, ground := Go.Ground.data }, { on := 1, ground := Go.Ground.data }], guard := none }) (v := ?_) rfl (by kernel_rfl) (by kernel_rfl) (by kernel_rfl) (fun _ _ _ h => h) (Or.inl ⟨rfl, ?_⟩) (by assumption) ?_
    rotate_left
    · intro wz hSw; (try dsimp only at hSw); go_simp; try (with_reducible rfl)
    try simp only [Act.put, List.setIfInBounds_toArray, List.set_cons_zero, List.set_cons_succ]
    refine wpAnyH_take (i := 3) (oi := { dst := some 21, op := Go.Op.load 46 (Go.Operand.tmp 3), type := 46, pos := "store.go:44", after := #[], guard := none }) (v := ?_) rfl (by kernel_rfl) (by kernel_rfl) (by kernel_rfl) (fun _ _ _ h => h) (Or.inl ⟨rfl, ?_⟩) (by assumption) ?_
    rotate_left
    · intro wz hSw; (try dsimp only at hSw); go_simp; try (with_reducible rfl)
    try simp only [Act.put, List.setIfInBounds_toArray, List.set_cons_zero, List.set_cons_succ]
    refine wpAnyH_take (i := 5) (oi := { dst := some 23, op := Go.Op.move (Go.Operand.tmp 0), type := 38, pos := "store.go:44", after := #[], guard := none }) (v := ?_) rfl (by kernel_rfl) (by kernel_rfl) (by kernel_rfl) (fun _ _ _ h => h) (Or.inl ⟨rfl, ?_⟩) (by assumption) ?_
    rotate_left
    · intro wz hSw; (try dsimp only at hSw); go_simp; try (with_reducible rfl)
    try simp only [Act.put, List.setIfInBounds_toArray, List.set_cons_zero, List.set_cons_succ]
    refine wpAnyH_take (i := 6) (oi := { dst := some 24, op := Go.Op.move (Go.Operand.tmp 6), type := 3, pos := "store.go:44", after := #[], guard := none }) (v := ?_) rfl (by kernel_rfl) (by kernel_rfl) (by kernel_rfl) (fun _ _ _ h => h) (Or.inl ⟨rfl, ?_⟩) (by assumption) ?_
    rotate_left
    · intro wz hSw; (try dsimp only at hSw); go_simp; try (with_reducible rfl)
    try simp only [Act.put, List.setIfInBounds_toArray, List.set_cons_zero, List.set_cons_succ]
    refine wpAnyH_take (i := 7) (oi := { dst := some 25, op := Go.Op.slice 38 (Go.Operand.tmp 23) (some (Go.Operand.tmp 24)) none none, type := 38, pos := "store.go:44", after := #[{ on := 5, ground := Go.Ground.data }, { on := 6, ground := Go.Ground.data }], guard := none }) (v := ?_) rfl (by kernel_rfl) (by kernel_rfl) (by kernel_rfl) (fun _ _ _ h => h) (Or.inl ⟨rfl, ?_⟩) (by assumption) ?_
    rotate_left
    · intro wz hSw; (try dsimp only at hSw); go_simp; try (with_reducible rfl)
    try simp only [Act.put, List.setIfInBounds_toArray, List.set_cons_zero, List.set_cons_succ]
    refine wpAnyH_ready (rs := [4]) (by kernel_rfl) (by simp) ?_
    refine (AllReadyH.cons (o := { dst := some 22, op := Go.Op.buildSlice 38 1 #[(0, Go.Operand.tmp 21)], type := 38, pos := "store.go:44", after := #[{ on := 3, ground := Go.Ground.data }], guard := none }) rfl (fun K hK => ?_) AllReadyH.nil)
    go_simp
    have hb1 : Below w1.heap.size w1 (w1.alloc (.cells #[.int .i64 key, .string d, .int .i64 a, .int .i64 s, .bool dead, .complex .f64 fx fy, .string text, .bool held] 46)).drew := ((Below.refl _ _).alloc (Nat.le_refl _) _).drew
    replace HB := Lib.hid (HB.out.trans (hb1.mono HB.out.size))
    have HX1 : Hid (RowAt cellsP 8 (w1.alloc (.cells #[.int .i64 key, .string d, .int .i64 a, .int .i64 s, .bool dead, .complex .f64 fx fy, .string text, .bool held] 46)).drew (w1.heap.size + 1) (some ⟨w1.heap.size, 0, none⟩) 1 [x0]) := one_row rowS (by rw [HX.out]; exact heap_alloc_new w1 _)
    have hX : w1.heap.size + 1 ≤ (w1.alloc (.cells #[.int .i64 key, .string d, .int .i64 a, .int .i64 s, .bool dead, .complex .f64 fx fy, .string text, .bool held] 46)).drew.heap.size := by show _ ≤ (w1.alloc _).heap.size; simp
    replace k0 := (hb1.cell (p := ⟨w.heap.size, 0, none⟩) kz).trans k0
    replace k1 := (hb1.cell (p := ⟨w.heap.size, 1, none⟩) kz).trans k1
    replace k2 := (hb1.cell (p := ⟨w.heap.size, 2, none⟩) kz).trans k2
    replace k3 := (hb1.cell (p := ⟨w.heap.size, 3, none⟩) kz).trans k3
    replace k4 := (hb1.cell (p := ⟨w.heap.size, 4, none⟩) kz).trans k4
    replace k5 := (hb1.cell (p := ⟨w.heap.size, 5, none⟩) kz).trans k5
    replace k6 := (hb1.cell (p := ⟨w.heap.size, 6, none⟩) kz).trans k6
    replace k7 := (hb1.cell (p := ⟨w.heap.size, 7, none⟩) kz).trans k7
    replace kz := Nat.lt_of_lt_of_le kz hb1.size
    have HZ1 := Lib.hid ((HZ.out.keep (HB.out.mono hB)).more (Nat.le_trans hB HB.out.size))
    clear hb1
    generalize (w1.alloc (.cells #[.int .i64 key, .string d, .int .i64 a, .int .i64 s, .bool dead, .complex .f64 fx fy, .string text, .bool held] 46)).drew = u2 at *
    generalize w1.heap.size = G1 at *
    refine hK.out _ _ ⟨k0, k1, k2, k3, k4, k5, k6, k7⟩ (fun hHeld => ?_)
    clear hK K
    try simp only [Act.put, List.setIfInBounds_toArray, List.set_cons_zero, List.set_cons_succ]
    refine wpAnyH_ready (rs := [8]) (by kernel_rfl) (by simp) ?_
    refine (AllReadyH.cons (o := { dst := some 26, op := Go.Op.buildSlice 107 3 #[(0, Go.Operand.tmp 20), (1, Go.Operand.tmp 22), (2, Go.Operand.tmp 25)], type := 107, pos := "store.go:44", after := #[{ on := 2, ground := Go.Ground.data }, { on := 4, ground := Go.Ground.data }, { on := 7, ground := Go.Ground.data }], guard := none }) rfl (fun K hK => ?_) AllReadyH.nil)
    go_simp
    have hb1 : Below u2.heap.size u2 (u2.alloc (.cells #[.slice A p c, .slice (some ⟨G1, 0, none⟩) 1 1, .slice A' (n - p) (c - p)] 38)) := (Below.refl _ _).alloc (Nat.le_refl _) _
    replace HB := Lib.hid (HB.out.trans (hb1.mono HB.out.size))
    have HG : Hid ((u2.alloc (.cells #[.slice A p c, .slice (some ⟨G1, 0, none⟩) 1 1, .slice A' (n - p) (c - p)] 38)).heap[u2.heap.size]? = some (.cells #[.slice A p c, .slice (some ⟨G1, 0, none⟩) 1 1, .slice A' (n - p) (c - p)] 38)) := heap_alloc_new u2 _
    replace HX1 := Lib.hid ((HX1.out.more hX).keep hb1)
    replace HZ1 := Lib.hid (HZ1.out.keep hb1)
    replace k0 := (hb1.cell (p := ⟨w.heap.size, 0, none⟩) kz).trans k0
    replace k1 := (hb1.cell (p := ⟨w.heap.size, 1, none⟩) kz).trans k1
    replace k2 := (hb1.cell (p := ⟨w.heap.size, 2, none⟩) kz).trans k2
    replace k3 := (hb1.cell (p := ⟨w.heap.size, 3, none⟩) kz).trans k3
    replace k4 := (hb1.cell (p := ⟨w.heap.size, 4, none⟩) kz).trans k4
    replace k5 := (hb1.cell (p := ⟨w.heap.size, 5, none⟩) kz).trans k5
    replace k6 := (hb1.cell (p := ⟨w.heap.size, 6, none⟩) kz).trans k6
    replace k7 := (hb1.cell (p := ⟨w.heap.size, 7, none⟩) kz).trans k7
    replace kz := Nat.lt_of_lt_of_le kz hb1.size
    have hw2 := hb1.size
    clear hb1
    generalize (u2.alloc (.cells #[.slice A p c, .slice (some ⟨G1, 0, none⟩) 1 1, .slice A' (n - p) (c - p)] 38)) = u3 at *
    generalize u2.heap.size = G2 at *
    refine hK.out _ _ ⟨k0, k1, k2, k3, k4, k5, k6, k7⟩ (fun hHeld => ?_)
    clear hK K
    try simp only [Act.put, List.setIfInBounds_toArray, List.set_cons_zero, List.set_cons_succ]
    refine wpAnyH_ready (rs := [9]) (by kernel_rfl) (by simp) ?_
    refine (AllReadyH.cons (o := { dst := some 27, op := Go.Op.call { callee := Go.Callee.value (Go.Operand.func 39), args := #[Go.Operand.tmp 26], argTypes := #[107] }, type := 38, pos := "store.go:44", after := #[{ on := 8, ground := Go.Ground.data }], guard := none }) rfl (fun K hK => ?_) AllReadyH.nil)
    go_simp
    go_at_call 39
    refine (concatR_three G2 c 1 (c - p) p 1 (n - p) A (some ⟨G1, 0, none⟩) A' (zs.take p) [x0] (zs.drop (p)) 38 (0, 0) G2 _ hw2 HG.out (HZ1.out.take hpn) HX1.out (HA'.out _ _ _ HZ1.out) (by omega) _).mono ?_
    rw [← HD.out]
    rintro e w4 ⟨A4, c4, rfl, ho, hb4⟩
    replace k0 := (hb4.cell (p := ⟨w.heap.size, 0, none⟩) kz).trans k0
    replace k1 := (hb4.cell (p := ⟨w.heap.size, 1, none⟩) kz).trans k1
    replace k2 := (hb4.cell (p := ⟨w.heap.size, 2, none⟩) kz).trans k2
    replace k3 := (hb4.cell (p := ⟨w.heap.size, 3, none⟩) kz).trans k3
    replace k4 := (hb4.cell (p := ⟨w.heap.size, 4, none⟩) kz).trans k4
    replace k5 := (hb4.cell (p := ⟨w.heap.size, 5, none⟩) kz).trans k5
    replace k6 := (hb4.cell (p := ⟨w.heap.size, 6, none⟩) kz).trans k6
    replace k7 := (hb4.cell (p := ⟨w.heap.size, 7, none⟩) kz).trans k7
    have HO := Lib.hid (rown_base ho HB.out.size)
    replace HB := Lib.hid (HB.out.trans (hb4.mono HB.out.size))
    clear ho hb4 HG HX1 HZ1
    refine hK.out _ _ ⟨k0, k1, k2, k3, k4, k5, k6, k7⟩ (fun hHeld => ?_)
    clear hK K
    try simp only [Act.put, List.setIfInBounds_toArray, List.set_cons_zero, List.set_cons_succ]
    refine wpAnyH_take (i := 10) (oi := { dst := some 4, op := Go.Op.assign (Go.Operand.tmp 27), type := 38, pos := "store.go:44", after := #[{ on := 9, ground := Go.Ground.data }, { on := 9, ground := Go.Ground.chain }, { on := 0, ground := Go.Ground.phase }, { on := 1, ground := Go.Ground.phase }, { on := 2, ground := Go.Ground.phase }, { on := 3, ground := Go.Ground.phase }, { on := 4, ground := Go.Ground.phase }, { on := 5, ground := Go.Ground.phase }, { on := 6, ground := Go.Ground.phase }, { on := 7, ground := Go.Ground.phase }, { on := 8, ground := Go.Ground.phase }, { on := 9, ground := Go.Ground.phase }], guard := none }) (v := ?_) rfl (by kernel_rfl) (by kernel_rfl) (by kernel_rfl) (fun _ _ _ h => h) (Or.inl ⟨rfl, ?_⟩) (by assumption) ?_
    rotate_left
    · intro wz hSw; (try dsimp only at hSw); go_simp; try (with_reducible rfl)
    try simp only [Act.put, List.setIfInBounds_toArray, List.set_cons_zero, List.set_cons_succ]
    refine wpAnyH_take (i := 11) (oi := { dst := some 5, op := Go.Op.assign (Go.Operand.const (Go.Value.bool true)), type := 4, pos := "store.go:44", after := #[{ on := 10, ground := Go.Ground.chain }, { on := 0, ground := Go.Ground.phase }, { on := 1, ground := Go.Ground.phase }, { on := 2, ground := Go.Ground.phase }, { on := 3, ground := Go.Ground.phase }, { on := 4, ground := Go.Ground.phase }, { on := 5, ground := Go.Ground.phase }, { on := 6, ground := Go.Ground.phase }, { on := 7, ground := Go.Ground.phase }, { on := 8, ground := Go.Ground.phase }, { on := 9, ground := Go.Ground.phase }, { on := 10, ground := Go.Ground.phase }], guard := none }) (v := ?_) rfl (by kernel_rfl) (by kernel_rfl) (by kernel_rfl) (fun _ _ _ h => h) (Or.inl ⟨rfl, ?_⟩) (by assumption) ?_
    rotate_left
    · intro wz hSw; (try dsimp only at hSw); go_simp; try (with_reducible rfl)
    try simp only [Act.put, List.setIfInBounds_toArray, List.set_cons_zero, List.set_cons_succ]
    refine wpAnyH_done (by kernel_rfl) ?_ _
    go_wp2
    go_ret2
    exact put_ret HG0.out HO.out HB.out
  · obtain ⟨y, hy, hk⟩ := isAt_true hf
    have HGY := Lib.hid (get_yes HPK.out hy hk)
    have HD : Hid (insF zs x0 = zs.take p ++ ([x0] ++ zs.drop (p + 1))) := by show _ = _; rw [HIN.out, ← parts_low HPK.out, ← parts_high1 HS.out HPK.out hf]; rfl
    have hpn1 : p + 1 ≤ n := by have := (List.getElem?_eq_some_iff.mp hy).1; have := HL.out; omega
    have hpl : (p : Int) < n := by omega
    obtain ⟨blk, off, rfl, hbB, y', hy', hcell⟩ := HZ.out.get (k := p) (by omega)
    obtain rfl : y' = y := by rw [hy] at hy'; injection hy' with e; exact e.symm
    obtain ⟨e0, e1, e2, e3, e4, e5, e6, e7⟩ := cellsP_at hcell
    replace e0 := ((HB.out.mono hB).cell (p := ⟨blk, off + p * 8, none⟩) hbB).trans e0
    replace e1 := ((HB.out.mono hB).cell (p := ⟨blk, off + p * 8 + 1, none⟩) hbB).trans e1
    replace e2 := ((HB.out.mono hB).cell (p := ⟨blk, off + p * 8 + 2, none⟩) hbB).trans e2
    replace e3 := ((HB.out.mono hB).cell (p := ⟨blk, off + p * 8 + 3, none⟩) hbB).trans e3
    replace e4 := ((HB.out.mono hB).cell (p := ⟨blk, off + p * 8 + 4, none⟩) hbB).trans e4
    replace e5 := ((HB.out.mono hB).cell (p := ⟨blk, off + p * 8 + 5, none⟩) hbB).trans e5
    replace e6 := ((HB.out.mono hB).cell (p := ⟨blk, off + p * 8 + 6, none⟩) hbB).trans e6
    replace e7 := ((HB.out.mono hB).cell (p := ⟨blk, off + p * 8 + 7, none⟩) hbB).trans e7
    have hbl : blk < w1.heap.size := by have := HB.out.size; omega
    clear hf hy hk hy' hcell
    have HRY := Lib.hid (HR.out y')
    have HPO := Lib.hid (PO.out y' HGY.out)
    have HPN := Lib.hid (PNO.out y' HGY.out)
    unfold itmV at HRY
    generalize replF x0 y' = R at *
    generalize y'.key = key2 at *
    generalize y'.ver.id = d2 at *
    generalize y'.ver.seq = a2 at *
    generalize y'.ver.stamp = s2 at *
    generalize y'.dead = dead2 at *
    generalize fl y'.x = fx2 at *
    generalize fl y'.y = fy2 at *
    generalize y'.text = text2 at *
    generalize y'.held = held2 at *
    go_upto_region 4 with fail
    refine wp_region_held_drew (S := fun w' => w'.cell? ⟨w.heap.size, 0, none⟩ = some (.int .i64 key) ∧ w'.cell? ⟨w.heap.size, 1, none⟩ = some (.string d) ∧ w'.cell? ⟨w.heap.size, 2, none⟩ = some (.int .i64 a) ∧ w'.cell? ⟨w.heap.size, 3, none⟩ = some (.int .i64 s) ∧ w'.cell? ⟨w.heap.size, 4, none⟩ = some (.bool dead) ∧ w'.cell? ⟨w.heap.size, 5, none⟩ = some (.complex .f64 fx fy) ∧ w'.cell? ⟨w.heap.size, 6, none⟩ = some (.string text) ∧ w'.cell? ⟨w.heap.size, 7, none⟩ = some (.bool held) ∧ w'.cell? ⟨blk, off + p * 8, none⟩ = some (.int .i64 key2) ∧ w'.cell? ⟨blk, off + p * 8 + 1, none⟩ = some (.string d2) ∧ w'.cell? ⟨blk, off + p * 8 + 2, none⟩ = some (.int .i64 a2) ∧ w'.cell? ⟨blk, off + p * 8 + 3, none⟩ = some (.int .i64 s2) ∧ w'.cell? ⟨blk, off + p * 8 + 4, none⟩ = some (.bool dead2) ∧ w'.cell? ⟨blk, off + p * 8 + 5, none⟩ = some (.complex .f64 fx2 fy2) ∧ w'.cell? ⟨blk, off + p * 8 + 6, none⟩ = some (.string text2) ∧ w'.cell? ⟨blk, off + p * 8 + 7, none⟩ = some (.bool held2)) (by kernel_rfl) ⟨k0, k1, k2, k3, k4, k5, k6, k7, e0, e1, e2, e3, e4, e5, e6, e7⟩ (fun hHeld => ?_)
    refine wpAnyH_take (i := 0) (oi := { dst := some 29, op := Go.Op.load 46 (Go.Operand.tmp 3), type := 46, pos := "store.go:45", after := #[], guard := none }) (v := ?_) rfl (by kernel_rfl) (by kernel_rfl) (by kernel_rfl) (fun _ _ _ h => h) (Or.inl ⟨rfl, ?_⟩) (by assumption) ?_
    rotate_left
    · intro wz hSw; (try dsimp only at hSw); go_simp; try (with_reducible rfl)
    try simp only [Act.put, List.setIfInBounds_toArray, List.set_cons_zero, List.set_cons_succ]
    refine wpAnyH_take (i := 1) (oi := { dst := some 30, op := Go.Op.move (Go.Operand.tmp 0), type := 38, pos := "store.go:45", after := #[], guard := none }) (v := ?_) rfl (by kernel_rfl) (by kernel_rfl) (by kernel_rfl) (fun _ _ _ h => h) (Or.inl ⟨rfl, ?_⟩) (by assumption) ?_
    rotate_left
    · intro wz hSw; (try dsimp only at hSw); go_simp; try (with_reducible rfl)
    try simp only [Act.put, List.setIfInBounds_toArray, List.set_cons_zero, List.set_cons_succ]
    refine wpAnyH_take (i := 2) (oi := { dst := some 31, op := Go.Op.move (Go.Operand.tmp 6), type := 3, pos := "store.go:45", after := #[], guard := none }) (v := ?_) rfl (by kernel_rfl) (by kernel_rfl) (by kernel_rfl) (fun _ _ _ h => h) (Or.inl ⟨rfl, ?_⟩) (by assumption) ?_
    rotate_left
    · intro wz hSw; (try dsimp only at hSw); go_simp; try (with_reducible rfl)
    try simp only [Act.put, List.setIfInBounds_toArray, List.set_cons_zero, List.set_cons_succ]
    refine wpAnyH_take (i := 3) (oi := { dst := some 32, op := Go.Op.indexAddr 38 (Go.Operand.tmp 30) (Go.Operand.tmp 31), type := 0, pos := "store.go:45", after := #[{ on := 1, ground := Go.Ground.data }, { on := 2, ground := Go.Ground.data }], guard := none }) (v := ?_) rfl (by kernel_rfl) (by kernel_rfl) (by kernel_rfl) (fun _ _ _ h => h) (Or.inl ⟨rfl, ?_⟩) (by assumption) ?_
    rotate_left
    · intro wz hSw; (try dsimp only at hSw); go_simp; try (with_reducible rfl)
    try simp only [Act.put, List.setIfInBounds_toArray, List.set_cons_zero, List.set_cons_succ]
    refine wpAnyH_take (i := 4) (oi := { dst := some 33, op := Go.Op.load 46 (Go.Operand.tmp 32), type := 46, pos := "store.go:45", after := #[{ on := 3, ground := Go.Ground.data }], guard := none }) (v := ?_) rfl (by kernel_rfl) (by kernel_rfl) (by kernel_rfl) (fun _ _ _ h => h) (Or.inl ⟨rfl, ?_⟩) (by assumption) ?_
    rotate_left
    · intro wz hSw; (try dsimp only at hSw); go_simp; try (with_reducible rfl)
    try simp only [Act.put, List.setIfInBounds_toArray, List.set_cons_zero, List.set_cons_succ]
    refine wpAnyH_ready (rs := [5]) (by kernel_rfl) (by simp) ?_
    refine (AllReadyH.cons (o := { dst := some 34, op := Go.Op.call { callee := Go.Callee.value (Go.Operand.func 40), args := #[Go.Operand.tmp 29, Go.Operand.tmp 33], argTypes := #[46, 46] }, type := 4, pos := "store.go:45", after := #[{ on := 0, ground := Go.Ground.data }, { on := 4, ground := Go.Ground.data }], guard := none }) rfl (fun K hK => ?_) AllReadyH.nil)
    go_simp
    go_at_call 40
    refine (HRY.out _).mono ?_
    rintro e w2 ⟨rfl, hb⟩
    replace k0 := (hb.cell (p := ⟨w.heap.size, 0, none⟩) kz).trans k0
    replace k1 := (hb.cell (p := ⟨w.heap.size, 1, none⟩) kz).trans k1
    replace k2 := (hb.cell (p := ⟨w.heap.size, 2, none⟩) kz).trans k2
    replace k3 := (hb.cell (p := ⟨w.heap.size, 3, none⟩) kz).trans k3
    replace k4 := (hb.cell (p := ⟨w.heap.size, 4, none⟩) kz).trans k4
    replace k5 := (hb.cell (p := ⟨w.heap.size, 5, none⟩) kz).trans k5
    replace k6 := (hb.cell (p := ⟨w.heap.size, 6, none⟩) kz).trans k6
    replace k7 := (hb.cell (p := ⟨w.heap.size, 7, none⟩) kz).trans k7
    replace e0 := (hb.cell (p := ⟨blk, off + p * 8, none⟩) hbl).trans e0
    replace e1 := (hb.cell (p := ⟨blk, off + p * 8 + 1, none⟩) hbl).trans e1
    replace e2 := (hb.cell (p := ⟨blk, off + p * 8 + 2, none⟩) hbl).trans e2
    replace e3 := (hb.cell (p := ⟨blk, off + p * 8 + 3, none⟩) hbl).trans e3
    replace e4 := (hb.cell (p := ⟨blk, off + p * 8 + 4, none⟩) hbl).trans e4
    replace e5 := (hb.cell (p := ⟨blk, off + p * 8 + 5, none⟩) hbl).trans e5
    replace e6 := (hb.cell (p := ⟨blk, off + p * 8 + 6, none⟩) hbl).trans e6
    replace e7 := (hb.cell (p := ⟨blk, off + p * 8 + 7, none⟩) hbl).trans e7
    replace kz := Nat.lt_of_lt_of_le kz hb.size
    replace HB := Lib.hid (below_via HB.out hb HB.out.size ⟨rfl, rfl, rfl, rfl⟩)
    clear hb
    refine hK.out _ _ ⟨k0, k1, k2, k3, k4, k5, k6, k7, e0, e1, e2, e3, e4, e5, e6, e7⟩ (fun hHeld => ?_)
    clear hK K
    try simp only [Act.put, List.setIfInBounds_toArray, List.set_cons_zero, List.set_cons_succ]
    refine wpAnyH_take (i := 6) (oi := { dst := some 35, op := Go.Op.unOp Go.UnOp.not 4 (Go.Operand.tmp 34), type := 4, pos := "store.go:45", after := #[{ on := 5, ground := Go.Ground.data }], guard := none }) (v := ?_) rfl (by kernel_rfl) (by kernel_rfl) (by kernel_rfl) (fun _ _ _ h => h) (Or.inl ⟨rfl, ?_⟩) (by assumption) ?_
    rotate_left
    · intro wz hSw; (try dsimp only at hSw); go_simp; try (with_reducible rfl)
    try simp only [Act.put, List.setIfInBounds_toArray, List.set_cons_zero, List.set_cons_succ]
    refine wpAnyH_take (i := 7) (oi := { dst := some 28, op := Go.Op.assign (Go.Operand.tmp 35), type := 4, pos := "store.go:45", after := #[{ on := 6, ground := Go.Ground.data }, { on := 5, ground := Go.Ground.chain }], guard := none }) (v := ?_) rfl (by kernel_rfl) (by kernel_rfl) (by kernel_rfl) (fun _ _ _ h => h) (Or.inl ⟨rfl, ?_⟩) (by assumption) ?_
    rotate_left
    · intro wz hSw; (try dsimp only at hSw); go_simp; try (with_reducible rfl)
    try simp only [Act.put, List.setIfInBounds_toArray, List.set_cons_zero, List.set_cons_succ]
    refine wpAnyH_done (by kernel_rfl) ?_ _
    clear e0 e1 e2 e3 e4 e5 e6 e7 hHeld hbl kf0 kf1 kf2 kf3 kf4 kf5 kf6 kf7
    cases R
    · have HG0 := Lib.hid (HPN.out rfl)
      go_wp2_with fail
      refine (cloneR_any _ n c zs B w2 (Nat.le_trans hB HB.out.size) (HZ.out.keep (HB.out.mono hB)) (by omega)).mono ?_
      rintro e w3 ⟨A3, c3, rfl, ho, hb3⟩
      have HO := Lib.hid (rown_base ho HB.out.size)
      replace HB := Lib.hid (HB.out.trans (hb3.mono HB.out.size))
      clear ho hb3
      go_wp2
      go_ret2
      exact put_ret HG0.out HO.out HB.out
    · have HG0 := Lib.hid (HPO.out rfl)
      have hA0 : ∃ A0 : Option Addr, A0 = some ⟨blk, off, none⟩ := ⟨_, rfl⟩
      obtain ⟨A, hA⟩ := hA0
      rw [← hA] at h1 HZ ⊢
      clear hA
      obtain ⟨A', h2, h3⟩ := cut_from A n c (p + 1) hpn1 hnc
      rw [show ((p + 1 : Nat) : Int) = IntKind.i64.wrap ((p : Int) + 1) by rw [IntWalk.i64_in _ (by omega)]; omega] at h2
      have HA' := Lib.hid h3
      clear h3
      go_upto_region 6 with fail
      refine wp_region_held_drew (S := fun w' => w'.cell? ⟨w.heap.size, 0, none⟩ = some (.int .i64 key) ∧ w'.cell? ⟨w.heap.size, 1, none⟩ = some (.string d) ∧ w'.cell? ⟨w.heap.size, 2, none⟩ = some (.int .i64 a) ∧ w'.cell? ⟨w.heap.size, 3, none⟩ = some (.int .i64 s) ∧ w'.cell? ⟨w.heap.size, 4, none⟩ = some (.bool dead) ∧ w'.cell? ⟨w.heap.size, 5, none⟩ = some (.complex .f64 fx fy) ∧ w'.cell? ⟨w.heap.size, 6, none⟩ = some (.string text) ∧ w'.cell? ⟨w.heap.size, 7, none⟩ = some (.bool held)) (by kernel_rfl) ⟨k0, k1, k2, k3, k4, k5, k6, k7⟩ (fun hHeld => ?_)
      refine wpAnyH_take (i := 0) (oi := { dst := some 38, op := Go.Op.move (Go.Operand.tmp 0), type := 38, pos := "store.go:48", after := #[], guard := none }) (v := ?_) rfl (by kernel_rfl) (by kernel_rfl) (by kernel_rfl) (fun _ _ _ h => h) (Or.inl ⟨rfl, ?_⟩) (by assumption) ?_
      rotate_left
      · intro wz hSw; (try dsimp only at hSw); go_simp; try (with_reducible rfl)
      try simp only [Act.put, List.setIfInBounds_toArray, List.set_cons_zero, List.set_cons_succ]
      refine wpAnyH_take (i := 1) (oi := { dst := some 39, op := Go.Op.move (Go.Operand.tmp 6), type := 3, pos := "store.go:48", after := #[], guard := none }) (v := ?_) rfl (by kernel_rfl) (by kernel_rfl) (by kernel_rfl) (fun _ _ _ h => h) (Or.inl ⟨rfl, ?_⟩) (by assumption) ?_
      rotate_left
      · intro wz hSw; (try dsimp only at hSw); go_simp; try (with_reducible rfl)
      try simp only [Act.put, List.setIfInBounds_toArray, List.set_cons_zero, List.set_cons_succ]
      refine wpAnyH_take (i := 2) (oi := { dst := some 40, op := Go.Op.slice 38 (Go.Operand.tmp 38) none (some (Go.Operand.tmp 39)) none, type := 38, pos := "store.go:48", after := #[{ on := 0, ground := Go.Ground.data }, { on := 1, ground := Go.Ground.data }], guard := none }) (v := ?_) rfl (by kernel_rfl) (by kernel_rfl) (by kernel_rfl) (fun _ _ _ h => h) (Or.inl ⟨rfl, ?_⟩) (by assumption) ?_
      rotate_left
      · intro wz hSw; (try dsimp only at hSw); go_simp; try (with_reducible rfl)
      try simp only [Act.put, List.setIfInBounds_toArray, List.set_cons_zero, List.set_cons_succ]
      refine wpAnyH_take (i := 3) (oi := { dst := some 41, op := Go.Op.load 46 (Go.Operand.tmp 3), type := 46, pos := "store.go:48", after := #[], guard := none }) (v := ?_) rfl (by kernel_rfl) (by kernel_rfl) (by kernel_rfl) (fun _ _ _ h => h) (Or.inl ⟨rfl, ?_⟩) (by assumption) ?_
      rotate_left
      · intro wz hSw; (try dsimp only at hSw); go_simp; try (with_reducible rfl)
      try simp only [Act.put, List.setIfInBounds_toArray, List.set_cons_zero, List.set_cons_succ]
      refine wpAnyH_take (i := 5) (oi := { dst := some 43, op := Go.Op.move (Go.Operand.tmp 0), type := 38, pos := "store.go:48", after := #[], guard := none }) (v := ?_) rfl (by kernel_rfl) (by kernel_rfl) (by kernel_rfl) (fun _ _ _ h => h) (Or.inl ⟨rfl, ?_⟩) (by assumption) ?_
      rotate_left
      · intro wz hSw; (try dsimp only at hSw); go_simp; try (with_reducible rfl)
      try simp only [Act.put, List.setIfInBounds_toArray, List.set_cons_zero, List.set_cons_succ]
      refine wpAnyH_take (i := 6) (oi := { dst := some 44, op := Go.Op.move (Go.Operand.tmp 6), type := 3, pos := "store.go:48", after := #[], guard := none }) (v := ?_) rfl (by kernel_rfl) (by kernel_rfl) (by kernel_rfl) (fun _ _ _ h => h) (Or.inl ⟨rfl, ?_⟩) (by assumption) ?_
      rotate_left
      · intro wz hSw; (try dsimp only at hSw); go_simp; try (with_reducible rfl)
      try simp only [Act.put, List.setIfInBounds_toArray, List.set_cons_zero, List.set_cons_succ]
      refine wpAnyH_take (i := 7) (oi := { dst := some 45, op := Go.Op.binOp Go.BinOp.add 3 (Go.Operand.tmp 44) (Go.Operand.const (Go.Value.int Go.IntKind.i64 1)) 3, type := 3, pos := "store.go:48", after := #[{ on := 6, ground := Go.Ground.data }], guard := none }) (v := ?_) rfl (by kernel_rfl) (by kernel_rfl) (by kernel_rfl) (fun _ _ _ h => h) (Or.inl ⟨rfl, ?_⟩) (by assumption) ?_
      rotate_left
      · intro wz hSw; (try dsimp only at hSw); go_simp; try (with_reducible rfl)
      try simp only [Act.put, List.setIfInBounds_toArray, List.set_cons_zero, List.set_cons_succ]
      refine wpAnyH_take (i := 8) (oi := { dst := some 46, op := Go.Op.slice 38 (Go.Operand.tmp 43) (some (Go.Operand.tmp 45)) none none, type := 38, pos := "store.go:48", after := #[{ on := 5, ground := Go.Ground.data }, { on := 7, ground := Go.Ground.data }], guard := none }) (v := ?_) rfl (by kernel_rfl) (by kernel_rfl) (by kernel_rfl) (fun _ _ _ h => h) (Or.inl ⟨rfl, ?_⟩) (by assumption) ?_
      rotate_left
      · intro wz hSw; (try dsimp only at hSw); go_simp; try (with_reducible rfl)
      try simp only [Act.put, List.setIfInBounds_toArray, List.set_cons_zero, List.set_cons_succ]
      refine wpAnyH_ready (rs := [4]) (by kernel_rfl) (by simp) ?_
      refine (AllReadyH.cons (o := { dst := some 42, op := Go.Op.buildSlice 38 1 #[(0, Go.Operand.tmp 41)], type := 38, pos := "store.go:48", after := #[{ on := 3, ground := Go.Ground.data }], guard := none }) rfl (fun K hK => ?_) AllReadyH.nil)
      go_simp
      have hb1 : Below w2.heap.size w2 (w2.alloc (.cells #[.int .i64 key, .string d, .int .i64 a, .int .i64 s, .bool dead, .complex .f64 fx fy, .string text, .bool held] 46)).drew := ((Below.refl _ _).alloc (Nat.le_refl _) _).drew
      replace HB := Lib.hid (HB.out.trans (hb1.mono HB.out.size))
      have HX1 : Hid (RowAt cellsP 8 (w2.alloc (.cells #[.int .i64 key, .string d, .int .i64 a, .int .i64 s, .bool dead, .complex .f64 fx fy, .string text, .bool held] 46)).drew (w2.heap.size + 1) (some ⟨w2.heap.size, 0, none⟩) 1 [x0]) := one_row rowS (by rw [HX.out]; exact heap_alloc_new w2 _)
      have hX : w2.heap.size + 1 ≤ (w2.alloc (.cells #[.int .i64 key, .string d, .int .i64 a, .int .i64 s, .bool dead, .complex .f64 fx fy, .string text, .bool held] 46)).drew.heap.size := by show _ ≤ (w2.alloc _).heap.size; simp
      replace k0 := (hb1.cell (p := ⟨w.heap.size, 0, none⟩) kz).trans k0
      replace k1 := (hb1.cell (p := ⟨w.heap.size, 1, none⟩) kz).trans k1
      replace k2 := (hb1.cell (p := ⟨w.heap.size, 2, none⟩) kz).trans k2
      replace k3 := (hb1.cell (p := ⟨w.heap.size, 3, none⟩) kz).trans k3
      replace k4 := (hb1.cell (p := ⟨w.heap.size, 4, none⟩) kz).trans k4
      replace k5 := (hb1.cell (p := ⟨w.heap.size, 5, none⟩) kz).trans k5
      replace k6 := (hb1.cell (p := ⟨w.heap.size, 6, none⟩) kz).trans k6
      replace k7 := (hb1.cell (p := ⟨w.heap.size, 7, none⟩) kz).trans k7
      replace kz := Nat.lt_of_lt_of_le kz hb1.size
      have HZ1 := Lib.hid ((HZ.out.keep (HB.out.mono hB)).more (Nat.le_trans hB HB.out.size))
      clear hb1
      generalize (w2.alloc (.cells #[.int .i64 key, .string d, .int .i64 a, .int .i64 s, .bool dead, .complex .f64 fx fy, .string text, .bool held] 46)).drew = u2 at *
      generalize w2.heap.size = G1 at *
      refine hK.out _ _ ⟨k0, k1, k2, k3, k4, k5, k6, k7⟩ (fun hHeld => ?_)
      clear hK K
      try simp only [Act.put, List.setIfInBounds_toArray, List.set_cons_zero, List.set_cons_succ]
      refine wpAnyH_ready (rs := [9]) (by kernel_rfl) (by simp) ?_
      refine (AllReadyH.cons (o := { dst := some 47, op := Go.Op.buildSlice 107 3 #[(0, Go.Operand.tmp 40), (1, Go.Operand.tmp 42), (2, Go.Operand.tmp 46)], type := 107, pos := "store.go:48", after := #[{ on := 2, ground := Go.Ground.data }, { on := 4, ground := Go.Ground.data }, { on := 8, ground := Go.Ground.data }], guard := none }) rfl (fun K hK => ?_) AllReadyH.nil)
      go_simp
      have hb1 : Below u2.heap.size u2 (u2.alloc (.cells #[.slice A p c, .slice (some ⟨G1, 0, none⟩) 1 1, .slice A' (n - (p + 1)) (c - (p + 1))] 38)) := (Below.refl _ _).alloc (Nat.le_refl _) _
      replace HB := Lib.hid (HB.out.trans (hb1.mono HB.out.size))
      have HG : Hid ((u2.alloc (.cells #[.slice A p c, .slice (some ⟨G1, 0, none⟩) 1 1, .slice A' (n - (p + 1)) (c - (p + 1))] 38)).heap[u2.heap.size]? = some (.cells #[.slice A p c, .slice (some ⟨G1, 0, none⟩) 1 1, .slice A' (n - (p + 1)) (c - (p + 1))] 38)) := heap_alloc_new u2 _
      replace HX1 := Lib.hid ((HX1.out.more hX).keep hb1)
      replace HZ1 := Lib.hid (HZ1.out.keep hb1)
      replace k0 := (hb1.cell (p := ⟨w.heap.size, 0, none⟩) kz).trans k0
      replace k1 := (hb1.cell (p := ⟨w.heap.size, 1, none⟩) kz).trans k1
      replace k2 := (hb1.cell (p := ⟨w.heap.size, 2, none⟩) kz).trans k2
      replace k3 := (hb1.cell (p := ⟨w.heap.size, 3, none⟩) kz).trans k3
      replace k4 := (hb1.cell (p := ⟨w.heap.size, 4, none⟩) kz).trans k4
      replace k5 := (hb1.cell (p := ⟨w.heap.size, 5, none⟩) kz).trans k5
      replace k6 := (hb1.cell (p := ⟨w.heap.size, 6, none⟩) kz).trans k6
      replace k7 := (hb1.cell (p := ⟨w.heap.size, 7, none⟩) kz).trans k7
      replace kz := Nat.lt_of_lt_of_le kz hb1.size
      have hw2 := hb1.size
      clear hb1
      generalize (u2.alloc (.cells #[.slice A p c, .slice (some ⟨G1, 0, none⟩) 1 1, .slice A' (n - (p + 1)) (c - (p + 1))] 38)) = u3 at *
      generalize u2.heap.size = G2 at *
      refine hK.out _ _ ⟨k0, k1, k2, k3, k4, k5, k6, k7⟩ (fun hHeld => ?_)
      clear hK K
      try simp only [Act.put, List.setIfInBounds_toArray, List.set_cons_zero, List.set_cons_succ]
      refine wpAnyH_ready (rs := [10]) (by kernel_rfl) (by simp) ?_
      refine (AllReadyH.cons (o := { dst := some 48, op := Go.Op.call { callee := Go.Callee.value (Go.Operand.func 39), args := #[Go.Operand.tmp 47], argTypes := #[107] }, type := 38, pos := "store.go:48", after := #[{ on := 9, ground := Go.Ground.data }], guard := none }) rfl (fun K hK => ?_) AllReadyH.nil)
      go_simp
      go_at_call 39
      refine (concatR_three G2 c 1 (c - (p + 1)) p 1 (n - (p + 1)) A (some ⟨G1, 0, none⟩) A' (zs.take p) [x0] (zs.drop ((p + 1))) 38 (0, 0) G2 _ hw2 HG.out (HZ1.out.take hpn) HX1.out (HA'.out _ _ _ HZ1.out) (by omega) _).mono ?_
      rw [← HD.out]
      rintro e w4 ⟨A4, c4, rfl, ho, hb4⟩
      replace k0 := (hb4.cell (p := ⟨w.heap.size, 0, none⟩) kz).trans k0
      replace k1 := (hb4.cell (p := ⟨w.heap.size, 1, none⟩) kz).trans k1
      replace k2 := (hb4.cell (p := ⟨w.heap.size, 2, none⟩) kz).trans k2
      replace k3 := (hb4.cell (p := ⟨w.heap.size, 3, none⟩) kz).trans k3
      replace k4 := (hb4.cell (p := ⟨w.heap.size, 4, none⟩) kz).trans k4
      replace k5 := (hb4.cell (p := ⟨w.heap.size, 5, none⟩) kz).trans k5
      replace k6 := (hb4.cell (p := ⟨w.heap.size, 6, none⟩) kz).trans k6
      replace k7 := (hb4.cell (p := ⟨w.heap.size, 7, none⟩) kz).trans k7
      have HO := Lib.hid (rown_base ho HB.out.size)
      replace HB := Lib.hid (HB.out.trans (hb4.mono HB.out.size))
      clear ho hb4 HG HX1 HZ1
      refine hK.out _ _ ⟨k0, k1, k2, k3, k4, k5, k6, k7⟩ (fun hHeld => ?_)
      clear hK K
      try simp only [Act.put, List.setIfInBounds_toArray, List.set_cons_zero, List.set_cons_succ]
      refine wpAnyH_take (i := 11) (oi := { dst := some 4, op := Go.Op.assign (Go.Operand.tmp 48), type := 38, pos := "store.go:48", after := #[{ on := 10, ground := Go.Ground.data }, { on := 10, ground := Go.Ground.chain }, { on := 0, ground := Go.Ground.phase }, { on := 1, ground := Go.Ground.phase }, { on := 2, ground := Go.Ground.phase }, { on := 3, ground := Go.Ground.phase }, { on := 4, ground := Go.Ground.phase }, { on := 5, ground := Go.Ground.phase }, { on := 6, ground := Go.Ground.phase }, { on := 7, ground := Go.Ground.phase }, { on := 8, ground := Go.Ground.phase }, { on := 9, ground := Go.Ground.phase }, { on := 10, ground := Go.Ground.phase }], guard := none }) (v := ?_) rfl (by kernel_rfl) (by kernel_rfl) (by kernel_rfl) (fun _ _ _ h => h) (Or.inl ⟨rfl, ?_⟩) (by assumption) ?_
      rotate_left
      · intro wz hSw; (try dsimp only at hSw); go_simp; try (with_reducible rfl)
      try simp only [Act.put, List.setIfInBounds_toArray, List.set_cons_zero, List.set_cons_succ]
      refine wpAnyH_take (i := 12) (oi := { dst := some 5, op := Go.Op.assign (Go.Operand.const (Go.Value.bool true)), type := 4, pos := "store.go:48", after := #[{ on := 11, ground := Go.Ground.chain }, { on := 0, ground := Go.Ground.phase }, { on := 1, ground := Go.Ground.phase }, { on := 2, ground := Go.Ground.phase }, { on := 3, ground := Go.Ground.phase }, { on := 4, ground := Go.Ground.phase }, { on := 5, ground := Go.Ground.phase }, { on := 6, ground := Go.Ground.phase }, { on := 7, ground := Go.Ground.phase }, { on := 8, ground := Go.Ground.phase }, { on := 9, ground := Go.Ground.phase }, { on := 10, ground := Go.Ground.phase }, { on := 11, ground := Go.Ground.phase }], guard := none }) (v := ?_) rfl (by kernel_rfl) (by kernel_rfl) (by kernel_rfl) (fun _ _ _ h => h) (Or.inl ⟨rfl, ?_⟩) (by assumption) ?_
      rotate_left
      · intro wz hSw; (try dsimp only at hSw); go_simp; try (with_reducible rfl)
      try simp only [Act.put, List.setIfInBounds_toArray, List.set_cons_zero, List.set_cons_succ]
      refine wpAnyH_done (by kernel_rfl) ?_ _
      go_wp2
      go_ret2
      exact put_ret HG0.out HO.out HB.out
end Go.Proofs.Ytpaiigminmakgaa

/- store.Right. -/
namespace Go.Proofs.Ytpaiigminmakgaa
open Go.RowKit

def rightFrom : Option Int → List Itm → Bool
  | _, [] => true
  | p, z :: r => rightI z && ((match p with | none => true | some q => decide (q < z.key)) && rightFrom (some z.key) r)
def rightS (zs : List Itm) : Bool := rightFrom none zs
def prevK (zs : List Itm) (k : Nat) : Option Int := if k = 0 then none else (zs[k - 1]?).map (·.key)
theorem right_step {zs : List Itm} {k : Nat} {z : Itm} (h : zs[k]? = some z) : rightFrom (prevK zs k) (zs.drop k) = (rightI z && ((match prevK zs k with | none => true | some q => decide (q < z.key)) && rightFrom (prevK zs (k + 1)) (zs.drop (k + 1)))) := by
  obtain ⟨hk, rfl⟩ := List.getElem?_eq_some_iff.mp h
  rw [List.drop_eq_getElem_cons hk]
  have e : prevK zs (k + 1) = some zs[k].key := by unfold prevK; simp [List.getElem?_eq_getElem hk]
  rw [e]
  rfl
theorem right_all {p : Option Int} {zs : List Itm} (h : rightFrom p zs = true) : (∀ z ∈ zs, rightI z = true) ∧ Keys zs ∧ ∀ q, p = some q → ∀ z ∈ zs, q < z.key := by
  induction zs generalizing p with
  | nil => exact ⟨fun _ h => by simp at h, List.Pairwise.nil, fun _ _ _ h => by simp at h⟩
  | cons x r ih =>
    unfold rightFrom at h
    simp only [Bool.and_eq_true] at h
    obtain ⟨h1, h2, h3⟩ := h
    obtain ⟨g1, g2, g3⟩ := ih h3
    have g4 := g3 x.key rfl
    refine ⟨fun z hz => ?_, List.pairwise_cons.mpr ⟨g4, g2⟩, fun q hq z hz => ?_⟩
    · rcases List.mem_cons.mp hz with rfl | hz
      · exact h1
      · exact g1 z hz
    · subst hq
      have h2' : q < x.key := by simpa using h2
      rcases List.mem_cons.mp hz with rfl | hz
      · exact h2'
      · have := g4 z hz; omega
theorem all_right {p : Option Int} {zs : List Itm} (h1 : ∀ z ∈ zs, rightI z = true) (h2 : Keys zs) (h3 : ∀ q, p = some q → ∀ z ∈ zs, q < z.key) : rightFrom p zs = true := by
  induction zs generalizing p with
  | nil => rfl
  | cons x r ih =>
    unfold rightFrom
    obtain ⟨g4, g2⟩ := List.pairwise_cons.mp h2
    rw [h1 x (by simp), ih (fun z hz => h1 z (by simp [hz])) g2 (fun q hq z hz => by injection hq with hq; subst hq; exact g4 z hz)]
    rcases p with _ | q
    · rfl
    · have := h3 q rfl x (by simp)
      simpa using this
set_option maxRecDepth 100000 in
set_option maxHeartbeats 4000000 in
theorem rightS_any (A : Option Addr) (n c : Nat) (zs : List Itm) (B : Nat) (w : World) (hB : B ≤ w.heap.size) (hz : RowAt cellsP 8 w B A n zs) (hn : n ≤ 1099511627776) (hsm : ∀ z ∈ zs, z.x.natAbs < 2 ^ 53 ∧ z.y.natAbs < 2 ^ 53) :
    Calls Try.prog 10 #[.slice A n c] w fun e w' => e = .returned (.bool (rightS zs)) ∧ Below w.heap.size w w' := by
  have HZ := Lib.hid hz
  have HL := Lib.hid hz.1
  have HM := Lib.hid hsm
  clear hz hsm
  generalize hRS : rightS zs = RS
  have HRS : Hid (rightFrom (prevK zs 0) (zs.drop 0) = RS) := hRS
  clear hRS
  go_enter Try.func10, Try.ntmps10
  go_wp2
  go_loopw [7] (fun i wr => ∃ k : Nat, k ≤ n ∧ i = .int .i64 k ∧ Hid (rightFrom (prevK zs k) (zs.drop k) = RS) ∧ Hid (Below w.heap.size w wr)) (fun i _ => n - (intOf i).toNat)
  case atStart => exact ⟨0, by omega, rfl, HRS, Below.refl _ _⟩
  case round =>
    clear HRS
    obtain ⟨k, hk, rfl, HRS, HB⟩ := hrel
    by_cases hlt : k < n
    · obtain ⟨blk, off, rfl, hbB, z, hzk, hcell⟩ := HZ.out.get hlt
      obtain ⟨e0, e1, e2, e3, e4, e5, e6, e7⟩ := cellsP_at hcell
      replace e0 := ((HB.out.mono hB).cell (p := ⟨blk, off + k * 8, none⟩) hbB).trans e0
      replace e1 := ((HB.out.mono hB).cell (p := ⟨blk, off + k * 8 + 1, none⟩) hbB).trans e1
      replace e2 := ((HB.out.mono hB).cell (p := ⟨blk, off + k * 8 + 2, none⟩) hbB).trans e2
      replace e3 := ((HB.out.mono hB).cell (p := ⟨blk, off + k * 8 + 3, none⟩) hbB).trans e3
      replace e4 := ((HB.out.mono hB).cell (p := ⟨blk, off + k * 8 + 4, none⟩) hbB).trans e4
      replace e5 := ((HB.out.mono hB).cell (p := ⟨blk, off + k * 8 + 5, none⟩) hbB).trans e5
      replace e6 := ((HB.out.mono hB).cell (p := ⟨blk, off + k * 8 + 6, none⟩) hbB).trans e6
      replace e7 := ((HB.out.mono hB).cell (p := ⟨blk, off + k * 8 + 7, none⟩) hbB).trans e7
      have hi1 : (k : Int) < n := by omega
      have hst := right_step hzk
      rw [HRS.out] at hst
      have HST := Lib.hid hst
      have hzm := HM.out z (List.mem_of_getElem? hzk)
      have HIR := Lib.hid (itemRight_any z hzm.1 hzm.2)
      have hbl : blk < wr.heap.size := by have := HB.out.size; omega
      generalize rightI z = R at *
      clear hcell hst hzm
      cases R
      · have HF : Hid (RS = false) := by show _ = _; rw [HST.out]; rfl
        obtain ⟨key, ⟨d, a, s⟩, dead, x, y, text, held⟩ := z
        unfold itmV at HIR
        simp only at e0 e1 e2 e3 e4 e5 e6 e7 HIR HST
        generalize fl x = fx at *
        generalize fl y = fy at *
        have hst := store_complex
        go_upto_region 4 with fail
        have k0 : (wr.alloc (.cells #[.int .i64 key, .string d, .int .i64 a, .int .i64 s, .bool dead, .complex .f64 fx fy, .string text, .bool held] 46)).cell? ⟨wr.heap.size, 0, none⟩ = some (.int .i64 key) := by simp [go_sem]
        have kf0 : (wr.alloc (.cells #[.int .i64 key, .string d, .int .i64 a, .int .i64 s, .bool dead, .complex .f64 fx fy, .string text, .bool held] 46)).frozen? ⟨wr.heap.size, 0, none⟩ = false := by simp [go_sem]
        have k1 : (wr.alloc (.cells #[.int .i64 key, .string d, .int .i64 a, .int .i64 s, .bool dead, .complex .f64 fx fy, .string text, .bool held] 46)).cell? ⟨wr.heap.size, 1, none⟩ = some (.string d) := by simp [go_sem]
        have kf1 : (wr.alloc (.cells #[.int .i64 key, .string d, .int .i64 a, .int .i64 s, .bool dead, .complex .f64 fx fy, .string text, .bool held] 46)).frozen? ⟨wr.heap.size, 1, none⟩ = false := by simp [go_sem]
        have k2 : (wr.alloc (.cells #[.int .i64 key, .string d, .int .i64 a, .int .i64 s, .bool dead, .complex .f64 fx fy, .string text, .bool held] 46)).cell? ⟨wr.heap.size, 2, none⟩ = some (.int .i64 a) := by simp [go_sem]
        have kf2 : (wr.alloc (.cells #[.int .i64 key, .string d, .int .i64 a, .int .i64 s, .bool dead, .complex .f64 fx fy, .string text, .bool held] 46)).frozen? ⟨wr.heap.size, 2, none⟩ = false := by simp [go_sem]
        have k3 : (wr.alloc (.cells #[.int .i64 key, .string d, .int .i64 a, .int .i64 s, .bool dead, .complex .f64 fx fy, .string text, .bool held] 46)).cell? ⟨wr.heap.size, 3, none⟩ = some (.int .i64 s) := by simp [go_sem]
        have kf3 : (wr.alloc (.cells #[.int .i64 key, .string d, .int .i64 a, .int .i64 s, .bool dead, .complex .f64 fx fy, .string text, .bool held] 46)).frozen? ⟨wr.heap.size, 3, none⟩ = false := by simp [go_sem]
        have k4 : (wr.alloc (.cells #[.int .i64 key, .string d, .int .i64 a, .int .i64 s, .bool dead, .complex .f64 fx fy, .string text, .bool held] 46)).cell? ⟨wr.heap.size, 4, none⟩ = some (.bool dead) := by simp [go_sem]
        have kf4 : (wr.alloc (.cells #[.int .i64 key, .string d, .int .i64 a, .int .i64 s, .bool dead, .complex .f64 fx fy, .string text, .bool held] 46)).frozen? ⟨wr.heap.size, 4, none⟩ = false := by simp [go_sem]
        have k5 : (wr.alloc (.cells #[.int .i64 key, .string d, .int .i64 a, .int .i64 s, .bool dead, .complex .f64 fx fy, .string text, .bool held] 46)).cell? ⟨wr.heap.size, 5, none⟩ = some (.complex .f64 fx fy) := by simp [go_sem]
        have kf5 : (wr.alloc (.cells #[.int .i64 key, .string d, .int .i64 a, .int .i64 s, .bool dead, .complex .f64 fx fy, .string text, .bool held] 46)).frozen? ⟨wr.heap.size, 5, none⟩ = false := by simp [go_sem]
        have k6 : (wr.alloc (.cells #[.int .i64 key, .string d, .int .i64 a, .int .i64 s, .bool dead, .complex .f64 fx fy, .string text, .bool held] 46)).cell? ⟨wr.heap.size, 6, none⟩ = some (.string text) := by simp [go_sem]
        have kf6 : (wr.alloc (.cells #[.int .i64 key, .string d, .int .i64 a, .int .i64 s, .bool dead, .complex .f64 fx fy, .string text, .bool held] 46)).frozen? ⟨wr.heap.size, 6, none⟩ = false := by simp [go_sem]
        have k7 : (wr.alloc (.cells #[.int .i64 key, .string d, .int .i64 a, .int .i64 s, .bool dead, .complex .f64 fx fy, .string text, .bool held] 46)).cell? ⟨wr.heap.size, 7, none⟩ = some (.bool held) := by simp [go_sem]
        have kf7 : (wr.alloc (.cells #[.int .i64 key, .string d, .int .i64 a, .int .i64 s, .bool dead, .complex .f64 fx fy, .string text, .bool held] 46)).frozen? ⟨wr.heap.size, 7, none⟩ = false := by simp [go_sem]
        have kz : wr.heap.size < (wr.alloc (.cells #[.int .i64 key, .string d, .int .i64 a, .int .i64 s, .bool dead, .complex .f64 fx fy, .string text, .bool held] 46)).heap.size := by simp <;> omega
        have hb0 : Below wr.heap.size wr (wr.alloc (.cells #[.int .i64 key, .string d, .int .i64 a, .int .i64 s, .bool dead, .complex .f64 fx fy, .string text, .bool held] 46)) := (Below.refl _ _).alloc (Nat.le_refl _) _
        replace HB := Lib.hid (HB.out.trans (hb0.mono HB.out.size))
        generalize (wr.alloc (.cells #[.int .i64 key, .string d, .int .i64 a, .int .i64 s, .bool dead, .complex .f64 fx fy, .string text, .bool held] 46)) = W1 at *
        generalize wr.heap.size = X at *
        refine wp_region_held_drew (S := fun w' => w'.cell? ⟨X, 0, none⟩ = some (.int .i64 key) ∧ w'.cell? ⟨X, 1, none⟩ = some (.string d) ∧ w'.cell? ⟨X, 2, none⟩ = some (.int .i64 a) ∧ w'.cell? ⟨X, 3, none⟩ = some (.int .i64 s) ∧ w'.cell? ⟨X, 4, none⟩ = some (.bool dead) ∧ w'.cell? ⟨X, 5, none⟩ = some (.complex .f64 fx fy) ∧ w'.cell? ⟨X, 6, none⟩ = some (.string text) ∧ w'.cell? ⟨X, 7, none⟩ = some (.bool held)) (by kernel_rfl) ⟨k0, k1, k2, k3, k4, k5, k6, k7⟩ (fun hHeld => ?_)
        refine wpAnyH_take (i := 0) (oi := { dst := some 12, op := Go.Op.load 46 (Go.Operand.tmp 4), type := 46, pos := "store.go:18", after := #[], guard := none }) (v := ?_) rfl (by kernel_rfl) (by kernel_rfl) (by kernel_rfl) (fun _ _ _ h => h) (Or.inl ⟨rfl, ?_⟩) (by assumption) ?_
        rotate_left
        · intro wz hSw; (try dsimp only at hSw); go_simp; try (with_reducible rfl)
        try simp only [Act.put, List.setIfInBounds_toArray, List.set_cons_zero, List.set_cons_succ]
        refine wpAnyH_ready (rs := [1]) (by kernel_rfl) (by simp) ?_
        refine (AllReadyH.cons (o := { dst := some 13, op := Go.Op.call { callee := Go.Callee.value (Go.Operand.func 33), args := #[Go.Operand.tmp 12], argTypes := #[46] }, type := 4, pos := "store.go:18", after := #[{ on := 0, ground := Go.Ground.data }], guard := none }) rfl (fun K hK => ?_) AllReadyH.nil)
        go_simp
        go_at_call 33
        refine (HIR.out _).mono ?_
        rintro e v ⟨rfl, hb⟩
        replace k0 := (hb.cell (p := ⟨X, 0, none⟩) kz).trans k0
        replace kf0 := (hb.frozen (p := ⟨X, 0, none⟩) kz).trans kf0
        replace k1 := (hb.cell (p := ⟨X, 1, none⟩) kz).trans k1
        replace kf1 := (hb.frozen (p := ⟨X, 1, none⟩) kz).trans kf1
        replace k2 := (hb.cell (p := ⟨X, 2, none⟩) kz).trans k2
        replace kf2 := (hb.frozen (p := ⟨X, 2, none⟩) kz).trans kf2
        replace k3 := (hb.cell (p := ⟨X, 3, none⟩) kz).trans k3
        replace kf3 := (hb.frozen (p := ⟨X, 3, none⟩) kz).trans kf3
        replace k4 := (hb.cell (p := ⟨X, 4, none⟩) kz).trans k4
        replace kf4 := (hb.frozen (p := ⟨X, 4, none⟩) kz).trans kf4
        replace k5 := (hb.cell (p := ⟨X, 5, none⟩) kz).trans k5
        replace kf5 := (hb.frozen (p := ⟨X, 5, none⟩) kz).trans kf5
        replace k6 := (hb.cell (p := ⟨X, 6, none⟩) kz).trans k6
        replace kf6 := (hb.frozen (p := ⟨X, 6, none⟩) kz).trans kf6
        replace k7 := (hb.cell (p := ⟨X, 7, none⟩) kz).trans k7
        replace kf7 := (hb.frozen (p := ⟨X, 7, none⟩) kz).trans kf7
        replace kz := Nat.lt_of_lt_of_le kz hb.size
        replace HB := Lib.hid (below_via HB.out hb HB.out.size ⟨rfl, rfl, rfl, rfl⟩)
        clear hb
        refine hK.out _ _ ⟨k0, k1, k2, k3, k4, k5, k6, k7⟩ (fun hHeld => ?_)
        clear hK K
        try simp only [Act.put, List.setIfInBounds_toArray, List.set_cons_zero, List.set_cons_succ]
        refine wpAnyH_take (i := 2) (oi := { dst := some 14, op := Go.Op.unOp Go.UnOp.not 4 (Go.Operand.tmp 13), type := 4, pos := "store.go:18", after := #[{ on := 1, ground := Go.Ground.data }], guard := none }) (v := ?_) rfl (by kernel_rfl) (by kernel_rfl) (by kernel_rfl) (fun _ _ _ h => h) (Or.inl ⟨rfl, ?_⟩) (by assumption) ?_
        rotate_left
        · intro wz hSw; (try dsimp only at hSw); go_simp; try (with_reducible rfl)
        try simp only [Act.put, List.setIfInBounds_toArray, List.set_cons_zero, List.set_cons_succ]
        refine wpAnyH_take (i := 3) (oi := { dst := some 15, op := Go.Op.move (Go.Operand.tmp 14), type := 4, pos := "store.go:18", after := #[{ on := 2, ground := Go.Ground.data }, { on := 1, ground := Go.Ground.chain }], guard := none }) (v := ?_) rfl (by kernel_rfl) (by kernel_rfl) (by kernel_rfl) (fun _ _ _ h => h) (Or.inl ⟨rfl, ?_⟩) (by assumption) ?_
        rotate_left
        · intro wz hSw; (try dsimp only at hSw); go_simp; try (with_reducible rfl)
        try simp only [Act.put, List.setIfInBounds_toArray, List.set_cons_zero, List.set_cons_succ]
        refine wpAnyH_take (i := 4) (oi := { dst := some 16, op := Go.Op.move (Go.Operand.tmp 3), type := 3, pos := "store.go:18", after := #[{ on := 3, ground := Go.Ground.guard }], guard := some (3, false) }) (v := undef) rfl (by kernel_rfl) (by kernel_rfl) (by kernel_rfl) (fun _ _ _ h => h) (Or.inr ⟨rfl, rfl⟩) (by assumption) ?_
        try simp only [Act.put, List.setIfInBounds_toArray, List.set_cons_zero, List.set_cons_succ]
        refine wpAnyH_take (i := 5) (oi := { dst := some 17, op := Go.Op.binOp Go.BinOp.gtr 3 (Go.Operand.tmp 16) (Go.Operand.const (Go.Value.int Go.IntKind.i64 0)) 3, type := 4, pos := "store.go:18", after := #[{ on := 4, ground := Go.Ground.data }, { on := 3, ground := Go.Ground.guard }], guard := some (3, false) }) (v := undef) rfl (by kernel_rfl) (by kernel_rfl) (by kernel_rfl) (fun _ _ _ h => h) (Or.inr ⟨rfl, rfl⟩) (by assumption) ?_
        try simp only [Act.put, List.setIfInBounds_toArray, List.set_cons_zero, List.set_cons_succ]
        refine wpAnyH_take (i := 6) (oi := { dst := some 18, op := Go.Op.move (Go.Operand.tmp 17), type := 4, pos := "store.go:18", after := #[{ on := 5, ground := Go.Ground.data }, { on := 3, ground := Go.Ground.chain }, { on := 3, ground := Go.Ground.guard }], guard := some (3, false) }) (v := undef) rfl (by kernel_rfl) (by kernel_rfl) (by kernel_rfl) (fun _ _ _ h => h) (Or.inr ⟨rfl, rfl⟩) (by assumption) ?_
        try simp only [Act.put, List.setIfInBounds_toArray, List.set_cons_zero, List.set_cons_succ]
        refine wpAnyH_take (i := 7) (oi := { dst := some 19, op := Go.Op.move (Go.Operand.tmp 0), type := 38, pos := "store.go:18", after := #[{ on := 6, ground := Go.Ground.guard }], guard := some (6, true) }) (v := undef) rfl (by kernel_rfl) (by kernel_rfl) (by kernel_rfl) (fun _ _ _ h => h) (Or.inr ⟨rfl, rfl⟩) (by assumption) ?_
        try simp only [Act.put, List.setIfInBounds_toArray, List.set_cons_zero, List.set_cons_succ]
        refine wpAnyH_take (i := 8) (oi := { dst := some 20, op := Go.Op.move (Go.Operand.tmp 3), type := 3, pos := "store.go:18", after := #[{ on := 6, ground := Go.Ground.guard }], guard := some (6, true) }) (v := undef) rfl (by kernel_rfl) (by kernel_rfl) (by kernel_rfl) (fun _ _ _ h => h) (Or.inr ⟨rfl, rfl⟩) (by assumption) ?_
        try simp only [Act.put, List.setIfInBounds_toArray, List.set_cons_zero, List.set_cons_succ]
        refine wpAnyH_take (i := 9) (oi := { dst := some 21, op := Go.Op.binOp Go.BinOp.sub 3 (Go.Operand.tmp 20) (Go.Operand.const (Go.Value.int Go.IntKind.i64 1)) 3, type := 3, pos := "store.go:18", after := #[{ on := 8, ground := Go.Ground.data }, { on := 6, ground := Go.Ground.guard }], guard := some (6, true) }) (v := undef) rfl (by kernel_rfl) (by kernel_rfl) (by kernel_rfl) (fun _ _ _ h => h) (Or.inr ⟨rfl, rfl⟩) (by assumption) ?_
        try simp only [Act.put, List.setIfInBounds_toArray, List.set_cons_zero, List.set_cons_succ]
        refine wpAnyH_take (i := 10) (oi := { dst := some 22, op := Go.Op.indexAddr 38 (Go.Operand.tmp 19) (Go.Operand.tmp 21), type := 0, pos := "store.go:18", after := #[{ on := 7, ground := Go.Ground.data }, { on := 9, ground := Go.Ground.data }, { on := 6, ground := Go.Ground.guard }], guard := some (6, true) }) (v := undef) rfl (by kernel_rfl) (by kernel_rfl) (by kernel_rfl) (fun _ _ _ h => h) (Or.inr ⟨rfl, rfl⟩) (by assumption) ?_
        try simp only [Act.put, List.setIfInBounds_toArray, List.set_cons_zero, List.set_cons_succ]
        refine wpAnyH_take (i := 11) (oi := { dst := some 23, op := Go.Op.fieldAddr 46 (Go.Operand.tmp 22) 0, type := 0, pos := "store.go:18", after := #[{ on := 10, ground := Go.Ground.data }, { on := 6, ground := Go.Ground.guard }], guard := some (6, true) }) (v := undef) rfl (by kernel_rfl) (by kernel_rfl) (by kernel_rfl) (fun _ _ _ h => h) (Or.inr ⟨rfl, rfl⟩) (by assumption) ?_
        try simp only [Act.put, List.setIfInBounds_toArray, List.set_cons_zero, List.set_cons_succ]
        refine wpAnyH_take (i := 12) (oi := { dst := some 24, op := Go.Op.load 3 (Go.Operand.tmp 23), type := 3, pos := "store.go:18", after := #[{ on := 11, ground := Go.Ground.data }, { on := 6, ground := Go.Ground.guard }], guard := some (6, true) }) (v := undef) rfl (by kernel_rfl) (by kernel_rfl) (by kernel_rfl) (fun _ _ _ h => h) (Or.inr ⟨rfl, rfl⟩) (by assumption) ?_
        try simp only [Act.put, List.setIfInBounds_toArray, List.set_cons_zero, List.set_cons_succ]
        refine wpAnyH_take (i := 13) (oi := { dst := some 25, op := Go.Op.fieldAddr 46 (Go.Operand.tmp 4) 0, type := 0, pos := "store.go:18", after := #[{ on := 6, ground := Go.Ground.guard }], guard := some (6, true) }) (v := undef) rfl (by kernel_rfl) (by kernel_rfl) (by kernel_rfl) (fun _ _ _ h => h) (Or.inr ⟨rfl, rfl⟩) (by assumption) ?_
        try simp only [Act.put, List.setIfInBounds_toArray, List.set_cons_zero, List.set_cons_succ]
        refine wpAnyH_take (i := 14) (oi := { dst := some 26, op := Go.Op.load 3 (Go.Operand.tmp 25), type := 3, pos := "store.go:18", after := #[{ on := 13, ground := Go.Ground.data }, { on := 6, ground := Go.Ground.guard }], guard := some (6, true) }) (v := undef) rfl (by kernel_rfl) (by kernel_rfl) (by kernel_rfl) (fun _ _ _ h => h) (Or.inr ⟨rfl, rfl⟩) (by assumption) ?_
        try simp only [Act.put, List.setIfInBounds_toArray, List.set_cons_zero, List.set_cons_succ]
        refine wpAnyH_take (i := 15) (oi := { dst := some 27, op := Go.Op.binOp Go.BinOp.geq 3 (Go.Operand.tmp 24) (Go.Operand.tmp 26) 3, type := 4, pos := "store.go:18", after := #[{ on := 12, ground := Go.Ground.data }, { on := 14, ground := Go.Ground.data }, { on := 6, ground := Go.Ground.guard }], guard := some (6, true) }) (v := undef) rfl (by kernel_rfl) (by kernel_rfl) (by kernel_rfl) (fun _ _ _ h => h) (Or.inr ⟨rfl, rfl⟩) (by assumption) ?_
        try simp only [Act.put, List.setIfInBounds_toArray, List.set_cons_zero, List.set_cons_succ]
        refine wpAnyH_take (i := 16) (oi := { dst := some 28, op := Go.Op.pick (Go.Operand.tmp 18) (Go.Operand.tmp 27) (Go.Operand.const (Go.Value.bool false)), type := 4, pos := "store.go:18", after := #[{ on := 6, ground := Go.Ground.data }, { on := 15, ground := Go.Ground.data }, { on := 3, ground := Go.Ground.guard }], guard := some (3, false) }) (v := undef) rfl (by kernel_rfl) (by kernel_rfl) (by kernel_rfl) (fun _ _ _ h => h) (Or.inr ⟨rfl, rfl⟩) (by assumption) ?_
        try simp only [Act.put, List.setIfInBounds_toArray, List.set_cons_zero, List.set_cons_succ]
        refine wpAnyH_take (i := 17) (oi := { dst := some 29, op := Go.Op.pick (Go.Operand.tmp 15) (Go.Operand.const (Go.Value.bool true)) (Go.Operand.tmp 28), type := 4, pos := "store.go:18", after := #[{ on := 3, ground := Go.Ground.data }, { on := 16, ground := Go.Ground.data }], guard := none }) (v := ?_) rfl (by kernel_rfl) (by kernel_rfl) (by kernel_rfl) (fun _ _ _ h => h) (Or.inl ⟨rfl, ?_⟩) (by assumption) ?_
        rotate_left
        · intro wz hSw; (try dsimp only at hSw); go_simp; try (with_reducible rfl)
        try simp only [Act.put, List.setIfInBounds_toArray, List.set_cons_zero, List.set_cons_succ]
        refine wpAnyH_done (by kernel_rfl) ?_ _
        go_wp2
        go_ret
        exact ⟨ret_bool HF.out.symm, HB.out⟩
      · by_cases h0 : k = 0
        · have hpv : prevK zs k = none := by unfold prevK; rw [if_pos h0]
          rw [hpv] at HST
          have HN : Hid (rightFrom (prevK zs (k + 1)) (zs.drop (k + 1)) = RS) := by show _ = _; rw [HST.out]; simp
          clear hpv
          have hk0 : decide (0 < k) = false := by simp; omega
          clear h0
          obtain ⟨key, ⟨d, a, s⟩, dead, x, y, text, held⟩ := z
          unfold itmV at HIR
          simp only at e0 e1 e2 e3 e4 e5 e6 e7 HIR HST
          generalize fl x = fx at *
          generalize fl y = fy at *
          have hst := store_complex
          go_upto_region 4 with fail
          have k0 : (wr.alloc (.cells #[.int .i64 key, .string d, .int .i64 a, .int .i64 s, .bool dead, .complex .f64 fx fy, .string text, .bool held] 46)).cell? ⟨wr.heap.size, 0, none⟩ = some (.int .i64 key) := by simp [go_sem]
          have kf0 : (wr.alloc (.cells #[.int .i64 key, .string d, .int .i64 a, .int .i64 s, .bool dead, .complex .f64 fx fy, .string text, .bool held] 46)).frozen? ⟨wr.heap.size, 0, none⟩ = false := by simp [go_sem]
          have k1 : (wr.alloc (.cells #[.int .i64 key, .string d, .int .i64 a, .int .i64 s, .bool dead, .complex .f64 fx fy, .string text, .bool held] 46)).cell? ⟨wr.heap.size, 1, none⟩ = some (.string d) := by simp [go_sem]
          have kf1 : (wr.alloc (.cells #[.int .i64 key, .string d, .int .i64 a, .int .i64 s, .bool dead, .complex .f64 fx fy, .string text, .bool held] 46)).frozen? ⟨wr.heap.size, 1, none⟩ = false := by simp [go_sem]
          have k2 : (wr.alloc (.cells #[.int .i64 key, .string d, .int .i64 a, .int .i64 s, .bool dead, .complex .f64 fx fy, .string text, .bool held] 46)).cell? ⟨wr.heap.size, 2, none⟩ = some (.int .i64 a) := by simp [go_sem]
          have kf2 : (wr.alloc (.cells #[.int .i64 key, .string d, .int .i64 a, .int .i64 s, .bool dead, .complex .f64 fx fy, .string text, .bool held] 46)).frozen? ⟨wr.heap.size, 2, none⟩ = false := by simp [go_sem]
          have k3 : (wr.alloc (.cells #[.int .i64 key, .string d, .int .i64 a, .int .i64 s, .bool dead, .complex .f64 fx fy, .string text, .bool held] 46)).cell? ⟨wr.heap.size, 3, none⟩ = some (.int .i64 s) := by simp [go_sem]
          have kf3 : (wr.alloc (.cells #[.int .i64 key, .string d, .int .i64 a, .int .i64 s, .bool dead, .complex .f64 fx fy, .string text, .bool held] 46)).frozen? ⟨wr.heap.size, 3, none⟩ = false := by simp [go_sem]
          have k4 : (wr.alloc (.cells #[.int .i64 key, .string d, .int .i64 a, .int .i64 s, .bool dead, .complex .f64 fx fy, .string text, .bool held] 46)).cell? ⟨wr.heap.size, 4, none⟩ = some (.bool dead) := by simp [go_sem]
          have kf4 : (wr.alloc (.cells #[.int .i64 key, .string d, .int .i64 a, .int .i64 s, .bool dead, .complex .f64 fx fy, .string text, .bool held] 46)).frozen? ⟨wr.heap.size, 4, none⟩ = false := by simp [go_sem]
          have k5 : (wr.alloc (.cells #[.int .i64 key, .string d, .int .i64 a, .int .i64 s, .bool dead, .complex .f64 fx fy, .string text, .bool held] 46)).cell? ⟨wr.heap.size, 5, none⟩ = some (.complex .f64 fx fy) := by simp [go_sem]
          have kf5 : (wr.alloc (.cells #[.int .i64 key, .string d, .int .i64 a, .int .i64 s, .bool dead, .complex .f64 fx fy, .string text, .bool held] 46)).frozen? ⟨wr.heap.size, 5, none⟩ = false := by simp [go_sem]
          have k6 : (wr.alloc (.cells #[.int .i64 key, .string d, .int .i64 a, .int .i64 s, .bool dead, .complex .f64 fx fy, .string text, .bool held] 46)).cell? ⟨wr.heap.size, 6, none⟩ = some (.string text) := by simp [go_sem]
          have kf6 : (wr.alloc (.cells #[.int .i64 key, .string d, .int .i64 a, .int .i64 s, .bool dead, .complex .f64 fx fy, .string text, .bool held] 46)).frozen? ⟨wr.heap.size, 6, none⟩ = false := by simp [go_sem]
          have k7 : (wr.alloc (.cells #[.int .i64 key, .string d, .int .i64 a, .int .i64 s, .bool dead, .complex .f64 fx fy, .string text, .bool held] 46)).cell? ⟨wr.heap.size, 7, none⟩ = some (.bool held) := by simp [go_sem]
          have kf7 : (wr.alloc (.cells #[.int .i64 key, .string d, .int .i64 a, .int .i64 s, .bool dead, .complex .f64 fx fy, .string text, .bool held] 46)).frozen? ⟨wr.heap.size, 7, none⟩ = false := by simp [go_sem]
          have kz : wr.heap.size < (wr.alloc (.cells #[.int .i64 key, .string d, .int .i64 a, .int .i64 s, .bool dead, .complex .f64 fx fy, .string text, .bool held] 46)).heap.size := by simp <;> omega
          have hb0 : Below wr.heap.size wr (wr.alloc (.cells #[.int .i64 key, .string d, .int .i64 a, .int .i64 s, .bool dead, .complex .f64 fx fy, .string text, .bool held] 46)) := (Below.refl _ _).alloc (Nat.le_refl _) _
          replace HB := Lib.hid (HB.out.trans (hb0.mono HB.out.size))
          generalize (wr.alloc (.cells #[.int .i64 key, .string d, .int .i64 a, .int .i64 s, .bool dead, .complex .f64 fx fy, .string text, .bool held] 46)) = W1 at *
          generalize wr.heap.size = X at *
          refine wp_region_held_drew (S := fun w' => w'.cell? ⟨X, 0, none⟩ = some (.int .i64 key) ∧ w'.cell? ⟨X, 1, none⟩ = some (.string d) ∧ w'.cell? ⟨X, 2, none⟩ = some (.int .i64 a) ∧ w'.cell? ⟨X, 3, none⟩ = some (.int .i64 s) ∧ w'.cell? ⟨X, 4, none⟩ = some (.bool dead) ∧ w'.cell? ⟨X, 5, none⟩ = some (.complex .f64 fx fy) ∧ w'.cell? ⟨X, 6, none⟩ = some (.string text) ∧ w'.cell? ⟨X, 7, none⟩ = some (.bool held)) (by kernel_rfl) ⟨k0, k1, k2, k3, k4, k5, k6, k7⟩ (fun hHeld => ?_)
          refine wpAnyH_take (i := 0) (oi := { dst := some 12, op := Go.Op.load 46 (Go.Operand.tmp 4), type := 46, pos := "store.go:18", after := #[], guard := none }) (v := ?_) rfl (by kernel_rfl) (by kernel_rfl) (by kernel_rfl) (fun _ _ _ h => h) (Or.inl ⟨rfl, ?_⟩) (by assumption) ?_
          rotate_left
          · intro wz hSw; (try dsimp only at hSw); go_simp; try (with_reducible rfl)
          try simp only [Act.put, List.setIfInBounds_toArray, List.set_cons_zero, List.set_cons_succ]
          refine wpAnyH_ready (rs := [1]) (by kernel_rfl) (by simp) ?_
          refine (AllReadyH.cons (o := { dst := some 13, op := Go.Op.call { callee := Go.Callee.value (Go.Operand.func 33), args := #[Go.Operand.tmp 12], argTypes := #[46] }, type := 4, pos := "store.go:18", after := #[{ on := 0, ground := Go.Ground.data }], guard := none }) rfl (fun K hK => ?_) AllReadyH.nil)
          go_simp
          go_at_call 33
          refine (HIR.out _).mono ?_
          rintro e v ⟨rfl, hb⟩
          replace k0 := (hb.cell (p := ⟨X, 0, none⟩) kz).trans k0
          replace kf0 := (hb.frozen (p := ⟨X, 0, none⟩) kz).trans kf0
          replace k1 := (hb.cell (p := ⟨X, 1, none⟩) kz).trans k1
          replace kf1 := (hb.frozen (p := ⟨X, 1, none⟩) kz).trans kf1
          replace k2 := (hb.cell (p := ⟨X, 2, none⟩) kz).trans k2
          replace kf2 := (hb.frozen (p := ⟨X, 2, none⟩) kz).trans kf2
          replace k3 := (hb.cell (p := ⟨X, 3, none⟩) kz).trans k3
          replace kf3 := (hb.frozen (p := ⟨X, 3, none⟩) kz).trans kf3
          replace k4 := (hb.cell (p := ⟨X, 4, none⟩) kz).trans k4
          replace kf4 := (hb.frozen (p := ⟨X, 4, none⟩) kz).trans kf4
          replace k5 := (hb.cell (p := ⟨X, 5, none⟩) kz).trans k5
          replace kf5 := (hb.frozen (p := ⟨X, 5, none⟩) kz).trans kf5
          replace k6 := (hb.cell (p := ⟨X, 6, none⟩) kz).trans k6
          replace kf6 := (hb.frozen (p := ⟨X, 6, none⟩) kz).trans kf6
          replace k7 := (hb.cell (p := ⟨X, 7, none⟩) kz).trans k7
          replace kf7 := (hb.frozen (p := ⟨X, 7, none⟩) kz).trans kf7
          replace kz := Nat.lt_of_lt_of_le kz hb.size
          replace HB := Lib.hid (below_via HB.out hb HB.out.size ⟨rfl, rfl, rfl, rfl⟩)
          clear hb
          refine hK.out _ _ ⟨k0, k1, k2, k3, k4, k5, k6, k7⟩ (fun hHeld => ?_)
          clear hK K
          try simp only [Act.put, List.setIfInBounds_toArray, List.set_cons_zero, List.set_cons_succ]
          refine wpAnyH_take (i := 2) (oi := { dst := some 14, op := Go.Op.unOp Go.UnOp.not 4 (Go.Operand.tmp 13), type := 4, pos := "store.go:18", after := #[{ on := 1, ground := Go.Ground.data }], guard := none }) (v := ?_) rfl (by kernel_rfl) (by kernel_rfl) (by kernel_rfl) (fun _ _ _ h => h) (Or.inl ⟨rfl, ?_⟩) (by assumption) ?_
          rotate_left
          · intro wz hSw; (try dsimp only at hSw); go_simp; try (with_reducible rfl)
          try simp only [Act.put, List.setIfInBounds_toArray, List.set_cons_zero, List.set_cons_succ]
          refine wpAnyH_take (i := 3) (oi := { dst := some 15, op := Go.Op.move (Go.Operand.tmp 14), type := 4, pos := "store.go:18", after := #[{ on := 2, ground := Go.Ground.data }, { on := 1, ground := Go.Ground.chain }], guard := none }) (v := ?_) rfl (by kernel_rfl) (by kernel_rfl) (by kernel_rfl) (fun _ _ _ h => h) (Or.inl ⟨rfl, ?_⟩) (by assumption) ?_
          rotate_left
          · intro wz hSw; (try dsimp only at hSw); go_simp; try (with_reducible rfl)
          try simp only [Act.put, List.setIfInBounds_toArray, List.set_cons_zero, List.set_cons_succ]
          refine wpAnyH_take (i := 4) (oi := { dst := some 16, op := Go.Op.move (Go.Operand.tmp 3), type := 3, pos := "store.go:18", after := #[{ on := 3, ground := Go.Ground.guard }], guard := some (3, false) }) (v := ?_) rfl (by kernel_rfl) (by kernel_rfl) (by kernel_rfl) (fun _ _ _ h => h) (Or.inl ⟨rfl, ?_⟩) (by assumption) ?_
          rotate_left
          · intro wz hSw; (try dsimp only at hSw); go_simp; try (with_reducible rfl)
          try simp only [Act.put, List.setIfInBounds_toArray, List.set_cons_zero, List.set_cons_succ]
          refine wpAnyH_take (i := 5) (oi := { dst := some 17, op := Go.Op.binOp Go.BinOp.gtr 3 (Go.Operand.tmp 16) (Go.Operand.const (Go.Value.int Go.IntKind.i64 0)) 3, type := 4, pos := "store.go:18", after := #[{ on := 4, ground := Go.Ground.data }, { on := 3, ground := Go.Ground.guard }], guard := some (3, false) }) (v := ?_) rfl (by kernel_rfl) (by kernel_rfl) (by kernel_rfl) (fun _ _ _ h => h) (Or.inl ⟨rfl, ?_⟩) (by assumption) ?_
          rotate_left
          · intro wz hSw; (try dsimp only at hSw); go_simp; try (with_reducible rfl)
          try simp only [Act.put, List.setIfInBounds_toArray, List.set_cons_zero, List.set_cons_succ]
          refine wpAnyH_take (i := 6) (oi := { dst := some 18, op := Go.Op.move (Go.Operand.tmp 17), type := 4, pos := "store.go:18", after := #[{ on := 5, ground := Go.Ground.data }, { on := 3, ground := Go.Ground.chain }, { on := 3, ground := Go.Ground.guard }], guard := some (3, false) }) (v := ?_) rfl (by kernel_rfl) (by kernel_rfl) (by kernel_rfl) (fun _ _ _ h => h) (Or.inl ⟨rfl, ?_⟩) (by assumption) ?_
          rotate_left
          · intro wz hSw; (try dsimp only at hSw); go_simp; try (with_reducible rfl)
          try simp only [Act.put, List.setIfInBounds_toArray, List.set_cons_zero, List.set_cons_succ]
          refine wpAnyH_take (i := 7) (oi := { dst := some 19, op := Go.Op.move (Go.Operand.tmp 0), type := 38, pos := "store.go:18", after := #[{ on := 6, ground := Go.Ground.guard }], guard := some (6, true) }) (v := undef) rfl (by kernel_rfl) (by kernel_rfl) (by kernel_rfl) (fun _ _ _ h => h) (Or.inr ⟨rfl, rfl⟩) (by assumption) ?_
          try simp only [Act.put, List.setIfInBounds_toArray, List.set_cons_zero, List.set_cons_succ]
          refine wpAnyH_take (i := 8) (oi := { dst := some 20, op := Go.Op.move (Go.Operand.tmp 3), type := 3, pos := "store.go:18", after := #[{ on := 6, ground := Go.Ground.guard }], guard := some (6, true) }) (v := undef) rfl (by kernel_rfl) (by kernel_rfl) (by kernel_rfl) (fun _ _ _ h => h) (Or.inr ⟨rfl, rfl⟩) (by assumption) ?_
          try simp only [Act.put, List.setIfInBounds_toArray, List.set_cons_zero, List.set_cons_succ]
          refine wpAnyH_take (i := 9) (oi := { dst := some 21, op := Go.Op.binOp Go.BinOp.sub 3 (Go.Operand.tmp 20) (Go.Operand.const (Go.Value.int Go.IntKind.i64 1)) 3, type := 3, pos := "store.go:18", after := #[{ on := 8, ground := Go.Ground.data }, { on := 6, ground := Go.Ground.guard }], guard := some (6, true) }) (v := undef) rfl (by kernel_rfl) (by kernel_rfl) (by kernel_rfl) (fun _ _ _ h => h) (Or.inr ⟨rfl, rfl⟩) (by assumption) ?_
          try simp only [Act.put, List.setIfInBounds_toArray, List.set_cons_zero, List.set_cons_succ]
          refine wpAnyH_take (i := 10) (oi := { dst := some 22, op := Go.Op.indexAddr 38 (Go.Operand.tmp 19) (Go.Operand.tmp 21), type := 0, pos := "store.go:18", after := #[{ on := 7, ground := Go.Ground.data }, { on := 9, ground := Go.Ground.data }, { on := 6, ground := Go.Ground.guard }], guard := some (6, true) }) (v := undef) rfl (by kernel_rfl) (by kernel_rfl) (by kernel_rfl) (fun _ _ _ h => h) (Or.inr ⟨rfl, rfl⟩) (by assumption) ?_
          try simp only [Act.put, List.setIfInBounds_toArray, List.set_cons_zero, List.set_cons_succ]
          refine wpAnyH_take (i := 11) (oi := { dst := some 23, op := Go.Op.fieldAddr 46 (Go.Operand.tmp 22) 0, type := 0, pos := "store.go:18", after := #[{ on := 10, ground := Go.Ground.data }, { on := 6, ground := Go.Ground.guard }], guard := some (6, true) }) (v := undef) rfl (by kernel_rfl) (by kernel_rfl) (by kernel_rfl) (fun _ _ _ h => h) (Or.inr ⟨rfl, rfl⟩) (by assumption) ?_
          try simp only [Act.put, List.setIfInBounds_toArray, List.set_cons_zero, List.set_cons_succ]
          refine wpAnyH_take (i := 12) (oi := { dst := some 24, op := Go.Op.load 3 (Go.Operand.tmp 23), type := 3, pos := "store.go:18", after := #[{ on := 11, ground := Go.Ground.data }, { on := 6, ground := Go.Ground.guard }], guard := some (6, true) }) (v := undef) rfl (by kernel_rfl) (by kernel_rfl) (by kernel_rfl) (fun _ _ _ h => h) (Or.inr ⟨rfl, rfl⟩) (by assumption) ?_
          try simp only [Act.put, List.setIfInBounds_toArray, List.set_cons_zero, List.set_cons_succ]
          refine wpAnyH_take (i := 13) (oi := { dst := some 25, op := Go.Op.fieldAddr 46 (Go.Operand.tmp 4) 0, type := 0, pos := "store.go:18", after := #[{ on := 6, ground := Go.Ground.guard }], guard := some (6, true) }) (v := undef) rfl (by kernel_rfl) (by kernel_rfl) (by kernel_rfl) (fun _ _ _ h => h) (Or.inr ⟨rfl, rfl⟩) (by assumption) ?_
          try simp only [Act.put, List.setIfInBounds_toArray, List.set_cons_zero, List.set_cons_succ]
          refine wpAnyH_take (i := 14) (oi := { dst := some 26, op := Go.Op.load 3 (Go.Operand.tmp 25), type := 3, pos := "store.go:18", after := #[{ on := 13, ground := Go.Ground.data }, { on := 6, ground := Go.Ground.guard }], guard := some (6, true) }) (v := undef) rfl (by kernel_rfl) (by kernel_rfl) (by kernel_rfl) (fun _ _ _ h => h) (Or.inr ⟨rfl, rfl⟩) (by assumption) ?_
          try simp only [Act.put, List.setIfInBounds_toArray, List.set_cons_zero, List.set_cons_succ]
          refine wpAnyH_take (i := 15) (oi := { dst := some 27, op := Go.Op.binOp Go.BinOp.geq 3 (Go.Operand.tmp 24) (Go.Operand.tmp 26) 3, type := 4, pos := "store.go:18", after := #[{ on := 12, ground := Go.Ground.data }, { on := 14, ground := Go.Ground.data }, { on := 6, ground := Go.Ground.guard }], guard := some (6, true) }) (v := undef) rfl (by kernel_rfl) (by kernel_rfl) (by kernel_rfl) (fun _ _ _ h => h) (Or.inr ⟨rfl, rfl⟩) (by assumption) ?_
          try simp only [Act.put, List.setIfInBounds_toArray, List.set_cons_zero, List.set_cons_succ]
          refine wpAnyH_take (i := 16) (oi := { dst := some 28, op := Go.Op.pick (Go.Operand.tmp 18) (Go.Operand.tmp 27) (Go.Operand.const (Go.Value.bool false)), type := 4, pos := "store.go:18", after := #[{ on := 6, ground := Go.Ground.data }, { on := 15, ground := Go.Ground.data }, { on := 3, ground := Go.Ground.guard }], guard := some (3, false) }) (v := ?_) rfl (by kernel_rfl) (by kernel_rfl) (by kernel_rfl) (fun _ _ _ h => h) (Or.inl ⟨rfl, ?_⟩) (by assumption) ?_
          rotate_left
          · intro wz hSw; (try dsimp only at hSw); go_simp; try (with_reducible rfl)
          try simp only [Act.put, List.setIfInBounds_toArray, List.set_cons_zero, List.set_cons_succ]
          refine wpAnyH_take (i := 17) (oi := { dst := some 29, op := Go.Op.pick (Go.Operand.tmp 15) (Go.Operand.const (Go.Value.bool true)) (Go.Operand.tmp 28), type := 4, pos := "store.go:18", after := #[{ on := 3, ground := Go.Ground.data }, { on := 16, ground := Go.Ground.data }], guard := none }) (v := ?_) rfl (by kernel_rfl) (by kernel_rfl) (by kernel_rfl) (fun _ _ _ h => h) (Or.inl ⟨rfl, ?_⟩) (by assumption) ?_
          rotate_left
          · intro wz hSw; (try dsimp only at hSw); go_simp; try (with_reducible rfl)
          try simp only [Act.put, List.setIfInBounds_toArray, List.set_cons_zero, List.set_cons_succ]
          refine wpAnyH_done (by kernel_rfl) ?_ _
          go_wp2
          go_roundw
          case rel => exact ⟨k + 1, by omega, by go_num, HN, HB⟩
          case measure => simp [intOf]; omega
        · obtain ⟨blk', off', hA, _, z', hzk', hcell'⟩ := HZ.out.get (k := k - 1) (by omega)
          injection hA with hA
          injection hA with hA1 hA2
          subst hA1 hA2
          have eq := (cellsP_at hcell').1
          replace eq := ((HB.out.mono hB).cell (p := ⟨blk, off + (k - 1) * 8, none⟩) hbB).trans eq
          have hpv : prevK zs k = some z'.key := by unfold prevK; rw [if_neg h0, hzk']; rfl
          rw [hpv] at HST
          generalize z'.key = q at *
          have hk0 : decide (0 < k) = true := by simp; omega
          have hks : IntKind.i64.wrap ((k : Int) - 1) = ((k - 1 : Nat) : Int) := by rw [IntWalk.i64_in _ (by omega)]; omega
          have hki : (((k - 1 : Nat) : Int)) < n := by omega
          have hki0 : (0 : Int) ≤ ((k - 1 : Nat) : Int) := by omega
          clear hcell' hzk' hpv
          obtain ⟨key, ⟨d, a, s⟩, dead, x, y, text, held⟩ := z
          unfold itmV at HIR
          simp only at e0 e1 e2 e3 e4 e5 e6 e7 HIR HST
          generalize fl x = fx at *
          generalize fl y = fy at *
          have hst := store_complex
          go_upto_region 4 with fail
          have k0 : (wr.alloc (.cells #[.int .i64 key, .string d, .int .i64 a, .int .i64 s, .bool dead, .complex .f64 fx fy, .string text, .bool held] 46)).cell? ⟨wr.heap.size, 0, none⟩ = some (.int .i64 key) := by simp [go_sem]
          have kf0 : (wr.alloc (.cells #[.int .i64 key, .string d, .int .i64 a, .int .i64 s, .bool dead, .complex .f64 fx fy, .string text, .bool held] 46)).frozen? ⟨wr.heap.size, 0, none⟩ = false := by simp [go_sem]
          have k1 : (wr.alloc (.cells #[.int .i64 key, .string d, .int .i64 a, .int .i64 s, .bool dead, .complex .f64 fx fy, .string text, .bool held] 46)).cell? ⟨wr.heap.size, 1, none⟩ = some (.string d) := by simp [go_sem]
          have kf1 : (wr.alloc (.cells #[.int .i64 key, .string d, .int .i64 a, .int .i64 s, .bool dead, .complex .f64 fx fy, .string text, .bool held] 46)).frozen? ⟨wr.heap.size, 1, none⟩ = false := by simp [go_sem]
          have k2 : (wr.alloc (.cells #[.int .i64 key, .string d, .int .i64 a, .int .i64 s, .bool dead, .complex .f64 fx fy, .string text, .bool held] 46)).cell? ⟨wr.heap.size, 2, none⟩ = some (.int .i64 a) := by simp [go_sem]
          have kf2 : (wr.alloc (.cells #[.int .i64 key, .string d, .int .i64 a, .int .i64 s, .bool dead, .complex .f64 fx fy, .string text, .bool held] 46)).frozen? ⟨wr.heap.size, 2, none⟩ = false := by simp [go_sem]
          have k3 : (wr.alloc (.cells #[.int .i64 key, .string d, .int .i64 a, .int .i64 s, .bool dead, .complex .f64 fx fy, .string text, .bool held] 46)).cell? ⟨wr.heap.size, 3, none⟩ = some (.int .i64 s) := by simp [go_sem]
          have kf3 : (wr.alloc (.cells #[.int .i64 key, .string d, .int .i64 a, .int .i64 s, .bool dead, .complex .f64 fx fy, .string text, .bool held] 46)).frozen? ⟨wr.heap.size, 3, none⟩ = false := by simp [go_sem]
          have k4 : (wr.alloc (.cells #[.int .i64 key, .string d, .int .i64 a, .int .i64 s, .bool dead, .complex .f64 fx fy, .string text, .bool held] 46)).cell? ⟨wr.heap.size, 4, none⟩ = some (.bool dead) := by simp [go_sem]
          have kf4 : (wr.alloc (.cells #[.int .i64 key, .string d, .int .i64 a, .int .i64 s, .bool dead, .complex .f64 fx fy, .string text, .bool held] 46)).frozen? ⟨wr.heap.size, 4, none⟩ = false := by simp [go_sem]
          have k5 : (wr.alloc (.cells #[.int .i64 key, .string d, .int .i64 a, .int .i64 s, .bool dead, .complex .f64 fx fy, .string text, .bool held] 46)).cell? ⟨wr.heap.size, 5, none⟩ = some (.complex .f64 fx fy) := by simp [go_sem]
          have kf5 : (wr.alloc (.cells #[.int .i64 key, .string d, .int .i64 a, .int .i64 s, .bool dead, .complex .f64 fx fy, .string text, .bool held] 46)).frozen? ⟨wr.heap.size, 5, none⟩ = false := by simp [go_sem]
          have k6 : (wr.alloc (.cells #[.int .i64 key, .string d, .int .i64 a, .int .i64 s, .bool dead, .complex .f64 fx fy, .string text, .bool held] 46)).cell? ⟨wr.heap.size, 6, none⟩ = some (.string text) := by simp [go_sem]
          have kf6 : (wr.alloc (.cells #[.int .i64 key, .string d, .int .i64 a, .int .i64 s, .bool dead, .complex .f64 fx fy, .string text, .bool held] 46)).frozen? ⟨wr.heap.size, 6, none⟩ = false := by simp [go_sem]
          have k7 : (wr.alloc (.cells #[.int .i64 key, .string d, .int .i64 a, .int .i64 s, .bool dead, .complex .f64 fx fy, .string text, .bool held] 46)).cell? ⟨wr.heap.size, 7, none⟩ = some (.bool held) := by simp [go_sem]
          have kf7 : (wr.alloc (.cells #[.int .i64 key, .string d, .int .i64 a, .int .i64 s, .bool dead, .complex .f64 fx fy, .string text, .bool held] 46)).frozen? ⟨wr.heap.size, 7, none⟩ = false := by simp [go_sem]
          have kz : wr.heap.size < (wr.alloc (.cells #[.int .i64 key, .string d, .int .i64 a, .int .i64 s, .bool dead, .complex .f64 fx fy, .string text, .bool held] 46)).heap.size := by simp <;> omega
          have hb0 : Below wr.heap.size wr (wr.alloc (.cells #[.int .i64 key, .string d, .int .i64 a, .int .i64 s, .bool dead, .complex .f64 fx fy, .string text, .bool held] 46)) := (Below.refl _ _).alloc (Nat.le_refl _) _
          replace HB := Lib.hid (HB.out.trans (hb0.mono HB.out.size))
          replace eq := (hb0.cell (p := ⟨blk, off + (k - 1) * 8, none⟩) hbl).trans eq
          replace hbl := Nat.lt_of_lt_of_le hbl hb0.size
          generalize (wr.alloc (.cells #[.int .i64 key, .string d, .int .i64 a, .int .i64 s, .bool dead, .complex .f64 fx fy, .string text, .bool held] 46)) = W1 at *
          generalize wr.heap.size = X at *
          refine wp_region_held_drew (S := fun w' => w'.cell? ⟨X, 0, none⟩ = some (.int .i64 key) ∧ w'.cell? ⟨X, 1, none⟩ = some (.string d) ∧ w'.cell? ⟨X, 2, none⟩ = some (.int .i64 a) ∧ w'.cell? ⟨X, 3, none⟩ = some (.int .i64 s) ∧ w'.cell? ⟨X, 4, none⟩ = some (.bool dead) ∧ w'.cell? ⟨X, 5, none⟩ = some (.complex .f64 fx fy) ∧ w'.cell? ⟨X, 6, none⟩ = some (.string text) ∧ w'.cell? ⟨X, 7, none⟩ = some (.bool held) ∧ w'.cell? ⟨blk, off + (k - 1) * 8, none⟩ = some (.int .i64 q)) (by kernel_rfl) ⟨k0, k1, k2, k3, k4, k5, k6, k7, eq⟩ (fun hHeld => ?_)
          refine wpAnyH_take (i := 0) (oi := { dst := some 12, op := Go.Op.load 46 (Go.Operand.tmp 4), type := 46, pos := "store.go:18", after := #[], guard := none }) (v := ?_) rfl (by kernel_rfl) (by kernel_rfl) (by kernel_rfl) (fun _ _ _ h => h) (Or.inl ⟨rfl, ?_⟩) (by assumption) ?_
          rotate_left
          · intro wz hSw; (try dsimp only at hSw); go_simp; try (with_reducible rfl)
          try simp only [Act.put, List.setIfInBounds_toArray, List.set_cons_zero, List.set_cons_succ]
          refine wpAnyH_ready (rs := [1]) (by kernel_rfl) (by simp) ?_
          refine (AllReadyH.cons (o := { dst := some 13, op := Go.Op.call { callee := Go.Callee.value (Go.Operand.func 33), args := #[Go.Operand.tmp 12], argTypes := #[46] }, type := 4, pos := "store.go:18", after := #[{ on := 0, ground := Go.Ground.data }], guard := none }) rfl (fun K hK => ?_) AllReadyH.nil)
          go_simp
          go_at_call 33
          refine (HIR.out _).mono ?_
          rintro e v ⟨rfl, hb⟩
          replace k0 := (hb.cell (p := ⟨X, 0, none⟩) kz).trans k0
          replace kf0 := (hb.frozen (p := ⟨X, 0, none⟩) kz).trans kf0
          replace k1 := (hb.cell (p := ⟨X, 1, none⟩) kz).trans k1
          replace kf1 := (hb.frozen (p := ⟨X, 1, none⟩) kz).trans kf1
          replace k2 := (hb.cell (p := ⟨X, 2, none⟩) kz).trans k2
          replace kf2 := (hb.frozen (p := ⟨X, 2, none⟩) kz).trans kf2
          replace k3 := (hb.cell (p := ⟨X, 3, none⟩) kz).trans k3
          replace kf3 := (hb.frozen (p := ⟨X, 3, none⟩) kz).trans kf3
          replace k4 := (hb.cell (p := ⟨X, 4, none⟩) kz).trans k4
          replace kf4 := (hb.frozen (p := ⟨X, 4, none⟩) kz).trans kf4
          replace k5 := (hb.cell (p := ⟨X, 5, none⟩) kz).trans k5
          replace kf5 := (hb.frozen (p := ⟨X, 5, none⟩) kz).trans kf5
          replace k6 := (hb.cell (p := ⟨X, 6, none⟩) kz).trans k6
          replace kf6 := (hb.frozen (p := ⟨X, 6, none⟩) kz).trans kf6
          replace k7 := (hb.cell (p := ⟨X, 7, none⟩) kz).trans k7
          replace kf7 := (hb.frozen (p := ⟨X, 7, none⟩) kz).trans kf7
          replace kz := Nat.lt_of_lt_of_le kz hb.size
          replace eq := (hb.cell (p := ⟨blk, off + (k - 1) * 8, none⟩) hbl).trans eq
          replace HB := Lib.hid (below_via HB.out hb HB.out.size ⟨rfl, rfl, rfl, rfl⟩)
          clear hb
          refine hK.out _ _ ⟨k0, k1, k2, k3, k4, k5, k6, k7, eq⟩ (fun hHeld => ?_)
          clear hK K
          try simp only [Act.put, List.setIfInBounds_toArray, List.set_cons_zero, List.set_cons_succ]
          refine wpAnyH_take (i := 2) (oi := { dst := some 14, op := Go.Op.unOp Go.UnOp.not 4 (Go.Operand.tmp 13), type := 4, pos := "store.go:18", after := #[{ on := 1, ground := Go.Ground.data }], guard := none }) (v := ?_) rfl (by kernel_rfl) (by kernel_rfl) (by kernel_rfl) (fun _ _ _ h => h) (Or.inl ⟨rfl, ?_⟩) (by assumption) ?_
          rotate_left
          · intro wz hSw; (try dsimp only at hSw); go_simp; try (with_reducible rfl)
          try simp only [Act.put, List.setIfInBounds_toArray, List.set_cons_zero, List.set_cons_succ]
          refine wpAnyH_take (i := 3) (oi := { dst := some 15, op := Go.Op.move (Go.Operand.tmp 14), type := 4, pos := "store.go:18", after := #[{ on := 2, ground := Go.Ground.data }, { on := 1, ground := Go.Ground.chain }], guard := none }) (v := ?_) rfl (by kernel_rfl) (by kernel_rfl) (by kernel_rfl) (fun _ _ _ h => h) (Or.inl ⟨rfl, ?_⟩) (by assumption) ?_
          rotate_left
          · intro wz hSw; (try dsimp only at hSw); go_simp; try (with_reducible rfl)
          try simp only [Act.put, List.setIfInBounds_toArray, List.set_cons_zero, List.set_cons_succ]
          refine wpAnyH_take (i := 4) (oi := { dst := some 16, op := Go.Op.move (Go.Operand.tmp 3), type := 3, pos := "store.go:18", after := #[{ on := 3, ground := Go.Ground.guard }], guard := some (3, false) }) (v := ?_) rfl (by kernel_rfl) (by kernel_rfl) (by kernel_rfl) (fun _ _ _ h => h) (Or.inl ⟨rfl, ?_⟩) (by assumption) ?_
          rotate_left
          · intro wz hSw; (try dsimp only at hSw); go_simp; try (with_reducible rfl)
          try simp only [Act.put, List.setIfInBounds_toArray, List.set_cons_zero, List.set_cons_succ]
          refine wpAnyH_take (i := 5) (oi := { dst := some 17, op := Go.Op.binOp Go.BinOp.gtr 3 (Go.Operand.tmp 16) (Go.Operand.const (Go.Value.int Go.IntKind.i64 0)) 3, type := 4, pos := "store.go:18", after := #[{ on := 4, ground := Go.Ground.data }, { on := 3, ground := Go.Ground.guard }], guard := some (3, false) }) (v := ?_) rfl (by kernel_rfl) (by kernel_rfl) (by kernel_rfl) (fun _ _ _ h => h) (Or.inl ⟨rfl, ?_⟩) (by assumption) ?_
          rotate_left
          · intro wz hSw; (try dsimp only at hSw); go_simp; try (with_reducible rfl)
          try simp only [Act.put, List.setIfInBounds_toArray, List.set_cons_zero, List.set_cons_succ]
          refine wpAnyH_take (i := 6) (oi := { dst := some 18, op := Go.Op.move (Go.Operand.tmp 17), type := 4, pos := "store.go:18", after := #[{ on := 5, ground := Go.Ground.data }, { on := 3, ground := Go.Ground.chain }, { on := 3, ground := Go.Ground.guard }], guard := some (3, false) }) (v := ?_) rfl (by kernel_rfl) (by kernel_rfl) (by kernel_rfl) (fun _ _ _ h => h) (Or.inl ⟨rfl, ?_⟩) (by assumption) ?_
          rotate_left
          · intro wz hSw; (try dsimp only at hSw); go_simp; try (with_reducible rfl)
          try simp only [Act.put, List.setIfInBounds_toArray, List.set_cons_zero, List.set_cons_succ]
          refine wpAnyH_take (i := 7) (oi := { dst := some 19, op := Go.Op.move (Go.Operand.tmp 0), type := 38, pos := "store.go:18", after := #[{ on := 6, ground := Go.Ground.guard }], guard := some (6, true) }) (v := ?_) rfl (by kernel_rfl) (by kernel_rfl) (by kernel_rfl) (fun _ _ _ h => h) (Or.inl ⟨rfl, ?_⟩) (by assumption) ?_
          rotate_left
          · intro wz hSw; (try dsimp only at hSw); go_simp; try (with_reducible rfl)
          try simp only [Act.put, List.setIfInBounds_toArray, List.set_cons_zero, List.set_cons_succ]
          refine wpAnyH_take (i := 8) (oi := { dst := some 20, op := Go.Op.move (Go.Operand.tmp 3), type := 3, pos := "store.go:18", after := #[{ on := 6, ground := Go.Ground.guard }], guard := some (6, true) }) (v := ?_) rfl (by kernel_rfl) (by kernel_rfl) (by kernel_rfl) (fun _ _ _ h => h) (Or.inl ⟨rfl, ?_⟩) (by assumption) ?_
          rotate_left
          · intro wz hSw; (try dsimp only at hSw); go_simp; try (with_reducible rfl)
          try simp only [Act.put, List.setIfInBounds_toArray, List.set_cons_zero, List.set_cons_succ]
          refine wpAnyH_take (i := 9) (oi := { dst := some 21, op := Go.Op.binOp Go.BinOp.sub 3 (Go.Operand.tmp 20) (Go.Operand.const (Go.Value.int Go.IntKind.i64 1)) 3, type := 3, pos := "store.go:18", after := #[{ on := 8, ground := Go.Ground.data }, { on := 6, ground := Go.Ground.guard }], guard := some (6, true) }) (v := ?_) rfl (by kernel_rfl) (by kernel_rfl) (by kernel_rfl) (fun _ _ _ h => h) (Or.inl ⟨rfl, ?_⟩) (by assumption) ?_
          rotate_left
          · intro wz hSw; (try dsimp only at hSw); go_simp; try (with_reducible rfl)
          try simp only [Act.put, List.setIfInBounds_toArray, List.set_cons_zero, List.set_cons_succ]
          refine wpAnyH_take (i := 10) (oi := { dst := some 22, op := Go.Op.indexAddr 38 (Go.Operand.tmp 19) (Go.Operand.tmp 21), type := 0, pos := "store.go:18", after := #[{ on := 7, ground := Go.Ground.data }, { on := 9, ground := Go.Ground.data }, { on := 6, ground := Go.Ground.guard }], guard := some (6, true) }) (v := ?_) rfl (by kernel_rfl) (by kernel_rfl) (by kernel_rfl) (fun _ _ _ h => h) (Or.inl ⟨rfl, ?_⟩) (by assumption) ?_
          rotate_left
          · intro wz hSw; (try dsimp only at hSw); go_simp; try (with_reducible rfl)
          try simp only [Act.put, List.setIfInBounds_toArray, List.set_cons_zero, List.set_cons_succ]
          refine wpAnyH_take (i := 11) (oi := { dst := some 23, op := Go.Op.fieldAddr 46 (Go.Operand.tmp 22) 0, type := 0, pos := "store.go:18", after := #[{ on := 10, ground := Go.Ground.data }, { on := 6, ground := Go.Ground.guard }], guard := some (6, true) }) (v := ?_) rfl (by kernel_rfl) (by kernel_rfl) (by kernel_rfl) (fun _ _ _ h => h) (Or.inl ⟨rfl, ?_⟩) (by assumption) ?_
          rotate_left
          · intro wz hSw; (try dsimp only at hSw); go_simp; try (with_reducible rfl)
          try simp only [Act.put, List.setIfInBounds_toArray, List.set_cons_zero, List.set_cons_succ]
          refine wpAnyH_take (i := 12) (oi := { dst := some 24, op := Go.Op.load 3 (Go.Operand.tmp 23), type := 3, pos := "store.go:18", after := #[{ on := 11, ground := Go.Ground.data }, { on := 6, ground := Go.Ground.guard }], guard := some (6, true) }) (v := ?_) rfl (by kernel_rfl) (by kernel_rfl) (by kernel_rfl) (fun _ _ _ h => h) (Or.inl ⟨rfl, ?_⟩) (by assumption) ?_
          rotate_left
          · intro wz hSw; (try dsimp only at hSw); go_simp; try (with_reducible rfl)
          try simp only [Act.put, List.setIfInBounds_toArray, List.set_cons_zero, List.set_cons_succ]
          refine wpAnyH_take (i := 13) (oi := { dst := some 25, op := Go.Op.fieldAddr 46 (Go.Operand.tmp 4) 0, type := 0, pos := "store.go:18", after := #[{ on := 6, ground := Go.Ground.guard }], guard := some (6, true) }) (v := ?_) rfl (by kernel_rfl) (by kernel_rfl) (by kernel_rfl) (fun _ _ _ h => h) (Or.inl ⟨rfl, ?_⟩) (by assumption) ?_
          rotate_left
          · intro wz hSw; (try dsimp only at hSw); go_simp; try (with_reducible rfl)
          try simp only [Act.put, List.setIfInBounds_toArray, List.set_cons_zero, List.set_cons_succ]
          refine wpAnyH_take (i := 14) (oi := { dst := some 26, op := Go.Op.load 3 (Go.Operand.tmp 25), type := 3, pos := "store.go:18", after := #[{ on := 13, ground := Go.Ground.data }, { on := 6, ground := Go.Ground.guard }], guard := some (6, true) }) (v := ?_) rfl (by kernel_rfl) (by kernel_rfl) (by kernel_rfl) (fun _ _ _ h => h) (Or.inl ⟨rfl, ?_⟩) (by assumption) ?_
          rotate_left
          · intro wz hSw; (try dsimp only at hSw); go_simp; try (with_reducible rfl)
          try simp only [Act.put, List.setIfInBounds_toArray, List.set_cons_zero, List.set_cons_succ]
          refine wpAnyH_take (i := 15) (oi := { dst := some 27, op := Go.Op.binOp Go.BinOp.geq 3 (Go.Operand.tmp 24) (Go.Operand.tmp 26) 3, type := 4, pos := "store.go:18", after := #[{ on := 12, ground := Go.Ground.data }, { on := 14, ground := Go.Ground.data }, { on := 6, ground := Go.Ground.guard }], guard := some (6, true) }) (v := ?_) rfl (by kernel_rfl) (by kernel_rfl) (by kernel_rfl) (fun _ _ _ h => h) (Or.inl ⟨rfl, ?_⟩) (by assumption) ?_
          rotate_left
          · intro wz hSw; (try dsimp only at hSw); go_simp; try (with_reducible rfl)
          try simp only [Act.put, List.setIfInBounds_toArray, List.set_cons_zero, List.set_cons_succ]
          refine wpAnyH_take (i := 16) (oi := { dst := some 28, op := Go.Op.pick (Go.Operand.tmp 18) (Go.Operand.tmp 27) (Go.Operand.const (Go.Value.bool false)), type := 4, pos := "store.go:18", after := #[{ on := 6, ground := Go.Ground.data }, { on := 15, ground := Go.Ground.data }, { on := 3, ground := Go.Ground.guard }], guard := some (3, false) }) (v := ?_) rfl (by kernel_rfl) (by kernel_rfl) (by kernel_rfl) (fun _ _ _ h => h) (Or.inl ⟨rfl, ?_⟩) (by assumption) ?_
          rotate_left
          · intro wz hSw; (try dsimp only at hSw); go_simp; try (with_reducible rfl)
          try simp only [Act.put, List.setIfInBounds_toArray, List.set_cons_zero, List.set_cons_succ]
          refine wpAnyH_take (i := 17) (oi := { dst := some 29, op := Go.Op.pick (Go.Operand.tmp 15) (Go.Operand.const (Go.Value.bool true)) (Go.Operand.tmp 28), type := 4, pos := "store.go:18", after := #[{ on := 3, ground := Go.Ground.data }, { on := 16, ground := Go.Ground.data }], guard := none }) (v := ?_) rfl (by kernel_rfl) (by kernel_rfl) (by kernel_rfl) (fun _ _ _ h => h) (Or.inl ⟨rfl, ?_⟩) (by assumption) ?_
          rotate_left
          · intro wz hSw; (try dsimp only at hSw); go_simp; try (with_reducible rfl)
          try simp only [Act.put, List.setIfInBounds_toArray, List.set_cons_zero, List.set_cons_succ]
          refine wpAnyH_done (by kernel_rfl) ?_ _
          by_cases hq : key ≤ q
          · have HF : Hid (RS = false) := by
              show _ = _
              rw [HST.out]
              simp only [show decide (q < key) = false by simp; omega]
              rfl
            go_wp2
            go_ret
            exact ⟨ret_bool HF.out.symm, HB.out⟩
          · have HN : Hid (rightFrom (prevK zs (k + 1)) (zs.drop (k + 1)) = RS) := by
              show _ = _
              rw [HST.out]
              simp only [show decide (q < key) = true by simp; omega]
              simp
            have hq' : decide (key ≤ q) = false := by simpa using hq
            go_wp2
            go_roundw
            case rel => exact ⟨k + 1, by omega, by go_num, HN, HB⟩
            case measure => simp [intOf]; omega
    · obtain rfl : k = n := by omega
      have HF : Hid (RS = true) := by show _ = _; rw [← HRS.out, List.drop_of_length_le (by rw [HL.out]; omega)]; unfold rightFrom; rfl
      go_wp2
      go_ret
      exact ⟨ret_bool HF.out.symm, HB.out⟩
end Go.Proofs.Ytpaiigminmakgaa

/- The law's own little check of layer 8: 'told'. -/
namespace Go.Proofs.Ytpaiigminmakgaa
open Go.RowKit

def tA : Itm := ⟨2, ⟨⟨#[48]⟩, 1, 3⟩, false, 0, 0, ⟨#[120]⟩, true⟩
def tB : Itm := ⟨2, ⟨⟨#[48, 49]⟩, 1, 2⟩, true, 0, 0, ⟨#[]⟩, false⟩
theorem tA_V : itmV tA = .agg #[.int .i64 2, .string ⟨#[48]⟩, .int .i64 1, .int .i64 3, .bool false, .complex .f64 0 0, .string ⟨#[120]⟩, .bool true] := by unfold itmV tA; simp only [zero_fl]
theorem tB_V : itmV tB = .agg #[.int .i64 2, .string ⟨#[48, 49]⟩, .int .i64 1, .int .i64 2, .bool true, .complex .f64 0 0, .string ⟨#[]⟩, .bool false] := by unfold itmV tB; simp only [zero_fl]
theorem told_p1 : putF [] tA = ([tA], true) := rfl
theorem told_p2 : putF [tA] tB = ([tA], false) := by
  refine put_not (y := tA) rfl ?_
  have he : eqV tB.ver tA.ver = false := by
    rcases e : eqV tB.ver tA.ver with _ | _
    · rfl
    · have := congrArg Vrs.stamp ((eqV_iff _ _).mp e)
      exact absurd this (by decide)
  have hn : newerF tA.ver tB.ver = true := rfl
  unfold replF
  rw [he, hn]
  rfl
theorem told_g : getF [tA] 2 = some tA := rfl
theorem told_d : dropF [tA] 2 = [] := rfl
theorem told_r : rightS [tA] = true := by
  unfold rightS rightFrom rightFrom
  decide
theorem keys_one (x : Itm) : Keys [x] := List.pairwise_singleton _ _
/-- A row of one's own with its flag. -/
def RowFlag (zs : List Itm) (n : Nat) (b : Bool) (w : World) (e : Ending) (w' : World) : Prop := ∃ A c, e = .returned (.tuple #[.slice A n c, .bool b]) ∧ w'.ownsRow w.heap.size 46 8 (.slice A n c) n (rowCells cellsP zs) ∧ Below w.heap.size w w'
theorem flag_of {zs ys : List Itm} {x : Itm} {b : Bool} {n : Nat} {w w' : World} {e : Ending} (h : putF zs x = (ys, b)) (hn : ys.length = n) (hp : PutRet zs x w e w') : RowFlag ys n b w e w' := by
  obtain ⟨A, c, h1, h2, h3⟩ := hp
  rw [h] at h1 h2
  subst hn
  exact ⟨A, c, h1, h2, h3⟩
theorem told_put1 (w : World) : Calls Try.prog 16 #[.slice none 0 0, .agg #[.int .i64 2, .string ⟨#[48]⟩, .int .i64 1, .int .i64 3, .bool false, .complex .f64 0 0, .string ⟨#[120]⟩, .bool true]] w (RowFlag [tA] 1 true w) := by
  rw [← tA_V]
  exact (putS_any none 0 0 [] tA 0 w (Nat.zero_le _) RowAt.nil (Nat.le_refl _) (by omega) List.Pairwise.nil).mono fun e w' h => flag_of told_p1 rfl h
theorem told_put2 {A : Option Addr} {c B : Nat} (w : World) (ho : w.ownsRow B 46 8 (.slice A 1 c) 1 (rowCells cellsP [tA])) : Calls Try.prog 16 #[.slice A 1 c, .agg #[.int .i64 2, .string ⟨#[48, 49]⟩, .int .i64 1, .int .i64 2, .bool true, .complex .f64 0 0, .string ⟨#[]⟩, .bool false]] w (RowFlag [tA] 1 false w) := by
  rw [← tB_V]
  exact (putS_any A 1 c [tA] tB w.heap.size w (Nat.le_refl _) (own_row rowS ho) (rown_cap ho) (by omega) (keys_one _)).mono fun e w' h => flag_of told_p2 rfl h
theorem told_get {A : Option Addr} {c B : Nat} (w : World) (ho : w.ownsRow B 46 8 (.slice A 1 c) 1 (rowCells cellsP [tA])) : Calls Try.prog 19 #[.slice A 1 c, .int .i64 2] w fun e w' => e = .returned (.tuple #[.agg #[.int .i64 2, .string ⟨#[48]⟩, .int .i64 1, .int .i64 3, .bool false, .complex .f64 0 0, .string ⟨#[120]⟩, .bool true], .bool true]) ∧ Below w.heap.size w w' := by
  have h := getS_any A 1 c [tA] 2 w.heap.size w (Nat.le_refl _) (own_row rowS ho) (by omega) (keys_one _)
  have e : GetV (some tA) = .tuple #[itmV tA, .bool true] := rfl
  rwa [told_g, e, tA_V] at h
theorem told_drop {A : Option Addr} {c B : Nat} (w : World) (ho : w.ownsRow B 46 8 (.slice A 1 c) 1 (rowCells cellsP [tA])) : Calls Try.prog 23 #[.slice A 1 c, .int .i64 2] w fun e w' => (∃ A' c', e = .returned (.slice A' 0 c')) ∧ Below w.heap.size w w' := by
  have h := dropS_any A 1 c [tA] 2 w.heap.size w (Nat.le_refl _) (own_row rowS ho) (rown_cap ho) (by omega) (keys_one _)
  rw [told_d] at h
  exact h.mono fun e w' ⟨A', c', h1, _, h3⟩ => ⟨⟨A', c', h1⟩, h3⟩
theorem told_right {A : Option Addr} {c B : Nat} (w : World) (ho : w.ownsRow B 46 8 (.slice A 1 c) 1 (rowCells cellsP [tA])) : Calls Try.prog 10 #[.slice A 1 c] w fun e w' => e = .returned (.bool true) ∧ Below w.heap.size w w' := by
  have h := rightS_any A 1 c [tA] w.heap.size w (Nat.le_refl _) (own_row rowS ho) (by omega) (fun z hz => by
    obtain rfl : z = tA := by simpa using hz
    exact ⟨by decide, by decide⟩)
  rwa [told_r] at h
set_option maxRecDepth 100000 in
set_option maxHeartbeats 1000000 in
theorem told_eq (w : World) : (binOp .eql 46 (.agg #[.int .i64 2, .string ⟨#[48]⟩, .int .i64 1, .int .i64 3, .bool false, .complex .f64 0 0, .string ⟨#[120]⟩, .bool true]) (.agg #[.int .i64 2, .string ⟨#[48]⟩, .int .i64 1, .int .i64 3, .bool false, .complex .f64 0 0, .string ⟨#[120]⟩, .bool true])).run Try.prog w = .ok (.bool true) w := by
  have := eql_item tA tA (by decide) (by decide) (by decide) (by decide) w
  rwa [eqI_same, tA_V] at this
set_option maxRecDepth 100000 in
set_option maxHeartbeats 2000000 in
theorem told_any (w : World) : Calls Try.prog 8 #[] w fun e w' => e = .returned (.bool true) ∧ Below w.heap.size w w' := by
  have hst := store_complex
  have heq := told_eq
  go_enter Try.func8, Try.ntmps8
  go_wp2_with fail
  refine (told_put1 _).mono ?_
  rintro e w1 ⟨A1, c1, rfl, ho, hb⟩
  have k0 : ((w.alloc (.cells #[.int .i64 2, .string ⟨#[48]⟩, .int .i64 1, .int .i64 3, .bool false, .complex .f64 0 0, .string ⟨#[120]⟩, .bool true] 46)).alloc (.cells #[.int .i64 2, .string ⟨#[48, 49]⟩, .int .i64 1, .int .i64 2, .bool true, .complex .f64 0 0, .string ⟨#[]⟩, .bool false] 46)).cell? ⟨w.heap.size, 0, none⟩ = some (.int .i64 2) := by simp [go_sem]
  have kf0 : ((w.alloc (.cells #[.int .i64 2, .string ⟨#[48]⟩, .int .i64 1, .int .i64 3, .bool false, .complex .f64 0 0, .string ⟨#[120]⟩, .bool true] 46)).alloc (.cells #[.int .i64 2, .string ⟨#[48, 49]⟩, .int .i64 1, .int .i64 2, .bool true, .complex .f64 0 0, .string ⟨#[]⟩, .bool false] 46)).frozen? ⟨w.heap.size, 0, none⟩ = false := by simp [go_sem]
  have k1 : ((w.alloc (.cells #[.int .i64 2, .string ⟨#[48]⟩, .int .i64 1, .int .i64 3, .bool false, .complex .f64 0 0, .string ⟨#[120]⟩, .bool true] 46)).alloc (.cells #[.int .i64 2, .string ⟨#[48, 49]⟩, .int .i64 1, .int .i64 2, .bool true, .complex .f64 0 0, .string ⟨#[]⟩, .bool false] 46)).cell? ⟨w.heap.size, 1, none⟩ = some (.string ⟨#[48]⟩) := by simp [go_sem]
  have kf1 : ((w.alloc (.cells #[.int .i64 2, .string ⟨#[48]⟩, .int .i64 1, .int .i64 3, .bool false, .complex .f64 0 0, .string ⟨#[120]⟩, .bool true] 46)).alloc (.cells #[.int .i64 2, .string ⟨#[48, 49]⟩, .int .i64 1, .int .i64 2, .bool true, .complex .f64 0 0, .string ⟨#[]⟩, .bool false] 46)).frozen? ⟨w.heap.size, 1, none⟩ = false := by simp [go_sem]
  have k2 : ((w.alloc (.cells #[.int .i64 2, .string ⟨#[48]⟩, .int .i64 1, .int .i64 3, .bool false, .complex .f64 0 0, .string ⟨#[120]⟩, .bool true] 46)).alloc (.cells #[.int .i64 2, .string ⟨#[48, 49]⟩, .int .i64 1, .int .i64 2, .bool true, .complex .f64 0 0, .string ⟨#[]⟩, .bool false] 46)).cell? ⟨w.heap.size, 2, none⟩ = some (.int .i64 1) := by simp [go_sem]
  have kf2 : ((w.alloc (.cells #[.int .i64 2, .string ⟨#[48]⟩, .int .i64 1, .int .i64 3, .bool false, .complex .f64 0 0, .string ⟨#[120]⟩, .bool true] 46)).alloc (.cells #[.int .i64 2, .string ⟨#[48, 49]⟩, .int .i64 1, .int .i64 2, .bool true, .complex .f64 0 0, .string ⟨#[]⟩, .bool false] 46)).frozen? ⟨w.heap.size, 2, none⟩ = false := by simp [go_sem]
  have k3 : ((w.alloc (.cells #[.int .i64 2, .string ⟨#[48]⟩, .int .i64 1, .int .i64 3, .bool false, .complex .f64 0 0, .string ⟨#[120]⟩, .bool true] 46)).alloc (.cells #[.int .i64 2, .string ⟨#[48, 49]⟩, .int .i64 1, .int .i64 2, .bool true, .complex .f64 0 0, .string ⟨#[]⟩, .bool false] 46)).cell? ⟨w.heap.size, 3, none⟩ = some (.int .i64 3) := by simp [go_sem]
  have kf3 : ((w.alloc (.cells #[.int .i64 2, .string ⟨#[48]⟩, .int .i64 1, .int .i64 3, .bool false, .complex .f64 0 0, .string ⟨#[120]⟩, .bool true] 46)).alloc (.cells #[.int .i64 2, .string ⟨#[48, 49]⟩, .int .i64 1, .int .i64 2, .bool true, .complex .f64 0 0, .string ⟨#[]⟩, .bool false] 46)).frozen? ⟨w.heap.size, 3, none⟩ = false := by simp [go_sem]
  have k4 : ((w.alloc (.cells #[.int .i64 2, .string ⟨#[48]⟩, .int .i64 1, .int .i64 3, .bool false, .complex .f64 0 0, .string ⟨#[120]⟩, .bool true] 46)).alloc (.cells #[.int .i64 2, .string ⟨#[48, 49]⟩, .int .i64 1, .int .i64 2, .bool true, .complex .f64 0 0, .string ⟨#[]⟩, .bool false] 46)).cell? ⟨w.heap.size, 4, none⟩ = some (.bool false) := by simp [go_sem]
  have kf4 : ((w.alloc (.cells #[.int .i64 2, .string ⟨#[48]⟩, .int .i64 1, .int .i64 3, .bool false, .complex .f64 0 0, .string ⟨#[120]⟩, .bool true] 46)).alloc (.cells #[.int .i64 2, .string ⟨#[48, 49]⟩, .int .i64 1, .int .i64 2, .bool true, .complex .f64 0 0, .string ⟨#[]⟩, .bool false] 46)).frozen? ⟨w.heap.size, 4, none⟩ = false := by simp [go_sem]
  have k5 : ((w.alloc (.cells #[.int .i64 2, .string ⟨#[48]⟩, .int .i64 1, .int .i64 3, .bool false, .complex .f64 0 0, .string ⟨#[120]⟩, .bool true] 46)).alloc (.cells #[.int .i64 2, .string ⟨#[48, 49]⟩, .int .i64 1, .int .i64 2, .bool true, .complex .f64 0 0, .string ⟨#[]⟩, .bool false] 46)).cell? ⟨w.heap.size, 5, none⟩ = some (.complex .f64 0 0) := by simp [go_sem]
  have kf5 : ((w.alloc (.cells #[.int .i64 2, .string ⟨#[48]⟩, .int .i64 1, .int .i64 3, .bool false, .complex .f64 0 0, .string ⟨#[120]⟩, .bool true] 46)).alloc (.cells #[.int .i64 2, .string ⟨#[48, 49]⟩, .int .i64 1, .int .i64 2, .bool true, .complex .f64 0 0, .string ⟨#[]⟩, .bool false] 46)).frozen? ⟨w.heap.size, 5, none⟩ = false := by simp [go_sem]
  have k6 : ((w.alloc (.cells #[.int .i64 2, .string ⟨#[48]⟩, .int .i64 1, .int .i64 3, .bool false, .complex .f64 0 0, .string ⟨#[120]⟩, .bool true] 46)).alloc (.cells #[.int .i64 2, .string ⟨#[48, 49]⟩, .int .i64 1, .int .i64 2, .bool true, .complex .f64 0 0, .string ⟨#[]⟩, .bool false] 46)).cell? ⟨w.heap.size, 6, none⟩ = some (.string ⟨#[120]⟩) := by simp [go_sem]
  have kf6 : ((w.alloc (.cells #[.int .i64 2, .string ⟨#[48]⟩, .int .i64 1, .int .i64 3, .bool false, .complex .f64 0 0, .string ⟨#[120]⟩, .bool true] 46)).alloc (.cells #[.int .i64 2, .string ⟨#[48, 49]⟩, .int .i64 1, .int .i64 2, .bool true, .complex .f64 0 0, .string ⟨#[]⟩, .bool false] 46)).frozen? ⟨w.heap.size, 6, none⟩ = false := by simp [go_sem]
  have k7 : ((w.alloc (.cells #[.int .i64 2, .string ⟨#[48]⟩, .int .i64 1, .int .i64 3, .bool false, .complex .f64 0 0, .string ⟨#[120]⟩, .bool true] 46)).alloc (.cells #[.int .i64 2, .string ⟨#[48, 49]⟩, .int .i64 1, .int .i64 2, .bool true, .complex .f64 0 0, .string ⟨#[]⟩, .bool false] 46)).cell? ⟨w.heap.size, 7, none⟩ = some (.bool true) := by simp [go_sem]
  have kf7 : ((w.alloc (.cells #[.int .i64 2, .string ⟨#[48]⟩, .int .i64 1, .int .i64 3, .bool false, .complex .f64 0 0, .string ⟨#[120]⟩, .bool true] 46)).alloc (.cells #[.int .i64 2, .string ⟨#[48, 49]⟩, .int .i64 1, .int .i64 2, .bool true, .complex .f64 0 0, .string ⟨#[]⟩, .bool false] 46)).frozen? ⟨w.heap.size, 7, none⟩ = false := by simp [go_sem]
  have kz : w.heap.size < ((w.alloc (.cells #[.int .i64 2, .string ⟨#[48]⟩, .int .i64 1, .int .i64 3, .bool false, .complex .f64 0 0, .string ⟨#[120]⟩, .bool true] 46)).alloc (.cells #[.int .i64 2, .string ⟨#[48, 49]⟩, .int .i64 1, .int .i64 2, .bool true, .complex .f64 0 0, .string ⟨#[]⟩, .bool false] 46)).heap.size := by simp <;> omega
  have m0 : ((w.alloc (.cells #[.int .i64 2, .string ⟨#[48]⟩, .int .i64 1, .int .i64 3, .bool false, .complex .f64 0 0, .string ⟨#[120]⟩, .bool true] 46)).alloc (.cells #[.int .i64 2, .string ⟨#[48, 49]⟩, .int .i64 1, .int .i64 2, .bool true, .complex .f64 0 0, .string ⟨#[]⟩, .bool false] 46)).cell? ⟨w.heap.size + 1, 0, none⟩ = some (.int .i64 2) := by simp [go_sem]
  have mf0 : ((w.alloc (.cells #[.int .i64 2, .string ⟨#[48]⟩, .int .i64 1, .int .i64 3, .bool false, .complex .f64 0 0, .string ⟨#[120]⟩, .bool true] 46)).alloc (.cells #[.int .i64 2, .string ⟨#[48, 49]⟩, .int .i64 1, .int .i64 2, .bool true, .complex .f64 0 0, .string ⟨#[]⟩, .bool false] 46)).frozen? ⟨w.heap.size + 1, 0, none⟩ = false := by simp [go_sem]
  have m1 : ((w.alloc (.cells #[.int .i64 2, .string ⟨#[48]⟩, .int .i64 1, .int .i64 3, .bool false, .complex .f64 0 0, .string ⟨#[120]⟩, .bool true] 46)).alloc (.cells #[.int .i64 2, .string ⟨#[48, 49]⟩, .int .i64 1, .int .i64 2, .bool true, .complex .f64 0 0, .string ⟨#[]⟩, .bool false] 46)).cell? ⟨w.heap.size + 1, 1, none⟩ = some (.string ⟨#[48, 49]⟩) := by simp [go_sem]
  have mf1 : ((w.alloc (.cells #[.int .i64 2, .string ⟨#[48]⟩, .int .i64 1, .int .i64 3, .bool false, .complex .f64 0 0, .string ⟨#[120]⟩, .bool true] 46)).alloc (.cells #[.int .i64 2, .string ⟨#[48, 49]⟩, .int .i64 1, .int .i64 2, .bool true, .complex .f64 0 0, .string ⟨#[]⟩, .bool false] 46)).frozen? ⟨w.heap.size + 1, 1, none⟩ = false := by simp [go_sem]
  have m2 : ((w.alloc (.cells #[.int .i64 2, .string ⟨#[48]⟩, .int .i64 1, .int .i64 3, .bool false, .complex .f64 0 0, .string ⟨#[120]⟩, .bool true] 46)).alloc (.cells #[.int .i64 2, .string ⟨#[48, 49]⟩, .int .i64 1, .int .i64 2, .bool true, .complex .f64 0 0, .string ⟨#[]⟩, .bool false] 46)).cell? ⟨w.heap.size + 1, 2, none⟩ = some (.int .i64 1) := by simp [go_sem]
  have mf2 : ((w.alloc (.cells #[.int .i64 2, .string ⟨#[48]⟩, .int .i64 1, .int .i64 3, .bool false, .complex .f64 0 0, .string ⟨#[120]⟩, .bool true] 46)).alloc (.cells #[.int .i64 2, .string ⟨#[48, 49]⟩, .int .i64 1, .int .i64 2, .bool true, .complex .f64 0 0, .string ⟨#[]⟩, .bool false] 46)).frozen? ⟨w.heap.size + 1, 2, none⟩ = false := by simp [go_sem]
  have m3 : ((w.alloc (.cells #[.int .i64 2, .string ⟨#[48]⟩, .int .i64 1, .int .i64 3, .bool false, .complex .f64 0 0, .string ⟨#[120]⟩, .bool true] 46)).alloc (.cells #[.int .i64 2, .string ⟨#[48, 49]⟩, .int .i64 1, .int .i64 2, .bool true, .complex .f64 0 0, .string ⟨#[]⟩, .bool false] 46)).cell? ⟨w.heap.size + 1, 3, none⟩ = some (.int .i64 2) := by simp [go_sem]
  have mf3 : ((w.alloc (.cells #[.int .i64 2, .string ⟨#[48]⟩, .int .i64 1, .int .i64 3, .bool false, .complex .f64 0 0, .string ⟨#[120]⟩, .bool true] 46)).alloc (.cells #[.int .i64 2, .string ⟨#[48, 49]⟩, .int .i64 1, .int .i64 2, .bool true, .complex .f64 0 0, .string ⟨#[]⟩, .bool false] 46)).frozen? ⟨w.heap.size + 1, 3, none⟩ = false := by simp [go_sem]
  have m4 : ((w.alloc (.cells #[.int .i64 2, .string ⟨#[48]⟩, .int .i64 1, .int .i64 3, .bool false, .complex .f64 0 0, .string ⟨#[120]⟩, .bool true] 46)).alloc (.cells #[.int .i64 2, .string ⟨#[48, 49]⟩, .int .i64 1, .int .i64 2, .bool true, .complex .f64 0 0, .string ⟨#[]⟩, .bool false] 46)).cell? ⟨w.heap.size + 1, 4, none⟩ = some (.bool true) := by simp [go_sem]
  have mf4 : ((w.alloc (.cells #[.int .i64 2, .string ⟨#[48]⟩, .int .i64 1, .int .i64 3, .bool false, .complex .f64 0 0, .string ⟨#[120]⟩, .bool true] 46)).alloc (.cells #[.int .i64 2, .string ⟨#[48, 49]⟩, .int .i64 1, .int .i64 2, .bool true, .complex .f64 0 0, .string ⟨#[]⟩, .bool false] 46)).frozen? ⟨w.heap.size + 1, 4, none⟩ = false := by simp [go_sem]
  have m5 : ((w.alloc (.cells #[.int .i64 2, .string ⟨#[48]⟩, .int .i64 1, .int .i64 3, .bool false, .complex .f64 0 0, .string ⟨#[120]⟩, .bool true] 46)).alloc (.cells #[.int .i64 2, .string ⟨#[48, 49]⟩, .int .i64 1, .int .i64 2, .bool true, .complex .f64 0 0, .string ⟨#[]⟩, .bool false] 46)).cell? ⟨w.heap.size + 1, 5, none⟩ = some (.complex .f64 0 0) := by simp [go_sem]
  have mf5 : ((w.alloc (.cells #[.int .i64 2, .string ⟨#[48]⟩, .int .i64 1, .int .i64 3, .bool false, .complex .f64 0 0, .string ⟨#[120]⟩, .bool true] 46)).alloc (.cells #[.int .i64 2, .string ⟨#[48, 49]⟩, .int .i64 1, .int .i64 2, .bool true, .complex .f64 0 0, .string ⟨#[]⟩, .bool false] 46)).frozen? ⟨w.heap.size + 1, 5, none⟩ = false := by simp [go_sem]
  have m6 : ((w.alloc (.cells #[.int .i64 2, .string ⟨#[48]⟩, .int .i64 1, .int .i64 3, .bool false, .complex .f64 0 0, .string ⟨#[120]⟩, .bool true] 46)).alloc (.cells #[.int .i64 2, .string ⟨#[48, 49]⟩, .int .i64 1, .int .i64 2, .bool true, .complex .f64 0 0, .string ⟨#[]⟩, .bool false] 46)).cell? ⟨w.heap.size + 1, 6, none⟩ = some (.string ⟨#[]⟩) := by simp [go_sem]
  have mf6 : ((w.alloc (.cells #[.int .i64 2, .string ⟨#[48]⟩, .int .i64 1, .int .i64 3, .bool false, .complex .f64 0 0, .string ⟨#[120]⟩, .bool true] 46)).alloc (.cells #[.int .i64 2, .string ⟨#[48, 49]⟩, .int .i64 1, .int .i64 2, .bool true, .complex .f64 0 0, .string ⟨#[]⟩, .bool false] 46)).frozen? ⟨w.heap.size + 1, 6, none⟩ = false := by simp [go_sem]
  have m7 : ((w.alloc (.cells #[.int .i64 2, .string ⟨#[48]⟩, .int .i64 1, .int .i64 3, .bool false, .complex .f64 0 0, .string ⟨#[120]⟩, .bool true] 46)).alloc (.cells #[.int .i64 2, .string ⟨#[48, 49]⟩, .int .i64 1, .int .i64 2, .bool true, .complex .f64 0 0, .string ⟨#[]⟩, .bool false] 46)).cell? ⟨w.heap.size + 1, 7, none⟩ = some (.bool false) := by simp [go_sem]
  have mf7 : ((w.alloc (.cells #[.int .i64 2, .string ⟨#[48]⟩, .int .i64 1, .int .i64 3, .bool false, .complex .f64 0 0, .string ⟨#[120]⟩, .bool true] 46)).alloc (.cells #[.int .i64 2, .string ⟨#[48, 49]⟩, .int .i64 1, .int .i64 2, .bool true, .complex .f64 0 0, .string ⟨#[]⟩, .bool false] 46)).frozen? ⟨w.heap.size + 1, 7, none⟩ = false := by simp [go_sem]
  have mz : w.heap.size + 1 < ((w.alloc (.cells #[.int .i64 2, .string ⟨#[48]⟩, .int .i64 1, .int .i64 3, .bool false, .complex .f64 0 0, .string ⟨#[120]⟩, .bool true] 46)).alloc (.cells #[.int .i64 2, .string ⟨#[48, 49]⟩, .int .i64 1, .int .i64 2, .bool true, .complex .f64 0 0, .string ⟨#[]⟩, .bool false] 46)).heap.size := by simp <;> omega
  replace k0 := (hb.cell (p := ⟨w.heap.size, 0, none⟩) kz).trans k0
  replace kf0 := (hb.frozen (p := ⟨w.heap.size, 0, none⟩) kz).trans kf0
  replace k1 := (hb.cell (p := ⟨w.heap.size, 1, none⟩) kz).trans k1
  replace kf1 := (hb.frozen (p := ⟨w.heap.size, 1, none⟩) kz).trans kf1
  replace k2 := (hb.cell (p := ⟨w.heap.size, 2, none⟩) kz).trans k2
  replace kf2 := (hb.frozen (p := ⟨w.heap.size, 2, none⟩) kz).trans kf2
  replace k3 := (hb.cell (p := ⟨w.heap.size, 3, none⟩) kz).trans k3
  replace kf3 := (hb.frozen (p := ⟨w.heap.size, 3, none⟩) kz).trans kf3
  replace k4 := (hb.cell (p := ⟨w.heap.size, 4, none⟩) kz).trans k4
  replace kf4 := (hb.frozen (p := ⟨w.heap.size, 4, none⟩) kz).trans kf4
  replace k5 := (hb.cell (p := ⟨w.heap.size, 5, none⟩) kz).trans k5
  replace kf5 := (hb.frozen (p := ⟨w.heap.size, 5, none⟩) kz).trans kf5
  replace k6 := (hb.cell (p := ⟨w.heap.size, 6, none⟩) kz).trans k6
  replace kf6 := (hb.frozen (p := ⟨w.heap.size, 6, none⟩) kz).trans kf6
  replace k7 := (hb.cell (p := ⟨w.heap.size, 7, none⟩) kz).trans k7
  replace kf7 := (hb.frozen (p := ⟨w.heap.size, 7, none⟩) kz).trans kf7
  replace kz := Nat.lt_of_lt_of_le kz hb.size
  replace m0 := (hb.cell (p := ⟨w.heap.size + 1, 0, none⟩) mz).trans m0
  replace mf0 := (hb.frozen (p := ⟨w.heap.size + 1, 0, none⟩) mz).trans mf0
  replace m1 := (hb.cell (p := ⟨w.heap.size + 1, 1, none⟩) mz).trans m1
  replace mf1 := (hb.frozen (p := ⟨w.heap.size + 1, 1, none⟩) mz).trans mf1
  replace m2 := (hb.cell (p := ⟨w.heap.size + 1, 2, none⟩) mz).trans m2
  replace mf2 := (hb.frozen (p := ⟨w.heap.size + 1, 2, none⟩) mz).trans mf2
  replace m3 := (hb.cell (p := ⟨w.heap.size + 1, 3, none⟩) mz).trans m3
  replace mf3 := (hb.frozen (p := ⟨w.heap.size + 1, 3, none⟩) mz).trans mf3
  replace m4 := (hb.cell (p := ⟨w.heap.size + 1, 4, none⟩) mz).trans m4
  replace mf4 := (hb.frozen (p := ⟨w.heap.size + 1, 4, none⟩) mz).trans mf4
  replace m5 := (hb.cell (p := ⟨w.heap.size + 1, 5, none⟩) mz).trans m5
  replace mf5 := (hb.frozen (p := ⟨w.heap.size + 1, 5, none⟩) mz).trans mf5
  replace m6 := (hb.cell (p := ⟨w.heap.size + 1, 6, none⟩) mz).trans m6
  replace mf6 := (hb.frozen (p := ⟨w.heap.size + 1, 6, none⟩) mz).trans mf6
  replace m7 := (hb.cell (p := ⟨w.heap.size + 1, 7, none⟩) mz).trans m7
  replace mf7 := (hb.frozen (p := ⟨w.heap.size + 1, 7, none⟩) mz).trans mf7
  replace mz := Nat.lt_of_lt_of_le mz hb.size
  have HB : Hid (Below w.heap.size w w1) := (((Below.refl _ _).alloc (Nat.le_refl _) _).alloc (by simp) _).trans (hb.mono (by simp; omega))
  have HO := Lib.hid ho
  clear ho hb
  go_wp2_with fail
  refine (told_put2 _ HO.out).mono ?_
  rintro e w2 ⟨A2, c2, rfl, ho, hb⟩
  replace k0 := (hb.cell (p := ⟨w.heap.size, 0, none⟩) kz).trans k0
  replace kf0 := (hb.frozen (p := ⟨w.heap.size, 0, none⟩) kz).trans kf0
  replace k1 := (hb.cell (p := ⟨w.heap.size, 1, none⟩) kz).trans k1
  replace kf1 := (hb.frozen (p := ⟨w.heap.size, 1, none⟩) kz).trans kf1
  replace k2 := (hb.cell (p := ⟨w.heap.size, 2, none⟩) kz).trans k2
  replace kf2 := (hb.frozen (p := ⟨w.heap.size, 2, none⟩) kz).trans kf2
  replace k3 := (hb.cell (p := ⟨w.heap.size, 3, none⟩) kz).trans k3
  replace kf3 := (hb.frozen (p := ⟨w.heap.size, 3, none⟩) kz).trans kf3
  replace k4 := (hb.cell (p := ⟨w.heap.size, 4, none⟩) kz).trans k4
  replace kf4 := (hb.frozen (p := ⟨w.heap.size, 4, none⟩) kz).trans kf4
  replace k5 := (hb.cell (p := ⟨w.heap.size, 5, none⟩) kz).trans k5
  replace kf5 := (hb.frozen (p := ⟨w.heap.size, 5, none⟩) kz).trans kf5
  replace k6 := (hb.cell (p := ⟨w.heap.size, 6, none⟩) kz).trans k6
  replace kf6 := (hb.frozen (p := ⟨w.heap.size, 6, none⟩) kz).trans kf6
  replace k7 := (hb.cell (p := ⟨w.heap.size, 7, none⟩) kz).trans k7
  replace kf7 := (hb.frozen (p := ⟨w.heap.size, 7, none⟩) kz).trans kf7
  replace kz := Nat.lt_of_lt_of_le kz hb.size
  clear m0 mf0 m1 mf1 m2 mf2 m3 mf3 m4 mf4 m5 mf5 m6 mf6 m7 mf7 mz
  replace HB := Lib.hid (HB.out.trans (hb.mono HB.out.size))
  replace HO := Lib.hid ho
  clear ho hb
  go_wp2_with fail
  refine (told_get _ HO.out).mono ?_
  rintro e w3 ⟨rfl, hb⟩
  replace k0 := (hb.cell (p := ⟨w.heap.size, 0, none⟩) kz).trans k0
  replace kf0 := (hb.frozen (p := ⟨w.heap.size, 0, none⟩) kz).trans kf0
  replace k1 := (hb.cell (p := ⟨w.heap.size, 1, none⟩) kz).trans k1
  replace kf1 := (hb.frozen (p := ⟨w.heap.size, 1, none⟩) kz).trans kf1
  replace k2 := (hb.cell (p := ⟨w.heap.size, 2, none⟩) kz).trans k2
  replace kf2 := (hb.frozen (p := ⟨w.heap.size, 2, none⟩) kz).trans kf2
  replace k3 := (hb.cell (p := ⟨w.heap.size, 3, none⟩) kz).trans k3
  replace kf3 := (hb.frozen (p := ⟨w.heap.size, 3, none⟩) kz).trans kf3
  replace k4 := (hb.cell (p := ⟨w.heap.size, 4, none⟩) kz).trans k4
  replace kf4 := (hb.frozen (p := ⟨w.heap.size, 4, none⟩) kz).trans kf4
  replace k5 := (hb.cell (p := ⟨w.heap.size, 5, none⟩) kz).trans k5
  replace kf5 := (hb.frozen (p := ⟨w.heap.size, 5, none⟩) kz).trans kf5
  replace k6 := (hb.cell (p := ⟨w.heap.size, 6, none⟩) kz).trans k6
  replace kf6 := (hb.frozen (p := ⟨w.heap.size, 6, none⟩) kz).trans kf6
  replace k7 := (hb.cell (p := ⟨w.heap.size, 7, none⟩) kz).trans k7
  replace kf7 := (hb.frozen (p := ⟨w.heap.size, 7, none⟩) kz).trans kf7
  replace kz := Nat.lt_of_lt_of_le kz hb.size
  replace HB := Lib.hid (HB.out.trans (hb.mono HB.out.size))
  replace HO := Lib.hid (rown_below HO.out hb)
  clear hb
  go_upto_region 6 with fail
  replace k0 : (w3.alloc (.cells #[.int .i64 2, .string ⟨#[48]⟩, .int .i64 1, .int .i64 3, .bool false, .complex .f64 0 0, .string ⟨#[120]⟩, .bool true] 46)).cell? ⟨w.heap.size, 0, none⟩ = some (.int .i64 2) := by simp [go_sem, k0, kz]
  replace kf0 : (w3.alloc (.cells #[.int .i64 2, .string ⟨#[48]⟩, .int .i64 1, .int .i64 3, .bool false, .complex .f64 0 0, .string ⟨#[120]⟩, .bool true] 46)).frozen? ⟨w.heap.size, 0, none⟩ = false := by simp [go_sem, kf0, kz]
  replace k1 : (w3.alloc (.cells #[.int .i64 2, .string ⟨#[48]⟩, .int .i64 1, .int .i64 3, .bool false, .complex .f64 0 0, .string ⟨#[120]⟩, .bool true] 46)).cell? ⟨w.heap.size, 1, none⟩ = some (.string ⟨#[48]⟩) := by simp [go_sem, k1, kz]
  replace kf1 : (w3.alloc (.cells #[.int .i64 2, .string ⟨#[48]⟩, .int .i64 1, .int .i64 3, .bool false, .complex .f64 0 0, .string ⟨#[120]⟩, .bool true] 46)).frozen? ⟨w.heap.size, 1, none⟩ = false := by simp [go_sem, kf1, kz]
  replace k2 : (w3.alloc (.cells #[.int .i64 2, .string ⟨#[48]⟩, .int .i64 1, .int .i64 3, .bool false, .complex .f64 0 0, .string ⟨#[120]⟩, .bool true] 46)).cell? ⟨w.heap.size, 2, none⟩ = some (.int .i64 1) := by simp [go_sem, k2, kz]
  replace kf2 : (w3.alloc (.cells #[.int .i64 2, .string ⟨#[48]⟩, .int .i64 1, .int .i64 3, .bool false, .complex .f64 0 0, .string ⟨#[120]⟩, .bool true] 46)).frozen? ⟨w.heap.size, 2, none⟩ = false := by simp [go_sem, kf2, kz]
  replace k3 : (w3.alloc (.cells #[.int .i64 2, .string ⟨#[48]⟩, .int .i64 1, .int .i64 3, .bool false, .complex .f64 0 0, .string ⟨#[120]⟩, .bool true] 46)).cell? ⟨w.heap.size, 3, none⟩ = some (.int .i64 3) := by simp [go_sem, k3, kz]
  replace kf3 : (w3.alloc (.cells #[.int .i64 2, .string ⟨#[48]⟩, .int .i64 1, .int .i64 3, .bool false, .complex .f64 0 0, .string ⟨#[120]⟩, .bool true] 46)).frozen? ⟨w.heap.size, 3, none⟩ = false := by simp [go_sem, kf3, kz]
  replace k4 : (w3.alloc (.cells #[.int .i64 2, .string ⟨#[48]⟩, .int .i64 1, .int .i64 3, .bool false, .complex .f64 0 0, .string ⟨#[120]⟩, .bool true] 46)).cell? ⟨w.heap.size, 4, none⟩ = some (.bool false) := by simp [go_sem, k4, kz]
  replace kf4 : (w3.alloc (.cells #[.int .i64 2, .string ⟨#[48]⟩, .int .i64 1, .int .i64 3, .bool false, .complex .f64 0 0, .string ⟨#[120]⟩, .bool true] 46)).frozen? ⟨w.heap.size, 4, none⟩ = false := by simp [go_sem, kf4, kz]
  replace k5 : (w3.alloc (.cells #[.int .i64 2, .string ⟨#[48]⟩, .int .i64 1, .int .i64 3, .bool false, .complex .f64 0 0, .string ⟨#[120]⟩, .bool true] 46)).cell? ⟨w.heap.size, 5, none⟩ = some (.complex .f64 0 0) := by simp [go_sem, k5, kz]
  replace kf5 : (w3.alloc (.cells #[.int .i64 2, .string ⟨#[48]⟩, .int .i64 1, .int .i64 3, .bool false, .complex .f64 0 0, .string ⟨#[120]⟩, .bool true] 46)).frozen? ⟨w.heap.size, 5, none⟩ = false := by simp [go_sem, kf5, kz]
  replace k6 : (w3.alloc (.cells #[.int .i64 2, .string ⟨#[48]⟩, .int .i64 1, .int .i64 3, .bool false, .complex .f64 0 0, .string ⟨#[120]⟩, .bool true] 46)).cell? ⟨w.heap.size, 6, none⟩ = some (.string ⟨#[120]⟩) := by simp [go_sem, k6, kz]
  replace kf6 : (w3.alloc (.cells #[.int .i64 2, .string ⟨#[48]⟩, .int .i64 1, .int .i64 3, .bool false, .complex .f64 0 0, .string ⟨#[120]⟩, .bool true] 46)).frozen? ⟨w.heap.size, 6, none⟩ = false := by simp [go_sem, kf6, kz]
  replace k7 : (w3.alloc (.cells #[.int .i64 2, .string ⟨#[48]⟩, .int .i64 1, .int .i64 3, .bool false, .complex .f64 0 0, .string ⟨#[120]⟩, .bool true] 46)).cell? ⟨w.heap.size, 7, none⟩ = some (.bool true) := by simp [go_sem, k7, kz]
  replace kf7 : (w3.alloc (.cells #[.int .i64 2, .string ⟨#[48]⟩, .int .i64 1, .int .i64 3, .bool false, .complex .f64 0 0, .string ⟨#[120]⟩, .bool true] 46)).frozen? ⟨w.heap.size, 7, none⟩ = false := by simp [go_sem, kf7, kz]
  replace kz : w.heap.size < (w3.alloc (.cells #[.int .i64 2, .string ⟨#[48]⟩, .int .i64 1, .int .i64 3, .bool false, .complex .f64 0 0, .string ⟨#[120]⟩, .bool true] 46)).heap.size := by simp <;> omega
  have x0 : (w3.alloc (.cells #[.int .i64 2, .string ⟨#[48]⟩, .int .i64 1, .int .i64 3, .bool false, .complex .f64 0 0, .string ⟨#[120]⟩, .bool true] 46)).cell? ⟨w3.heap.size, 0, none⟩ = some (.int .i64 2) := by simp [go_sem]
  have xf0 : (w3.alloc (.cells #[.int .i64 2, .string ⟨#[48]⟩, .int .i64 1, .int .i64 3, .bool false, .complex .f64 0 0, .string ⟨#[120]⟩, .bool true] 46)).frozen? ⟨w3.heap.size, 0, none⟩ = false := by simp [go_sem]
  have x1 : (w3.alloc (.cells #[.int .i64 2, .string ⟨#[48]⟩, .int .i64 1, .int .i64 3, .bool false, .complex .f64 0 0, .string ⟨#[120]⟩, .bool true] 46)).cell? ⟨w3.heap.size, 1, none⟩ = some (.string ⟨#[48]⟩) := by simp [go_sem]
  have xf1 : (w3.alloc (.cells #[.int .i64 2, .string ⟨#[48]⟩, .int .i64 1, .int .i64 3, .bool false, .complex .f64 0 0, .string ⟨#[120]⟩, .bool true] 46)).frozen? ⟨w3.heap.size, 1, none⟩ = false := by simp [go_sem]
  have x2 : (w3.alloc (.cells #[.int .i64 2, .string ⟨#[48]⟩, .int .i64 1, .int .i64 3, .bool false, .complex .f64 0 0, .string ⟨#[120]⟩, .bool true] 46)).cell? ⟨w3.heap.size, 2, none⟩ = some (.int .i64 1) := by simp [go_sem]
  have xf2 : (w3.alloc (.cells #[.int .i64 2, .string ⟨#[48]⟩, .int .i64 1, .int .i64 3, .bool false, .complex .f64 0 0, .string ⟨#[120]⟩, .bool true] 46)).frozen? ⟨w3.heap.size, 2, none⟩ = false := by simp [go_sem]
  have x3 : (w3.alloc (.cells #[.int .i64 2, .string ⟨#[48]⟩, .int .i64 1, .int .i64 3, .bool false, .complex .f64 0 0, .string ⟨#[120]⟩, .bool true] 46)).cell? ⟨w3.heap.size, 3, none⟩ = some (.int .i64 3) := by simp [go_sem]
  have xf3 : (w3.alloc (.cells #[.int .i64 2, .string ⟨#[48]⟩, .int .i64 1, .int .i64 3, .bool false, .complex .f64 0 0, .string ⟨#[120]⟩, .bool true] 46)).frozen? ⟨w3.heap.size, 3, none⟩ = false := by simp [go_sem]
  have x4 : (w3.alloc (.cells #[.int .i64 2, .string ⟨#[48]⟩, .int .i64 1, .int .i64 3, .bool false, .complex .f64 0 0, .string ⟨#[120]⟩, .bool true] 46)).cell? ⟨w3.heap.size, 4, none⟩ = some (.bool false) := by simp [go_sem]
  have xf4 : (w3.alloc (.cells #[.int .i64 2, .string ⟨#[48]⟩, .int .i64 1, .int .i64 3, .bool false, .complex .f64 0 0, .string ⟨#[120]⟩, .bool true] 46)).frozen? ⟨w3.heap.size, 4, none⟩ = false := by simp [go_sem]
  have x5 : (w3.alloc (.cells #[.int .i64 2, .string ⟨#[48]⟩, .int .i64 1, .int .i64 3, .bool false, .complex .f64 0 0, .string ⟨#[120]⟩, .bool true] 46)).cell? ⟨w3.heap.size, 5, none⟩ = some (.complex .f64 0 0) := by simp [go_sem]
  have xf5 : (w3.alloc (.cells #[.int .i64 2, .string ⟨#[48]⟩, .int .i64 1, .int .i64 3, .bool false, .complex .f64 0 0, .string ⟨#[120]⟩, .bool true] 46)).frozen? ⟨w3.heap.size, 5, none⟩ = false := by simp [go_sem]
  have x6 : (w3.alloc (.cells #[.int .i64 2, .string ⟨#[48]⟩, .int .i64 1, .int .i64 3, .bool false, .complex .f64 0 0, .string ⟨#[120]⟩, .bool true] 46)).cell? ⟨w3.heap.size, 6, none⟩ = some (.string ⟨#[120]⟩) := by simp [go_sem]
  have xf6 : (w3.alloc (.cells #[.int .i64 2, .string ⟨#[48]⟩, .int .i64 1, .int .i64 3, .bool false, .complex .f64 0 0, .string ⟨#[120]⟩, .bool true] 46)).frozen? ⟨w3.heap.size, 6, none⟩ = false := by simp [go_sem]
  have x7 : (w3.alloc (.cells #[.int .i64 2, .string ⟨#[48]⟩, .int .i64 1, .int .i64 3, .bool false, .complex .f64 0 0, .string ⟨#[120]⟩, .bool true] 46)).cell? ⟨w3.heap.size, 7, none⟩ = some (.bool true) := by simp [go_sem]
  have xf7 : (w3.alloc (.cells #[.int .i64 2, .string ⟨#[48]⟩, .int .i64 1, .int .i64 3, .bool false, .complex .f64 0 0, .string ⟨#[120]⟩, .bool true] 46)).frozen? ⟨w3.heap.size, 7, none⟩ = false := by simp [go_sem]
  have xz : w3.heap.size < (w3.alloc (.cells #[.int .i64 2, .string ⟨#[48]⟩, .int .i64 1, .int .i64 3, .bool false, .complex .f64 0 0, .string ⟨#[120]⟩, .bool true] 46)).heap.size := by simp <;> omega
  have hb : Below w3.heap.size w3 (w3.alloc (.cells #[.int .i64 2, .string ⟨#[48]⟩, .int .i64 1, .int .i64 3, .bool false, .complex .f64 0 0, .string ⟨#[120]⟩, .bool true] 46)) := (Below.refl _ _).alloc (Nat.le_refl _) _
  replace HB := Lib.hid (HB.out.trans (hb.mono HB.out.size))
  replace HO := Lib.hid (rown_below HO.out hb)
  clear hb
  generalize (w3.alloc (.cells #[.int .i64 2, .string ⟨#[48]⟩, .int .i64 1, .int .i64 3, .bool false, .complex .f64 0 0, .string ⟨#[120]⟩, .bool true] 46)) = W3 at *
  generalize w3.heap.size = X at *
  go_wp2_with fail
  refine (told_drop _ HO.out).mono ?_
  rintro e w4 ⟨⟨A4, c4, rfl⟩, hb⟩
  replace HB := Lib.hid (HB.out.trans (hb.mono HB.out.size))
  replace HO := Lib.hid (rown_below HO.out hb)
  clear hb
  go_wp2_with fail
  refine (told_right _ HO.out).mono ?_
  rintro e w5 ⟨rfl, hb⟩
  replace HB := Lib.hid (HB.out.trans (hb.mono HB.out.size))
  clear hb
  go_wp2
  go_ret
  exact ⟨rfl, HB.out⟩
end Go.Proofs.Ytpaiigminmakgaa

/- The reference's Get and Drop of a Store. -/
namespace Go.Proofs.Ytpaiigminmakgaa
open Go.RowKit

def GetR (o : Option Itm) : Value := .tuple #[refV (o.getD zeroIt), .bool o.isSome]
theorem getR_none : GetR none = .tuple #[.agg #[.int .i64 0, .string ⟨#[]⟩, .int .i64 0, .int .i64 0, .bool false, .int .i64 0, .int .i64 0, .string ⟨#[]⟩, .bool false], .bool false] := rfl
theorem getF_step {zs : List Itm} {k : Int} {j : Nat} {z : Itm} (h : zs[j]? = some z) (hk : z.key ≠ k) : getF (zs.drop j) k = getF (zs.drop (j + 1)) k := by
  obtain ⟨hj, rfl⟩ := List.getElem?_eq_some_iff.mp h
  unfold getF
  rw [List.drop_eq_getElem_cons hj, List.find?_cons_of_neg (by simpa using hk)]
theorem getF_hit {zs : List Itm} {k : Int} {j : Nat} {z : Itm} (h : zs[j]? = some z) (hk : z.key = k) : getF (zs.drop j) k = some z := by
  obtain ⟨hj, rfl⟩ := List.getElem?_eq_some_iff.mp h
  unfold getF
  rw [List.drop_eq_getElem_cons hj, List.find?_cons_of_pos (by simpa using hk)]
set_option maxRecDepth 100000 in
set_option maxHeartbeats 2000000 in
theorem rget_any (A : Option Addr) (n c : Nat) (zs : List Itm) (k : Int) (B : Nat) (w : World) (hB : B ≤ w.heap.size) (hz : RowAt cellsI 9 w B A n zs) (hn : n ≤ 1099511627776) :
    Calls Try.prog 20 #[.slice A n c, .int .i64 k] w fun e w' => e = .returned (GetR (getF zs k)) ∧ Below w.heap.size w w' := by
  have HZ := Lib.hid hz
  have HL := Lib.hid hz.1
  clear hz
  generalize hG : GetR (getF zs k) = G
  have HG : Hid (GetR (getF (zs.drop 0) k) = G) := hG
  clear hG
  go_enter Try.func20, Try.ntmps20
  go_wp2
  have z0 : (w.alloc (.cells #[.int .i64 0, .string ⟨#[]⟩, .int .i64 0, .int .i64 0, .bool false, .int .i64 0, .int .i64 0, .string ⟨#[]⟩, .bool false] 28)).cell? ⟨w.heap.size, 0, none⟩ = some (.int .i64 0) := by simp [go_sem]
  have zf0 : (w.alloc (.cells #[.int .i64 0, .string ⟨#[]⟩, .int .i64 0, .int .i64 0, .bool false, .int .i64 0, .int .i64 0, .string ⟨#[]⟩, .bool false] 28)).frozen? ⟨w.heap.size, 0, none⟩ = false := by simp [go_sem]
  have z1 : (w.alloc (.cells #[.int .i64 0, .string ⟨#[]⟩, .int .i64 0, .int .i64 0, .bool false, .int .i64 0, .int .i64 0, .string ⟨#[]⟩, .bool false] 28)).cell? ⟨w.heap.size, 1, none⟩ = some (.string ⟨#[]⟩) := by simp [go_sem]
  have zf1 : (w.alloc (.cells #[.int .i64 0, .string ⟨#[]⟩, .int .i64 0, .int .i64 0, .bool false, .int .i64 0, .int .i64 0, .string ⟨#[]⟩, .bool false] 28)).frozen? ⟨w.heap.size, 1, none⟩ = false := by simp [go_sem]
  have z2 : (w.alloc (.cells #[.int .i64 0, .string ⟨#[]⟩, .int .i64 0, .int .i64 0, .bool false, .int .i64 0, .int .i64 0, .string ⟨#[]⟩, .bool false] 28)).cell? ⟨w.heap.size, 2, none⟩ = some (.int .i64 0) := by simp [go_sem]
  have zf2 : (w.alloc (.cells #[.int .i64 0, .string ⟨#[]⟩, .int .i64 0, .int .i64 0, .bool false, .int .i64 0, .int .i64 0, .string ⟨#[]⟩, .bool false] 28)).frozen? ⟨w.heap.size, 2, none⟩ = false := by simp [go_sem]
  have z3 : (w.alloc (.cells #[.int .i64 0, .string ⟨#[]⟩, .int .i64 0, .int .i64 0, .bool false, .int .i64 0, .int .i64 0, .string ⟨#[]⟩, .bool false] 28)).cell? ⟨w.heap.size, 3, none⟩ = some (.int .i64 0) := by simp [go_sem]
  have zf3 : (w.alloc (.cells #[.int .i64 0, .string ⟨#[]⟩, .int .i64 0, .int .i64 0, .bool false, .int .i64 0, .int .i64 0, .string ⟨#[]⟩, .bool false] 28)).frozen? ⟨w.heap.size, 3, none⟩ = false := by simp [go_sem]
  have z4 : (w.alloc (.cells #[.int .i64 0, .string ⟨#[]⟩, .int .i64 0, .int .i64 0, .bool false, .int .i64 0, .int .i64 0, .string ⟨#[]⟩, .bool false] 28)).cell? ⟨w.heap.size, 4, none⟩ = some (.bool false) := by simp [go_sem]
  have zf4 : (w.alloc (.cells #[.int .i64 0, .string ⟨#[]⟩, .int .i64 0, .int .i64 0, .bool false, .int .i64 0, .int .i64 0, .string ⟨#[]⟩, .bool false] 28)).frozen? ⟨w.heap.size, 4, none⟩ = false := by simp [go_sem]
  have z5 : (w.alloc (.cells #[.int .i64 0, .string ⟨#[]⟩, .int .i64 0, .int .i64 0, .bool false, .int .i64 0, .int .i64 0, .string ⟨#[]⟩, .bool false] 28)).cell? ⟨w.heap.size, 5, none⟩ = some (.int .i64 0) := by simp [go_sem]
  have zf5 : (w.alloc (.cells #[.int .i64 0, .string ⟨#[]⟩, .int .i64 0, .int .i64 0, .bool false, .int .i64 0, .int .i64 0, .string ⟨#[]⟩, .bool false] 28)).frozen? ⟨w.heap.size, 5, none⟩ = false := by simp [go_sem]
  have z6 : (w.alloc (.cells #[.int .i64 0, .string ⟨#[]⟩, .int .i64 0, .int .i64 0, .bool false, .int .i64 0, .int .i64 0, .string ⟨#[]⟩, .bool false] 28)).cell? ⟨w.heap.size, 6, none⟩ = some (.int .i64 0) := by simp [go_sem]
  have zf6 : (w.alloc (.cells #[.int .i64 0, .string ⟨#[]⟩, .int .i64 0, .int .i64 0, .bool false, .int .i64 0, .int .i64 0, .string ⟨#[]⟩, .bool false] 28)).frozen? ⟨w.heap.size, 6, none⟩ = false := by simp [go_sem]
  have z7 : (w.alloc (.cells #[.int .i64 0, .string ⟨#[]⟩, .int .i64 0, .int .i64 0, .bool false, .int .i64 0, .int .i64 0, .string ⟨#[]⟩, .bool false] 28)).cell? ⟨w.heap.size, 7, none⟩ = some (.string ⟨#[]⟩) := by simp [go_sem]
  have zf7 : (w.alloc (.cells #[.int .i64 0, .string ⟨#[]⟩, .int .i64 0, .int .i64 0, .bool false, .int .i64 0, .int .i64 0, .string ⟨#[]⟩, .bool false] 28)).frozen? ⟨w.heap.size, 7, none⟩ = false := by simp [go_sem]
  have z8 : (w.alloc (.cells #[.int .i64 0, .string ⟨#[]⟩, .int .i64 0, .int .i64 0, .bool false, .int .i64 0, .int .i64 0, .string ⟨#[]⟩, .bool false] 28)).cell? ⟨w.heap.size, 8, none⟩ = some (.bool false) := by simp [go_sem]
  have zf8 : (w.alloc (.cells #[.int .i64 0, .string ⟨#[]⟩, .int .i64 0, .int .i64 0, .bool false, .int .i64 0, .int .i64 0, .string ⟨#[]⟩, .bool false] 28)).frozen? ⟨w.heap.size, 8, none⟩ = false := by simp [go_sem]
  have zz : w.heap.size < (w.alloc (.cells #[.int .i64 0, .string ⟨#[]⟩, .int .i64 0, .int .i64 0, .bool false, .int .i64 0, .int .i64 0, .string ⟨#[]⟩, .bool false] 28)).heap.size := by simp <;> omega
  have HB : Hid (Below w.heap.size w (w.alloc (.cells #[.int .i64 0, .string ⟨#[]⟩, .int .i64 0, .int .i64 0, .bool false, .int .i64 0, .int .i64 0, .string ⟨#[]⟩, .bool false] 28))) := (Below.refl _ _).alloc (Nat.le_refl _) _
  generalize (w.alloc (.cells #[.int .i64 0, .string ⟨#[]⟩, .int .i64 0, .int .i64 0, .bool false, .int .i64 0, .int .i64 0, .string ⟨#[]⟩, .bool false] 28)) = W at *
  go_loop [6] (fun i => ∃ j : Nat, j ≤ n ∧ i = .int .i64 j ∧ Hid (GetR (getF (zs.drop j) k) = G)) (fun i => n - (intOf i).toNat)
  case atStart => exact ⟨0, by omega, rfl, HG⟩
  case round =>
    clear HG
    obtain ⟨j, hj, rfl, HG⟩ := hrel
    by_cases hlt : j < n
    · obtain ⟨blk, off, rfl, hbB, x0, hxj, hcell⟩ := HZ.out.get hlt
      obtain ⟨e0, e1, e2, e3, e4, e5, e6, e7, e8⟩ := cellsI_at hcell
      replace e0 := ((HB.out.mono hB).cell (p := ⟨blk, off + j * 9, none⟩) hbB).trans e0
      replace e1 := ((HB.out.mono hB).cell (p := ⟨blk, off + j * 9 + 1, none⟩) hbB).trans e1
      replace e2 := ((HB.out.mono hB).cell (p := ⟨blk, off + j * 9 + 2, none⟩) hbB).trans e2
      replace e3 := ((HB.out.mono hB).cell (p := ⟨blk, off + j * 9 + 3, none⟩) hbB).trans e3
      replace e4 := ((HB.out.mono hB).cell (p := ⟨blk, off + j * 9 + 4, none⟩) hbB).trans e4
      replace e5 := ((HB.out.mono hB).cell (p := ⟨blk, off + j * 9 + 5, none⟩) hbB).trans e5
      replace e6 := ((HB.out.mono hB).cell (p := ⟨blk, off + j * 9 + 6, none⟩) hbB).trans e6
      replace e7 := ((HB.out.mono hB).cell (p := ⟨blk, off + j * 9 + 7, none⟩) hbB).trans e7
      replace e8 := ((HB.out.mono hB).cell (p := ⟨blk, off + j * 9 + 8, none⟩) hbB).trans e8
      have hi1 : (j : Int) < n := by omega
      by_cases hk : x0.key = k
      · have HE := Lib.hid (getF_hit hxj hk)
        have HG2 : Hid (GetR (some x0) = G) := by show _ = _; rw [← HE.out]; exact HG.out
        have HG3 := Lib.hid (show GetR (some x0) = .tuple #[refV x0, .bool true] from rfl)
        rw [HG2.out] at HG3
        unfold refV at HG3
        clear hcell hxj HE HG2 HG
        obtain ⟨key, ⟨d, a, s⟩, dead, x, y, text, held⟩ := x0
        simp only at e0 e1 e2 e3 e4 e5 e6 e7 e8 HG3 hk
        have hk' : (key == k) = true := by simpa using hk
        clear hk
        go_wp2
        refine bodyPost_ret (v := .tuple #[.agg #[.int .i64 key, .string d, .int .i64 a, .int .i64 s, .bool dead, .int .i64 x, .int .i64 y, .string text, .bool held], .bool true]) ?_ rfl ?_
        · simp [results, Try.results20, go_sem, z0, z1, z2, z3, z4, z5, z6, z7, z8]
        · exact ⟨by rw [HG3.out], by repeat (first | with_reducible exact HB.out | with_reducible refine Below.setCell ?_ (by simp) _)⟩
      · have HN : Hid (GetR (getF (zs.drop (j + 1)) k) = G) := by show _ = _; rw [← getF_step hxj hk]; exact HG.out
        clear hcell hxj HG
        obtain ⟨key, ⟨d, a, s⟩, dead, x, y, text, held⟩ := x0
        simp only at e0 hk
        have hk' : (key == k) = false := by simpa using hk
        clear hk e1 e2 e3 e4 e5 e6 e7 e8
        go_wp2
        go_round
        case rel => exact ⟨j + 1, by omega, by go_num, HN⟩
        case measure => simp [intOf]; omega
    · have HG2 : Hid (GetR none = G) := by show _ = _; rw [← HG.out, List.drop_of_length_le (by rw [HL.out]; omega)]; rfl
      clear HG
      go_wp2
      refine bodyPost_ret (v := .tuple #[.agg #[.int .i64 0, .string ⟨#[]⟩, .int .i64 0, .int .i64 0, .bool false, .int .i64 0, .int .i64 0, .string ⟨#[]⟩, .bool false], .bool false]) ?_ rfl ?_
      · simp [results, Try.results20, go_sem, z0, z1, z2, z3, z4, z5, z6, z7, z8]
      · exact ⟨by rw [← HG2.out, getR_none], by repeat (first | with_reducible exact HB.out | with_reducible refine Below.setCell ?_ (by simp) _)⟩
/-- Without a key's, as the reference has it. -/
def rdropF (zs : List Itm) (k : Int) : List Itm := zs.filter fun z => z.key != k
theorem rdrop_keep {zs : List Itm} {k : Int} {j : Nat} {z : Itm} (h : zs[j]? = some z) (hk : z.key ≠ k) : rdropF (zs.take (j + 1)) k = rdropF (zs.take j) k ++ [z] := by
  unfold rdropF
  rw [snoc_of h, List.filter_append]
  simp [hk]
theorem rdrop_skip {zs : List Itm} {k : Int} {j : Nat} {z : Itm} (h : zs[j]? = some z) (hk : z.key = k) : rdropF (zs.take (j + 1)) k = rdropF (zs.take j) k := by
  unfold rdropF
  rw [snoc_of h, List.filter_append]
  simp [hk]
theorem rdrop_len (zs : List Itm) (k : Int) : (rdropF zs k).length ≤ zs.length := List.length_filter_le _ _
set_option maxRecDepth 100000 in
set_option maxHeartbeats 4000000 in
theorem rdrop_any (A : Option Addr) (n c : Nat) (zs : List Itm) (k : Int) (B : Nat) (w : World) (hB : B ≤ w.heap.size) (hz : RowAt cellsI 9 w B A n zs) (hn : n ≤ 1073741824) :
    Calls Try.prog 24 #[.slice A n c, .int .i64 k] w (OwnRow cellsI 9 28 (rdropF zs k) w) := by
  have HZ := Lib.hid hz
  have HL := Lib.hid hz.1
  clear hz
  go_enter Try.func24, Try.ntmps24
  go_wp2
  go_loopw [5, 6] (fun v i wr => ∃ (j : Nat) (Av : Option Addr) (cv : Nat) (ys : List Itm), j ≤ n ∧ i = .int .i64 j ∧ v = .slice Av ys.length cv ∧ ys.length ≤ j ∧ Hid (ys = rdropF (zs.take j) k) ∧ Hid (wr.ownsRow w.heap.size 28 9 (.slice Av ys.length cv) ys.length (rowCells cellsI ys)) ∧ Hid (Below w.heap.size w wr)) (fun _ i _ => n - (intOf i).toNat)
  case atStart => exact ⟨0, none, 0, [], by omega, rfl, rfl, by simp, by simp [rdropF, Hid], rown_nil _ _, Below.refl _ _⟩
  case round =>
    obtain ⟨j, Av, cv, ys, hj, rfl, rfl, hyl, HY, HO, HB⟩ := hrel
    by_cases hlt : j < n
    · obtain ⟨blk, off, rfl, hbB, x0, hxj, hcell⟩ := HZ.out.get hlt
      obtain ⟨e0, e1, e2, e3, e4, e5, e6, e7, e8⟩ := cellsI_at hcell
      replace e0 := ((HB.out.mono hB).cell (p := ⟨blk, off + j * 9, none⟩) hbB).trans e0
      replace e1 := ((HB.out.mono hB).cell (p := ⟨blk, off + j * 9 + 1, none⟩) hbB).trans e1
      replace e2 := ((HB.out.mono hB).cell (p := ⟨blk, off + j * 9 + 2, none⟩) hbB).trans e2
      replace e3 := ((HB.out.mono hB).cell (p := ⟨blk, off + j * 9 + 3, none⟩) hbB).trans e3
      replace e4 := ((HB.out.mono hB).cell (p := ⟨blk, off + j * 9 + 4, none⟩) hbB).trans e4
      replace e5 := ((HB.out.mono hB).cell (p := ⟨blk, off + j * 9 + 5, none⟩) hbB).trans e5
      replace e6 := ((HB.out.mono hB).cell (p := ⟨blk, off + j * 9 + 6, none⟩) hbB).trans e6
      replace e7 := ((HB.out.mono hB).cell (p := ⟨blk, off + j * 9 + 7, none⟩) hbB).trans e7
      replace e8 := ((HB.out.mono hB).cell (p := ⟨blk, off + j * 9 + 8, none⟩) hbB).trans e8
      have hi1 : (j : Int) < n := by omega
      by_cases hk : x0.key = k
      · have HN : Hid (ys = rdropF (zs.take (j + 1)) k) := by show _ = _; rw [rdrop_skip hxj hk]; exact HY.out
        clear hcell hxj HY e1 e2 e3 e4 e5 e6 e7 e8
        generalize x0.key = key at *
        have hk' : (key != k) = false := by simpa using hk
        clear hk
        go_wp2
        go_roundw
        case rel => exact ⟨j + 1, Av, cv, ys, by omega, by go_num, rfl, by omega, HN, HO, HB⟩
        case measure => simp [intOf]; omega
      · have HN : Hid (ys ++ [x0] = rdropF (zs.take (j + 1)) k) := by show _ = _; rw [rdrop_keep hxj hk, ← HY.out]
        have hsz := HB.out.size
        clear hcell hxj HY
        obtain ⟨key, ⟨d, a, s⟩, dead, x, y, text, held⟩ := x0
        have HCF : Hid (cellsI ⟨key, ⟨d, a, s⟩, dead, x, y, text, held⟩ = [.int .i64 key, .string d, .int .i64 a, .int .i64 s, .bool dead, .int .i64 x, .int .i64 y, .string text, .bool held]) := rfl
        simp only at e0 e1 e2 e3 e4 e5 e6 e7 e8 hk
        generalize (⟨key, ⟨d, a, s⟩, dead, x, y, text, held⟩ : Itm) = z0 at HN HCF
        have hk' : (key != k) = true := by simpa using hk
        clear hk
        have HR1 : Hid (RowAt cellsI 9 (wr.alloc (.cells #[.int .i64 key, .string d, .int .i64 a, .int .i64 s, .bool dead, .int .i64 x, .int .i64 y, .string text, .bool held] 28)) (wr.heap.size + 1) (some ⟨wr.heap.size, 0, none⟩) 1 [z0]) := one_row rowI (by rw [HCF.out]; exact heap_alloc_new wr _)
        have HO1 := Lib.hid (HO.out.alloc (.cells #[.int .i64 key, .string d, .int .i64 a, .int .i64 s, .bool dead, .int .i64 x, .int .i64 y, .string text, .bool held] 28))
        go_wp2_with (at_builtin; refine wpList_append_row rowI (B := w.heap.size) (v := .slice Av ys.length cv) (n := ys.length) (zs := ys) (m := 1) (ys := [z0]) rfl _ _ rfl rfl HO1.out rfl HR1.out (by omega) (by simp; omega) ?_; intro A3 c3 w3 hown3 hg3 hat3)
        have HO3 : Hid (w3.ownsRow w.heap.size 28 9 (.slice A3 (ys ++ [z0]).length c3) (ys ++ [z0]).length (rowCells cellsI (ys ++ [z0]))) := by
          show World.ownsRow _ _ _ _ _ _ _
          rw [List.length_append]
          exact hown3
        have HB3 : Hid (Below w.heap.size w w3) := (HB.out.alloc hsz _).grown hg3 (Nat.le_trans hsz (by simp)) (fun g e => (HO.out.lt g e).1)
        clear hown3 hg3 hat3
        go_wp2
        go_roundw
        case rel => exact ⟨j + 1, A3, c3, ys ++ [z0], by omega, by go_num, by simp, by simp; omega, HN, HO3, HB3⟩
        case measure => simp [intOf]; omega
    · obtain rfl : j = n := by omega
      have HE : Hid (ys = rdropF zs k) := by show _ = _; rw [HY.out, List.take_of_length_le (by have := HL.out; omega)]
      go_wp2
      go_ret
      rw [← HE.out]
      exact ⟨Av, cv, rfl, HO.out, HB.out⟩
end Go.Proofs.Ytpaiigminmakgaa

/- Rows of structs of the call's own: a store of one element; append inside a drawn region. -/
namespace Go.Proofs.Ytpaiigminmakgaa
open Go.RowKit

def setsAt : List Value → Nat → List Value → List Value
  | l, _, [] => l
  | l, o, v :: vs => setsAt (l.set o v) (o + 1) vs
def wsets : World → Nat → Nat → List Value → World
  | w, _, _, [] => w
  | w, g, o, v :: vs => wsets (w.setCell ⟨g, o, none⟩ v) g (o + 1) vs
theorem setsAt_length : ∀ (vs l : List Value) (o : Nat), (setsAt l o vs).length = l.length
  | [], _, _ => rfl
  | v :: vs, l, o => by unfold setsAt; rw [setsAt_length vs]; simp
theorem setsAt_get : ∀ (vs l : List Value) (o i : Nat), o + vs.length ≤ l.length → (setsAt l o vs)[i]? = if o ≤ i ∧ i < o + vs.length then vs[i - o]? else l[i]?
  | [], l, o, i, _ => by unfold setsAt; rw [if_neg (by simp)]
  | v :: vs, l, o, i, h => by
    unfold setsAt
    rw [setsAt_get vs (l.set o v) (o + 1) i (by simp at h ⊢; omega)]
    simp only [List.length_cons] at h ⊢
    by_cases h1 : o = i
    · subst h1
      rw [if_neg (by omega), if_pos (by omega)]
      simp [show o < l.length by omega]
    · by_cases h2 : o + 1 ≤ i ∧ i < o + 1 + vs.length
      · rw [if_pos h2, if_pos (by omega), show i - o = (i - (o + 1)) + 1 by omega, List.getElem?_cons_succ]
      · rw [if_neg h2, if_neg (by omega), List.getElem?_set_ne h1]
section
variable {α : Type} {cf : α → List Value} {d by' : Nat} {z : Value} {sl e : TypeId}
theorem rowCells_put (T : RowTy cf d by' z sl e) {zs : List α} {k : Nat} (hk : k < zs.length) (x : α) : setsAt (rowCells cf zs) (k * d) (cf x) = rowCells cf (zs.set k x) := by
  have hl := T.len
  have hkd : k * d + d ≤ zs.length * d := by
    have := Nat.mul_le_mul_right d (Nat.succ_le_of_lt hk)
    rw [Nat.succ_mul] at this
    exact this
  apply List.ext_getElem?
  intro i
  rw [setsAt_get _ _ _ _ (by rw [rowCells_length hl, hl]; exact hkd), hl x]
  by_cases hi : i < zs.length * d
  · have hq : i / d < zs.length := Nat.div_lt_of_lt_mul (by rw [Nat.mul_comm]; exact hi)
    have ei : i = i / d * d + i % d := by have := Nat.div_add_mod i d; rw [Nat.mul_comm] at this; omega
    have hr : i % d < d := Nat.mod_lt _ T.pos
    have r1 : (rowCells cf (zs.set k x))[i]? = (cf ((zs.set k x)[i / d]'(by simpa using hq)))[i % d]? := by
      conv => lhs; rw [ei]
      exact rowCells_get hl (zs.set k x) (i / d) (by simpa using hq) (i % d) hr
    have r2 : (rowCells cf zs)[i]? = (cf zs[i / d])[i % d]? := by
      conv => lhs; rw [ei]
      exact rowCells_get hl zs (i / d) hq (i % d) hr
    rw [r1, List.getElem_set]
    by_cases h1 : k = i / d
    · rw [if_pos h1, if_pos (by subst h1; omega)]
      congr 1
      subst h1
      omega
    · rw [if_neg h1, if_neg ?_, r2]
      intro h2
      apply h1
      have h3 : k ≤ i / d := (Nat.le_div_iff_mul_le T.pos).mpr h2.1
      have h4 : i / d < k + 1 := (Nat.div_lt_iff_lt_mul T.pos).mpr (by rw [Nat.add_mul, Nat.one_mul]; exact h2.2)
      omega
  · rw [if_neg (by omega), List.getElem?_eq_none (by rw [rowCells_length hl]; omega), List.getElem?_eq_none (by rw [rowCells_length hl, List.length_set]; omega)]
theorem own_sets {B g n cap : Nat} : ∀ (vs : List Value) (o : Nat) (w : World) (xs : List Value), w.ownsRow B e d (.slice (some ⟨g, 0, none⟩) n cap) n xs → (wsets w g o vs).ownsRow B e d (.slice (some ⟨g, 0, none⟩) n cap) n (setsAt xs o vs)
  | [], _, _, _, h => h
  | v :: vs, o, _, _, h => own_sets vs (o + 1) _ _ (h.stored o v).1
theorem own_put (T : RowTy cf d by' z sl e) {w : World} {B g n cap k : Nat} {zs : List α} (h : w.ownsRow B e d (.slice (some ⟨g, 0, none⟩) n cap) n (rowCells cf zs)) (hk : k < zs.length) (x : α) : (wsets w g (k * d) (cf x)).ownsRow B e d (.slice (some ⟨g, 0, none⟩) n cap) n (rowCells cf (zs.set k x)) := by
  rw [← rowCells_put T hk x]
  exact own_sets _ _ _ _ h
theorem below_wsets {B g : Nat} {w0 : World} (hg : B ≤ g) : ∀ (vs : List Value) (o : Nat) (w : World), Below B w0 w → Below B w0 (wsets w g o vs)
  | [], _, _, h => h
  | v :: vs, o, _, h => below_wsets hg vs (o + 1) _ (h.setCell (by simpa using hg) v)
theorem step_append_row (T : RowTy cf d by' z sl e) {ops : Array Oper} {o : Oper} {a : Act} {K : Act → World → Prop} {Q : Exit → Act → World → Prop} {E : Prop} (hgd : o.guard = none) (s x : Operand) (ho : o.op = .call { callee := .builtin .append, args := #[s, x], argTypes := #[sl, sl] })
    {w : World} {B B' : Nat} {v : Value} {n : Nat} {zs : List α} (hs : a.eval s = v) (hown : w.ownsRow B e d v n (rowCells cf zs)) {A : Option Addr} {m : Nat} {ys : List α} {c : Nat} (hx : a.eval x = .slice A m c)
    (hr : RowAt cf d w B' A m ys) (hb : n + m ≤ 1099511627776) (hB : B ≤ w.heap.size)
    (h : ∀ A' c' w', w'.ownsRow B e d (.slice A' (n + m) c') (n + m) (rowCells cf (zs ++ ys)) → w.grownBy w' v.ownBlock → (Value.ownBlock (.slice A' (n + m) c') = v.ownBlock ∨ Value.ownBlock (.slice A' (n + m) c') = some w.heap.size) → K (a.put o.dst (.slice A' (n + m) c')) w') :
    if Region.wanted o (yielded ops a.tmps) = true then Oper.wp Try.prog o a w K Q else E := by
  have hw : Region.wanted o (yielded ops a.tmps) = true := by simp [Region.wanted, hgd]
  rw [if_pos hw]
  exact wp_append_row T s x ho hs hown hx hr hb hB h
end
end Go.Proofs.Ytpaiigminmakgaa
