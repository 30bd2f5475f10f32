/- store.Drop, Put. -/
import Derived.Test.YtpaiigminmakgaaPd
namespace Go.Proofs.Ytpaiigminmakgaa
open Go.RowKit

theorem concatR_two (G c0 c1 n0 n1 : Nat) (A0 A1 : Option Addr) (b0 b1 : List Itm) (e : TypeId) (fr : Nat × Nat) (B : Nat) (w : World) (hB : B ≤ w.heap.size) (h : w.heap[G]? = some (.cells #[.slice A0 n0 c0, .slice A1 n1 c1] e fr)) (z0 : RowAt cellsP 8 w B A0 n0 b0) (z1 : RowAt cellsP 8 w B A1 n1 b1) (hn : n0 + n1 ≤ 1073741824) (C : Nat) :
    Calls Try.prog 39 #[.slice (some ⟨G, 0, none⟩) 2 C] w (OwnRow cellsP 8 46 (b0 ++ b1) w) := by
  have e0 := z0.1
  have e1 := z1.1
  subst e0 e1
  have hG : G < w.heap.size := by
    rcases Nat.lt_or_ge G w.heap.size with hlt | hge
    · exact hlt
    · rw [Array.getElem?_eq_none hge] at h; cases h
  have := concatR_any G 2 C [⟨A0, c0, b0⟩, ⟨A1, c1, b1⟩] B w hB rfl (fun k hk => ?_) hG (fun k hk => ?_) (by simp [allP]; omega) (by omega) (by omega)
  · simpa [allP] using this
  · have hk' : k < 2 := hk
    match k, hk' with
    | 0, _ => have := cell_of_row w G 0 _ _ _ h; simpa using this
    | 1, _ => have := cell_of_row w G 1 _ _ _ h; simpa using this
  · have hk' : k < 2 := hk
    match k, hk' with
    | 0, _ => exact z0
    | 1, _ => exact z1
theorem concatR_three (G c0 c1 c2 n0 n1 n2 : Nat) (A0 A1 A2 : Option Addr) (b0 b1 b2 : List Itm) (e : TypeId) (fr : Nat × Nat) (B : Nat) (w : World) (hB : B ≤ w.heap.size) (h : w.heap[G]? = some (.cells #[.slice A0 n0 c0, .slice A1 n1 c1, .slice A2 n2 c2] e fr)) (z0 : RowAt cellsP 8 w B A0 n0 b0) (z1 : RowAt cellsP 8 w B A1 n1 b1) (z2 : RowAt cellsP 8 w B A2 n2 b2) (hn : n0 + n1 + n2 ≤ 1073741824) (C : Nat) :
    Calls Try.prog 39 #[.slice (some ⟨G, 0, none⟩) 3 C] w (OwnRow cellsP 8 46 (b0 ++ (b1 ++ b2)) w) := by
  have e0 := z0.1
  have e1 := z1.1
  have e2 := z2.1
  subst e0 e1 e2
  have hG : G < w.heap.size := by
    rcases Nat.lt_or_ge G w.heap.size with hlt | hge
    · exact hlt
    · rw [Array.getElem?_eq_none hge] at h; cases h
  have := concatR_any G 3 C [⟨A0, c0, b0⟩, ⟨A1, c1, b1⟩, ⟨A2, c2, b2⟩] B w hB rfl (fun k hk => ?_) hG (fun k hk => ?_) (by simp [allP]; omega) (by omega) (by omega)
  · simpa [allP] using this
  · have hk' : k < 3 := hk
    match k, hk' with
    | 0, _ => have := cell_of_row w G 0 _ _ _ h; simpa using this
    | 1, _ => have := cell_of_row w G 1 _ _ _ h; simpa using this
    | 2, _ => have := cell_of_row w G 2 _ _ _ h; simpa using this
  · have hk' : k < 3 := hk
    match k, hk' with
    | 0, _ => exact z0
    | 1, _ => exact z1
    | 2, _ => exact z2
theorem own_up {α : Type} {cf : α → List Value} {d : Nat} {e : TypeId} {zs : List α} {w w1 w' : World} {en : Ending} (h : OwnRow cf d e zs w1 en w') (hb : Below w.heap.size w w1) : OwnRow cf d e zs w en w' := by
  obtain ⟨A, c, h1, h2, h3⟩ := h
  exact ⟨A, c, h1, rown_base h2 hb.size, hb.trans (h3.mono hb.size)⟩

set_option maxRecDepth 100000 in
set_option maxHeartbeats 4000000 in
theorem dropS_any (A : Option Addr) (n c : Nat) (zs : List Itm) (k : Int) (B : Nat) (w : World) (hB : B ≤ w.heap.size) (hz : RowAt cellsP 8 w B A n zs) (hnc : n ≤ c) (hn : n ≤ 1073741824) (hs : Keys zs) :
    Calls Try.prog 23 #[.slice A n c, .int .i64 k] w (OwnRow cellsP 8 46 (dropF zs k) w) := by
  have HZ := Lib.hid hz
  have H := Lib.hid (find_any A n c zs k B w hB hz (by omega) hs)
  have HS := Lib.hid hs
  have HL := Lib.hid hz.1
  clear hz hs
  go_enter Try.func23, Try.ntmps23
  go_wp2_with fail
  refine H.out.mono ?_
  rintro e w1 ⟨⟨p, hp, HP, rfl⟩, hb⟩
  have HB := Lib.hid hb
  have HPK := Lib.hid HP
  clear hb HP H
  have hpn : p ≤ n := by have := HL.out; omega
  clear hp
  rcases hf : isAt zs k p with _ | _
  · have HD : Hid (dropF zs k = zs) := by
      show _ = _
      unfold dropF
      rw [← parts_low HPK.out, ← parts_high HS.out HPK.out hf, List.take_append_drop]
    clear hf
    go_wp2_with fail
    refine (cloneR_any A n c zs B w1 (Nat.le_trans hB HB.out.size) (HZ.out.keep (HB.out.mono hB)) hn).mono ?_
    rintro e w2 ⟨A2, c2, rfl, ho, hb2⟩
    have HO := Lib.hid ho
    have HB2 := Lib.hid hb2
    clear ho hb2
    go_wp2
    go_ret
    rw [HD.out]
    exact ⟨A2, c2, rfl, rown_base HO.out HB.out.size, HB.out.trans (HB2.out.mono HB.out.size)⟩
  · have HD : Hid (dropF zs k = zs.take p ++ zs.drop (p + 1)) := by
      show _ = _
      unfold dropF
      rw [← parts_low HPK.out, ← parts_high1 HS.out HPK.out hf]
    obtain ⟨y, hy, _⟩ := isAt_true hf
    have hpn1 : p + 1 ≤ n := by have := (List.getElem?_eq_some_iff.mp hy).1; have := HL.out; omega
    clear hf hy
    have h1 := cut_upto A n c p hpn hnc
    obtain ⟨A', h2, h3⟩ := cut_from A n c (p + 1) hpn1 hnc
    rw [show ((p + 1 : Nat) : Int) = IntKind.i64.wrap ((p : Int) + 1) by rw [IntWalk.i64_in _ (by omega)]; omega] at h2
    have HA' := Lib.hid h3
    clear h3
    go_upto_region 4 with fail
    refine wp_region_held_drew (S := fun _ => True) (by kernel_rfl) trivial (fun hHeld => ?_)
    refine wpAnyH_take (i := 0) (oi := { dst := some 17, op := Go.Op.move (Go.Operand.tmp 0), type := 38, pos := "store.go:66", after := #[], guard := none }) (v := ?_) rfl (by kernel_rfl) (by kernel_rfl) (by kernel_rfl) (fun _ _ _ h => h) (Or.inl ⟨rfl, ?_⟩) (by assumption) ?_
    rotate_left
    · intro wz hSw; (try dsimp only at hSw); go_simp; try (with_reducible rfl)
    try simp only [Act.put, List.setIfInBounds_toArray, List.set_cons_zero, List.set_cons_succ]
    refine wpAnyH_take (i := 1) (oi := { dst := some 18, op := Go.Op.move (Go.Operand.tmp 5), type := 3, pos := "store.go:66", after := #[], guard := none }) (v := ?_) rfl (by kernel_rfl) (by kernel_rfl) (by kernel_rfl) (fun _ _ _ h => h) (Or.inl ⟨rfl, ?_⟩) (by assumption) ?_
    rotate_left
    · intro wz hSw; (try dsimp only at hSw); go_simp; try (with_reducible rfl)
    try simp only [Act.put, List.setIfInBounds_toArray, List.set_cons_zero, List.set_cons_succ]
    refine wpAnyH_take (i := 2) (oi := { dst := some 19, op := Go.Op.slice 38 (Go.Operand.tmp 17) none (some (Go.Operand.tmp 18)) none, type := 38, pos := "store.go:66", after := #[{ on := 0, ground := Go.Ground.data }, { on := 1, ground := Go.Ground.data }], guard := none }) (v := ?_) rfl (by kernel_rfl) (by kernel_rfl) (by kernel_rfl) (fun _ _ _ h => h) (Or.inl ⟨rfl, ?_⟩) (by assumption) ?_
    rotate_left
    · intro wz hSw; (try dsimp only at hSw); go_simp; try (with_reducible rfl)
    try simp only [Act.put, List.setIfInBounds_toArray, List.set_cons_zero, List.set_cons_succ]
    refine wpAnyH_take (i := 3) (oi := { dst := some 20, op := Go.Op.move (Go.Operand.tmp 0), type := 38, pos := "store.go:66", after := #[], guard := none }) (v := ?_) rfl (by kernel_rfl) (by kernel_rfl) (by kernel_rfl) (fun _ _ _ h => h) (Or.inl ⟨rfl, ?_⟩) (by assumption) ?_
    rotate_left
    · intro wz hSw; (try dsimp only at hSw); go_simp; try (with_reducible rfl)
    try simp only [Act.put, List.setIfInBounds_toArray, List.set_cons_zero, List.set_cons_succ]
    refine wpAnyH_take (i := 4) (oi := { dst := some 21, op := Go.Op.move (Go.Operand.tmp 5), type := 3, pos := "store.go:66", after := #[], guard := none }) (v := ?_) rfl (by kernel_rfl) (by kernel_rfl) (by kernel_rfl) (fun _ _ _ h => h) (Or.inl ⟨rfl, ?_⟩) (by assumption) ?_
    rotate_left
    · intro wz hSw; (try dsimp only at hSw); go_simp; try (with_reducible rfl)
    try simp only [Act.put, List.setIfInBounds_toArray, List.set_cons_zero, List.set_cons_succ]
    refine wpAnyH_take (i := 5) (oi := { dst := some 22, op := Go.Op.binOp Go.BinOp.add 3 (Go.Operand.tmp 21) (Go.Operand.const (Go.Value.int Go.IntKind.i64 1)) 3, type := 3, pos := "store.go:66", after := #[{ on := 4, ground := Go.Ground.data }], guard := none }) (v := ?_) rfl (by kernel_rfl) (by kernel_rfl) (by kernel_rfl) (fun _ _ _ h => h) (Or.inl ⟨rfl, ?_⟩) (by assumption) ?_
    rotate_left
    · intro wz hSw; (try dsimp only at hSw); go_simp; try (with_reducible rfl)
    try simp only [Act.put, List.setIfInBounds_toArray, List.set_cons_zero, List.set_cons_succ]
    refine wpAnyH_take (i := 6) (oi := { dst := some 23, op := Go.Op.slice 38 (Go.Operand.tmp 20) (some (Go.Operand.tmp 22)) none none, type := 38, pos := "store.go:66", after := #[{ on := 3, ground := Go.Ground.data }, { on := 5, ground := Go.Ground.data }], guard := none }) (v := ?_) rfl (by kernel_rfl) (by kernel_rfl) (by kernel_rfl) (fun _ _ _ h => h) (Or.inl ⟨rfl, ?_⟩) (by assumption) ?_
    rotate_left
    · intro wz hSw; (try dsimp only at hSw); go_simp; try (with_reducible rfl)
    try simp only [Act.put, List.setIfInBounds_toArray, List.set_cons_zero, List.set_cons_succ]
    refine wpAnyH_ready (rs := [7]) (by kernel_rfl) (by simp) ?_
    refine (AllReadyH.cons (o := { dst := some 24, op := Go.Op.buildSlice 107 2 #[(0, Go.Operand.tmp 19), (1, Go.Operand.tmp 23)], type := 107, pos := "store.go:66", after := #[{ on := 2, ground := Go.Ground.data }, { on := 6, ground := Go.Ground.data }], guard := none }) rfl (fun K hK => ?_) AllReadyH.nil)
    go_simp
    have hb1 : Below w1.heap.size w1 (w1.alloc (.cells #[.slice A p c, .slice A' (n - (p + 1)) (c - (p + 1))] 38)).drew := ((Below.refl _ _).alloc (Nat.le_refl _) _).drew
    replace HB := Lib.hid (HB.out.trans (hb1.mono HB.out.size))
    have HG : Hid ((w1.alloc (.cells #[.slice A p c, .slice A' (n - (p + 1)) (c - (p + 1))] 38)).drew.heap[w1.heap.size]? = some (.cells #[.slice A p c, .slice A' (n - (p + 1)) (c - (p + 1))] 38)) := heap_alloc_new w1 _
    have HZ1 := Lib.hid (HZ.out.keep (HB.out.mono hB))
    clear hb1
    generalize (w1.alloc (.cells #[.slice A p c, .slice A' (n - (p + 1)) (c - (p + 1))] 38)).drew = w2 at *
    generalize w1.heap.size = G at *
    refine hK.out _ _ trivial (fun hHeld => ?_)
    clear hK K
    try simp only [Act.put, List.setIfInBounds_toArray, List.set_cons_zero, List.set_cons_succ]
    refine wpAnyH_ready (rs := [8]) (by kernel_rfl) (by simp) ?_
    refine (AllReadyH.cons (o := { dst := some 25, op := Go.Op.call { callee := Go.Callee.value (Go.Operand.func 39), args := #[Go.Operand.tmp 24], argTypes := #[107] }, type := 38, pos := "store.go:66", after := #[{ on := 7, ground := Go.Ground.data }], guard := none }) rfl (fun K hK => ?_) AllReadyH.nil)
    go_simp
    go_at_call 39
    refine (concatR_two G c (c - (p + 1)) p (n - (p + 1)) A A' (zs.take p) (zs.drop (p + 1)) 38 (0, 0) B _ (Nat.le_trans hB HB.out.size) HG.out (HZ1.out.take hpn) (HA'.out _ _ _ HZ1.out) (by omega) _).mono ?_
    rw [← HD.out]
    rintro e w3 ⟨A3, c3, rfl, ho, hb3⟩
    have HO := Lib.hid (rown_base ho HB.out.size)
    replace HB := Lib.hid (HB.out.trans (hb3.mono HB.out.size))
    clear ho hb3 HG HZ1
    refine hK.out _ _ trivial (fun hHeld => ?_)
    clear hK K
    try simp only [Act.put, List.setIfInBounds_toArray, List.set_cons_zero, List.set_cons_succ]
    refine wpAnyH_take (i := 9) (oi := { dst := some 4, op := Go.Op.assign (Go.Operand.tmp 25), type := 38, pos := "store.go:66", after := #[{ on := 8, ground := Go.Ground.data }, { on := 8, ground := Go.Ground.chain }, { on := 0, ground := Go.Ground.phase }, { on := 1, ground := Go.Ground.phase }, { on := 2, ground := Go.Ground.phase }, { on := 3, ground := Go.Ground.phase }, { on := 4, ground := Go.Ground.phase }, { on := 5, ground := Go.Ground.phase }, { on := 6, ground := Go.Ground.phase }, { on := 7, ground := Go.Ground.phase }, { on := 8, ground := Go.Ground.phase }], guard := none }) (v := ?_) rfl (by kernel_rfl) (by kernel_rfl) (by kernel_rfl) (fun _ _ _ h => h) (Or.inl ⟨rfl, ?_⟩) (by assumption) ?_
    rotate_left
    · intro wz hSw; (try dsimp only at hSw); go_simp; try (with_reducible rfl)
    try simp only [Act.put, List.setIfInBounds_toArray, List.set_cons_zero, List.set_cons_succ]
    refine wpAnyH_done (by kernel_rfl) ?_ _
    go_wp2
    go_ret
    exact ⟨A3, c3, rfl, HO.out, HB.out⟩
/-- What there is when x came, and whether that is another one. -/
def putF (zs : List Itm) (x : Itm) : List Itm × Bool := match getF zs x.key with
  | none => (insF zs x, true)
  | some y => if replF x y then (insF zs x, true) else (zs, false)
def PutRet (zs : List Itm) (x : Itm) (w : World) (e : Ending) (w' : World) : Prop :=
  ∃ A c, e = .returned (.tuple #[.slice A (putF zs x).1.length c, .bool (putF zs x).2]) ∧ w'.ownsRow w.heap.size 46 8 (.slice A (putF zs x).1.length c) (putF zs x).1.length (rowCells cellsP (putF zs x).1) ∧ Below w.heap.size w w'
theorem put_ret {zs ys : List Itm} {x : Itm} {b : Bool} {w w' : World} {A : Option Addr} {c : Nat} (h : putF zs x = (ys, b)) (ho : w'.ownsRow w.heap.size 46 8 (.slice A ys.length c) ys.length (rowCells cellsP ys)) (hb : Below w.heap.size w w') : PutRet zs x w (.returned (.tuple #[.slice A ys.length c, .bool b])) w' := by
  unfold PutRet
  rw [h]
  exact ⟨A, c, rfl, ho, hb⟩
theorem put_new {zs : List Itm} {x : Itm} (h : getF zs x.key = none) : putF zs x = (insF zs x, true) := by unfold putF; rw [h]
theorem put_over {zs : List Itm} {x y : Itm} (h : getF zs x.key = some y) (hr : replF x y = true) : putF zs x = (insF zs x, true) := by unfold putF; rw [h]; simp [hr]
theorem put_not {zs : List Itm} {x y : Itm} (h : getF zs x.key = some y) (hr : replF x y = false) : putF zs x = (zs, false) := by unfold putF; rw [h]; simp [hr]

set_option maxRecDepth 100000 in
set_option maxHeartbeats 8000000 in
theorem putS_any (A : Option Addr) (n c : Nat) (zs : List Itm) (x0 : Itm) (B : Nat) (w : World) (hB : B ≤ w.heap.size) (hz : RowAt cellsP 8 w B A n zs) (hnc : n ≤ c) (hn : n ≤ 1000000) (hs : Keys zs) :
    Calls Try.prog 16 #[.slice A n c, itmV x0] w (PutRet zs x0 w) := by
  have HS := Lib.hid hs
  have HL := Lib.hid hz.1
  have HR : Hid (∀ y w, Calls Try.prog 40 #[itmV x0, itmV y] w fun e w' => e = .returned (.bool (replF x0 y)) ∧ Below w.heap.size w w') := fun y w => replaces_any x0 y w
  have HX := Lib.hid (show cellsP x0 = [.int .i64 x0.key, .string x0.ver.id, .int .i64 x0.ver.seq, .int .i64 x0.ver.stamp, .bool x0.dead, .complex .f64 (fl x0.x) (fl x0.y), .string x0.text, .bool x0.held] from rfl)
  have HI := Lib.hid (show itmV x0 = .agg #[.int .i64 x0.key, .string x0.ver.id, .int .i64 x0.ver.seq, .int .i64 x0.ver.stamp, .bool x0.dead, .complex .f64 (fl x0.x) (fl x0.y), .string x0.text, .bool x0.held] from rfl)
  rw [HI.out]
  rw [HI.out] at HR
  clear HI
  have HIN := Lib.hid (show insF zs x0 = lowF zs x0.key ++ x0 :: highF zs x0.key from rfl)
  obtain ⟨PN, PO, PNO⟩ : (Hid (getF zs x0.key = none → putF zs x0 = (insF zs x0, true))) ∧ (Hid (∀ y, getF zs x0.key = some y → replF x0 y = true → putF zs x0 = (insF zs x0, true))) ∧ (Hid (∀ y, getF zs x0.key = some y → replF x0 y = false → putF zs x0 = (zs, false))) := ⟨put_new, fun _ => put_over, fun _ => put_not⟩
  generalize x0.key = key at *
  generalize x0.ver.id = d at *
  generalize x0.ver.seq = a at *
  generalize x0.ver.stamp = s at *
  generalize x0.dead = dead at *
  generalize fl x0.x = fx at *
  generalize fl x0.y = fy at *
  generalize x0.text = text at *
  generalize x0.held = held at *
  have hb0 : Below w.heap.size w (w.alloc (.cells #[.int .i64 key, .string d, .int .i64 a, .int .i64 s, .bool dead, .complex .f64 fx fy, .string text, .bool held] 46)) := (Below.refl _ _).alloc (Nat.le_refl _) _
  have HZ := Lib.hid hz
  have H := Lib.hid (find_any A n c zs key B (w.alloc (.cells #[.int .i64 key, .string d, .int .i64 a, .int .i64 s, .bool dead, .complex .f64 fx fy, .string text, .bool held] 46)) (by simp; omega) (hz.keep (hb0.mono hB)) (by omega) hs)
  clear hz hs
  go_enter Try.func16, Try.ntmps16
  go_wp2_with fail
  refine H.out.mono ?_
  rintro e w1 ⟨⟨p, hp, HP, rfl⟩, hb⟩
  have k0 : (w.alloc (.cells #[.int .i64 key, .string d, .int .i64 a, .int .i64 s, .bool dead, .complex .f64 fx fy, .string text, .bool held] 46)).cell? ⟨w.heap.size, 0, none⟩ = some (.int .i64 key) := by simp [go_sem]
  have kf0 : (w.alloc (.cells #[.int .i64 key, .string d, .int .i64 a, .int .i64 s, .bool dead, .complex .f64 fx fy, .string text, .bool held] 46)).frozen? ⟨w.heap.size, 0, none⟩ = false := by simp [go_sem]
  have k1 : (w.alloc (.cells #[.int .i64 key, .string d, .int .i64 a, .int .i64 s, .bool dead, .complex .f64 fx fy, .string text, .bool held] 46)).cell? ⟨w.heap.size, 1, none⟩ = some (.string d) := by simp [go_sem]
  have kf1 : (w.alloc (.cells #[.int .i64 key, .string d, .int .i64 a, .int .i64 s, .bool dead, .complex .f64 fx fy, .string text, .bool held] 46)).frozen? ⟨w.heap.size, 1, none⟩ = false := by simp [go_sem]
  have k2 : (w.alloc (.cells #[.int .i64 key, .string d, .int .i64 a, .int .i64 s, .bool dead, .complex .f64 fx fy, .string text, .bool held] 46)).cell? ⟨w.heap.size, 2, none⟩ = some (.int .i64 a) := by simp [go_sem]
  have kf2 : (w.alloc (.cells #[.int .i64 key, .string d, .int .i64 a, .int .i64 s, .bool dead, .complex .f64 fx fy, .string text, .bool held] 46)).frozen? ⟨w.heap.size, 2, none⟩ = false := by simp [go_sem]
  have k3 : (w.alloc (.cells #[.int .i64 key, .string d, .int .i64 a, .int .i64 s, .bool dead, .complex .f64 fx fy, .string text, .bool held] 46)).cell? ⟨w.heap.size, 3, none⟩ = some (.int .i64 s) := by simp [go_sem]
  have kf3 : (w.alloc (.cells #[.int .i64 key, .string d, .int .i64 a, .int .i64 s, .bool dead, .complex .f64 fx fy, .string text, .bool held] 46)).frozen? ⟨w.heap.size, 3, none⟩ = false := by simp [go_sem]
  have k4 : (w.alloc (.cells #[.int .i64 key, .string d, .int .i64 a, .int .i64 s, .bool dead, .complex .f64 fx fy, .string text, .bool held] 46)).cell? ⟨w.heap.size, 4, none⟩ = some (.bool dead) := by simp [go_sem]
  have kf4 : (w.alloc (.cells #[.int .i64 key, .string d, .int .i64 a, .int .i64 s, .bool dead, .complex .f64 fx fy, .string text, .bool held] 46)).frozen? ⟨w.heap.size, 4, none⟩ = false := by simp [go_sem]
  have k5 : (w.alloc (.cells #[.int .i64 key, .string d, .int .i64 a, .int .i64 s, .bool dead, .complex .f64 fx fy, .string text, .bool held] 46)).cell? ⟨w.heap.size, 5, none⟩ = some (.complex .f64 fx fy) := by simp [go_sem]
  have kf5 : (w.alloc (.cells #[.int .i64 key, .string d, .int .i64 a, .int .i64 s, .bool dead, .complex .f64 fx fy, .string text, .bool held] 46)).frozen? ⟨w.heap.size, 5, none⟩ = false := by simp [go_sem]
  have k6 : (w.alloc (.cells #[.int .i64 key, .string d, .int .i64 a, .int .i64 s, .bool dead, .complex .f64 fx fy, .string text, .bool held] 46)).cell? ⟨w.heap.size, 6, none⟩ = some (.string text) := by simp [go_sem]
  have kf6 : (w.alloc (.cells #[.int .i64 key, .string d, .int .i64 a, .int .i64 s, .bool dead, .complex .f64 fx fy, .string text, .bool held] 46)).frozen? ⟨w.heap.size, 6, none⟩ = false := by simp [go_sem]
  have k7 : (w.alloc (.cells #[.int .i64 key, .string d, .int .i64 a, .int .i64 s, .bool dead, .complex .f64 fx fy, .string text, .bool held] 46)).cell? ⟨w.heap.size, 7, none⟩ = some (.bool held) := by simp [go_sem]
  have kf7 : (w.alloc (.cells #[.int .i64 key, .string d, .int .i64 a, .int .i64 s, .bool dead, .complex .f64 fx fy, .string text, .bool held] 46)).frozen? ⟨w.heap.size, 7, none⟩ = false := by simp [go_sem]
  have kz : w.heap.size < (w.alloc (.cells #[.int .i64 key, .string d, .int .i64 a, .int .i64 s, .bool dead, .complex .f64 fx fy, .string text, .bool held] 46)).heap.size := by simp <;> omega
  replace k0 := (hb.cell (p := ⟨w.heap.size, 0, none⟩) kz).trans k0
  replace kf0 := (hb.frozen (p := ⟨w.heap.size, 0, none⟩) kz).trans kf0
  replace k1 := (hb.cell (p := ⟨w.heap.size, 1, none⟩) kz).trans k1
  replace kf1 := (hb.frozen (p := ⟨w.heap.size, 1, none⟩) kz).trans kf1
  replace k2 := (hb.cell (p := ⟨w.heap.size, 2, none⟩) kz).trans k2
  replace kf2 := (hb.frozen (p := ⟨w.heap.size, 2, none⟩) kz).trans kf2
  replace k3 := (hb.cell (p := ⟨w.heap.size, 3, none⟩) kz).trans k3
  replace kf3 := (hb.frozen (p := ⟨w.heap.size, 3, none⟩) kz).trans kf3
  replace k4 := (hb.cell (p := ⟨w.heap.size, 4, none⟩) kz).trans k4
  replace kf4 := (hb.frozen (p := ⟨w.heap.size, 4, none⟩) kz).trans kf4
  replace k5 := (hb.cell (p := ⟨w.heap.size, 5, none⟩) kz).trans k5
  replace kf5 := (hb.frozen (p := ⟨w.heap.size, 5, none⟩) kz).trans kf5
  replace k6 := (hb.cell (p := ⟨w.heap.size, 6, none⟩) kz).trans k6
  replace kf6 := (hb.frozen (p := ⟨w.heap.size, 6, none⟩) kz).trans kf6
  replace k7 := (hb.cell (p := ⟨w.heap.size, 7, none⟩) kz).trans k7
  replace kf7 := (hb.frozen (p := ⟨w.heap.size, 7, none⟩) kz).trans kf7
  replace kz := Nat.lt_of_lt_of_le kz hb.size
  have HB : Hid (Below w.heap.size w w1) := hb0.trans (hb.mono (by simp))
  have HPK := Lib.hid HP
  clear hb hb0 HP H
  have hpn : p ≤ n := by have := HL.out; omega
  clear hp
  have h1 := cut_upto A n c p hpn hnc
  rcases hf : isAt zs key p with _ | _
  · have HG0 := Lib.hid (PN.out (get_no HS.out HPK.out hf))
    have HD : Hid (insF zs x0 = zs.take p ++ ([x0] ++ zs.drop p)) := by show _ = _; rw [HIN.out, ← parts_low HPK.out, ← parts_high HS.out HPK.out hf]; rfl
    clear hf
    obtain ⟨A', h2, h3⟩ := cut_from A n c p hpn hnc
    have HA' := Lib.hid h3
    clear h3
    go_upto_region 3 with fail
    refine wp_region_held_drew (S := fun w' => w'.cell? ⟨w.heap.size, 0, none⟩ = some (.int .i64 key) ∧ w'.cell? ⟨w.heap.size, 1, none⟩ = some (.string d) ∧ w'.cell? ⟨w.heap.size, 2, none⟩ = some (.int .i64 a) ∧ w'.cell? ⟨w.heap.size, 3, none⟩ = some (.int .i64 s) ∧ w'.cell? ⟨w.heap.size, 4, none⟩ = some (.bool dead) ∧ w'.cell? ⟨w.heap.size, 5, none⟩ = some (.complex .f64 fx fy) ∧ w'.cell? ⟨w.heap.size, 6, none⟩ = some (.string text) ∧ w'.cell? ⟨w.heap.size, 7, none⟩ = some (.bool held)) (by kernel_rfl) ⟨k0, k1, k2, k3, k4, k5, k6, k7⟩ (fun hHeld => ?_)
    refine wpAnyH_take (i := 0) (oi := { dst := some 18, op := Go.Op.move (Go.Operand.tmp 0), type := 38, pos := "store.go:44", after := #[], guard := none }) (v := ?_) rfl (by kernel_rfl) (by kernel_rfl) (by kernel_rfl) (fun _ _ _ h => h) (Or.inl ⟨rfl, ?_⟩) (by assumption) ?_
    rotate_left
    · intro wz hSw; (try dsimp only at hSw); go_simp; try (with_reducible rfl)
    try simp only [Act.put, List.setIfInBounds_toArray, List.set_cons_zero, List.set_cons_succ]
    refine wpAnyH_take (i := 1) (oi := { dst := some 19, op := Go.Op.move (Go.Operand.tmp 6), type := 3, pos := "store.go:44", after := #[], guard := none }) (v := ?_) rfl (by kernel_rfl) (by kernel_rfl) (by kernel_rfl) (fun _ _ _ h => h) (Or.inl ⟨rfl, ?_⟩) (by assumption) ?_
    rotate_left
    · intro wz hSw; (try dsimp only at hSw); go_simp; try (with_reducible rfl)
    try simp only [Act.put, List.setIfInBounds_toArray, List.set_cons_zero, List.set_cons_succ]
    refine wpAnyH_take (i := 2) (oi := { dst := some 20, op := Go.Op.slice 38 (Go.Operand.tmp 18) none (some (Go.Operand.tmp 19)) none, type := 38, pos := "store.go:44", after := #[{ on := 0, ground := Go.Ground.data }, { on := 1, ground := Go.Ground.data }], guard := none }) (v := ?_) rfl (by kernel_rfl) (by kernel_rfl) (by kernel_rfl) (fun _ _ _ h => h) (Or.inl ⟨rfl, ?_⟩) (by assumption) ?_
    rotate_left
    · intro wz hSw; (try dsimp only at hSw); go_simp; try (with_reducible rfl)
    try simp only [Act.put, List.setIfInBounds_toArray, List.set_cons_zero, List.set_cons_succ]
    refine wpAnyH_take (i := 3) (oi := { dst := some 21, op := Go.Op.load 46 (Go.Operand.tmp 3), type := 46, pos := "store.go:44", after := #[], guard := none }) (v := ?_) rfl (by kernel_rfl) (by kernel_rfl) (by kernel_rfl) (fun _ _ _ h => h) (Or.inl ⟨rfl, ?_⟩) (by assumption) ?_
    rotate_left
    · intro wz hSw; (try dsimp only at hSw); go_simp; try (with_reducible rfl)
    try simp only [Act.put, List.setIfInBounds_toArray, List.set_cons_zero, List.set_cons_succ]
    refine wpAnyH_take (i := 5) (oi := { dst := some 23, op := Go.Op.move (Go.Operand.tmp 0), type := 38, pos := "store.go:44", after := #[], guard := none }) (v := ?_) rfl (by kernel_rfl) (by kernel_rfl) (by kernel_rfl) (fun _ _ _ h => h) (Or.inl ⟨rfl, ?_⟩) (by assumption) ?_
    rotate_left
    · intro wz hSw; (try dsimp only at hSw); go_simp; try (with_reducible rfl)
    try simp only [Act.put, List.setIfInBounds_toArray, List.set_cons_zero, List.set_cons_succ]
    refine wpAnyH_take (i := 6) (oi := { dst := some 24, op := Go.Op.move (Go.Operand.tmp 6), type := 3, pos := "store.go:44", after := #[], guard := none }) (v := ?_) rfl (by kernel_rfl) (by kernel_rfl) (by kernel_rfl) (fun _ _ _ h => h) (Or.inl ⟨rfl, ?_⟩) (by assumption) ?_
    rotate_left
    · intro wz hSw; (try dsimp only at hSw); go_simp; try (with_reducible rfl)
    try simp only [Act.put, List.setIfInBounds_toArray, List.set_cons_zero, List.set_cons_succ]
    refine wpAnyH_take (i := 7) (oi := { dst := some 25, op := Go.Op.slice 38 (Go.Operand.tmp 23) (some (Go.Operand.tmp 24)) none none, type := 38, pos := "store.go:44", after := #[{ on := 5, ground := Go.Ground.data }, { on := 6, ground := Go.Ground.data }], guard := none }) (v := ?_) rfl (by kernel_rfl) (by kernel_rfl) (by kernel_rfl) (fun _ _ _ h => h) (Or.inl ⟨rfl, ?_⟩) (by assumption) ?_
    rotate_left
    · intro wz hSw; (try dsimp only at hSw); go_simp; try (with_reducible rfl)
    try simp only [Act.put, List.setIfInBounds_toArray, List.set_cons_zero, List.set_cons_succ]
    refine wpAnyH_ready (rs := [4]) (by kernel_rfl) (by simp) ?_
    refine (AllReadyH.cons (o := { dst := some 22, op := Go.Op.buildSlice 38 1 #[(0, Go.Operand.tmp 21)], type := 38, pos := "store.go:44", after := #[{ on := 3, ground := Go.Ground.data }], guard := none }) rfl (fun K hK => ?_) AllReadyH.nil)
    go_simp
    have hb1 : Below w1.heap.size w1 (w1.alloc (.cells #[.int .i64 key, .string d, .int .i64 a, .int .i64 s, .bool dead, .complex .f64 fx fy, .string text, .bool held] 46)).drew := ((Below.refl _ _).alloc (Nat.le_refl _) _).drew
    replace HB := Lib.hid (HB.out.trans (hb1.mono HB.out.size))
    have HX1 : Hid (RowAt cellsP 8 (w1.alloc (.cells #[.int .i64 key, .string d, .int .i64 a, .int .i64 s, .bool dead, .complex .f64 fx fy, .string text, .bool held] 46)).drew (w1.heap.size + 1) (some ⟨w1.heap.size, 0, none⟩) 1 [x0]) := one_row rowS (by rw [HX.out]; exact heap_alloc_new w1 _)
    have hX : w1.heap.size + 1 ≤ (w1.alloc (.cells #[.int .i64 key, .string d, .int .i64 a, .int .i64 s, .bool dead, .complex .f64 fx fy, .string text, .bool held] 46)).drew.heap.size := by show _ ≤ (w1.alloc _).heap.size; simp
    replace k0 := (hb1.cell (p := ⟨w.heap.size, 0, none⟩) kz).trans k0
    replace k1 := (hb1.cell (p := ⟨w.heap.size, 1, none⟩) kz).trans k1
    replace k2 := (hb1.cell (p := ⟨w.heap.size, 2, none⟩) kz).trans k2
    replace k3 := (hb1.cell (p := ⟨w.heap.size, 3, none⟩) kz).trans k3
    replace k4 := (hb1.cell (p := ⟨w.heap.size, 4, none⟩) kz).trans k4
    replace k5 := (hb1.cell (p := ⟨w.heap.size, 5, none⟩) kz).trans k5
    replace k6 := (hb1.cell (p := ⟨w.heap.size, 6, none⟩) kz).trans k6
    replace k7 := (hb1.cell (p := ⟨w.heap.size, 7, none⟩) kz).trans k7
    replace kz := Nat.lt_of_lt_of_le kz hb1.size
    have HZ1 := Lib.hid ((HZ.out.keep (HB.out.mono hB)).more (Nat.le_trans hB HB.out.size))
    clear hb1
    generalize (w1.alloc (.cells #[.int .i64 key, .string d, .int .i64 a, .int .i64 s, .bool dead, .complex .f64 fx fy, .string text, .bool held] 46)).drew = u2 at *
    generalize w1.heap.size = G1 at *
    refine hK.out _ _ ⟨k0, k1, k2, k3, k4, k5, k6, k7⟩ (fun hHeld => ?_)
    clear hK K
    try simp only [Act.put, List.setIfInBounds_toArray, List.set_cons_zero, List.set_cons_succ]
    refine wpAnyH_ready (rs := [8]) (by kernel_rfl) (by simp) ?_
    refine (AllReadyH.cons (o := { dst := some 26, op := Go.Op.buildSlice 107 3 #[(0, Go.Operand.tmp 20), (1, Go.Operand.tmp 22), (2, Go.Operand.tmp 25)], type := 107, pos := "store.go:44", after := #[{ on := 2, ground := Go.Ground.data }, { on := 4, ground := Go.Ground.data }, { on := 7, ground := Go.Ground.data }], guard := none }) rfl (fun K hK => ?_) AllReadyH.nil)
    go_simp
    have hb1 : Below u2.heap.size u2 (u2.alloc (.cells #[.slice A p c, .slice (some ⟨G1, 0, none⟩) 1 1, .slice A' (n - p) (c - p)] 38)) := (Below.refl _ _).alloc (Nat.le_refl _) _
    replace HB := Lib.hid (HB.out.trans (hb1.mono HB.out.size))
    have HG : Hid ((u2.alloc (.cells #[.slice A p c, .slice (some ⟨G1, 0, none⟩) 1 1, .slice A' (n - p) (c - p)] 38)).heap[u2.heap.size]? = some (.cells #[.slice A p c, .slice (some ⟨G1, 0, none⟩) 1 1, .slice A' (n - p) (c - p)] 38)) := heap_alloc_new u2 _
    replace HX1 := Lib.hid ((HX1.out.more hX).keep hb1)
    replace HZ1 := Lib.hid (HZ1.out.keep hb1)
    replace k0 := (hb1.cell (p := ⟨w.heap.size, 0, none⟩) kz).trans k0
    replace k1 := (hb1.cell (p := ⟨w.heap.size, 1, none⟩) kz).trans k1
    replace k2 := (hb1.cell (p := ⟨w.heap.size, 2, none⟩) kz).trans k2
    replace k3 := (hb1.cell (p := ⟨w.heap.size, 3, none⟩) kz).trans k3
    replace k4 := (hb1.cell (p := ⟨w.heap.size, 4, none⟩) kz).trans k4
    replace k5 := (hb1.cell (p := ⟨w.heap.size, 5, none⟩) kz).trans k5
    replace k6 := (hb1.cell (p := ⟨w.heap.size, 6, none⟩) kz).trans k6
    replace k7 := (hb1.cell (p := ⟨w.heap.size, 7, none⟩) kz).trans k7
    replace kz := Nat.lt_of_lt_of_le kz hb1.size
    have hw2 := hb1.size
    clear hb1
    generalize (u2.alloc (.cells #[.slice A p c, .slice (some ⟨G1, 0, none⟩) 1 1, .slice A' (n - p) (c - p)] 38)) = u3 at *
    generalize u2.heap.size = G2 at *
    refine hK.out _ _ ⟨k0, k1, k2, k3, k4, k5, k6, k7⟩ (fun hHeld => ?_)
    clear hK K
    try simp only [Act.put, List.setIfInBounds_toArray, List.set_cons_zero, List.set_cons_succ]
    refine wpAnyH_ready (rs := [9]) (by kernel_rfl) (by simp) ?_
    refine (AllReadyH.cons (o := { dst := some 27, op := Go.Op.call { callee := Go.Callee.value (Go.Operand.func 39), args := #[Go.Operand.tmp 26], argTypes := #[107] }, type := 38, pos := "store.go:44", after := #[{ on := 8, ground := Go.Ground.data }], guard := none }) rfl (fun K hK => ?_) AllReadyH.nil)
    go_simp
    go_at_call 39
    refine (concatR_three G2 c 1 (c - p) p 1 (n - p) A (some ⟨G1, 0, none⟩) A' (zs.take p) [x0] (zs.drop (p)) 38 (0, 0) G2 _ hw2 HG.out (HZ1.out.take hpn) HX1.out (HA'.out _ _ _ HZ1.out) (by omega) _).mono ?_
    rw [← HD.out]
    rintro e w4 ⟨A4, c4, rfl, ho, hb4⟩
    replace k0 := (hb4.cell (p := ⟨w.heap.size, 0, none⟩) kz).trans k0
    replace k1 := (hb4.cell (p := ⟨w.heap.size, 1, none⟩) kz).trans k1
    replace k2 := (hb4.cell (p := ⟨w.heap.size, 2, none⟩) kz).trans k2
    replace k3 := (hb4.cell (p := ⟨w.heap.size, 3, none⟩) kz).trans k3
    replace k4 := (hb4.cell (p := ⟨w.heap.size, 4, none⟩) kz).trans k4
    replace k5 := (hb4.cell (p := ⟨w.heap.size, 5, none⟩) kz).trans k5
    replace k6 := (hb4.cell (p := ⟨w.heap.size, 6, none⟩) kz).trans k6
    replace k7 := (hb4.cell (p := ⟨w.heap.size, 7, none⟩) kz).trans k7
    have HO := Lib.hid (rown_base ho HB.out.size)
    replace HB := Lib.hid (HB.out.trans (hb4.mono HB.out.size))
    clear ho hb4 HG HX1 HZ1
    refine hK.out _ _ ⟨k0, k1, k2, k3, k4, k5, k6, k7⟩ (fun hHeld => ?_)
    clear hK K
    try simp only [Act.put, List.setIfInBounds_toArray, List.set_cons_zero, List.set_cons_succ]
    refine wpAnyH_take (i := 10) (oi := { dst := some 4, op := Go.Op.assign (Go.Operand.tmp 27), type := 38, pos := "store.go:44", after := #[{ on := 9, ground := Go.Ground.data }, { on := 9, ground := Go.Ground.chain }, { on := 0, ground := Go.Ground.phase }, { on := 1, ground := Go.Ground.phase }, { on := 2, ground := Go.Ground.phase }, { on := 3, ground := Go.Ground.phase }, { on := 4, ground := Go.Ground.phase }, { on := 5, ground := Go.Ground.phase }, { on := 6, ground := Go.Ground.phase }, { on := 7, ground := Go.Ground.phase }, { on := 8, ground := Go.Ground.phase }, { on := 9, ground := Go.Ground.phase }], guard := none }) (v := ?_) rfl (by kernel_rfl) (by kernel_rfl) (by kernel_rfl) (fun _ _ _ h => h) (Or.inl ⟨rfl, ?_⟩) (by assumption) ?_
    rotate_left
    · intro wz hSw; (try dsimp only at hSw); go_simp; try (with_reducible rfl)
    try simp only [Act.put, List.setIfInBounds_toArray, List.set_cons_zero, List.set_cons_succ]
    refine wpAnyH_take (i := 11) (oi := { dst := some 5, op := Go.Op.assign (Go.Operand.const (Go.Value.bool true)), type := 4, pos := "store.go:44", after := #[{ on := 10, ground := Go.Ground.chain }, { on := 0, ground := Go.Ground.phase }, { on := 1, ground := Go.Ground.phase }, { on := 2, ground := Go.Ground.phase }, { on := 3, ground := Go.Ground.phase }, { on := 4, ground := Go.Ground.phase }, { on := 5, ground := Go.Ground.phase }, { on := 6, ground := Go.Ground.phase }, { on := 7, ground := Go.Ground.phase }, { on := 8, ground := Go.Ground.phase }, { on := 9, ground := Go.Ground.phase }, { on := 10, ground := Go.Ground.phase }], guard := none }) (v := ?_) rfl (by kernel_rfl) (by kernel_rfl) (by kernel_rfl) (fun _ _ _ h => h) (Or.inl ⟨rfl, ?_⟩) (by assumption) ?_
    rotate_left
    · intro wz hSw; (try dsimp only at hSw); go_simp; try (with_reducible rfl)
    try simp only [Act.put, List.setIfInBounds_toArray, List.set_cons_zero, List.set_cons_succ]
    refine wpAnyH_done (by kernel_rfl) ?_ _
    go_wp2
    go_ret2
    exact put_ret HG0.out HO.out HB.out
  · obtain ⟨y, hy, hk⟩ := isAt_true hf
    have HGY := Lib.hid (get_yes HPK.out hy hk)
    have HD : Hid (insF zs x0 = zs.take p ++ ([x0] ++ zs.drop (p + 1))) := by show _ = _; rw [HIN.out, ← parts_low HPK.out, ← parts_high1 HS.out HPK.out hf]; rfl
    have hpn1 : p + 1 ≤ n := by have := (List.getElem?_eq_some_iff.mp hy).1; have := HL.out; omega
    have hpl : (p : Int) < n := by omega
    obtain ⟨blk, off, rfl, hbB, y', hy', hcell⟩ := HZ.out.get (k := p) (by omega)
    obtain rfl : y' = y := by rw [hy] at hy'; injection hy' with e; exact e.symm
    obtain ⟨e0, e1, e2, e3, e4, e5, e6, e7⟩ := cellsP_at hcell
    replace e0 := ((HB.out.mono hB).cell (p := ⟨blk, off + p * 8, none⟩) hbB).trans e0
    replace e1 := ((HB.out.mono hB).cell (p := ⟨blk, off + p * 8 + 1, none⟩) hbB).trans e1
    replace e2 := ((HB.out.mono hB).cell (p := ⟨blk, off + p * 8 + 2, none⟩) hbB).trans e2
    replace e3 := ((HB.out.mono hB).cell (p := ⟨blk, off + p * 8 + 3, none⟩) hbB).trans e3
    replace e4 := ((HB.out.mono hB).cell (p := ⟨blk, off + p * 8 + 4, none⟩) hbB).trans e4
    replace e5 := ((HB.out.mono hB).cell (p := ⟨blk, off + p * 8 + 5, none⟩) hbB).trans e5
    replace e6 := ((HB.out.mono hB).cell (p := ⟨blk, off + p * 8 + 6, none⟩) hbB).trans e6
    replace e7 := ((HB.out.mono hB).cell (p := ⟨blk, off + p * 8 + 7, none⟩) hbB).trans e7
    have hbl : blk < w1.heap.size := by have := HB.out.size; omega
    clear hf hy hk hy' hcell
    have HRY := Lib.hid (HR.out y')
    have HPO := Lib.hid (PO.out y' HGY.out)
    have HPN := Lib.hid (PNO.out y' HGY.out)
    unfold itmV at HRY
    generalize replF x0 y' = R at *
    generalize y'.key = key2 at *
    generalize y'.ver.id = d2 at *
    generalize y'.ver.seq = a2 at *
    generalize y'.ver.stamp = s2 at *
    generalize y'.dead = dead2 at *
    generalize fl y'.x = fx2 at *
    generalize fl y'.y = fy2 at *
    generalize y'.text = text2 at *
    generalize y'.held = held2 at *
    go_upto_region 4 with fail
    refine wp_region_held_drew (S := fun w' => w'.cell? ⟨w.heap.size, 0, none⟩ = some (.int .i64 key) ∧ w'.cell? ⟨w.heap.size, 1, none⟩ = some (.string d) ∧ w'.cell? ⟨w.heap.size, 2, none⟩ = some (.int .i64 a) ∧ w'.cell? ⟨w.heap.size, 3, none⟩ = some (.int .i64 s) ∧ w'.cell? ⟨w.heap.size, 4, none⟩ = some (.bool dead) ∧ w'.cell? ⟨w.heap.size, 5, none⟩ = some (.complex .f64 fx fy) ∧ w'.cell? ⟨w.heap.size, 6, none⟩ = some (.string text) ∧ w'.cell? ⟨w.heap.size, 7, none⟩ = some (.bool held) ∧ w'.cell? ⟨blk, off + p * 8, none⟩ = some (.int .i64 key2) ∧ w'.cell? ⟨blk, off + p * 8 + 1, none⟩ = some (.string d2) ∧ w'.cell? ⟨blk, off + p * 8 + 2, none⟩ = some (.int .i64 a2) ∧ w'.cell? ⟨blk, off + p * 8 + 3, none⟩ = some (.int .i64 s2) ∧ w'.cell? ⟨blk, off + p * 8 + 4, none⟩ = some (.bool dead2) ∧ w'.cell? ⟨blk, off + p * 8 + 5, none⟩ = some (.complex .f64 fx2 fy2) ∧ w'.cell? ⟨blk, off + p * 8 + 6, none⟩ = some (.string text2) ∧ w'.cell? ⟨blk, off + p * 8 + 7, none⟩ = some (.bool held2)) (by kernel_rfl) ⟨k0, k1, k2, k3, k4, k5, k6, k7, e0, e1, e2, e3, e4, e5, e6, e7⟩ (fun hHeld => ?_)
    refine wpAnyH_take (i := 0) (oi := { dst := some 29, op := Go.Op.load 46 (Go.Operand.tmp 3), type := 46, pos := "store.go:45", after := #[], guard := none }) (v := ?_) rfl (by kernel_rfl) (by kernel_rfl) (by kernel_rfl) (fun _ _ _ h => h) (Or.inl ⟨rfl, ?_⟩) (by assumption) ?_
    rotate_left
    · intro wz hSw; (try dsimp only at hSw); go_simp; try (with_reducible rfl)
    try simp only [Act.put, List.setIfInBounds_toArray, List.set_cons_zero, List.set_cons_succ]
    refine wpAnyH_take (i := 1) (oi := { dst := some 30, op := Go.Op.move (Go.Operand.tmp 0), type := 38, pos := "store.go:45", after := #[], guard := none }) (v := ?_) rfl (by kernel_rfl) (by kernel_rfl) (by kernel_rfl) (fun _ _ _ h => h) (Or.inl ⟨rfl, ?_⟩) (by assumption) ?_
    rotate_left
    · intro wz hSw; (try dsimp only at hSw); go_simp; try (with_reducible rfl)
    try simp only [Act.put, List.setIfInBounds_toArray, List.set_cons_zero, List.set_cons_succ]
    refine wpAnyH_take (i := 2) (oi := { dst := some 31, op := Go.Op.move (Go.Operand.tmp 6), type := 3, pos := "store.go:45", after := #[], guard := none }) (v := ?_) rfl (by kernel_rfl) (by kernel_rfl) (by kernel_rfl) (fun _ _ _ h => h) (Or.inl ⟨rfl, ?_⟩) (by assumption) ?_
    rotate_left
    · intro wz hSw; (try dsimp only at hSw); go_simp; try (with_reducible rfl)
    try simp only [Act.put, List.setIfInBounds_toArray, List.set_cons_zero, List.set_cons_succ]
    refine wpAnyH_take (i := 3) (oi := { dst := some 32, op := Go.Op.indexAddr 38 (Go.Operand.tmp 30) (Go.Operand.tmp 31), type := 0, pos := "store.go:45", after := #[{ on := 1, ground := Go.Ground.data }, { on := 2, ground := Go.Ground.data }], guard := none }) (v := ?_) rfl (by kernel_rfl) (by kernel_rfl) (by kernel_rfl) (fun _ _ _ h => h) (Or.inl ⟨rfl, ?_⟩) (by assumption) ?_
    rotate_left
    · intro wz hSw; (try dsimp only at hSw); go_simp; try (with_reducible rfl)
    try simp only [Act.put, List.setIfInBounds_toArray, List.set_cons_zero, List.set_cons_succ]
    refine wpAnyH_take (i := 4) (oi := { dst := some 33, op := Go.Op.load 46 (Go.Operand.tmp 32), type := 46, pos := "store.go:45", after := #[{ on := 3, ground := Go.Ground.data }], guard := none }) (v := ?_) rfl (by kernel_rfl) (by kernel_rfl) (by kernel_rfl) (fun _ _ _ h => h) (Or.inl ⟨rfl, ?_⟩) (by assumption) ?_
    rotate_left
    · intro wz hSw; (try dsimp only at hSw); go_simp; try (with_reducible rfl)
    try simp only [Act.put, List.setIfInBounds_toArray, List.set_cons_zero, List.set_cons_succ]
    refine wpAnyH_ready (rs := [5]) (by kernel_rfl) (by simp) ?_
    refine (AllReadyH.cons (o := { dst := some 34, op := Go.Op.call { callee := Go.Callee.value (Go.Operand.func 40), args := #[Go.Operand.tmp 29, Go.Operand.tmp 33], argTypes := #[46, 46] }, type := 4, pos := "store.go:45", after := #[{ on := 0, ground := Go.Ground.data }, { on := 4, ground := Go.Ground.data }], guard := none }) rfl (fun K hK => ?_) AllReadyH.nil)
    go_simp
    go_at_call 40
    refine (HRY.out _).mono ?_
    rintro e w2 ⟨rfl, hb⟩
    replace k0 := (hb.cell (p := ⟨w.heap.size, 0, none⟩) kz).trans k0
    replace k1 := (hb.cell (p := ⟨w.heap.size, 1, none⟩) kz).trans k1
    replace k2 := (hb.cell (p := ⟨w.heap.size, 2, none⟩) kz).trans k2
    replace k3 := (hb.cell (p := ⟨w.heap.size, 3, none⟩) kz).trans k3
    replace k4 := (hb.cell (p := ⟨w.heap.size, 4, none⟩) kz).trans k4
    replace k5 := (hb.cell (p := ⟨w.heap.size, 5, none⟩) kz).trans k5
    replace k6 := (hb.cell (p := ⟨w.heap.size, 6, none⟩) kz).trans k6
    replace k7 := (hb.cell (p := ⟨w.heap.size, 7, none⟩) kz).trans k7
    replace e0 := (hb.cell (p := ⟨blk, off + p * 8, none⟩) hbl).trans e0
    replace e1 := (hb.cell (p := ⟨blk, off + p * 8 + 1, none⟩) hbl).trans e1
    replace e2 := (hb.cell (p := ⟨blk, off + p * 8 + 2, none⟩) hbl).trans e2
    replace e3 := (hb.cell (p := ⟨blk, off + p * 8 + 3, none⟩) hbl).trans e3
    replace e4 := (hb.cell (p := ⟨blk, off + p * 8 + 4, none⟩) hbl).trans e4
    replace e5 := (hb.cell (p := ⟨blk, off + p * 8 + 5, none⟩) hbl).trans e5
    replace e6 := (hb.cell (p := ⟨blk, off + p * 8 + 6, none⟩) hbl).trans e6
    replace e7 := (hb.cell (p := ⟨blk, off + p * 8 + 7, none⟩) hbl).trans e7
    replace kz := Nat.lt_of_lt_of_le kz hb.size
    replace HB := Lib.hid (below_via HB.out hb HB.out.size ⟨rfl, rfl, rfl, rfl⟩)
    clear hb
    refine hK.out _ _ ⟨k0, k1, k2, k3, k4, k5, k6, k7, e0, e1, e2, e3, e4, e5, e6, e7⟩ (fun hHeld => ?_)
    clear hK K
    try simp only [Act.put, List.setIfInBounds_toArray, List.set_cons_zero, List.set_cons_succ]
    refine wpAnyH_take (i := 6) (oi := { dst := some 35, op := Go.Op.unOp Go.UnOp.not 4 (Go.Operand.tmp 34), type := 4, pos := "store.go:45", after := #[{ on := 5, ground := Go.Ground.data }], guard := none }) (v := ?_) rfl (by kernel_rfl) (by kernel_rfl) (by kernel_rfl) (fun _ _ _ h => h) (Or.inl ⟨rfl, ?_⟩) (by assumption) ?_
    rotate_left
    · intro wz hSw; (try dsimp only at hSw); go_simp; try (with_reducible rfl)
    try simp only [Act.put, List.setIfInBounds_toArray, List.set_cons_zero, List.set_cons_succ]
    refine wpAnyH_take (i := 7) (oi := { dst := some 28, op := Go.Op.assign (Go.Operand.tmp 35), type := 4, pos := "store.go:45", after := #[{ on := 6, ground := Go.Ground.data }, { on := 5, ground := Go.Ground.chain }], guard := none }) (v := ?_) rfl (by kernel_rfl) (by kernel_rfl) (by kernel_rfl) (fun _ _ _ h => h) (Or.inl ⟨rfl, ?_⟩) (by assumption) ?_
    rotate_left
    · intro wz hSw; (try dsimp only at hSw); go_simp; try (with_reducible rfl)
    try simp only [Act.put, List.setIfInBounds_toArray, List.set_cons_zero, List.set_cons_succ]
    refine wpAnyH_done (by kernel_rfl) ?_ _
    clear e0 e1 e2 e3 e4 e5 e6 e7 hHeld hbl kf0 kf1 kf2 kf3 kf4 kf5 kf6 kf7
    cases R
    · have HG0 := Lib.hid (HPN.out rfl)
      go_wp2_with fail
      refine (cloneR_any _ n c zs B w2 (Nat.le_trans hB HB.out.size) (HZ.out.keep (HB.out.mono hB)) (by omega)).mono ?_
      rintro e w3 ⟨A3, c3, rfl, ho, hb3⟩
      have HO := Lib.hid (rown_base ho HB.out.size)
      replace HB := Lib.hid (HB.out.trans (hb3.mono HB.out.size))
      clear ho hb3
      go_wp2
      go_ret2
      exact put_ret HG0.out HO.out HB.out
    · have HG0 := Lib.hid (HPO.out rfl)
      have hA0 : ∃ A0 : Option Addr, A0 = some ⟨blk, off, none⟩ := ⟨_, rfl⟩
      obtain ⟨A, hA⟩ := hA0
      rw [← hA] at h1 HZ ⊢
      clear hA
      obtain ⟨A', h2, h3⟩ := cut_from A n c (p + 1) hpn1 hnc
      rw [show ((p + 1 : Nat) : Int) = IntKind.i64.wrap ((p : Int) + 1) by rw [IntWalk.i64_in _ (by omega)]; omega] at h2
      have HA' := Lib.hid h3
      clear h3
      go_upto_region 6 with fail
      refine wp_region_held_drew (S := fun w' => w'.cell? ⟨w.heap.size, 0, none⟩ = some (.int .i64 key) ∧ w'.cell? ⟨w.heap.size, 1, none⟩ = some (.string d) ∧ w'.cell? ⟨w.heap.size, 2, none⟩ = some (.int .i64 a) ∧ w'.cell? ⟨w.heap.size, 3, none⟩ = some (.int .i64 s) ∧ w'.cell? ⟨w.heap.size, 4, none⟩ = some (.bool dead) ∧ w'.cell? ⟨w.heap.size, 5, none⟩ = some (.complex .f64 fx fy) ∧ w'.cell? ⟨w.heap.size, 6, none⟩ = some (.string text) ∧ w'.cell? ⟨w.heap.size, 7, none⟩ = some (.bool held)) (by kernel_rfl) ⟨k0, k1, k2, k3, k4, k5, k6, k7⟩ (fun hHeld => ?_)
      refine wpAnyH_take (i := 0) (oi := { dst := some 38, op := Go.Op.move (Go.Operand.tmp 0), type := 38, pos := "store.go:48", after := #[], guard := none }) (v := ?_) rfl (by kernel_rfl) (by kernel_rfl) (by kernel_rfl) (fun _ _ _ h => h) (Or.inl ⟨rfl, ?_⟩) (by assumption) ?_
      rotate_left
      · intro wz hSw; (try dsimp only at hSw); go_simp; try (with_reducible rfl)
      try simp only [Act.put, List.setIfInBounds_toArray, List.set_cons_zero, List.set_cons_succ]
      refine wpAnyH_take (i := 1) (oi := { dst := some 39, op := Go.Op.move (Go.Operand.tmp 6), type := 3, pos := "store.go:48", after := #[], guard := none }) (v := ?_) rfl (by kernel_rfl) (by kernel_rfl) (by kernel_rfl) (fun _ _ _ h => h) (Or.inl ⟨rfl, ?_⟩) (by assumption) ?_
      rotate_left
      · intro wz hSw; (try dsimp only at hSw); go_simp; try (with_reducible rfl)
      try simp only [Act.put, List.setIfInBounds_toArray, List.set_cons_zero, List.set_cons_succ]
      refine wpAnyH_take (i := 2) (oi := { dst := some 40, op := Go.Op.slice 38 (Go.Operand.tmp 38) none (some (Go.Operand.tmp 39)) none, type := 38, pos := "store.go:48", after := #[{ on := 0, ground := Go.Ground.data }, { on := 1, ground := Go.Ground.data }], guard := none }) (v := ?_) rfl (by kernel_rfl) (by kernel_rfl) (by kernel_rfl) (fun _ _ _ h => h) (Or.inl ⟨rfl, ?_⟩) (by assumption) ?_
      rotate_left
      · intro wz hSw; (try dsimp only at hSw); go_simp; try (with_reducible rfl)
      try simp only [Act.put, List.setIfInBounds_toArray, List.set_cons_zero, List.set_cons_succ]
      refine wpAnyH_take (i := 3) (oi := { dst := some 41, op := Go.Op.load 46 (Go.Operand.tmp 3), type := 46, pos := "store.go:48", after := #[], guard := none }) (v := ?_) rfl (by kernel_rfl) (by kernel_rfl) (by kernel_rfl) (fun _ _ _ h => h) (Or.inl ⟨rfl, ?_⟩) (by assumption) ?_
      rotate_left
      · intro wz hSw; (try dsimp only at hSw); go_simp; try (with_reducible rfl)
      try simp only [Act.put, List.setIfInBounds_toArray, List.set_cons_zero, List.set_cons_succ]
      refine wpAnyH_take (i := 5) (oi := { dst := some 43, op := Go.Op.move (Go.Operand.tmp 0), type := 38, pos := "store.go:48", after := #[], guard := none }) (v := ?_) rfl (by kernel_rfl) (by kernel_rfl) (by kernel_rfl) (fun _ _ _ h => h) (Or.inl ⟨rfl, ?_⟩) (by assumption) ?_
      rotate_left
      · intro wz hSw; (try dsimp only at hSw); go_simp; try (with_reducible rfl)
      try simp only [Act.put, List.setIfInBounds_toArray, List.set_cons_zero, List.set_cons_succ]
      refine wpAnyH_take (i := 6) (oi := { dst := some 44, op := Go.Op.move (Go.Operand.tmp 6), type := 3, pos := "store.go:48", after := #[], guard := none }) (v := ?_) rfl (by kernel_rfl) (by kernel_rfl) (by kernel_rfl) (fun _ _ _ h => h) (Or.inl ⟨rfl, ?_⟩) (by assumption) ?_
      rotate_left
      · intro wz hSw; (try dsimp only at hSw); go_simp; try (with_reducible rfl)
      try simp only [Act.put, List.setIfInBounds_toArray, List.set_cons_zero, List.set_cons_succ]
      refine wpAnyH_take (i := 7) (oi := { dst := some 45, op := Go.Op.binOp Go.BinOp.add 3 (Go.Operand.tmp 44) (Go.Operand.const (Go.Value.int Go.IntKind.i64 1)) 3, type := 3, pos := "store.go:48", after := #[{ on := 6, ground := Go.Ground.data }], guard := none }) (v := ?_) rfl (by kernel_rfl) (by kernel_rfl) (by kernel_rfl) (fun _ _ _ h => h) (Or.inl ⟨rfl, ?_⟩) (by assumption) ?_
      rotate_left
      · intro wz hSw; (try dsimp only at hSw); go_simp; try (with_reducible rfl)
      try simp only [Act.put, List.setIfInBounds_toArray, List.set_cons_zero, List.set_cons_succ]
      refine wpAnyH_take (i := 8) (oi := { dst := some 46, op := Go.Op.slice 38 (Go.Operand.tmp 43) (some (Go.Operand.tmp 45)) none none, type := 38, pos := "store.go:48", after := #[{ on := 5, ground := Go.Ground.data }, { on := 7, ground := Go.Ground.data }], guard := none }) (v := ?_) rfl (by kernel_rfl) (by kernel_rfl) (by kernel_rfl) (fun _ _ _ h => h) (Or.inl ⟨rfl, ?_⟩) (by assumption) ?_
      rotate_left
      · intro wz hSw; (try dsimp only at hSw); go_simp; try (with_reducible rfl)
      try simp only [Act.put, List.setIfInBounds_toArray, List.set_cons_zero, List.set_cons_succ]
      refine wpAnyH_ready (rs := [4]) (by kernel_rfl) (by simp) ?_
      refine (AllReadyH.cons (o := { dst := some 42, op := Go.Op.buildSlice 38 1 #[(0, Go.Operand.tmp 41)], type := 38, pos := "store.go:48", after := #[{ on := 3, ground := Go.Ground.data }], guard := none }) rfl (fun K hK => ?_) AllReadyH.nil)
      go_simp
      have hb1 : Below w2.heap.size w2 (w2.alloc (.cells #[.int .i64 key, .string d, .int .i64 a, .int .i64 s, .bool dead, .complex .f64 fx fy, .string text, .bool held] 46)).drew := ((Below.refl _ _).alloc (Nat.le_refl _) _).drew
      replace HB := Lib.hid (HB.out.trans (hb1.mono HB.out.size))
      have HX1 : Hid (RowAt cellsP 8 (w2.alloc (.cells #[.int .i64 key, .string d, .int .i64 a, .int .i64 s, .bool dead, .complex .f64 fx fy, .string text, .bool held] 46)).drew (w2.heap.size + 1) (some ⟨w2.heap.size, 0, none⟩) 1 [x0]) := one_row rowS (by rw [HX.out]; exact heap_alloc_new w2 _)
      have hX : w2.heap.size + 1 ≤ (w2.alloc (.cells #[.int .i64 key, .string d, .int .i64 a, .int .i64 s, .bool dead, .complex .f64 fx fy, .string text, .bool held] 46)).drew.heap.size := by show _ ≤ (w2.alloc _).heap.size; simp
      replace k0 := (hb1.cell (p := ⟨w.heap.size, 0, none⟩) kz).trans k0
      replace k1 := (hb1.cell (p := ⟨w.heap.size, 1, none⟩) kz).trans k1
      replace k2 := (hb1.cell (p := ⟨w.heap.size, 2, none⟩) kz).trans k2
      replace k3 := (hb1.cell (p := ⟨w.heap.size, 3, none⟩) kz).trans k3
      replace k4 := (hb1.cell (p := ⟨w.heap.size, 4, none⟩) kz).trans k4
      replace k5 := (hb1.cell (p := ⟨w.heap.size, 5, none⟩) kz).trans k5
      replace k6 := (hb1.cell (p := ⟨w.heap.size, 6, none⟩) kz).trans k6
      replace k7 := (hb1.cell (p := ⟨w.heap.size, 7, none⟩) kz).trans k7
      replace kz := Nat.lt_of_lt_of_le kz hb1.size
      have HZ1 := Lib.hid ((HZ.out.keep (HB.out.mono hB)).more (Nat.le_trans hB HB.out.size))
      clear hb1
      generalize (w2.alloc (.cells #[.int .i64 key, .string d, .int .i64 a, .int .i64 s, .bool dead, .complex .f64 fx fy, .string text, .bool held] 46)).drew = u2 at *
      generalize w2.heap.size = G1 at *
      refine hK.out _ _ ⟨k0, k1, k2, k3, k4, k5, k6, k7⟩ (fun hHeld => ?_)
      clear hK K
      try simp only [Act.put, List.setIfInBounds_toArray, List.set_cons_zero, List.set_cons_succ]
      refine wpAnyH_ready (rs := [9]) (by kernel_rfl) (by simp) ?_
      refine (AllReadyH.cons (o := { dst := some 47, op := Go.Op.buildSlice 107 3 #[(0, Go.Operand.tmp 40), (1, Go.Operand.tmp 42), (2, Go.Operand.tmp 46)], type := 107, pos := "store.go:48", after := #[{ on := 2, ground := Go.Ground.data }, { on := 4, ground := Go.Ground.data }, { on := 8, ground := Go.Ground.data }], guard := none }) rfl (fun K hK => ?_) AllReadyH.nil)
      go_simp
      have hb1 : Below u2.heap.size u2 (u2.alloc (.cells #[.slice A p c, .slice (some ⟨G1, 0, none⟩) 1 1, .slice A' (n - (p + 1)) (c - (p + 1))] 38)) := (Below.refl _ _).alloc (Nat.le_refl _) _
      replace HB := Lib.hid (HB.out.trans (hb1.mono HB.out.size))
      have HG : Hid ((u2.alloc (.cells #[.slice A p c, .slice (some ⟨G1, 0, none⟩) 1 1, .slice A' (n - (p + 1)) (c - (p + 1))] 38)).heap[u2.heap.size]? = some (.cells #[.slice A p c, .slice (some ⟨G1, 0, none⟩) 1 1, .slice A' (n - (p + 1)) (c - (p + 1))] 38)) := heap_alloc_new u2 _
      replace HX1 := Lib.hid ((HX1.out.more hX).keep hb1)
      replace HZ1 := Lib.hid (HZ1.out.keep hb1)
      replace k0 := (hb1.cell (p := ⟨w.heap.size, 0, none⟩) kz).trans k0
      replace k1 := (hb1.cell (p := ⟨w.heap.size, 1, none⟩) kz).trans k1
      replace k2 := (hb1.cell (p := ⟨w.heap.size, 2, none⟩) kz).trans k2
      replace k3 := (hb1.cell (p := ⟨w.heap.size, 3, none⟩) kz).trans k3
      replace k4 := (hb1.cell (p := ⟨w.heap.size, 4, none⟩) kz).trans k4
      replace k5 := (hb1.cell (p := ⟨w.heap.size, 5, none⟩) kz).trans k5
      replace k6 := (hb1.cell (p := ⟨w.heap.size, 6, none⟩) kz).trans k6
      replace k7 := (hb1.cell (p := ⟨w.heap.size, 7, none⟩) kz).trans k7
      replace kz := Nat.lt_of_lt_of_le kz hb1.size
      have hw2 := hb1.size
      clear hb1
      generalize (u2.alloc (.cells #[.slice A p c, .slice (some ⟨G1, 0, none⟩) 1 1, .slice A' (n - (p + 1)) (c - (p + 1))] 38)) = u3 at *
      generalize u2.heap.size = G2 at *
      refine hK.out _ _ ⟨k0, k1, k2, k3, k4, k5, k6, k7⟩ (fun hHeld => ?_)
      clear hK K
      try simp only [Act.put, List.setIfInBounds_toArray, List.set_cons_zero, List.set_cons_succ]
      refine wpAnyH_ready (rs := [10]) (by kernel_rfl) (by simp) ?_
      refine (AllReadyH.cons (o := { dst := some 48, op := Go.Op.call { callee := Go.Callee.value (Go.Operand.func 39), args := #[Go.Operand.tmp 47], argTypes := #[107] }, type := 38, pos := "store.go:48", after := #[{ on := 9, ground := Go.Ground.data }], guard := none }) rfl (fun K hK => ?_) AllReadyH.nil)
      go_simp
      go_at_call 39
      refine (concatR_three G2 c 1 (c - (p + 1)) p 1 (n - (p + 1)) A (some ⟨G1, 0, none⟩) A' (zs.take p) [x0] (zs.drop ((p + 1))) 38 (0, 0) G2 _ hw2 HG.out (HZ1.out.take hpn) HX1.out (HA'.out _ _ _ HZ1.out) (by omega) _).mono ?_
      rw [← HD.out]
      rintro e w4 ⟨A4, c4, rfl, ho, hb4⟩
      replace k0 := (hb4.cell (p := ⟨w.heap.size, 0, none⟩) kz).trans k0
      replace k1 := (hb4.cell (p := ⟨w.heap.size, 1, none⟩) kz).trans k1
      replace k2 := (hb4.cell (p := ⟨w.heap.size, 2, none⟩) kz).trans k2
      replace k3 := (hb4.cell (p := ⟨w.heap.size, 3, none⟩) kz).trans k3
      replace k4 := (hb4.cell (p := ⟨w.heap.size, 4, none⟩) kz).trans k4
      replace k5 := (hb4.cell (p := ⟨w.heap.size, 5, none⟩) kz).trans k5
      replace k6 := (hb4.cell (p := ⟨w.heap.size, 6, none⟩) kz).trans k6
      replace k7 := (hb4.cell (p := ⟨w.heap.size, 7, none⟩) kz).trans k7
      have HO := Lib.hid (rown_base ho HB.out.size)
      replace HB := Lib.hid (HB.out.trans (hb4.mono HB.out.size))
      clear ho hb4 HG HX1 HZ1
      refine hK.out _ _ ⟨k0, k1, k2, k3, k4, k5, k6, k7⟩ (fun hHeld => ?_)
      clear hK K
      try simp only [Act.put, List.setIfInBounds_toArray, List.set_cons_zero, List.set_cons_succ]
      refine wpAnyH_take (i := 11) (oi := { dst := some 4, op := Go.Op.assign (Go.Operand.tmp 48), type := 38, pos := "store.go:48", after := #[{ on := 10, ground := Go.Ground.data }, { on := 10, ground := Go.Ground.chain }, { on := 0, ground := Go.Ground.phase }, { on := 1, ground := Go.Ground.phase }, { on := 2, ground := Go.Ground.phase }, { on := 3, ground := Go.Ground.phase }, { on := 4, ground := Go.Ground.phase }, { on := 5, ground := Go.Ground.phase }, { on := 6, ground := Go.Ground.phase }, { on := 7, ground := Go.Ground.phase }, { on := 8, ground := Go.Ground.phase }, { on := 9, ground := Go.Ground.phase }, { on := 10, ground := Go.Ground.phase }], guard := none }) (v := ?_) rfl (by kernel_rfl) (by kernel_rfl) (by kernel_rfl) (fun _ _ _ h => h) (Or.inl ⟨rfl, ?_⟩) (by assumption) ?_
      rotate_left
      · intro wz hSw; (try dsimp only at hSw); go_simp; try (with_reducible rfl)
      try simp only [Act.put, List.setIfInBounds_toArray, List.set_cons_zero, List.set_cons_succ]
      refine wpAnyH_take (i := 12) (oi := { dst := some 5, op := Go.Op.assign (Go.Operand.const (Go.Value.bool true)), type := 4, pos := "store.go:48", after := #[{ on := 11, ground := Go.Ground.chain }, { on := 0, ground := Go.Ground.phase }, { on := 1, ground := Go.Ground.phase }, { on := 2, ground := Go.Ground.phase }, { on := 3, ground := Go.Ground.phase }, { on := 4, ground := Go.Ground.phase }, { on := 5, ground := Go.Ground.phase }, { on := 6, ground := Go.Ground.phase }, { on := 7, ground := Go.Ground.phase }, { on := 8, ground := Go.Ground.phase }, { on := 9, ground := Go.Ground.phase }, { on := 10, ground := Go.Ground.phase }, { on := 11, ground := Go.Ground.phase }], guard := none }) (v := ?_) rfl (by kernel_rfl) (by kernel_rfl) (by kernel_rfl) (fun _ _ _ h => h) (Or.inl ⟨rfl, ?_⟩) (by assumption) ?_
      rotate_left
      · intro wz hSw; (try dsimp only at hSw); go_simp; try (with_reducible rfl)
      try simp only [Act.put, List.setIfInBounds_toArray, List.set_cons_zero, List.set_cons_succ]
      refine wpAnyH_done (by kernel_rfl) ?_ _
      go_wp2
      go_ret2
      exact put_ret HG0.out HO.out HB.out
end Go.Proofs.Ytpaiigminmakgaa
