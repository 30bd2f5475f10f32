/- frame: lists' bytes. -/
import Derived.Test.YtbookbgfipbaoaaGreatDoorH4
import Derived.Test.YtbookbgfipbaoaaGreatDoorH6
import Derived.Test.YtbookbgfipbaoaaGreatDoorH8
namespace Go.Proofs.YtbookbgfipbaoaaGreatDoor
open Go.RowKit

theorem Grew.via {B : Nat} {v v1 v2 : Value} {w w1 W w2 : World} {n1 n2 : Nat} {b1 b2 : List UInt8} (h : Grew B v w v1 n1 b1 w1) (k : Grew B v1 W v2 n2 b2 w2) (hs : W.os = w1.os ∧ W.tape = w1.tape ∧ W.output = w1.output ∧ W.heap = w1.heap) : Grew B v w v2 n2 b2 w2 := by
  obtain ⟨h1, h2, h3, h4⟩ := hs
  refine h.trans ⟨k.own, ⟨k.grown.os.trans h1, k.grown.tape.trans h2, k.grown.output.trans h3, ?_, fun b hb hne => ?_⟩, fun b hb hne => ?_⟩
  · rw [← h4]; exact k.grown.size
  · rw [← h4]; exact k.grown.block b (by rw [h4]; exact hb) hne
  · exact k.ap b (by rw [h4]; exact hb) hne

def atB (x : At) : List UInt8 := txtB x.1 ++ numB x.2
def allB {α : Type} (f : α → List UInt8) (l : List α) : List UInt8 := numB l.length ++ l.flatMap f
def rowB (x : ByteArray × List At) : List UInt8 := txtB x.1 ++ allB atB x.2
def knownB (x : ByteArray × (Int × List Int)) : List UInt8 := (txtB x.1 ++ numB x.2.1) ++ allB numB x.2.2
theorem numB_len (n : Int) (h : n ≤ 9223372036854775807) : (numB n).length ≤ 9 := By.digits_le n h
theorem txtB_len (s : ByteArray) (h : s.size ≤ 500000000) : (txtB s).length ≤ 9 + s.size := by
  have h1 := By.digits_le (s.size : Int) (by omega)
  rw [Int.toNat_natCast] at h1
  unfold txtB
  rw [List.length_append, show s.data.toList.length = s.size from Array.length_toList]
  omega
def OkAt (x : At) : Prop := x.1.size ≤ 1000 ∧ x.2 ≤ 9223372036854775807
theorem atB_len {x : At} (h : OkAt x) : (atB x).length ≤ 2000 := by
  have h1 := txtB_len x.1 (by have := h.1; omega)
  have h2 := numB_len x.2 h.2
  unfold atB
  rw [List.length_append]
  have := h.1
  omega
theorem flat_len {α : Type} (f : α → List UInt8) (m : Nat) : ∀ (l : List α), (∀ x ∈ l, (f x).length ≤ m) → (l.flatMap f).length ≤ l.length * m
  | [], _ => by simp
  | x :: r, h => by
    have h1 := flat_len f m r fun y hy => h y (List.mem_cons_of_mem _ hy)
    have h2 := h x List.mem_cons_self
    rw [List.flatMap_cons, List.length_append, List.length_cons, Nat.succ_mul]
    omega
/-- What is laid when k of them are. -/
def halfB {α : Type} (f : α → List UInt8) (bs : List UInt8) (zs : List α) (k : Nat) : List UInt8 := bs ++ (numB zs.length ++ (zs.take k).flatMap f)
theorem half_zero {α : Type} (f : α → List UInt8) (bs : List UInt8) (zs : List α) : halfB f bs zs 0 = bs ++ numB zs.length := by simp [halfB]
theorem half_all {α : Type} (f : α → List UInt8) (bs : List UInt8) (zs : List α) : halfB f bs zs zs.length = bs ++ allB f zs := by simp [halfB, allB]
theorem half_succ {α : Type} (f : α → List UInt8) (bs : List UInt8) {zs : List α} {k : Nat} {x : α} (h : zs[k]? = some x) : halfB f bs zs (k + 1) = halfB f bs zs k ++ f x := by
  simp [halfB, List.take_add_one, h]
theorem half_len {α : Type} (f : α → List UInt8) (bs : List UInt8) (zs : List α) (k : Nat) : (halfB f bs zs k).length ≤ bs.length + (allB f zs).length := by
  have h : (zs.flatMap f).length = ((zs.take k).flatMap f).length + ((zs.drop k).flatMap f).length := by
    rw [← List.length_append, ← List.flatMap_append, List.take_append_drop]
  simp only [halfB, allB, List.length_append]
  omega
theorem VecAt.get {w wr : World} {B : Nat} {A : Option Addr} {n : Nat} {zs : List At} (h : VecAt w B A n zs) (hb : Below B w wr) {k : Nat} (hk : k < n) :
    ∃ blk off x, A = some ⟨blk, off, none⟩ ∧ blk < B ∧ zs[k]? = some x ∧ wr.cell? ⟨blk, off + k * 2, none⟩ = some (.string x.1) ∧ wr.cell? ⟨blk, off + k * 2 + 1, none⟩ = some (.int .i64 x.2) := by
  obtain ⟨b, off, e, hlt, hc⟩ := (h.keep hb).2 (by omega)
  have hk' : k < zs.length := by rw [h.1]; exact hk
  refine ⟨b, off, zs[k], e, hlt, List.getElem?_eq_getElem hk', ?_⟩
  have := hc k hk
  rw [List.getD_eq_getElem?_getD, List.getElem?_eq_getElem hk'] at this
  exact this
set_option maxRecDepth 100000 in
set_option maxHeartbeats 4000000 in
theorem putAt_any (A : Option Addr) (c : Nat) (bs : List UInt8) (B : Nat) (x : At) (w : World) (hown : w.ownsRow B 5 1 (.slice A bs.length c) bs.length (By.bytesV bs)) (hB : B ≤ w.heap.size) (hl : bs.length ≤ 1000000000) (hx : OkAt x) :
    Calls Tryz.prog 40 #[.slice A bs.length c, .agg #[.string x.1, .int .i64 x.2]] w (PutRet B (.slice A bs.length c) (bs ++ atB x) w) := by
  obtain ⟨hx1, hx2⟩ := hx
  have HR : Hid (bs ++ atB x = (bs ++ txtB x.1) ++ numB x.2) := by simp [atB, Hid]
  generalize bs ++ atB x = RS at *
  have hne0 := own_ne hown (Nat.le_refl _)
  have HG0 : Hid (Grew B (.slice A bs.length c) w (.slice A bs.length c) bs.length bs (w.alloc (.cells #[.string x.1, .int .i64 x.2] 95))) := (Grew.refl hown).below ((Below.refl _ _).alloc (Nat.le_refl _) _)
  have hB0 : B ≤ (w.alloc (.cells #[.string x.1, .int .i64 x.2] 95)).heap.size := by simp <;> omega
  clear hown
  go_enter Tryz.func40, Tryz.ntmps40
  go_upto_region 1 with fail
  have k0 : (w.alloc (.cells #[.string x.1, .int .i64 x.2] 95)).cell? ⟨w.heap.size, 0, none⟩ = some (.string x.1) := by simp [go_sem]
  have kf0 : (w.alloc (.cells #[.string x.1, .int .i64 x.2] 95)).frozen? ⟨w.heap.size, 0, none⟩ = false := by simp [go_sem]
  have k1 : (w.alloc (.cells #[.string x.1, .int .i64 x.2] 95)).cell? ⟨w.heap.size, 1, none⟩ = some (.int .i64 x.2) := by simp [go_sem]
  have kf1 : (w.alloc (.cells #[.string x.1, .int .i64 x.2] 95)).frozen? ⟨w.heap.size, 1, none⟩ = false := by simp [go_sem]
  have kz : w.heap.size < (w.alloc (.cells #[.string x.1, .int .i64 x.2] 95)).heap.size := by simp <;> omega
  generalize (w.alloc (.cells #[.string x.1, .int .i64 x.2] 95)) = W at *
  refine wp_region_held_drew (S := fun w' => w'.cell? ⟨w.heap.size, 0, none⟩ = some (.string x.1) ∧ w'.cell? ⟨w.heap.size, 1, none⟩ = some (.int .i64 x.2)) (by kernel_rfl) ⟨k0, k1⟩ (fun hHeld => ?_)
  refine tk 0 ?_
  refine tk 1 ?_
  refine tk 2 ?_
  refine tk 4 ?_
  refine tk 5 ?_
  refine wpAnyH_ready (rs := [3]) (by kernel_rfl) (by simp) ?_
  refine ac (fun K hK => ?_) AllReadyH.nil
  go_simp
  go_at_call 38
  refine (putId_any A c bs B x.1 _ (by exact HG0.out.own) (by exact hB0) (by omega) (by omega)).mono ?_
  generalize hL1 : bs ++ txtB x.1 = L1 at *
  have hl1 : L1.length ≤ bs.length + (9 + x.1.size) := by rw [← hL1, List.length_append]; have := txtB_len x.1 (by omega); omega
  clear hL1
  rintro e v1 ⟨A1, c1, rfl, hg⟩
  have hne1 := hg.ap _ (by exact kz) hne0
  replace k0 := (hg.cell (by exact kz) hne0 0).trans k0
  replace kf0 := (hg.frozen (by exact kz) hne0 0).trans kf0
  replace k1 := (hg.cell (by exact kz) hne0 1).trans k1
  replace kf1 := (hg.frozen (by exact kz) hne0 1).trans kf1
  replace kz := Nat.lt_of_lt_of_le kz hg.grown.size
  have hB1 := Nat.le_trans hB0 hg.grown.size
  have HG1 := Lib.hid (HG0.out.via hg ⟨rfl, rfl, rfl, rfl⟩)
  clear hg
  refine hK.out _ _ ⟨k0, k1⟩ (fun hHeld => ?_)
  clear hK K
  try simp only [Act.put, List.setIfInBounds_toArray, List.set_cons_zero, List.set_cons_succ]
  refine wpAnyH_ready (rs := [6]) (by kernel_rfl) (by simp) ?_
  refine ac (fun K hK => ?_) AllReadyH.nil
  go_simp
  go_at_call 37
  refine (putNum_any A1 c1 L1 B x.2 _ (by exact HG1.out.own) (by exact hB1) (by omega) (by omega)).mono ?_
  generalize hL2 : L1 ++ numB x.2 = L2 at *
  have hl2 : L2.length ≤ L1.length + (9) := by rw [← hL2, List.length_append]; have := numB_len x.2 (by omega); omega
  clear hL2
  rintro e v2 ⟨A2, c2, rfl, hg⟩
  have hne2 := hg.ap _ (by exact kz) hne1
  replace k0 := (hg.cell (by exact kz) hne1 0).trans k0
  replace kf0 := (hg.frozen (by exact kz) hne1 0).trans kf0
  replace k1 := (hg.cell (by exact kz) hne1 1).trans k1
  replace kf1 := (hg.frozen (by exact kz) hne1 1).trans kf1
  replace kz := Nat.lt_of_lt_of_le kz hg.grown.size
  have hB2 := Nat.le_trans hB1 hg.grown.size
  have HG2 := Lib.hid (HG1.out.via hg ⟨rfl, rfl, rfl, rfl⟩)
  clear hg
  refine hK.out _ _ ⟨k0, k1⟩ (fun hHeld => ?_)
  clear hK K
  try simp only [Act.put, List.setIfInBounds_toArray, List.set_cons_zero, List.set_cons_succ]
  refine tk 7 ?_
  refine wpAnyH_done (by kernel_rfl) ?_ _
  go_wp2
  go_ret
  rw [HR.out]
  exact ⟨A2, c2, rfl, HG2.out⟩

set_option maxRecDepth 100000 in
set_option maxHeartbeats 4000000 in
theorem putAllAt_any (A : Option Addr) (c : Nat) (bs : List UInt8) (B : Nat) (Av : Option Addr) (n cv : Nat) (zs : List At) (w : World) (hown : w.ownsRow B 5 1 (.slice A bs.length c) bs.length (By.bytesV bs)) (hB : B ≤ w.heap.size) (hz : VecAt w B Av n zs) (hn : n ≤ 1000000) (hx : ∀ x ∈ zs, OkAt x) (hl : bs.length + (allB atB zs).length ≤ 1000000000) :
    Calls Tryz.prog 39 #[.slice A bs.length c, .slice Av n cv, .func (.func 40) #[] #[]] w (PutRet B (.slice A bs.length c) (bs ++ allB atB zs) w) := by
  have hzn : zs.length = n := hz.1
  have hhl := half_len atB bs zs
  have HA := Lib.hid (half_all atB bs zs)
  have H0 := Lib.hid (half_zero atB bs zs)
  have HS : Hid (∀ k x, zs[k]? = some x → halfB atB bs zs (k + 1) = halfB atB bs zs k ++ atB x) := fun k x h => half_succ atB bs h
  rw [hzn] at HA H0
  have HX := Lib.hid hx
  have HZ := Lib.hid hz
  have HO := Lib.hid hown
  have HC := Lib.hid (putNum_any A c bs B n w hown hB (by omega) (by omega))
  clear hx hz hown
  generalize halfB atB bs zs = hf at *
  generalize bs ++ allB atB zs = RS at *
  go_enter Tryz.func39, Tryz.ntmps39
  go_wp2_with fail
  refine HC.out.mono ?_
  rw [← H0.out]
  rintro e w1 ⟨A1, c1, rfl, hg⟩
  have HG := Lib.hid hg
  clear hg HC H0
  go_wp2
  go_loopw [0, 15] (fun s0 i wr => ∃ (k : Nat) (A' : Option Addr) (c' : Nat), k ≤ n ∧ i = .int .i64 k ∧ s0 = .slice A' (hf k).length c' ∧ Hid (Grew B (.slice A bs.length c) w (.slice A' (hf k).length c') (hf k).length (hf k) wr)) (fun _ i _ => n - (intOf i).toNat)
  case atStart => exact ⟨0, A1, c1, by omega, rfl, rfl, HG⟩
  case round =>
    clear HG
    obtain ⟨k, A', c', hk, rfl, rfl, HG⟩ := hrel
    by_cases hlt : k < n
    · have hi1 : (k : Int) < n := by omega
      have hlow := HG.out.low HO.out hB
      have hsz := hlow.size
      obtain ⟨blk, off, x, rfl, hbB, hmk, e0, e1⟩ := HZ.out.get hlow hlt
      have hhk := hhl k
      have hs1 := HS.out _ _ hmk
      have hHX := HX.out _ (List.mem_of_getElem? hmk)
      have hb1 : Below wr.heap.size wr (wr.alloc (.cells #[.string x.1, .int .i64 x.2] 95)) := (Below.refl _ _).alloc (Nat.le_refl _) _
      have HG1 := Lib.hid (HG.out.below hb1)
      have hB1 : B ≤ (wr.alloc (.cells #[.string x.1, .int .i64 x.2] 95)).heap.size := by simp <;> omega
      have HCX := Lib.hid (putAt_any A' c' (hf k) B x _ HG1.out.own hB1 (by omega) hHX)
      rw [← hs1] at HCX
      clear hs1 hlow hmk
      go_wp2_with fail
      refine HCX.out.mono ?_
      rintro e w2 ⟨A2, c2, rfl, hg⟩
      have HG2 := Lib.hid (HG1.out.trans hg)
      clear hg HCX HG1 HG hb1
      go_wp2
      go_roundw
      case rel => exact ⟨k + 1, A2, c2, by omega, by go_num, rfl, HG2⟩
      case measure => simp [intOf]; omega
    · obtain rfl : k = n := by omega
      have hi1 : ¬ (k : Int) < k := by omega
      go_wp2
      go_ret
      rw [← HA.out]
      exact ⟨A', c', rfl, HG.out⟩

set_option maxRecDepth 100000 in
set_option maxHeartbeats 4000000 in
theorem putRow_any (A : Option Addr) (c : Nat) (bs : List UInt8) (B : Nat) (r : Mx.Hd) (w : World) (hown : w.ownsRow B 5 1 (.slice A bs.length c) bs.length (By.bytesV bs)) (hB : B ≤ w.heap.size) (hl : bs.length ≤ 890000000) (h1 : r.id.size ≤ 1000) (h2 : r.v.length ≤ 10000) (hv : ∀ x ∈ r.v, OkAt x) (hz : VecAt w B r.A r.v.length r.v) :
    Calls Tryz.prog 45 #[.slice A bs.length c, .agg #[.string r.id, .slice r.A r.v.length r.c]] w (PutRet B (.slice A bs.length c) (bs ++ rowB (r.id, r.v)) w) := by
  have HZ := Lib.hid hz
  have HO := Lib.hid hown
  have hvl : (allB atB r.v).length ≤ 100000000 := by
    have h3 := flat_len atB 2000 r.v fun x hx => atB_len (hv x hx)
    have h4 := numB_len (r.v.length : Int) (by omega)
    unfold allB
    rw [List.length_append]
    omega
  clear hz
  have HR : Hid (bs ++ rowB (r.id, r.v) = (bs ++ txtB r.id) ++ allB atB r.v) := by simp [rowB, Hid]
  generalize bs ++ rowB (r.id, r.v) = RS at *
  have hne0 := own_ne hown (Nat.le_refl _)
  have HG0 : Hid (Grew B (.slice A bs.length c) w (.slice A bs.length c) bs.length bs (w.alloc (.cells #[.string r.id, .slice r.A r.v.length r.c] 105))) := (Grew.refl hown).below ((Below.refl _ _).alloc (Nat.le_refl _) _)
  have hB0 : B ≤ (w.alloc (.cells #[.string r.id, .slice r.A r.v.length r.c] 105)).heap.size := by simp <;> omega
  clear hown
  go_enter Tryz.func45, Tryz.ntmps45
  go_upto_region 1 with fail
  have k0 : (w.alloc (.cells #[.string r.id, .slice r.A r.v.length r.c] 105)).cell? ⟨w.heap.size, 0, none⟩ = some (.string r.id) := by simp [go_sem]
  have kf0 : (w.alloc (.cells #[.string r.id, .slice r.A r.v.length r.c] 105)).frozen? ⟨w.heap.size, 0, none⟩ = false := by simp [go_sem]
  have k1 : (w.alloc (.cells #[.string r.id, .slice r.A r.v.length r.c] 105)).cell? ⟨w.heap.size, 1, none⟩ = some (.slice r.A r.v.length r.c) := by simp [go_sem]
  have kf1 : (w.alloc (.cells #[.string r.id, .slice r.A r.v.length r.c] 105)).frozen? ⟨w.heap.size, 1, none⟩ = false := by simp [go_sem]
  have kz : w.heap.size < (w.alloc (.cells #[.string r.id, .slice r.A r.v.length r.c] 105)).heap.size := by simp <;> omega
  generalize (w.alloc (.cells #[.string r.id, .slice r.A r.v.length r.c] 105)) = W at *
  refine wp_region_held_drew (S := fun w' => w'.cell? ⟨w.heap.size, 0, none⟩ = some (.string r.id) ∧ w'.cell? ⟨w.heap.size, 1, none⟩ = some (.slice r.A r.v.length r.c)) (by kernel_rfl) ⟨k0, k1⟩ (fun hHeld => ?_)
  refine tk 0 ?_
  refine tk 1 ?_
  refine tk 2 ?_
  refine tk 4 ?_
  refine tk 5 ?_
  refine wpAnyH_ready (rs := [3]) (by kernel_rfl) (by simp) ?_
  refine ac (fun K hK => ?_) AllReadyH.nil
  go_simp
  go_at_call 38
  refine (putId_any A c bs B r.id _ (by exact HG0.out.own) (by exact hB0) (by omega) (by omega)).mono ?_
  generalize hL1 : bs ++ txtB r.id = L1 at *
  have hl1 : L1.length ≤ bs.length + (9 + r.id.size) := by rw [← hL1, List.length_append]; have := txtB_len r.id (by omega); omega
  clear hL1
  rintro e v1 ⟨A1, c1, rfl, hg⟩
  have hne1 := hg.ap _ (by exact kz) hne0
  replace k0 := (hg.cell (by exact kz) hne0 0).trans k0
  replace kf0 := (hg.frozen (by exact kz) hne0 0).trans kf0
  replace k1 := (hg.cell (by exact kz) hne0 1).trans k1
  replace kf1 := (hg.frozen (by exact kz) hne0 1).trans kf1
  replace kz := Nat.lt_of_lt_of_le kz hg.grown.size
  have hB1 := Nat.le_trans hB0 hg.grown.size
  have HG1 := Lib.hid (HG0.out.via hg ⟨rfl, rfl, rfl, rfl⟩)
  clear hg
  refine hK.out _ _ ⟨k0, k1⟩ (fun hHeld => ?_)
  clear hK K
  try simp only [Act.put, List.setIfInBounds_toArray, List.set_cons_zero, List.set_cons_succ]
  refine wpAnyH_ready (rs := [6]) (by kernel_rfl) (by simp) ?_
  refine ac (fun K hK => ?_) AllReadyH.nil
  go_simp
  go_at_call 39
  refine (putAllAt_any A1 c1 L1 B r.A r.v.length r.c r.v _ (by exact HG1.out.own) (by exact hB1) (by exact HZ.out.keep (HG1.out.low HO.out hB)) (by omega) hv (by omega)).mono ?_
  generalize hL2 : L1 ++ allB atB r.v = L2 at *
  have hl2 : L2.length ≤ L1.length + (100000000) := by rw [← hL2, List.length_append]; have := hvl; omega
  clear hL2
  rintro e v2 ⟨A2, c2, rfl, hg⟩
  have hne2 := hg.ap _ (by exact kz) hne1
  replace k0 := (hg.cell (by exact kz) hne1 0).trans k0
  replace kf0 := (hg.frozen (by exact kz) hne1 0).trans kf0
  replace k1 := (hg.cell (by exact kz) hne1 1).trans k1
  replace kf1 := (hg.frozen (by exact kz) hne1 1).trans kf1
  replace kz := Nat.lt_of_lt_of_le kz hg.grown.size
  have hB2 := Nat.le_trans hB1 hg.grown.size
  have HG2 := Lib.hid (HG1.out.via hg ⟨rfl, rfl, rfl, rfl⟩)
  clear hg
  refine hK.out _ _ ⟨k0, k1⟩ (fun hHeld => ?_)
  clear hK K
  try simp only [Act.put, List.setIfInBounds_toArray, List.set_cons_zero, List.set_cons_succ]
  refine tk 7 ?_
  refine wpAnyH_done (by kernel_rfl) ?_ _
  go_wp2
  go_ret
  rw [HR.out]
  exact ⟨A2, c2, rfl, HG2.out⟩

set_option maxRecDepth 100000 in
set_option maxHeartbeats 4000000 in
theorem putAllRow_any (A : Option Addr) (c : Nat) (bs : List UInt8) (B : Nat) (Av : Option Addr) (n cv : Nat) (zs : Mx.Mat) (w : World) (hown : w.ownsRow B 5 1 (.slice A bs.length c) bs.length (By.bytesV bs)) (hB : B ≤ w.heap.size) (hz : Mx.MatAt w B Av n zs) (hn : n ≤ 1000000) (hx : ∀ x ∈ zs, x.1.size ≤ 1000 ∧ x.2.length ≤ 10000 ∧ ∀ y ∈ x.2, OkAt y) (hl : bs.length + (allB rowB zs).length ≤ 880000000) :
    Calls Tryz.prog 44 #[.slice A bs.length c, .slice Av n cv, .func (.func 45) #[] #[]] w (PutRet B (.slice A bs.length c) (bs ++ allB rowB zs) w) := by
  have hzn : zs.length = n := hz.len
  have hhl := half_len rowB bs zs
  have HA := Lib.hid (half_all rowB bs zs)
  have H0 := Lib.hid (half_zero rowB bs zs)
  have HS : Hid (∀ k x, zs[k]? = some x → halfB rowB bs zs (k + 1) = halfB rowB bs zs k ++ rowB x) := fun k x h => half_succ rowB bs h
  rw [hzn] at HA H0
  have HX := Lib.hid hx
  have HZ := Lib.hid hz
  have HO := Lib.hid hown
  have HC := Lib.hid (putNum_any A c bs B n w hown hB (by omega) (by omega))
  clear hx hz hown
  generalize halfB rowB bs zs = hf at *
  generalize bs ++ allB rowB zs = RS at *
  go_enter Tryz.func44, Tryz.ntmps44
  go_wp2_with fail
  refine HC.out.mono ?_
  rw [← H0.out]
  rintro e w1 ⟨A1, c1, rfl, hg⟩
  have HG := Lib.hid hg
  clear hg HC H0
  go_wp2
  go_loopw [0, 15] (fun s0 i wr => ∃ (k : Nat) (A' : Option Addr) (c' : Nat), k ≤ n ∧ i = .int .i64 k ∧ s0 = .slice A' (hf k).length c' ∧ Hid (Grew B (.slice A bs.length c) w (.slice A' (hf k).length c') (hf k).length (hf k) wr)) (fun _ i _ => n - (intOf i).toNat)
  case atStart => exact ⟨0, A1, c1, by omega, rfl, rfl, HG⟩
  case round =>
    clear HG
    obtain ⟨k, A', c', hk, rfl, rfl, HG⟩ := hrel
    by_cases hlt : k < n
    · have hi1 : (k : Int) < n := by omega
      have hlow := HG.out.low HO.out hB
      have hsz := hlow.size
      obtain ⟨blk, off, r, rfl, hbB, hmk, e0, e1, hf1⟩ := HZ.out.get hlow hlt
      have hhk := hhl k
      have hs1 := HS.out _ _ hmk
      have hHX := HX.out _ (List.mem_of_getElem? hmk)
      have hb1 : Below wr.heap.size wr (wr.alloc (.cells #[.string r.id, .slice r.A r.v.length r.c] 105)) := (Below.refl _ _).alloc (Nat.le_refl _) _
      have HG1 := Lib.hid (HG.out.below hb1)
      have hB1 : B ≤ (wr.alloc (.cells #[.string r.id, .slice r.A r.v.length r.c] 105)).heap.size := by simp <;> omega
      have HCX := Lib.hid (putRow_any A' c' (hf k) B r _ HG1.out.own hB1 (by omega) hHX.1 hHX.2.1 hHX.2.2 (hf1.vec.keep (hb1.mono (Nat.le_trans hB hsz))))
      rw [← hs1] at HCX
      clear hs1 hlow hmk
      go_wp2_with fail
      refine HCX.out.mono ?_
      rintro e w2 ⟨A2, c2, rfl, hg⟩
      have HG2 := Lib.hid (HG1.out.trans hg)
      clear hg HCX HG1 HG hb1
      go_wp2
      go_roundw
      case rel => exact ⟨k + 1, A2, c2, by omega, by go_num, rfl, HG2⟩
      case measure => simp [intOf]; omega
    · obtain rfl : k = n := by omega
      have hi1 : ¬ (k : Int) < k := by omega
      go_wp2
      go_ret
      rw [← HA.out]
      exact ⟨A', c', rfl, HG.out⟩

theorem ints_get {w wr : World} {B : Nat} {A : Option Addr} {n : Nat} {zs : List Int} (h : Sp.IntsAt w B A n zs) (hb : Below B w wr) {k : Nat} (hk : k < n) :
    ∃ blk off x, A = some ⟨blk, off, none⟩ ∧ blk < B ∧ zs[k]? = some x ∧ wr.cell? ⟨blk, off + k, none⟩ = some (.int .i64 x) := by
  obtain ⟨b, off, e, hlt, hc⟩ := (h.keep hb).2 (by omega)
  have hk' : k < zs.length := by rw [h.1]; exact hk
  refine ⟨b, off, zs[k], e, hlt, List.getElem?_eq_getElem hk', ?_⟩
  have := hc k hk
  rw [List.getD_eq_getElem?_getD, List.getElem?_eq_getElem hk'] at this
  exact this
set_option maxRecDepth 100000 in
set_option maxHeartbeats 4000000 in
theorem putAllInt_any (A : Option Addr) (c : Nat) (bs : List UInt8) (B : Nat) (Av : Option Addr) (n cv : Nat) (zs : List Int) (w : World) (hown : w.ownsRow B 5 1 (.slice A bs.length c) bs.length (By.bytesV bs)) (hB : B ≤ w.heap.size) (hz : Sp.IntsAt w B Av n zs) (hn : n ≤ 1000000) (hx : ∀ x ∈ zs, x ≤ 9223372036854775807) (hl : bs.length + (allB numB zs).length ≤ 1000000000) :
    Calls Tryz.prog 110 #[.slice A bs.length c, .slice Av n cv, .func (.func 37) #[] #[]] w (PutRet B (.slice A bs.length c) (bs ++ allB numB zs) w) := by
  have hzn : zs.length = n := hz.1
  have hhl := half_len numB bs zs
  have HA := Lib.hid (half_all numB bs zs)
  have H0 := Lib.hid (half_zero numB bs zs)
  have HS : Hid (∀ k x, zs[k]? = some x → halfB numB bs zs (k + 1) = halfB numB bs zs k ++ numB x) := fun k x h => half_succ numB bs h
  rw [hzn] at HA H0
  have HX := Lib.hid hx
  have HZ := Lib.hid hz
  have HO := Lib.hid hown
  have HC := Lib.hid (putNum_any A c bs B n w hown hB (by omega) (by omega))
  clear hx hz hown
  generalize halfB numB bs zs = hf at *
  generalize bs ++ allB numB zs = RS at *
  go_enter Tryz.func110, Tryz.ntmps110
  go_wp2_with fail
  refine HC.out.mono ?_
  rw [← H0.out]
  rintro e w1 ⟨A1, c1, rfl, hg⟩
  have HG := Lib.hid hg
  clear hg HC H0
  go_wp2
  go_loopw [0, 15] (fun s0 i wr => ∃ (k : Nat) (A' : Option Addr) (c' : Nat), k ≤ n ∧ i = .int .i64 k ∧ s0 = .slice A' (hf k).length c' ∧ Hid (Grew B (.slice A bs.length c) w (.slice A' (hf k).length c') (hf k).length (hf k) wr)) (fun _ i _ => n - (intOf i).toNat)
  case atStart => exact ⟨0, A1, c1, by omega, rfl, rfl, HG⟩
  case round =>
    clear HG
    obtain ⟨k, A', c', hk, rfl, rfl, HG⟩ := hrel
    by_cases hlt : k < n
    · have hi1 : (k : Int) < n := by omega
      have hlow := HG.out.low HO.out hB
      have hsz := hlow.size
      obtain ⟨blk, off, x, rfl, hbB, hmk, e0⟩ := ints_get HZ.out hlow hlt
      have hhk := hhl k
      have hs1 := HS.out _ _ hmk
      have hHX := HX.out _ (List.mem_of_getElem? hmk)
      have HG1 := HG
      have hB1 : B ≤ wr.heap.size := by omega
      have HCX := Lib.hid (putNum_any A' c' (hf k) B x _ HG1.out.own hB1 (by omega) hHX)
      rw [← hs1] at HCX
      clear hs1 hlow hmk
      go_wp2_with fail
      refine HCX.out.mono ?_
      rintro e w2 ⟨A2, c2, rfl, hg⟩
      have HG2 := Lib.hid (HG1.out.trans hg)
      clear hg HCX HG1 HG
      go_wp2
      go_roundw
      case rel => exact ⟨k + 1, A2, c2, by omega, by go_num, rfl, HG2⟩
      case measure => simp [intOf]; omega
    · obtain rfl : k = n := by omega
      have hi1 : ¬ (k : Int) < k := by omega
      go_wp2
      go_ret
      rw [← HA.out]
      exact ⟨A', c', rfl, HG.out⟩

set_option maxRecDepth 100000 in
set_option maxHeartbeats 4000000 in
theorem putKnown_any (A : Option Addr) (c : Nat) (bs : List UInt8) (B : Nat) (r : Kn.Hd) (w : World) (hown : w.ownsRow B 5 1 (.slice A bs.length c) bs.length (By.bytesV bs)) (hB : B ≤ w.heap.size) (hl : bs.length ≤ 890000000) (h1 : r.id.size ≤ 1000) (hu : r.u ≤ 9223372036854775807) (h2 : r.v.length ≤ 10000) (hv : ∀ x ∈ r.v, x ≤ 9223372036854775807) (hz : Sp.IntsAt w B r.A r.v.length r.v) :
    Calls Tryz.prog 42 #[.slice A bs.length c, .agg #[.string r.id, .int .i64 r.u, .slice r.A r.v.length r.c]] w (PutRet B (.slice A bs.length c) (bs ++ knownB (r.id, (r.u, r.v))) w) := by
  have HZ := Lib.hid hz
  have HO := Lib.hid hown
  have hvl : (allB numB r.v).length ≤ 50000000 := by
    have h3 := flat_len numB 9 r.v fun x hx => numB_len x (hv x hx)
    have h4 := numB_len (r.v.length : Int) (by omega)
    unfold allB
    rw [List.length_append]
    omega
  clear hz
  have HR : Hid (bs ++ knownB (r.id, (r.u, r.v)) = ((bs ++ txtB r.id) ++ numB r.u) ++ allB numB r.v) := by simp [knownB, Hid]
  generalize bs ++ knownB (r.id, (r.u, r.v)) = RS at *
  have hne0 := own_ne hown (Nat.le_refl _)
  have HG0 : Hid (Grew B (.slice A bs.length c) w (.slice A bs.length c) bs.length bs (w.alloc (.cells #[.string r.id, .int .i64 r.u, .slice r.A r.v.length r.c] 100))) := (Grew.refl hown).below ((Below.refl _ _).alloc (Nat.le_refl _) _)
  have hB0 : B ≤ (w.alloc (.cells #[.string r.id, .int .i64 r.u, .slice r.A r.v.length r.c] 100)).heap.size := by simp <;> omega
  clear hown
  go_enter Tryz.func42, Tryz.ntmps42
  go_upto_region 1 with fail
  have k0 : (w.alloc (.cells #[.string r.id, .int .i64 r.u, .slice r.A r.v.length r.c] 100)).cell? ⟨w.heap.size, 0, none⟩ = some (.string r.id) := by simp [go_sem]
  have kf0 : (w.alloc (.cells #[.string r.id, .int .i64 r.u, .slice r.A r.v.length r.c] 100)).frozen? ⟨w.heap.size, 0, none⟩ = false := by simp [go_sem]
  have k1 : (w.alloc (.cells #[.string r.id, .int .i64 r.u, .slice r.A r.v.length r.c] 100)).cell? ⟨w.heap.size, 1, none⟩ = some (.int .i64 r.u) := by simp [go_sem]
  have kf1 : (w.alloc (.cells #[.string r.id, .int .i64 r.u, .slice r.A r.v.length r.c] 100)).frozen? ⟨w.heap.size, 1, none⟩ = false := by simp [go_sem]
  have k2 : (w.alloc (.cells #[.string r.id, .int .i64 r.u, .slice r.A r.v.length r.c] 100)).cell? ⟨w.heap.size, 2, none⟩ = some (.slice r.A r.v.length r.c) := by simp [go_sem]
  have kf2 : (w.alloc (.cells #[.string r.id, .int .i64 r.u, .slice r.A r.v.length r.c] 100)).frozen? ⟨w.heap.size, 2, none⟩ = false := by simp [go_sem]
  have kz : w.heap.size < (w.alloc (.cells #[.string r.id, .int .i64 r.u, .slice r.A r.v.length r.c] 100)).heap.size := by simp <;> omega
  generalize (w.alloc (.cells #[.string r.id, .int .i64 r.u, .slice r.A r.v.length r.c] 100)) = W at *
  refine wp_region_held_drew (S := fun w' => w'.cell? ⟨w.heap.size, 0, none⟩ = some (.string r.id) ∧ w'.cell? ⟨w.heap.size, 1, none⟩ = some (.int .i64 r.u) ∧ w'.cell? ⟨w.heap.size, 2, none⟩ = some (.slice r.A r.v.length r.c)) (by kernel_rfl) ⟨k0, k1, k2⟩ (fun hHeld => ?_)
  refine tk 0 ?_
  refine tk 1 ?_
  refine tk 2 ?_
  refine tk 4 ?_
  refine tk 5 ?_
  refine tk 6 ?_
  refine tk 8 ?_
  refine tk 9 ?_
  refine tk 10 ?_
  refine wpAnyH_ready (rs := [3]) (by kernel_rfl) (by simp) ?_
  refine ac (fun K hK => ?_) AllReadyH.nil
  go_simp
  go_at_call 38
  refine (putId_any A c bs B r.id _ (by exact HG0.out.own) (by exact hB0) (by omega) (by omega)).mono ?_
  generalize hL1 : bs ++ txtB r.id = L1 at *
  have hl1 : L1.length ≤ bs.length + (9 + r.id.size) := by rw [← hL1, List.length_append]; have := txtB_len r.id (by omega); omega
  clear hL1
  rintro e v1 ⟨A1, c1, rfl, hg⟩
  have hne1 := hg.ap _ (by exact kz) hne0
  replace k0 := (hg.cell (by exact kz) hne0 0).trans k0
  replace kf0 := (hg.frozen (by exact kz) hne0 0).trans kf0
  replace k1 := (hg.cell (by exact kz) hne0 1).trans k1
  replace kf1 := (hg.frozen (by exact kz) hne0 1).trans kf1
  replace k2 := (hg.cell (by exact kz) hne0 2).trans k2
  replace kf2 := (hg.frozen (by exact kz) hne0 2).trans kf2
  replace kz := Nat.lt_of_lt_of_le kz hg.grown.size
  have hB1 := Nat.le_trans hB0 hg.grown.size
  have HG1 := Lib.hid (HG0.out.via hg ⟨rfl, rfl, rfl, rfl⟩)
  clear hg
  refine hK.out _ _ ⟨k0, k1, k2⟩ (fun hHeld => ?_)
  clear hK K
  try simp only [Act.put, List.setIfInBounds_toArray, List.set_cons_zero, List.set_cons_succ]
  refine wpAnyH_ready (rs := [7]) (by kernel_rfl) (by simp) ?_
  refine ac (fun K hK => ?_) AllReadyH.nil
  go_simp
  go_at_call 37
  refine (putNum_any A1 c1 L1 B r.u _ (by exact HG1.out.own) (by exact hB1) (by omega) (by omega)).mono ?_
  generalize hL2 : L1 ++ numB r.u = L2 at *
  have hl2 : L2.length ≤ L1.length + (9) := by rw [← hL2, List.length_append]; have := numB_len r.u (by omega); omega
  clear hL2
  rintro e v2 ⟨A2, c2, rfl, hg⟩
  have hne2 := hg.ap _ (by exact kz) hne1
  replace k0 := (hg.cell (by exact kz) hne1 0).trans k0
  replace kf0 := (hg.frozen (by exact kz) hne1 0).trans kf0
  replace k1 := (hg.cell (by exact kz) hne1 1).trans k1
  replace kf1 := (hg.frozen (by exact kz) hne1 1).trans kf1
  replace k2 := (hg.cell (by exact kz) hne1 2).trans k2
  replace kf2 := (hg.frozen (by exact kz) hne1 2).trans kf2
  replace kz := Nat.lt_of_lt_of_le kz hg.grown.size
  have hB2 := Nat.le_trans hB1 hg.grown.size
  have HG2 := Lib.hid (HG1.out.via hg ⟨rfl, rfl, rfl, rfl⟩)
  clear hg
  refine hK.out _ _ ⟨k0, k1, k2⟩ (fun hHeld => ?_)
  clear hK K
  try simp only [Act.put, List.setIfInBounds_toArray, List.set_cons_zero, List.set_cons_succ]
  refine wpAnyH_ready (rs := [11]) (by kernel_rfl) (by simp) ?_
  refine ac (fun K hK => ?_) AllReadyH.nil
  go_simp
  go_at_call 110
  refine (putAllInt_any A2 c2 L2 B r.A r.v.length r.c r.v _ (by exact HG2.out.own) (by exact hB2) (by exact HZ.out.keep (HG2.out.low HO.out hB)) (by omega) hv (by omega)).mono ?_
  generalize hL3 : L2 ++ allB numB r.v = L3 at *
  have hl3 : L3.length ≤ L2.length + (50000000) := by rw [← hL3, List.length_append]; have := hvl; omega
  clear hL3
  rintro e v3 ⟨A3, c3, rfl, hg⟩
  have hne3 := hg.ap _ (by exact kz) hne2
  replace k0 := (hg.cell (by exact kz) hne2 0).trans k0
  replace kf0 := (hg.frozen (by exact kz) hne2 0).trans kf0
  replace k1 := (hg.cell (by exact kz) hne2 1).trans k1
  replace kf1 := (hg.frozen (by exact kz) hne2 1).trans kf1
  replace k2 := (hg.cell (by exact kz) hne2 2).trans k2
  replace kf2 := (hg.frozen (by exact kz) hne2 2).trans kf2
  replace kz := Nat.lt_of_lt_of_le kz hg.grown.size
  have hB3 := Nat.le_trans hB2 hg.grown.size
  have HG3 := Lib.hid (HG2.out.via hg ⟨rfl, rfl, rfl, rfl⟩)
  clear hg
  refine hK.out _ _ ⟨k0, k1, k2⟩ (fun hHeld => ?_)
  clear hK K
  try simp only [Act.put, List.setIfInBounds_toArray, List.set_cons_zero, List.set_cons_succ]
  refine tk 12 ?_
  refine wpAnyH_done (by kernel_rfl) ?_ _
  go_wp2
  go_ret
  rw [HR.out]
  exact ⟨A3, c3, rfl, HG3.out⟩

set_option maxRecDepth 100000 in
set_option maxHeartbeats 4000000 in
theorem putAllKnown_any (A : Option Addr) (c : Nat) (bs : List UInt8) (B : Nat) (Av : Option Addr) (n cv : Nat) (zs : Kn.Mat) (w : World) (hown : w.ownsRow B 5 1 (.slice A bs.length c) bs.length (By.bytesV bs)) (hB : B ≤ w.heap.size) (hz : Kn.MatAt w B Av n zs) (hn : n ≤ 1000000) (hx : ∀ x ∈ zs, x.1.size ≤ 1000 ∧ x.2.1 ≤ 9223372036854775807 ∧ x.2.2.length ≤ 10000 ∧ ∀ y ∈ x.2.2, y ≤ 9223372036854775807) (hl : bs.length + (allB knownB zs).length ≤ 880000000) :
    Calls Tryz.prog 41 #[.slice A bs.length c, .slice Av n cv, .func (.func 42) #[] #[]] w (PutRet B (.slice A bs.length c) (bs ++ allB knownB zs) w) := by
  have hzn : zs.length = n := hz.len
  have hhl := half_len knownB bs zs
  have HA := Lib.hid (half_all knownB bs zs)
  have H0 := Lib.hid (half_zero knownB bs zs)
  have HS : Hid (∀ k x, zs[k]? = some x → halfB knownB bs zs (k + 1) = halfB knownB bs zs k ++ knownB x) := fun k x h => half_succ knownB bs h
  rw [hzn] at HA H0
  have HX := Lib.hid hx
  have HZ := Lib.hid hz
  have HO := Lib.hid hown
  have HC := Lib.hid (putNum_any A c bs B n w hown hB (by omega) (by omega))
  clear hx hz hown
  generalize halfB knownB bs zs = hf at *
  generalize bs ++ allB knownB zs = RS at *
  go_enter Tryz.func41, Tryz.ntmps41
  go_wp2_with fail
  refine HC.out.mono ?_
  rw [← H0.out]
  rintro e w1 ⟨A1, c1, rfl, hg⟩
  have HG := Lib.hid hg
  clear hg HC H0
  go_wp2
  go_loopw [0, 15] (fun s0 i wr => ∃ (k : Nat) (A' : Option Addr) (c' : Nat), k ≤ n ∧ i = .int .i64 k ∧ s0 = .slice A' (hf k).length c' ∧ Hid (Grew B (.slice A bs.length c) w (.slice A' (hf k).length c') (hf k).length (hf k) wr)) (fun _ i _ => n - (intOf i).toNat)
  case atStart => exact ⟨0, A1, c1, by omega, rfl, rfl, HG⟩
  case round =>
    clear HG
    obtain ⟨k, A', c', hk, rfl, rfl, HG⟩ := hrel
    by_cases hlt : k < n
    · have hi1 : (k : Int) < n := by omega
      have hlow := HG.out.low HO.out hB
      have hsz := hlow.size
      obtain ⟨blk, off, r, rfl, hbB, hmk, e0, e1, e2, hf1⟩ := HZ.out.get hlow hlt
      have hhk := hhl k
      have hs1 := HS.out _ _ hmk
      have hHX := HX.out _ (List.mem_of_getElem? hmk)
      have hb1 : Below wr.heap.size wr (wr.alloc (.cells #[.string r.id, .int .i64 r.u, .slice r.A r.v.length r.c] 100)) := (Below.refl _ _).alloc (Nat.le_refl _) _
      have HG1 := Lib.hid (HG.out.below hb1)
      have hB1 : B ≤ (wr.alloc (.cells #[.string r.id, .int .i64 r.u, .slice r.A r.v.length r.c] 100)).heap.size := by simp <;> omega
      have HCX := Lib.hid (putKnown_any A' c' (hf k) B r _ HG1.out.own hB1 (by omega) hHX.1 hHX.2.1 hHX.2.2.1 hHX.2.2.2 (hf1.vec.keep (hb1.mono (Nat.le_trans hB hsz))))
      rw [← hs1] at HCX
      clear hs1 hlow hmk
      go_wp2_with fail
      refine HCX.out.mono ?_
      rintro e w2 ⟨A2, c2, rfl, hg⟩
      have HG2 := Lib.hid (HG1.out.trans hg)
      clear hg HCX HG1 HG hb1
      go_wp2
      go_roundw
      case rel => exact ⟨k + 1, A2, c2, by omega, by go_num, rfl, HG2⟩
      case measure => simp [intOf]; omega
    · obtain rfl : k = n := by omega
      have hi1 : ¬ (k : Int) < k := by omega
      go_wp2
      go_ret
      rw [← HA.out]
      exact ⟨A', c', rfl, HG.out⟩

set_option maxRecDepth 100000 in
set_option maxHeartbeats 4000000 in
theorem putAllId_any (A : Option Addr) (c : Nat) (bs : List UInt8) (B : Nat) (Av : Option Addr) (n cv : Nat) (zs : List ByteArray) (w : World) (hown : w.ownsRow B 5 1 (.slice A bs.length c) bs.length (By.bytesV bs)) (hB : B ≤ w.heap.size) (hz : RowAt cellsT 1 w B Av n zs) (hn : n ≤ 1000000) (hx : ∀ x ∈ zs, x.size ≤ 1000) (hl : bs.length + (allB txtB zs).length ≤ 1000000000) :
    Calls Tryz.prog 43 #[.slice A bs.length c, .slice Av n cv, .func (.func 38) #[] #[]] w (PutRet B (.slice A bs.length c) (bs ++ allB txtB zs) w) := by
  have hzn : zs.length = n := hz.1
  have hhl := half_len txtB bs zs
  have HA := Lib.hid (half_all txtB bs zs)
  have H0 := Lib.hid (half_zero txtB bs zs)
  have HS : Hid (∀ k x, zs[k]? = some x → halfB txtB bs zs (k + 1) = halfB txtB bs zs k ++ txtB x) := fun k x h => half_succ txtB bs h
  rw [hzn] at HA H0
  have HX := Lib.hid hx
  have HZ := Lib.hid hz
  have HO := Lib.hid hown
  have HC := Lib.hid (putNum_any A c bs B n w hown hB (by omega) (by omega))
  clear hx hz hown
  generalize halfB txtB bs zs = hf at *
  generalize bs ++ allB txtB zs = RS at *
  go_enter Tryz.func43, Tryz.ntmps43
  go_wp2_with fail
  refine HC.out.mono ?_
  rw [← H0.out]
  rintro e w1 ⟨A1, c1, rfl, hg⟩
  have HG := Lib.hid hg
  clear hg HC H0
  go_wp2
  go_loopw [0, 15] (fun s0 i wr => ∃ (k : Nat) (A' : Option Addr) (c' : Nat), k ≤ n ∧ i = .int .i64 k ∧ s0 = .slice A' (hf k).length c' ∧ Hid (Grew B (.slice A bs.length c) w (.slice A' (hf k).length c') (hf k).length (hf k) wr)) (fun _ i _ => n - (intOf i).toNat)
  case atStart => exact ⟨0, A1, c1, by omega, rfl, rfl, HG⟩
  case round =>
    clear HG
    obtain ⟨k, A', c', hk, rfl, rfl, HG⟩ := hrel
    by_cases hlt : k < n
    · have hi1 : (k : Int) < n := by omega
      have hlow := HG.out.low HO.out hB
      have hsz := hlow.size
      obtain ⟨blk, off, x, rfl, hbB, hmk, e0⟩ := HZ.out.text hlow hlt
      have hhk := hhl k
      have hs1 := HS.out _ _ hmk
      have hHX := HX.out _ (List.mem_of_getElem? hmk)
      have HG1 := HG
      have hB1 : B ≤ wr.heap.size := by omega
      have HCX := Lib.hid (putId_any A' c' (hf k) B x _ HG1.out.own hB1 (by omega) (by omega))
      rw [← hs1] at HCX
      clear hs1 hlow hmk
      go_wp2_with fail
      refine HCX.out.mono ?_
      rintro e w2 ⟨A2, c2, rfl, hg⟩
      have HG2 := Lib.hid (HG1.out.trans hg)
      clear hg HCX HG1 HG
      go_wp2
      go_roundw
      case rel => exact ⟨k + 1, A2, c2, by omega, by go_num, rfl, HG2⟩
      case measure => simp [intOf]; omega
    · obtain rfl : k = n := by omega
      have hi1 : ¬ (k : Int) < k := by omega
      go_wp2
      go_ret
      rw [← HA.out]
      exact ⟨A', c', rfl, HG.out⟩

set_option maxRecDepth 100000 in
set_option maxHeartbeats 4000000 in
theorem putAllItem_any (A : Option Addr) (c : Nat) (bs : List UInt8) (B : Nat) (Av : Option Addr) (n cv : Nat) (zs : List By.Itm) (w : World) (hown : w.ownsRow B 5 1 (.slice A bs.length c) bs.length (By.bytesV bs)) (hB : B ≤ w.heap.size) (hz : RowAt By.cellsP 8 w B Av n zs) (hn : n ≤ 1000000) (hx : ∀ x ∈ zs, By.rightI x = true ∧ x.x.natAbs < 2 ^ 53 ∧ x.y.natAbs < 2 ^ 53) (hl : bs.length + (allB By.bytesF zs).length ≤ 1000000000) :
    Calls Tryz.prog 48 #[.slice A bs.length c, .slice Av n cv, .func (.func 49) #[] #[]] w (PutRet B (.slice A bs.length c) (bs ++ allB By.bytesF zs) w) := by
  have hzn : zs.length = n := hz.1
  have hhl := half_len By.bytesF bs zs
  have HA := Lib.hid (half_all By.bytesF bs zs)
  have H0 := Lib.hid (half_zero By.bytesF bs zs)
  have HS : Hid (∀ k x, zs[k]? = some x → halfB By.bytesF bs zs (k + 1) = halfB By.bytesF bs zs k ++ By.bytesF x) := fun k x h => half_succ By.bytesF bs h
  rw [hzn] at HA H0
  have HX := Lib.hid hx
  have HZ := Lib.hid hz
  have HO := Lib.hid hown
  have HC := Lib.hid (putNum_any A c bs B n w hown hB (by omega) (by omega))
  clear hx hz hown
  generalize halfB By.bytesF bs zs = hf at *
  generalize bs ++ allB By.bytesF zs = RS at *
  go_enter Tryz.func48, Tryz.ntmps48
  go_wp2_with fail
  refine HC.out.mono ?_
  rw [← H0.out]
  rintro e w1 ⟨A1, c1, rfl, hg⟩
  have HG := Lib.hid hg
  clear hg HC H0
  go_wp2
  go_loopw [0, 15] (fun s0 i wr => ∃ (k : Nat) (A' : Option Addr) (c' : Nat), k ≤ n ∧ i = .int .i64 k ∧ s0 = .slice A' (hf k).length c' ∧ Hid (Grew B (.slice A bs.length c) w (.slice A' (hf k).length c') (hf k).length (hf k) wr)) (fun _ i _ => n - (intOf i).toNat)
  case atStart => exact ⟨0, A1, c1, by omega, rfl, rfl, HG⟩
  case round =>
    clear HG
    obtain ⟨k, A', c', hk, rfl, rfl, HG⟩ := hrel
    by_cases hlt : k < n
    · have hi1 : (k : Int) < n := by omega
      have hlow := HG.out.low HO.out hB
      have hsz := hlow.size
      obtain ⟨blk, off, rfl, hbB, i, hmk, hc⟩ := (HZ.out.keep hlow).get hlt
      have e0 := hc 0 _ rfl
      have e1 := hc 1 _ rfl
      have e2 := hc 2 _ rfl
      have e3 := hc 3 _ rfl
      have e4 := hc 4 _ rfl
      have e5 := hc 5 _ rfl
      have e6 := hc 6 _ rfl
      have e7 := hc 7 _ rfl
      clear hc
      rw [Nat.add_zero] at e0
      have hhk := hhl k
      have hs1 := HS.out _ _ hmk
      have hHX := HX.out _ (List.mem_of_getElem? hmk)
      have hb1 : Below wr.heap.size wr (wr.alloc (.cells #[.int .i64 i.key, .string i.ver.id, .int .i64 i.ver.seq, .int .i64 i.ver.stamp, .bool i.dead, .complex .f64 (fl i.x) (fl i.y), .string i.text, .bool i.held] 114)) := (Below.refl _ _).alloc (Nat.le_refl _) _
      have HG1 := Lib.hid (HG.out.below hb1)
      have hB1 : B ≤ (wr.alloc (.cells #[.int .i64 i.key, .string i.ver.id, .int .i64 i.ver.seq, .int .i64 i.ver.stamp, .bool i.dead, .complex .f64 (fl i.x) (fl i.y), .string i.text, .bool i.held] 114)).heap.size := by simp <;> omega
      have HCX := Lib.hid (putItem_any A' c' (hf k) B i _ HG1.out.own hB1 (by omega) hHX.1 hHX.2.1 hHX.2.2)
      rw [← hs1] at HCX
      clear hs1 hlow hmk
      obtain ⟨key, ⟨d, a, s⟩, dead, x, y, text, held⟩ := i
      unfold By.itmV at HCX
      simp only at e0 e1 e2 e3 e4 e5 e6 e7 HCX HG1 hb1 hB1
      generalize fl x = fx at *
      generalize fl y = fy at *
      have hst := By.store_complex
      go_wp2_with fail
      refine HCX.out.mono ?_
      rintro e w2 ⟨A2, c2, rfl, hg⟩
      have HG2 := Lib.hid (HG1.out.trans hg)
      clear hg HCX HG1 HG hb1
      go_wp2
      go_roundw
      case rel => exact ⟨k + 1, A2, c2, by omega, by go_num, rfl, HG2⟩
      case measure => simp [intOf]; omega
    · obtain rfl : k = n := by omega
      have hi1 : ¬ (k : Int) < k := by omega
      go_wp2
      go_ret
      rw [← HA.out]
      exact ⟨A', c', rfl, HG.out⟩

end Go.Proofs.YtbookbgfipbaoaaGreatDoor
