/- The document's Put of an item. -/
import Derived.Test.YtophhjknbanafaaKe
import Derived.Test.YtophhjknbanafaaBj
namespace Go.Proofs.Ytophhjknbanafaa
open Go.RowKit

set_option maxRecDepth 100000 in
set_option maxHeartbeats 4000000 in
theorem refItemPut_any (A : Option Addr) (c g : Nat) (bs : List UInt8) (i : Itm) (w : World) (hz : BytesAt w g A bs.length bs) (hl : bs.length ≤ 100000000) :
    Calls Try.prog 22 #[.slice A bs.length c, refV i] w (OwnBytes (putItm bs i) w) := by
  have HR := Lib.hid (refRight_any i)
  have HPI := Lib.hid (show putItm bs i = if rightI i then bs ++ bytesF i else bs from rfl)
  have hbd : rightI i = true → _ := fun h => (right_bounds h)
  have hbv : rightI i = true → _ := fun h => (rightV_bounds (right_bounds h).2.2.1)
  have hbw : rightI i = true → _ := fun h => (whole_bounds (right_bounds h).2.2.2.1)
  have HF := Lib.hid (show bytesF i = headF i ++ tailF i from rfl)
  obtain ⟨key, ⟨d, a, s⟩, dead, x, y, text, held⟩ := i
  unfold headF tailF at HF
  unfold refV at *
  simp only at HR HPI hbd hbv hbw HF ⊢
  generalize putItm bs ⟨key, ⟨d, a, s⟩, dead, x, y, text, held⟩ = PF at *
  generalize bytesF ⟨key, ⟨d, a, s⟩, dead, x, y, text, held⟩ = F at *
  rcases hri : rightI ⟨key, ⟨d, a, s⟩, dead, x, y, text, held⟩ with _ | _
  · clear hbd hbv hbw HF
    rw [hri] at HR HPI
    go_enter Try.func22, Try.ntmps22
    go_wp2_with fail
    refine (HR.out _).mono ?_
    rintro e w1 ⟨rfl, hb⟩
    have hb0 : Below w.heap.size w (w.alloc (.cells #[.int .i64 key, .string d, .int .i64 a, .int .i64 s, .bool dead, .int .i64 x, .int .i64 y, .string text, .bool held] 35)) := (Below.refl _ _).alloc (Nat.le_refl _) _
    have HZ := Lib.hid ((hz.keep hb0).keep hb)
    have HB : Hid (Below w.heap.size w w1) := hb0.trans (hb.mono hb0.size)
    clear hb hb0 hz HR
    have HB0 : Hid (Below w.heap.size w (w1.alloc (.cells #[] 5))) := HB.out.alloc HB.out.size _
    have HO0 : Hid ((w1.alloc (.cells #[] 5)).ownsRow w1.heap.size 5 1 (.slice (some ⟨w1.heap.size, 0, none⟩) 0 0) 0 (bytesV [])) := own_empty w1
    have HZ0 : Hid (BytesAt (w1.alloc (.cells #[] 5)) g A bs.length bs) := HZ.out.keep ((Below.refl _ _).alloc (Nat.le_refl _) _)
    have hw1 := HB.out.size
    go_wp2_with (at_builtin; refine wpList_append_bytes (B := w1.heap.size) (g := g) (v := .slice (some ⟨w1.heap.size, 0, none⟩) 0 0) (n := 0) (zs := []) (A := A) (m := bs.length) (c := c) (ys := bs) rfl _ _ rfl rfl HO0.out rfl HZ0.out (by omega) (by simp) ?_; intro A3 c3 w3 hown3 hg3 _; have HO3 := Lib.hid hown3; have HB3 : Hid (Below w.heap.size w w3) := HB0.out.grown hg3 HB0.out.size (fun k e => by simp [Value.ownBlock] at e; omega); clear hown3 hg3)
    go_ret
    have e : PF = bs := HPI.out
    rw [e]
    refine ⟨A3, c3, rfl, ?_, HB3.out⟩
    have h3 := own_base HO3.out hw1
    rwa [Nat.zero_add] at h3
  · have hbd := hbd hri
    have hbv := hbv hri
    have hbw := hbw hri
    rw [hri] at HR HPI
    go_enter Try.func22, Try.ntmps22
    go_wp2_with fail
    refine (HR.out _).mono ?_
    rintro e w1 ⟨rfl, hb⟩
    have hb0 : Below w.heap.size w (w.alloc (.cells #[.int .i64 key, .string d, .int .i64 a, .int .i64 s, .bool dead, .int .i64 x, .int .i64 y, .string text, .bool held] 35)) := (Below.refl _ _).alloc (Nat.le_refl _) _
    have HZ := Lib.hid ((hz.keep hb0).keep hb)
    have k0 : (w.alloc (.cells #[.int .i64 key, .string d, .int .i64 a, .int .i64 s, .bool dead, .int .i64 x, .int .i64 y, .string text, .bool held] 35)).cell? ⟨w.heap.size, 0, none⟩ = some (.int .i64 key) := by simp [go_sem]
    have kf0 : (w.alloc (.cells #[.int .i64 key, .string d, .int .i64 a, .int .i64 s, .bool dead, .int .i64 x, .int .i64 y, .string text, .bool held] 35)).frozen? ⟨w.heap.size, 0, none⟩ = false := by simp [go_sem]
    have k1 : (w.alloc (.cells #[.int .i64 key, .string d, .int .i64 a, .int .i64 s, .bool dead, .int .i64 x, .int .i64 y, .string text, .bool held] 35)).cell? ⟨w.heap.size, 1, none⟩ = some (.string d) := by simp [go_sem]
    have kf1 : (w.alloc (.cells #[.int .i64 key, .string d, .int .i64 a, .int .i64 s, .bool dead, .int .i64 x, .int .i64 y, .string text, .bool held] 35)).frozen? ⟨w.heap.size, 1, none⟩ = false := by simp [go_sem]
    have k2 : (w.alloc (.cells #[.int .i64 key, .string d, .int .i64 a, .int .i64 s, .bool dead, .int .i64 x, .int .i64 y, .string text, .bool held] 35)).cell? ⟨w.heap.size, 2, none⟩ = some (.int .i64 a) := by simp [go_sem]
    have kf2 : (w.alloc (.cells #[.int .i64 key, .string d, .int .i64 a, .int .i64 s, .bool dead, .int .i64 x, .int .i64 y, .string text, .bool held] 35)).frozen? ⟨w.heap.size, 2, none⟩ = false := by simp [go_sem]
    have k3 : (w.alloc (.cells #[.int .i64 key, .string d, .int .i64 a, .int .i64 s, .bool dead, .int .i64 x, .int .i64 y, .string text, .bool held] 35)).cell? ⟨w.heap.size, 3, none⟩ = some (.int .i64 s) := by simp [go_sem]
    have kf3 : (w.alloc (.cells #[.int .i64 key, .string d, .int .i64 a, .int .i64 s, .bool dead, .int .i64 x, .int .i64 y, .string text, .bool held] 35)).frozen? ⟨w.heap.size, 3, none⟩ = false := by simp [go_sem]
    have k4 : (w.alloc (.cells #[.int .i64 key, .string d, .int .i64 a, .int .i64 s, .bool dead, .int .i64 x, .int .i64 y, .string text, .bool held] 35)).cell? ⟨w.heap.size, 4, none⟩ = some (.bool dead) := by simp [go_sem]
    have kf4 : (w.alloc (.cells #[.int .i64 key, .string d, .int .i64 a, .int .i64 s, .bool dead, .int .i64 x, .int .i64 y, .string text, .bool held] 35)).frozen? ⟨w.heap.size, 4, none⟩ = false := by simp [go_sem]
    have k5 : (w.alloc (.cells #[.int .i64 key, .string d, .int .i64 a, .int .i64 s, .bool dead, .int .i64 x, .int .i64 y, .string text, .bool held] 35)).cell? ⟨w.heap.size, 5, none⟩ = some (.int .i64 x) := by simp [go_sem]
    have kf5 : (w.alloc (.cells #[.int .i64 key, .string d, .int .i64 a, .int .i64 s, .bool dead, .int .i64 x, .int .i64 y, .string text, .bool held] 35)).frozen? ⟨w.heap.size, 5, none⟩ = false := by simp [go_sem]
    have k6 : (w.alloc (.cells #[.int .i64 key, .string d, .int .i64 a, .int .i64 s, .bool dead, .int .i64 x, .int .i64 y, .string text, .bool held] 35)).cell? ⟨w.heap.size, 6, none⟩ = some (.int .i64 y) := by simp [go_sem]
    have kf6 : (w.alloc (.cells #[.int .i64 key, .string d, .int .i64 a, .int .i64 s, .bool dead, .int .i64 x, .int .i64 y, .string text, .bool held] 35)).frozen? ⟨w.heap.size, 6, none⟩ = false := by simp [go_sem]
    have k7 : (w.alloc (.cells #[.int .i64 key, .string d, .int .i64 a, .int .i64 s, .bool dead, .int .i64 x, .int .i64 y, .string text, .bool held] 35)).cell? ⟨w.heap.size, 7, none⟩ = some (.string text) := by simp [go_sem]
    have kf7 : (w.alloc (.cells #[.int .i64 key, .string d, .int .i64 a, .int .i64 s, .bool dead, .int .i64 x, .int .i64 y, .string text, .bool held] 35)).frozen? ⟨w.heap.size, 7, none⟩ = false := by simp [go_sem]
    have k8 : (w.alloc (.cells #[.int .i64 key, .string d, .int .i64 a, .int .i64 s, .bool dead, .int .i64 x, .int .i64 y, .string text, .bool held] 35)).cell? ⟨w.heap.size, 8, none⟩ = some (.bool held) := by simp [go_sem]
    have kf8 : (w.alloc (.cells #[.int .i64 key, .string d, .int .i64 a, .int .i64 s, .bool dead, .int .i64 x, .int .i64 y, .string text, .bool held] 35)).frozen? ⟨w.heap.size, 8, none⟩ = false := by simp [go_sem]
    have kz : w.heap.size < (w.alloc (.cells #[.int .i64 key, .string d, .int .i64 a, .int .i64 s, .bool dead, .int .i64 x, .int .i64 y, .string text, .bool held] 35)).heap.size := by simp <;> omega
    replace k0 := (hb.cell (p := ⟨w.heap.size, 0, none⟩) kz).trans k0
    replace kf0 := (hb.frozen (p := ⟨w.heap.size, 0, none⟩) kz).trans kf0
    replace k1 := (hb.cell (p := ⟨w.heap.size, 1, none⟩) kz).trans k1
    replace kf1 := (hb.frozen (p := ⟨w.heap.size, 1, none⟩) kz).trans kf1
    replace k2 := (hb.cell (p := ⟨w.heap.size, 2, none⟩) kz).trans k2
    replace kf2 := (hb.frozen (p := ⟨w.heap.size, 2, none⟩) kz).trans kf2
    replace k3 := (hb.cell (p := ⟨w.heap.size, 3, none⟩) kz).trans k3
    replace kf3 := (hb.frozen (p := ⟨w.heap.size, 3, none⟩) kz).trans kf3
    replace k4 := (hb.cell (p := ⟨w.heap.size, 4, none⟩) kz).trans k4
    replace kf4 := (hb.frozen (p := ⟨w.heap.size, 4, none⟩) kz).trans kf4
    replace k5 := (hb.cell (p := ⟨w.heap.size, 5, none⟩) kz).trans k5
    replace kf5 := (hb.frozen (p := ⟨w.heap.size, 5, none⟩) kz).trans kf5
    replace k6 := (hb.cell (p := ⟨w.heap.size, 6, none⟩) kz).trans k6
    replace kf6 := (hb.frozen (p := ⟨w.heap.size, 6, none⟩) kz).trans kf6
    replace k7 := (hb.cell (p := ⟨w.heap.size, 7, none⟩) kz).trans k7
    replace kf7 := (hb.frozen (p := ⟨w.heap.size, 7, none⟩) kz).trans kf7
    replace k8 := (hb.cell (p := ⟨w.heap.size, 8, none⟩) kz).trans k8
    replace kf8 := (hb.frozen (p := ⟨w.heap.size, 8, none⟩) kz).trans kf8
    replace kz := Nat.lt_of_lt_of_le kz hb.size
    have HB : Hid (Below w.heap.size w w1) := hb0.trans (hb.mono hb0.size)
    clear hb hb0 hz HR
    obtain ⟨bd1, bd2, _, _, bd5, bd6, bd7⟩ := hbd
    obtain ⟨_, bv2, bv3, bv4, bv5, bv6⟩ := hbv
    obtain ⟨bw1, bw2, bw3, bw4⟩ := hbw
    have e1 : d.data.size = d.size := rfl
    have e2 : text.data.size = text.size := rfl
    have d1 := digits_le key (by omega)
    have d2 := digits_le d.size (by omega)
    have d3 := digits_le a (by omega)
    have d4 := digits_le s (by omega)
    have d5 := digits_le (x + 1000) (by omega)
    have d6 := digits_le (y + 1000) (by omega)
    have d7 := digits_le text.size (by omega)
    rw [Int.toNat_natCast] at d2 d7
    have dk0 : (digitsF (Int.toNat 0)).length = 1 := by rw [show Int.toNat 0 = 0 from rfl, digitsF_small (by decide)]; rfl
    have dk1 : (digitsF (Int.toNat 1)).length = 1 := by rw [show Int.toNat 1 = 1 from rfl, digitsF_small (by decide)]; rfl
    have dk2 : (digitsF (Int.toNat 2)).length = 1 := by rw [show Int.toNat 2 = 2 from rfl, digitsF_small (by decide)]; rfl
    go_wp2_with fail
    refine (refPut_any A c g bs (key) _ (by exact HZ.out) (by omega) (by omega)).mono ?_
    generalize hL1 : bs ++ digitsF key.toNat = L1 at *
    have HL1 := Lib.hid hL1
    have hl1 : L1.length ≤ 100000000 + 40 := by rw [← hL1]; simp only [List.length_append]; omega
    clear hL1
    rintro e v1 ⟨A1, c1, rfl, hown, hb⟩
    have HO1 := Lib.hid hown
    obtain ⟨g1, hz, _, _, _⟩ := own_bytes hown
    have HZ1 := Lib.hid hz
    replace k0 := (hb.cell (p := ⟨w.heap.size, 0, none⟩) kz).trans k0
    replace kf0 := (hb.frozen (p := ⟨w.heap.size, 0, none⟩) kz).trans kf0
    replace k1 := (hb.cell (p := ⟨w.heap.size, 1, none⟩) kz).trans k1
    replace kf1 := (hb.frozen (p := ⟨w.heap.size, 1, none⟩) kz).trans kf1
    replace k2 := (hb.cell (p := ⟨w.heap.size, 2, none⟩) kz).trans k2
    replace kf2 := (hb.frozen (p := ⟨w.heap.size, 2, none⟩) kz).trans kf2
    replace k3 := (hb.cell (p := ⟨w.heap.size, 3, none⟩) kz).trans k3
    replace kf3 := (hb.frozen (p := ⟨w.heap.size, 3, none⟩) kz).trans kf3
    replace k4 := (hb.cell (p := ⟨w.heap.size, 4, none⟩) kz).trans k4
    replace kf4 := (hb.frozen (p := ⟨w.heap.size, 4, none⟩) kz).trans kf4
    replace k5 := (hb.cell (p := ⟨w.heap.size, 5, none⟩) kz).trans k5
    replace kf5 := (hb.frozen (p := ⟨w.heap.size, 5, none⟩) kz).trans kf5
    replace k6 := (hb.cell (p := ⟨w.heap.size, 6, none⟩) kz).trans k6
    replace kf6 := (hb.frozen (p := ⟨w.heap.size, 6, none⟩) kz).trans kf6
    replace k7 := (hb.cell (p := ⟨w.heap.size, 7, none⟩) kz).trans k7
    replace kf7 := (hb.frozen (p := ⟨w.heap.size, 7, none⟩) kz).trans kf7
    replace k8 := (hb.cell (p := ⟨w.heap.size, 8, none⟩) kz).trans k8
    replace kf8 := (hb.frozen (p := ⟨w.heap.size, 8, none⟩) kz).trans kf8
    replace kz := Nat.lt_of_lt_of_le kz hb.size
    have hbs1 := HB.out.size
    replace HB := Lib.hid (below_via HB.out hb HB.out.size ⟨rfl, rfl, rfl, rfl⟩)
    clear hown hz hb
    go_wp2_with fail
    refine (refPutText_any A1 c1 g1 L1 d _ (by exact HZ1.out) (by omega) (by omega)).mono ?_
    generalize hL2 : L1 ++ (digitsF d.size ++ d.data.toList) = L2 at *
    have HL2 := Lib.hid hL2
    have hl2 : L2.length ≤ 100000000 + 80 := by rw [← hL2]; simp only [List.length_append, Array.length_toList]; omega
    clear hL2
    rintro e v2 ⟨A2, c2, rfl, hown, hb⟩
    have HO2 := Lib.hid hown
    obtain ⟨g2, hz, _, _, _⟩ := own_bytes hown
    have HZ2 := Lib.hid hz
    replace k0 := (hb.cell (p := ⟨w.heap.size, 0, none⟩) kz).trans k0
    replace kf0 := (hb.frozen (p := ⟨w.heap.size, 0, none⟩) kz).trans kf0
    replace k1 := (hb.cell (p := ⟨w.heap.size, 1, none⟩) kz).trans k1
    replace kf1 := (hb.frozen (p := ⟨w.heap.size, 1, none⟩) kz).trans kf1
    replace k2 := (hb.cell (p := ⟨w.heap.size, 2, none⟩) kz).trans k2
    replace kf2 := (hb.frozen (p := ⟨w.heap.size, 2, none⟩) kz).trans kf2
    replace k3 := (hb.cell (p := ⟨w.heap.size, 3, none⟩) kz).trans k3
    replace kf3 := (hb.frozen (p := ⟨w.heap.size, 3, none⟩) kz).trans kf3
    replace k4 := (hb.cell (p := ⟨w.heap.size, 4, none⟩) kz).trans k4
    replace kf4 := (hb.frozen (p := ⟨w.heap.size, 4, none⟩) kz).trans kf4
    replace k5 := (hb.cell (p := ⟨w.heap.size, 5, none⟩) kz).trans k5
    replace kf5 := (hb.frozen (p := ⟨w.heap.size, 5, none⟩) kz).trans kf5
    replace k6 := (hb.cell (p := ⟨w.heap.size, 6, none⟩) kz).trans k6
    replace kf6 := (hb.frozen (p := ⟨w.heap.size, 6, none⟩) kz).trans kf6
    replace k7 := (hb.cell (p := ⟨w.heap.size, 7, none⟩) kz).trans k7
    replace kf7 := (hb.frozen (p := ⟨w.heap.size, 7, none⟩) kz).trans kf7
    replace k8 := (hb.cell (p := ⟨w.heap.size, 8, none⟩) kz).trans k8
    replace kf8 := (hb.frozen (p := ⟨w.heap.size, 8, none⟩) kz).trans kf8
    replace kz := Nat.lt_of_lt_of_le kz hb.size
    have hbs2 := HB.out.size
    replace HB := Lib.hid (below_via HB.out hb HB.out.size ⟨rfl, rfl, rfl, rfl⟩)
    clear hown hz hb
    go_upto_region 5 with fail
    refine wp_region_held_drew (S := fun w' => w'.cell? ⟨w.heap.size, 0, none⟩ = some (.int .i64 key) ∧ w'.cell? ⟨w.heap.size, 1, none⟩ = some (.string d) ∧ w'.cell? ⟨w.heap.size, 2, none⟩ = some (.int .i64 a) ∧ w'.cell? ⟨w.heap.size, 3, none⟩ = some (.int .i64 s) ∧ w'.cell? ⟨w.heap.size, 4, none⟩ = some (.bool dead) ∧ w'.cell? ⟨w.heap.size, 5, none⟩ = some (.int .i64 x) ∧ w'.cell? ⟨w.heap.size, 6, none⟩ = some (.int .i64 y) ∧ w'.cell? ⟨w.heap.size, 7, none⟩ = some (.string text) ∧ w'.cell? ⟨w.heap.size, 8, none⟩ = some (.bool held)) (by kernel_rfl) ⟨k0, k1, k2, k3, k4, k5, k6, k7, k8⟩ (fun hHeld => ?_)
    refine wpAnyH_take (i := 0) (oi := { dst := some 21, op := Go.Op.move (Go.Operand.tmp 0), type := 47, pos := "ref.go:55", after := #[], guard := none }) (v := ?_) rfl (by kernel_rfl) (by kernel_rfl) (by kernel_rfl) (fun _ _ _ h => h) (Or.inl ⟨rfl, ?_⟩) (by assumption) ?_
    rotate_left
    · intro wz hSw; (try dsimp only at hSw); go_simp; try (with_reducible rfl)
    try simp only [Act.put, List.setIfInBounds_toArray, List.set_cons_zero, List.set_cons_succ]
    refine wpAnyH_take (i := 1) (oi := { dst := some 22, op := Go.Op.fieldAddr 35 (Go.Operand.tmp 3) 1, type := 0, pos := "ref.go:55", after := #[], guard := none }) (v := ?_) rfl (by kernel_rfl) (by kernel_rfl) (by kernel_rfl) (fun _ _ _ h => h) (Or.inl ⟨rfl, ?_⟩) (by assumption) ?_
    rotate_left
    · intro wz hSw; (try dsimp only at hSw); go_simp; try (with_reducible rfl)
    try simp only [Act.put, List.setIfInBounds_toArray, List.set_cons_zero, List.set_cons_succ]
    refine wpAnyH_take (i := 2) (oi := { dst := some 23, op := Go.Op.fieldAddr 23 (Go.Operand.tmp 22) 1, type := 0, pos := "ref.go:55", after := #[{ on := 1, ground := Go.Ground.data }], guard := none }) (v := ?_) rfl (by kernel_rfl) (by kernel_rfl) (by kernel_rfl) (fun _ _ _ h => h) (Or.inl ⟨rfl, ?_⟩) (by assumption) ?_
    rotate_left
    · intro wz hSw; (try dsimp only at hSw); go_simp; try (with_reducible rfl)
    try simp only [Act.put, List.setIfInBounds_toArray, List.set_cons_zero, List.set_cons_succ]
    refine wpAnyH_take (i := 3) (oi := { dst := some 24, op := Go.Op.load 3 (Go.Operand.tmp 23), type := 3, pos := "ref.go:55", after := #[{ on := 2, ground := Go.Ground.data }], guard := none }) (v := ?_) rfl (by kernel_rfl) (by kernel_rfl) (by kernel_rfl) (fun _ _ _ h => h) (Or.inl ⟨rfl, ?_⟩) (by assumption) ?_
    rotate_left
    · intro wz hSw; (try dsimp only at hSw); go_simp; try (with_reducible rfl)
    try simp only [Act.put, List.setIfInBounds_toArray, List.set_cons_zero, List.set_cons_succ]
    refine wpAnyH_take (i := 5) (oi := { dst := some 26, op := Go.Op.fieldAddr 35 (Go.Operand.tmp 3) 1, type := 0, pos := "ref.go:55", after := #[], guard := none }) (v := ?_) rfl (by kernel_rfl) (by kernel_rfl) (by kernel_rfl) (fun _ _ _ h => h) (Or.inl ⟨rfl, ?_⟩) (by assumption) ?_
    rotate_left
    · intro wz hSw; (try dsimp only at hSw); go_simp; try (with_reducible rfl)
    try simp only [Act.put, List.setIfInBounds_toArray, List.set_cons_zero, List.set_cons_succ]
    refine wpAnyH_take (i := 6) (oi := { dst := some 27, op := Go.Op.fieldAddr 23 (Go.Operand.tmp 26) 2, type := 0, pos := "ref.go:55", after := #[{ on := 5, ground := Go.Ground.data }], guard := none }) (v := ?_) rfl (by kernel_rfl) (by kernel_rfl) (by kernel_rfl) (fun _ _ _ h => h) (Or.inl ⟨rfl, ?_⟩) (by assumption) ?_
    rotate_left
    · intro wz hSw; (try dsimp only at hSw); go_simp; try (with_reducible rfl)
    try simp only [Act.put, List.setIfInBounds_toArray, List.set_cons_zero, List.set_cons_succ]
    refine wpAnyH_take (i := 7) (oi := { dst := some 28, op := Go.Op.load 3 (Go.Operand.tmp 27), type := 3, pos := "ref.go:55", after := #[{ on := 6, ground := Go.Ground.data }], guard := none }) (v := ?_) rfl (by kernel_rfl) (by kernel_rfl) (by kernel_rfl) (fun _ _ _ h => h) (Or.inl ⟨rfl, ?_⟩) (by assumption) ?_
    rotate_left
    · intro wz hSw; (try dsimp only at hSw); go_simp; try (with_reducible rfl)
    try simp only [Act.put, List.setIfInBounds_toArray, List.set_cons_zero, List.set_cons_succ]
    refine wpAnyH_ready (rs := [4]) (by kernel_rfl) (by simp) ?_
    refine AllReadyH.cons (o := { dst := some 25, op := Go.Op.call { callee := Go.Callee.value (Go.Operand.func 40), args := #[Go.Operand.tmp 21, Go.Operand.tmp 24], argTypes := #[47, 3] }, type := 47, pos := "ref.go:55", after := #[{ on := 0, ground := Go.Ground.data }, { on := 3, ground := Go.Ground.data }], guard := none }) rfl (fun K hK => ?_) AllReadyH.nil
    go_simp
    go_at_call 40
    refine (refPut_any A2 c2 g2 L2 (a) _ (by exact HZ2.out) (by omega) (by omega)).mono ?_
    generalize hL3 : L2 ++ digitsF a.toNat = L3 at *
    have HL3 := Lib.hid hL3
    have hl3 : L3.length ≤ 100000000 + 120 := by rw [← hL3]; simp only [List.length_append]; omega
    clear hL3
    rintro e v3 ⟨A3, c3, rfl, hown, hb⟩
    have HO3 := Lib.hid hown
    obtain ⟨g3, hz, _, _, _⟩ := own_bytes hown
    have HZ3 := Lib.hid hz
    replace k0 := (hb.cell (p := ⟨w.heap.size, 0, none⟩) kz).trans k0
    replace kf0 := (hb.frozen (p := ⟨w.heap.size, 0, none⟩) kz).trans kf0
    replace k1 := (hb.cell (p := ⟨w.heap.size, 1, none⟩) kz).trans k1
    replace kf1 := (hb.frozen (p := ⟨w.heap.size, 1, none⟩) kz).trans kf1
    replace k2 := (hb.cell (p := ⟨w.heap.size, 2, none⟩) kz).trans k2
    replace kf2 := (hb.frozen (p := ⟨w.heap.size, 2, none⟩) kz).trans kf2
    replace k3 := (hb.cell (p := ⟨w.heap.size, 3, none⟩) kz).trans k3
    replace kf3 := (hb.frozen (p := ⟨w.heap.size, 3, none⟩) kz).trans kf3
    replace k4 := (hb.cell (p := ⟨w.heap.size, 4, none⟩) kz).trans k4
    replace kf4 := (hb.frozen (p := ⟨w.heap.size, 4, none⟩) kz).trans kf4
    replace k5 := (hb.cell (p := ⟨w.heap.size, 5, none⟩) kz).trans k5
    replace kf5 := (hb.frozen (p := ⟨w.heap.size, 5, none⟩) kz).trans kf5
    replace k6 := (hb.cell (p := ⟨w.heap.size, 6, none⟩) kz).trans k6
    replace kf6 := (hb.frozen (p := ⟨w.heap.size, 6, none⟩) kz).trans kf6
    replace k7 := (hb.cell (p := ⟨w.heap.size, 7, none⟩) kz).trans k7
    replace kf7 := (hb.frozen (p := ⟨w.heap.size, 7, none⟩) kz).trans kf7
    replace k8 := (hb.cell (p := ⟨w.heap.size, 8, none⟩) kz).trans k8
    replace kf8 := (hb.frozen (p := ⟨w.heap.size, 8, none⟩) kz).trans kf8
    replace kz := Nat.lt_of_lt_of_le kz hb.size
    have hbs3 := HB.out.size
    replace HB := Lib.hid (below_via HB.out hb HB.out.size ⟨rfl, rfl, rfl, rfl⟩)
    clear hown hz hb
    refine hK.out _ _ ⟨k0, k1, k2, k3, k4, k5, k6, k7, k8⟩ (fun hHeld => ?_)
    clear hK K
    try simp only [Act.put, List.setIfInBounds_toArray, List.set_cons_zero, List.set_cons_succ]
    refine wpAnyH_ready (rs := [8]) (by kernel_rfl) (by simp) ?_
    refine AllReadyH.cons (o := { dst := some 29, op := Go.Op.call { callee := Go.Callee.value (Go.Operand.func 40), args := #[Go.Operand.tmp 25, Go.Operand.tmp 28], argTypes := #[47, 3] }, type := 47, pos := "ref.go:55", after := #[{ on := 4, ground := Go.Ground.data }, { on := 7, ground := Go.Ground.data }, { on := 4, ground := Go.Ground.chain }], guard := none }) rfl (fun K hK => ?_) AllReadyH.nil
    go_simp
    go_at_call 40
    refine (refPut_any A3 c3 g3 L3 (s) _ (by exact HZ3.out) (by omega) (by omega)).mono ?_
    generalize hL4 : L3 ++ digitsF s.toNat = L4 at *
    have HL4 := Lib.hid hL4
    have hl4 : L4.length ≤ 100000000 + 160 := by rw [← hL4]; simp only [List.length_append]; omega
    clear hL4
    rintro e v4 ⟨A4, c4, rfl, hown, hb⟩
    have HO4 := Lib.hid hown
    obtain ⟨g4, hz, _, _, _⟩ := own_bytes hown
    have HZ4 := Lib.hid hz
    replace k0 := (hb.cell (p := ⟨w.heap.size, 0, none⟩) kz).trans k0
    replace kf0 := (hb.frozen (p := ⟨w.heap.size, 0, none⟩) kz).trans kf0
    replace k1 := (hb.cell (p := ⟨w.heap.size, 1, none⟩) kz).trans k1
    replace kf1 := (hb.frozen (p := ⟨w.heap.size, 1, none⟩) kz).trans kf1
    replace k2 := (hb.cell (p := ⟨w.heap.size, 2, none⟩) kz).trans k2
    replace kf2 := (hb.frozen (p := ⟨w.heap.size, 2, none⟩) kz).trans kf2
    replace k3 := (hb.cell (p := ⟨w.heap.size, 3, none⟩) kz).trans k3
    replace kf3 := (hb.frozen (p := ⟨w.heap.size, 3, none⟩) kz).trans kf3
    replace k4 := (hb.cell (p := ⟨w.heap.size, 4, none⟩) kz).trans k4
    replace kf4 := (hb.frozen (p := ⟨w.heap.size, 4, none⟩) kz).trans kf4
    replace k5 := (hb.cell (p := ⟨w.heap.size, 5, none⟩) kz).trans k5
    replace kf5 := (hb.frozen (p := ⟨w.heap.size, 5, none⟩) kz).trans kf5
    replace k6 := (hb.cell (p := ⟨w.heap.size, 6, none⟩) kz).trans k6
    replace kf6 := (hb.frozen (p := ⟨w.heap.size, 6, none⟩) kz).trans kf6
    replace k7 := (hb.cell (p := ⟨w.heap.size, 7, none⟩) kz).trans k7
    replace kf7 := (hb.frozen (p := ⟨w.heap.size, 7, none⟩) kz).trans kf7
    replace k8 := (hb.cell (p := ⟨w.heap.size, 8, none⟩) kz).trans k8
    replace kf8 := (hb.frozen (p := ⟨w.heap.size, 8, none⟩) kz).trans kf8
    replace kz := Nat.lt_of_lt_of_le kz hb.size
    have hbs4 := HB.out.size
    replace HB := Lib.hid (below_via HB.out hb HB.out.size ⟨rfl, rfl, rfl, rfl⟩)
    clear hown hz hb
    refine hK.out _ _ ⟨k0, k1, k2, k3, k4, k5, k6, k7, k8⟩ (fun hHeld => ?_)
    clear hK K
    try simp only [Act.put, List.setIfInBounds_toArray, List.set_cons_zero, List.set_cons_succ]
    refine wpAnyH_take (i := 9) (oi := { dst := some 0, op := Go.Op.assign (Go.Operand.tmp 29), type := 47, pos := "ref.go:55", after := #[{ on := 8, ground := Go.Ground.data }, { on := 8, ground := Go.Ground.chain }, { on := 0, ground := Go.Ground.phase }, { on := 1, ground := Go.Ground.phase }, { on := 2, ground := Go.Ground.phase }, { on := 3, ground := Go.Ground.phase }, { on := 4, ground := Go.Ground.phase }, { on := 5, ground := Go.Ground.phase }, { on := 6, ground := Go.Ground.phase }, { on := 7, ground := Go.Ground.phase }, { on := 8, ground := Go.Ground.phase }], guard := none }) (v := ?_) rfl (by kernel_rfl) (by kernel_rfl) (by kernel_rfl) (fun _ _ _ h => h) (Or.inl ⟨rfl, ?_⟩) (by assumption) ?_
    rotate_left
    · intro wz hSw; (try dsimp only at hSw); go_simp; try (with_reducible rfl)
    try simp only [Act.put, List.setIfInBounds_toArray, List.set_cons_zero]
    refine wpAnyH_done (by kernel_rfl) ?_ _
    have HWX : Hid (IntKind.i64.wrap (x + 1000) = x + 1000) := IntWalk.i64_in _ (by omega)
    have HWY : Hid (IntKind.i64.wrap (y + 1000) = y + 1000) := IntWalk.i64_in _ (by omega)
    cases dead
    · cases held
      · skip
        go_upto_region 11 with fail
        refine wp_region_held_drew (S := fun w' => w'.cell? ⟨w.heap.size, 0, none⟩ = some (.int .i64 key) ∧ w'.cell? ⟨w.heap.size, 1, none⟩ = some (.string d) ∧ w'.cell? ⟨w.heap.size, 2, none⟩ = some (.int .i64 a) ∧ w'.cell? ⟨w.heap.size, 3, none⟩ = some (.int .i64 s) ∧ w'.cell? ⟨w.heap.size, 4, none⟩ = some (.bool false) ∧ w'.cell? ⟨w.heap.size, 5, none⟩ = some (.int .i64 x) ∧ w'.cell? ⟨w.heap.size, 6, none⟩ = some (.int .i64 y) ∧ w'.cell? ⟨w.heap.size, 7, none⟩ = some (.string text) ∧ w'.cell? ⟨w.heap.size, 8, none⟩ = some (.bool false)) (by kernel_rfl) ⟨k0, k1, k2, k3, k4, k5, k6, k7, k8⟩ (fun hHeld => ?_)
        refine wpAnyH_take (i := 0) (oi := { dst := some 36, op := Go.Op.move (Go.Operand.tmp 0), type := 47, pos := "ref.go:63", after := #[], guard := none }) (v := ?_) rfl (by kernel_rfl) (by kernel_rfl) (by kernel_rfl) (fun _ _ _ h => h) (Or.inl ⟨rfl, ?_⟩) (by assumption) ?_
        rotate_left
        · intro wz hSw; (try dsimp only at hSw); go_simp; try (with_reducible rfl)
        try simp only [Act.put, List.setIfInBounds_toArray, List.set_cons_zero, List.set_cons_succ]
        refine wpAnyH_take (i := 1) (oi := { dst := some 37, op := Go.Op.move (Go.Operand.tmp 5), type := 3, pos := "ref.go:63", after := #[], guard := none }) (v := ?_) rfl (by kernel_rfl) (by kernel_rfl) (by kernel_rfl) (fun _ _ _ h => h) (Or.inl ⟨rfl, ?_⟩) (by assumption) ?_
        rotate_left
        · intro wz hSw; (try dsimp only at hSw); go_simp; try (with_reducible rfl)
        try simp only [Act.put, List.setIfInBounds_toArray, List.set_cons_zero, List.set_cons_succ]
        refine wpAnyH_take (i := 3) (oi := { dst := some 39, op := Go.Op.fieldAddr 35 (Go.Operand.tmp 3) 3, type := 0, pos := "ref.go:63", after := #[], guard := none }) (v := ?_) rfl (by kernel_rfl) (by kernel_rfl) (by kernel_rfl) (fun _ _ _ h => h) (Or.inl ⟨rfl, ?_⟩) (by assumption) ?_
        rotate_left
        · intro wz hSw; (try dsimp only at hSw); go_simp; try (with_reducible rfl)
        try simp only [Act.put, List.setIfInBounds_toArray, List.set_cons_zero, List.set_cons_succ]
        refine wpAnyH_take (i := 4) (oi := { dst := some 40, op := Go.Op.fieldAddr 33 (Go.Operand.tmp 39) 0, type := 0, pos := "ref.go:63", after := #[{ on := 3, ground := Go.Ground.data }], guard := none }) (v := ?_) rfl (by kernel_rfl) (by kernel_rfl) (by kernel_rfl) (fun _ _ _ h => h) (Or.inl ⟨rfl, ?_⟩) (by assumption) ?_
        rotate_left
        · intro wz hSw; (try dsimp only at hSw); go_simp; try (with_reducible rfl)
        try simp only [Act.put, List.setIfInBounds_toArray, List.set_cons_zero, List.set_cons_succ]
        refine wpAnyH_take (i := 5) (oi := { dst := some 41, op := Go.Op.load 3 (Go.Operand.tmp 40), type := 3, pos := "ref.go:63", after := #[{ on := 4, ground := Go.Ground.data }], guard := none }) (v := ?_) rfl (by kernel_rfl) (by kernel_rfl) (by kernel_rfl) (fun _ _ _ h => h) (Or.inl ⟨rfl, ?_⟩) (by assumption) ?_
        rotate_left
        · intro wz hSw; (try dsimp only at hSw); go_simp; try (with_reducible rfl)
        try simp only [Act.put, List.setIfInBounds_toArray, List.set_cons_zero, List.set_cons_succ]
        refine wpAnyH_take (i := 6) (oi := { dst := some 42, op := Go.Op.binOp Go.BinOp.add 3 (Go.Operand.tmp 41) (Go.Operand.const (Go.Value.int Go.IntKind.i64 1000)) 3, type := 3, pos := "ref.go:63", after := #[{ on := 5, ground := Go.Ground.data }], guard := none }) (v := ?_) rfl (by kernel_rfl) (by kernel_rfl) (by kernel_rfl) (fun _ _ _ h => h) (Or.inl ⟨rfl, ?_⟩) (by assumption) ?_
        rotate_left
        · intro wz hSw; (try dsimp only at hSw); go_simp; try (with_reducible rfl)
        try simp only [Act.put, List.setIfInBounds_toArray, List.set_cons_zero, List.set_cons_succ]
        refine wpAnyH_take (i := 8) (oi := { dst := some 44, op := Go.Op.fieldAddr 35 (Go.Operand.tmp 3) 3, type := 0, pos := "ref.go:63", after := #[], guard := none }) (v := ?_) rfl (by kernel_rfl) (by kernel_rfl) (by kernel_rfl) (fun _ _ _ h => h) (Or.inl ⟨rfl, ?_⟩) (by assumption) ?_
        rotate_left
        · intro wz hSw; (try dsimp only at hSw); go_simp; try (with_reducible rfl)
        try simp only [Act.put, List.setIfInBounds_toArray, List.set_cons_zero, List.set_cons_succ]
        refine wpAnyH_take (i := 9) (oi := { dst := some 45, op := Go.Op.fieldAddr 33 (Go.Operand.tmp 44) 1, type := 0, pos := "ref.go:63", after := #[{ on := 8, ground := Go.Ground.data }], guard := none }) (v := ?_) rfl (by kernel_rfl) (by kernel_rfl) (by kernel_rfl) (fun _ _ _ h => h) (Or.inl ⟨rfl, ?_⟩) (by assumption) ?_
        rotate_left
        · intro wz hSw; (try dsimp only at hSw); go_simp; try (with_reducible rfl)
        try simp only [Act.put, List.setIfInBounds_toArray, List.set_cons_zero, List.set_cons_succ]
        refine wpAnyH_take (i := 10) (oi := { dst := some 46, op := Go.Op.load 3 (Go.Operand.tmp 45), type := 3, pos := "ref.go:63", after := #[{ on := 9, ground := Go.Ground.data }], guard := none }) (v := ?_) rfl (by kernel_rfl) (by kernel_rfl) (by kernel_rfl) (fun _ _ _ h => h) (Or.inl ⟨rfl, ?_⟩) (by assumption) ?_
        rotate_left
        · intro wz hSw; (try dsimp only at hSw); go_simp; try (with_reducible rfl)
        try simp only [Act.put, List.setIfInBounds_toArray, List.set_cons_zero, List.set_cons_succ]
        refine wpAnyH_take (i := 11) (oi := { dst := some 47, op := Go.Op.binOp Go.BinOp.add 3 (Go.Operand.tmp 46) (Go.Operand.const (Go.Value.int Go.IntKind.i64 1000)) 3, type := 3, pos := "ref.go:63", after := #[{ on := 10, ground := Go.Ground.data }], guard := none }) (v := ?_) rfl (by kernel_rfl) (by kernel_rfl) (by kernel_rfl) (fun _ _ _ h => h) (Or.inl ⟨rfl, ?_⟩) (by assumption) ?_
        rotate_left
        · intro wz hSw; (try dsimp only at hSw); go_simp; try (with_reducible rfl)
        try simp only [Act.put, List.setIfInBounds_toArray, List.set_cons_zero, List.set_cons_succ]
        refine wpAnyH_ready (rs := [2]) (by kernel_rfl) (by simp) ?_
        refine AllReadyH.cons (o := { dst := some 38, op := Go.Op.call { callee := Go.Callee.value (Go.Operand.func 40), args := #[Go.Operand.tmp 36, Go.Operand.tmp 37], argTypes := #[47, 3] }, type := 47, pos := "ref.go:63", after := #[{ on := 0, ground := Go.Ground.data }, { on := 1, ground := Go.Ground.data }], guard := none }) rfl (fun K hK => ?_) AllReadyH.nil
        go_simp
        go_at_call 40
        refine (refPut_any A4 c4 g4 L4 (1) _ (by exact HZ4.out) (by omega) (by omega)).mono ?_
        generalize hL5 : L4 ++ digitsF (Int.toNat 1) = L5 at *
        have HL5 := Lib.hid hL5
        have hl5 : L5.length ≤ 100000000 + 200 := by rw [← hL5]; simp only [List.length_append]; omega
        clear hL5
        rintro e v5 ⟨A5, c5, rfl, hown, hb⟩
        have HO5 := Lib.hid hown
        obtain ⟨g5, hz, _, _, _⟩ := own_bytes hown
        have HZ5 := Lib.hid hz
        replace k0 := (hb.cell (p := ⟨w.heap.size, 0, none⟩) kz).trans k0
        replace kf0 := (hb.frozen (p := ⟨w.heap.size, 0, none⟩) kz).trans kf0
        replace k1 := (hb.cell (p := ⟨w.heap.size, 1, none⟩) kz).trans k1
        replace kf1 := (hb.frozen (p := ⟨w.heap.size, 1, none⟩) kz).trans kf1
        replace k2 := (hb.cell (p := ⟨w.heap.size, 2, none⟩) kz).trans k2
        replace kf2 := (hb.frozen (p := ⟨w.heap.size, 2, none⟩) kz).trans kf2
        replace k3 := (hb.cell (p := ⟨w.heap.size, 3, none⟩) kz).trans k3
        replace kf3 := (hb.frozen (p := ⟨w.heap.size, 3, none⟩) kz).trans kf3
        replace k4 := (hb.cell (p := ⟨w.heap.size, 4, none⟩) kz).trans k4
        replace kf4 := (hb.frozen (p := ⟨w.heap.size, 4, none⟩) kz).trans kf4
        replace k5 := (hb.cell (p := ⟨w.heap.size, 5, none⟩) kz).trans k5
        replace kf5 := (hb.frozen (p := ⟨w.heap.size, 5, none⟩) kz).trans kf5
        replace k6 := (hb.cell (p := ⟨w.heap.size, 6, none⟩) kz).trans k6
        replace kf6 := (hb.frozen (p := ⟨w.heap.size, 6, none⟩) kz).trans kf6
        replace k7 := (hb.cell (p := ⟨w.heap.size, 7, none⟩) kz).trans k7
        replace kf7 := (hb.frozen (p := ⟨w.heap.size, 7, none⟩) kz).trans kf7
        replace k8 := (hb.cell (p := ⟨w.heap.size, 8, none⟩) kz).trans k8
        replace kf8 := (hb.frozen (p := ⟨w.heap.size, 8, none⟩) kz).trans kf8
        replace kz := Nat.lt_of_lt_of_le kz hb.size
        have hbs5 := HB.out.size
        replace HB := Lib.hid (below_via HB.out hb HB.out.size ⟨rfl, rfl, rfl, rfl⟩)
        clear hown hz hb
        refine hK.out _ _ ⟨k0, k1, k2, k3, k4, k5, k6, k7, k8⟩ (fun hHeld => ?_)
        clear hK K
        try simp only [Act.put, List.setIfInBounds_toArray, List.set_cons_zero, List.set_cons_succ]
        refine wpAnyH_ready (rs := [7]) (by kernel_rfl) (by simp) ?_
        refine AllReadyH.cons (o := { dst := some 43, op := Go.Op.call { callee := Go.Callee.value (Go.Operand.func 40), args := #[Go.Operand.tmp 38, Go.Operand.tmp 42], argTypes := #[47, 3] }, type := 47, pos := "ref.go:63", after := #[{ on := 2, ground := Go.Ground.data }, { on := 6, ground := Go.Ground.data }, { on := 2, ground := Go.Ground.chain }], guard := none }) rfl (fun K hK => ?_) AllReadyH.nil
        go_simp
        go_at_call 40
        rw [HWX.out]
        refine (refPut_any A5 c5 g5 L5 (x + 1000) _ (by exact HZ5.out) (by omega) (by omega)).mono ?_
        generalize hL6 : L5 ++ digitsF (x + 1000).toNat = L6 at *
        have HL6 := Lib.hid hL6
        have hl6 : L6.length ≤ 100000000 + 240 := by rw [← hL6]; simp only [List.length_append]; omega
        clear hL6
        rintro e v6 ⟨A6, c6, rfl, hown, hb⟩
        have HO6 := Lib.hid hown
        obtain ⟨g6, hz, _, _, _⟩ := own_bytes hown
        have HZ6 := Lib.hid hz
        replace k0 := (hb.cell (p := ⟨w.heap.size, 0, none⟩) kz).trans k0
        replace kf0 := (hb.frozen (p := ⟨w.heap.size, 0, none⟩) kz).trans kf0
        replace k1 := (hb.cell (p := ⟨w.heap.size, 1, none⟩) kz).trans k1
        replace kf1 := (hb.frozen (p := ⟨w.heap.size, 1, none⟩) kz).trans kf1
        replace k2 := (hb.cell (p := ⟨w.heap.size, 2, none⟩) kz).trans k2
        replace kf2 := (hb.frozen (p := ⟨w.heap.size, 2, none⟩) kz).trans kf2
        replace k3 := (hb.cell (p := ⟨w.heap.size, 3, none⟩) kz).trans k3
        replace kf3 := (hb.frozen (p := ⟨w.heap.size, 3, none⟩) kz).trans kf3
        replace k4 := (hb.cell (p := ⟨w.heap.size, 4, none⟩) kz).trans k4
        replace kf4 := (hb.frozen (p := ⟨w.heap.size, 4, none⟩) kz).trans kf4
        replace k5 := (hb.cell (p := ⟨w.heap.size, 5, none⟩) kz).trans k5
        replace kf5 := (hb.frozen (p := ⟨w.heap.size, 5, none⟩) kz).trans kf5
        replace k6 := (hb.cell (p := ⟨w.heap.size, 6, none⟩) kz).trans k6
        replace kf6 := (hb.frozen (p := ⟨w.heap.size, 6, none⟩) kz).trans kf6
        replace k7 := (hb.cell (p := ⟨w.heap.size, 7, none⟩) kz).trans k7
        replace kf7 := (hb.frozen (p := ⟨w.heap.size, 7, none⟩) kz).trans kf7
        replace k8 := (hb.cell (p := ⟨w.heap.size, 8, none⟩) kz).trans k8
        replace kf8 := (hb.frozen (p := ⟨w.heap.size, 8, none⟩) kz).trans kf8
        replace kz := Nat.lt_of_lt_of_le kz hb.size
        have hbs6 := HB.out.size
        replace HB := Lib.hid (below_via HB.out hb HB.out.size ⟨rfl, rfl, rfl, rfl⟩)
        clear hown hz hb
        refine hK.out _ _ ⟨k0, k1, k2, k3, k4, k5, k6, k7, k8⟩ (fun hHeld => ?_)
        clear hK K
        try simp only [Act.put, List.setIfInBounds_toArray, List.set_cons_zero, List.set_cons_succ]
        refine wpAnyH_ready (rs := [12]) (by kernel_rfl) (by simp) ?_
        refine AllReadyH.cons (o := { dst := some 48, op := Go.Op.call { callee := Go.Callee.value (Go.Operand.func 40), args := #[Go.Operand.tmp 43, Go.Operand.tmp 47], argTypes := #[47, 3] }, type := 47, pos := "ref.go:63", after := #[{ on := 7, ground := Go.Ground.data }, { on := 11, ground := Go.Ground.data }, { on := 7, ground := Go.Ground.chain }], guard := none }) rfl (fun K hK => ?_) AllReadyH.nil
        go_simp
        go_at_call 40
        rw [HWY.out]
        refine (refPut_any A6 c6 g6 L6 (y + 1000) _ (by exact HZ6.out) (by omega) (by omega)).mono ?_
        generalize hL7 : L6 ++ digitsF (y + 1000).toNat = L7 at *
        have HL7 := Lib.hid hL7
        have hl7 : L7.length ≤ 100000000 + 280 := by rw [← hL7]; simp only [List.length_append]; omega
        clear hL7
        rintro e v7 ⟨A7, c7, rfl, hown, hb⟩
        have HO7 := Lib.hid hown
        obtain ⟨g7, hz, _, _, _⟩ := own_bytes hown
        have HZ7 := Lib.hid hz
        replace k0 := (hb.cell (p := ⟨w.heap.size, 0, none⟩) kz).trans k0
        replace kf0 := (hb.frozen (p := ⟨w.heap.size, 0, none⟩) kz).trans kf0
        replace k1 := (hb.cell (p := ⟨w.heap.size, 1, none⟩) kz).trans k1
        replace kf1 := (hb.frozen (p := ⟨w.heap.size, 1, none⟩) kz).trans kf1
        replace k2 := (hb.cell (p := ⟨w.heap.size, 2, none⟩) kz).trans k2
        replace kf2 := (hb.frozen (p := ⟨w.heap.size, 2, none⟩) kz).trans kf2
        replace k3 := (hb.cell (p := ⟨w.heap.size, 3, none⟩) kz).trans k3
        replace kf3 := (hb.frozen (p := ⟨w.heap.size, 3, none⟩) kz).trans kf3
        replace k4 := (hb.cell (p := ⟨w.heap.size, 4, none⟩) kz).trans k4
        replace kf4 := (hb.frozen (p := ⟨w.heap.size, 4, none⟩) kz).trans kf4
        replace k5 := (hb.cell (p := ⟨w.heap.size, 5, none⟩) kz).trans k5
        replace kf5 := (hb.frozen (p := ⟨w.heap.size, 5, none⟩) kz).trans kf5
        replace k6 := (hb.cell (p := ⟨w.heap.size, 6, none⟩) kz).trans k6
        replace kf6 := (hb.frozen (p := ⟨w.heap.size, 6, none⟩) kz).trans kf6
        replace k7 := (hb.cell (p := ⟨w.heap.size, 7, none⟩) kz).trans k7
        replace kf7 := (hb.frozen (p := ⟨w.heap.size, 7, none⟩) kz).trans kf7
        replace k8 := (hb.cell (p := ⟨w.heap.size, 8, none⟩) kz).trans k8
        replace kf8 := (hb.frozen (p := ⟨w.heap.size, 8, none⟩) kz).trans kf8
        replace kz := Nat.lt_of_lt_of_le kz hb.size
        have hbs7 := HB.out.size
        replace HB := Lib.hid (below_via HB.out hb HB.out.size ⟨rfl, rfl, rfl, rfl⟩)
        clear hown hz hb
        refine hK.out _ _ ⟨k0, k1, k2, k3, k4, k5, k6, k7, k8⟩ (fun hHeld => ?_)
        clear hK K
        try simp only [Act.put, List.setIfInBounds_toArray, List.set_cons_zero, List.set_cons_succ]
        refine wpAnyH_take (i := 13) (oi := { dst := some 0, op := Go.Op.assign (Go.Operand.tmp 48), type := 47, pos := "ref.go:63", after := #[{ on := 12, ground := Go.Ground.data }, { on := 12, ground := Go.Ground.chain }, { on := 0, ground := Go.Ground.phase }, { on := 1, ground := Go.Ground.phase }, { on := 2, ground := Go.Ground.phase }, { on := 3, ground := Go.Ground.phase }, { on := 4, ground := Go.Ground.phase }, { on := 5, ground := Go.Ground.phase }, { on := 6, ground := Go.Ground.phase }, { on := 7, ground := Go.Ground.phase }, { on := 8, ground := Go.Ground.phase }, { on := 9, ground := Go.Ground.phase }, { on := 10, ground := Go.Ground.phase }, { on := 11, ground := Go.Ground.phase }, { on := 12, ground := Go.Ground.phase }], guard := none }) (v := ?_) rfl (by kernel_rfl) (by kernel_rfl) (by kernel_rfl) (fun _ _ _ h => h) (Or.inl ⟨rfl, ?_⟩) (by assumption) ?_
        rotate_left
        · intro wz hSw; (try dsimp only at hSw); go_simp; try (with_reducible rfl)
        try simp only [Act.put, List.setIfInBounds_toArray, List.set_cons_zero]
        refine wpAnyH_done (by kernel_rfl) ?_ _
        go_wp2
        go_ret
        have e : PF = L7 := by rw [HPI.out, if_pos trivial, HF.out, ← HL7.out, ← HL6.out, ← HL5.out, ← HL4.out, ← HL3.out, ← HL2.out, ← HL1.out]; simp
        rw [e]
        exact ⟨A7, c7, rfl, own_base HO7.out hbs7, HB.out⟩
      · skip
        go_upto_region 11 with fail
        refine wp_region_held_drew (S := fun w' => w'.cell? ⟨w.heap.size, 0, none⟩ = some (.int .i64 key) ∧ w'.cell? ⟨w.heap.size, 1, none⟩ = some (.string d) ∧ w'.cell? ⟨w.heap.size, 2, none⟩ = some (.int .i64 a) ∧ w'.cell? ⟨w.heap.size, 3, none⟩ = some (.int .i64 s) ∧ w'.cell? ⟨w.heap.size, 4, none⟩ = some (.bool false) ∧ w'.cell? ⟨w.heap.size, 5, none⟩ = some (.int .i64 x) ∧ w'.cell? ⟨w.heap.size, 6, none⟩ = some (.int .i64 y) ∧ w'.cell? ⟨w.heap.size, 7, none⟩ = some (.string text) ∧ w'.cell? ⟨w.heap.size, 8, none⟩ = some (.bool true)) (by kernel_rfl) ⟨k0, k1, k2, k3, k4, k5, k6, k7, k8⟩ (fun hHeld => ?_)
        refine wpAnyH_take (i := 0) (oi := { dst := some 36, op := Go.Op.move (Go.Operand.tmp 0), type := 47, pos := "ref.go:63", after := #[], guard := none }) (v := ?_) rfl (by kernel_rfl) (by kernel_rfl) (by kernel_rfl) (fun _ _ _ h => h) (Or.inl ⟨rfl, ?_⟩) (by assumption) ?_
        rotate_left
        · intro wz hSw; (try dsimp only at hSw); go_simp; try (with_reducible rfl)
        try simp only [Act.put, List.setIfInBounds_toArray, List.set_cons_zero, List.set_cons_succ]
        refine wpAnyH_take (i := 1) (oi := { dst := some 37, op := Go.Op.move (Go.Operand.tmp 5), type := 3, pos := "ref.go:63", after := #[], guard := none }) (v := ?_) rfl (by kernel_rfl) (by kernel_rfl) (by kernel_rfl) (fun _ _ _ h => h) (Or.inl ⟨rfl, ?_⟩) (by assumption) ?_
        rotate_left
        · intro wz hSw; (try dsimp only at hSw); go_simp; try (with_reducible rfl)
        try simp only [Act.put, List.setIfInBounds_toArray, List.set_cons_zero, List.set_cons_succ]
        refine wpAnyH_take (i := 3) (oi := { dst := some 39, op := Go.Op.fieldAddr 35 (Go.Operand.tmp 3) 3, type := 0, pos := "ref.go:63", after := #[], guard := none }) (v := ?_) rfl (by kernel_rfl) (by kernel_rfl) (by kernel_rfl) (fun _ _ _ h => h) (Or.inl ⟨rfl, ?_⟩) (by assumption) ?_
        rotate_left
        · intro wz hSw; (try dsimp only at hSw); go_simp; try (with_reducible rfl)
        try simp only [Act.put, List.setIfInBounds_toArray, List.set_cons_zero, List.set_cons_succ]
        refine wpAnyH_take (i := 4) (oi := { dst := some 40, op := Go.Op.fieldAddr 33 (Go.Operand.tmp 39) 0, type := 0, pos := "ref.go:63", after := #[{ on := 3, ground := Go.Ground.data }], guard := none }) (v := ?_) rfl (by kernel_rfl) (by kernel_rfl) (by kernel_rfl) (fun _ _ _ h => h) (Or.inl ⟨rfl, ?_⟩) (by assumption) ?_
        rotate_left
        · intro wz hSw; (try dsimp only at hSw); go_simp; try (with_reducible rfl)
        try simp only [Act.put, List.setIfInBounds_toArray, List.set_cons_zero, List.set_cons_succ]
        refine wpAnyH_take (i := 5) (oi := { dst := some 41, op := Go.Op.load 3 (Go.Operand.tmp 40), type := 3, pos := "ref.go:63", after := #[{ on := 4, ground := Go.Ground.data }], guard := none }) (v := ?_) rfl (by kernel_rfl) (by kernel_rfl) (by kernel_rfl) (fun _ _ _ h => h) (Or.inl ⟨rfl, ?_⟩) (by assumption) ?_
        rotate_left
        · intro wz hSw; (try dsimp only at hSw); go_simp; try (with_reducible rfl)
        try simp only [Act.put, List.setIfInBounds_toArray, List.set_cons_zero, List.set_cons_succ]
        refine wpAnyH_take (i := 6) (oi := { dst := some 42, op := Go.Op.binOp Go.BinOp.add 3 (Go.Operand.tmp 41) (Go.Operand.const (Go.Value.int Go.IntKind.i64 1000)) 3, type := 3, pos := "ref.go:63", after := #[{ on := 5, ground := Go.Ground.data }], guard := none }) (v := ?_) rfl (by kernel_rfl) (by kernel_rfl) (by kernel_rfl) (fun _ _ _ h => h) (Or.inl ⟨rfl, ?_⟩) (by assumption) ?_
        rotate_left
        · intro wz hSw; (try dsimp only at hSw); go_simp; try (with_reducible rfl)
        try simp only [Act.put, List.setIfInBounds_toArray, List.set_cons_zero, List.set_cons_succ]
        refine wpAnyH_take (i := 8) (oi := { dst := some 44, op := Go.Op.fieldAddr 35 (Go.Operand.tmp 3) 3, type := 0, pos := "ref.go:63", after := #[], guard := none }) (v := ?_) rfl (by kernel_rfl) (by kernel_rfl) (by kernel_rfl) (fun _ _ _ h => h) (Or.inl ⟨rfl, ?_⟩) (by assumption) ?_
        rotate_left
        · intro wz hSw; (try dsimp only at hSw); go_simp; try (with_reducible rfl)
        try simp only [Act.put, List.setIfInBounds_toArray, List.set_cons_zero, List.set_cons_succ]
        refine wpAnyH_take (i := 9) (oi := { dst := some 45, op := Go.Op.fieldAddr 33 (Go.Operand.tmp 44) 1, type := 0, pos := "ref.go:63", after := #[{ on := 8, ground := Go.Ground.data }], guard := none }) (v := ?_) rfl (by kernel_rfl) (by kernel_rfl) (by kernel_rfl) (fun _ _ _ h => h) (Or.inl ⟨rfl, ?_⟩) (by assumption) ?_
        rotate_left
        · intro wz hSw; (try dsimp only at hSw); go_simp; try (with_reducible rfl)
        try simp only [Act.put, List.setIfInBounds_toArray, List.set_cons_zero, List.set_cons_succ]
        refine wpAnyH_take (i := 10) (oi := { dst := some 46, op := Go.Op.load 3 (Go.Operand.tmp 45), type := 3, pos := "ref.go:63", after := #[{ on := 9, ground := Go.Ground.data }], guard := none }) (v := ?_) rfl (by kernel_rfl) (by kernel_rfl) (by kernel_rfl) (fun _ _ _ h => h) (Or.inl ⟨rfl, ?_⟩) (by assumption) ?_
        rotate_left
        · intro wz hSw; (try dsimp only at hSw); go_simp; try (with_reducible rfl)
        try simp only [Act.put, List.setIfInBounds_toArray, List.set_cons_zero, List.set_cons_succ]
        refine wpAnyH_take (i := 11) (oi := { dst := some 47, op := Go.Op.binOp Go.BinOp.add 3 (Go.Operand.tmp 46) (Go.Operand.const (Go.Value.int Go.IntKind.i64 1000)) 3, type := 3, pos := "ref.go:63", after := #[{ on := 10, ground := Go.Ground.data }], guard := none }) (v := ?_) rfl (by kernel_rfl) (by kernel_rfl) (by kernel_rfl) (fun _ _ _ h => h) (Or.inl ⟨rfl, ?_⟩) (by assumption) ?_
        rotate_left
        · intro wz hSw; (try dsimp only at hSw); go_simp; try (with_reducible rfl)
        try simp only [Act.put, List.setIfInBounds_toArray, List.set_cons_zero, List.set_cons_succ]
        refine wpAnyH_ready (rs := [2]) (by kernel_rfl) (by simp) ?_
        refine AllReadyH.cons (o := { dst := some 38, op := Go.Op.call { callee := Go.Callee.value (Go.Operand.func 40), args := #[Go.Operand.tmp 36, Go.Operand.tmp 37], argTypes := #[47, 3] }, type := 47, pos := "ref.go:63", after := #[{ on := 0, ground := Go.Ground.data }, { on := 1, ground := Go.Ground.data }], guard := none }) rfl (fun K hK => ?_) AllReadyH.nil
        go_simp
        go_at_call 40
        refine (refPut_any A4 c4 g4 L4 (2) _ (by exact HZ4.out) (by omega) (by omega)).mono ?_
        generalize hL5 : L4 ++ digitsF (Int.toNat 2) = L5 at *
        have HL5 := Lib.hid hL5
        have hl5 : L5.length ≤ 100000000 + 200 := by rw [← hL5]; simp only [List.length_append]; omega
        clear hL5
        rintro e v5 ⟨A5, c5, rfl, hown, hb⟩
        have HO5 := Lib.hid hown
        obtain ⟨g5, hz, _, _, _⟩ := own_bytes hown
        have HZ5 := Lib.hid hz
        replace k0 := (hb.cell (p := ⟨w.heap.size, 0, none⟩) kz).trans k0
        replace kf0 := (hb.frozen (p := ⟨w.heap.size, 0, none⟩) kz).trans kf0
        replace k1 := (hb.cell (p := ⟨w.heap.size, 1, none⟩) kz).trans k1
        replace kf1 := (hb.frozen (p := ⟨w.heap.size, 1, none⟩) kz).trans kf1
        replace k2 := (hb.cell (p := ⟨w.heap.size, 2, none⟩) kz).trans k2
        replace kf2 := (hb.frozen (p := ⟨w.heap.size, 2, none⟩) kz).trans kf2
        replace k3 := (hb.cell (p := ⟨w.heap.size, 3, none⟩) kz).trans k3
        replace kf3 := (hb.frozen (p := ⟨w.heap.size, 3, none⟩) kz).trans kf3
        replace k4 := (hb.cell (p := ⟨w.heap.size, 4, none⟩) kz).trans k4
        replace kf4 := (hb.frozen (p := ⟨w.heap.size, 4, none⟩) kz).trans kf4
        replace k5 := (hb.cell (p := ⟨w.heap.size, 5, none⟩) kz).trans k5
        replace kf5 := (hb.frozen (p := ⟨w.heap.size, 5, none⟩) kz).trans kf5
        replace k6 := (hb.cell (p := ⟨w.heap.size, 6, none⟩) kz).trans k6
        replace kf6 := (hb.frozen (p := ⟨w.heap.size, 6, none⟩) kz).trans kf6
        replace k7 := (hb.cell (p := ⟨w.heap.size, 7, none⟩) kz).trans k7
        replace kf7 := (hb.frozen (p := ⟨w.heap.size, 7, none⟩) kz).trans kf7
        replace k8 := (hb.cell (p := ⟨w.heap.size, 8, none⟩) kz).trans k8
        replace kf8 := (hb.frozen (p := ⟨w.heap.size, 8, none⟩) kz).trans kf8
        replace kz := Nat.lt_of_lt_of_le kz hb.size
        have hbs5 := HB.out.size
        replace HB := Lib.hid (below_via HB.out hb HB.out.size ⟨rfl, rfl, rfl, rfl⟩)
        clear hown hz hb
        refine hK.out _ _ ⟨k0, k1, k2, k3, k4, k5, k6, k7, k8⟩ (fun hHeld => ?_)
        clear hK K
        try simp only [Act.put, List.setIfInBounds_toArray, List.set_cons_zero, List.set_cons_succ]
        refine wpAnyH_ready (rs := [7]) (by kernel_rfl) (by simp) ?_
        refine AllReadyH.cons (o := { dst := some 43, op := Go.Op.call { callee := Go.Callee.value (Go.Operand.func 40), args := #[Go.Operand.tmp 38, Go.Operand.tmp 42], argTypes := #[47, 3] }, type := 47, pos := "ref.go:63", after := #[{ on := 2, ground := Go.Ground.data }, { on := 6, ground := Go.Ground.data }, { on := 2, ground := Go.Ground.chain }], guard := none }) rfl (fun K hK => ?_) AllReadyH.nil
        go_simp
        go_at_call 40
        rw [HWX.out]
        refine (refPut_any A5 c5 g5 L5 (x + 1000) _ (by exact HZ5.out) (by omega) (by omega)).mono ?_
        generalize hL6 : L5 ++ digitsF (x + 1000).toNat = L6 at *
        have HL6 := Lib.hid hL6
        have hl6 : L6.length ≤ 100000000 + 240 := by rw [← hL6]; simp only [List.length_append]; omega
        clear hL6
        rintro e v6 ⟨A6, c6, rfl, hown, hb⟩
        have HO6 := Lib.hid hown
        obtain ⟨g6, hz, _, _, _⟩ := own_bytes hown
        have HZ6 := Lib.hid hz
        replace k0 := (hb.cell (p := ⟨w.heap.size, 0, none⟩) kz).trans k0
        replace kf0 := (hb.frozen (p := ⟨w.heap.size, 0, none⟩) kz).trans kf0
        replace k1 := (hb.cell (p := ⟨w.heap.size, 1, none⟩) kz).trans k1
        replace kf1 := (hb.frozen (p := ⟨w.heap.size, 1, none⟩) kz).trans kf1
        replace k2 := (hb.cell (p := ⟨w.heap.size, 2, none⟩) kz).trans k2
        replace kf2 := (hb.frozen (p := ⟨w.heap.size, 2, none⟩) kz).trans kf2
        replace k3 := (hb.cell (p := ⟨w.heap.size, 3, none⟩) kz).trans k3
        replace kf3 := (hb.frozen (p := ⟨w.heap.size, 3, none⟩) kz).trans kf3
        replace k4 := (hb.cell (p := ⟨w.heap.size, 4, none⟩) kz).trans k4
        replace kf4 := (hb.frozen (p := ⟨w.heap.size, 4, none⟩) kz).trans kf4
        replace k5 := (hb.cell (p := ⟨w.heap.size, 5, none⟩) kz).trans k5
        replace kf5 := (hb.frozen (p := ⟨w.heap.size, 5, none⟩) kz).trans kf5
        replace k6 := (hb.cell (p := ⟨w.heap.size, 6, none⟩) kz).trans k6
        replace kf6 := (hb.frozen (p := ⟨w.heap.size, 6, none⟩) kz).trans kf6
        replace k7 := (hb.cell (p := ⟨w.heap.size, 7, none⟩) kz).trans k7
        replace kf7 := (hb.frozen (p := ⟨w.heap.size, 7, none⟩) kz).trans kf7
        replace k8 := (hb.cell (p := ⟨w.heap.size, 8, none⟩) kz).trans k8
        replace kf8 := (hb.frozen (p := ⟨w.heap.size, 8, none⟩) kz).trans kf8
        replace kz := Nat.lt_of_lt_of_le kz hb.size
        have hbs6 := HB.out.size
        replace HB := Lib.hid (below_via HB.out hb HB.out.size ⟨rfl, rfl, rfl, rfl⟩)
        clear hown hz hb
        refine hK.out _ _ ⟨k0, k1, k2, k3, k4, k5, k6, k7, k8⟩ (fun hHeld => ?_)
        clear hK K
        try simp only [Act.put, List.setIfInBounds_toArray, List.set_cons_zero, List.set_cons_succ]
        refine wpAnyH_ready (rs := [12]) (by kernel_rfl) (by simp) ?_
        refine AllReadyH.cons (o := { dst := some 48, op := Go.Op.call { callee := Go.Callee.value (Go.Operand.func 40), args := #[Go.Operand.tmp 43, Go.Operand.tmp 47], argTypes := #[47, 3] }, type := 47, pos := "ref.go:63", after := #[{ on := 7, ground := Go.Ground.data }, { on := 11, ground := Go.Ground.data }, { on := 7, ground := Go.Ground.chain }], guard := none }) rfl (fun K hK => ?_) AllReadyH.nil
        go_simp
        go_at_call 40
        rw [HWY.out]
        refine (refPut_any A6 c6 g6 L6 (y + 1000) _ (by exact HZ6.out) (by omega) (by omega)).mono ?_
        generalize hL7 : L6 ++ digitsF (y + 1000).toNat = L7 at *
        have HL7 := Lib.hid hL7
        have hl7 : L7.length ≤ 100000000 + 280 := by rw [← hL7]; simp only [List.length_append]; omega
        clear hL7
        rintro e v7 ⟨A7, c7, rfl, hown, hb⟩
        have HO7 := Lib.hid hown
        obtain ⟨g7, hz, _, _, _⟩ := own_bytes hown
        have HZ7 := Lib.hid hz
        replace k0 := (hb.cell (p := ⟨w.heap.size, 0, none⟩) kz).trans k0
        replace kf0 := (hb.frozen (p := ⟨w.heap.size, 0, none⟩) kz).trans kf0
        replace k1 := (hb.cell (p := ⟨w.heap.size, 1, none⟩) kz).trans k1
        replace kf1 := (hb.frozen (p := ⟨w.heap.size, 1, none⟩) kz).trans kf1
        replace k2 := (hb.cell (p := ⟨w.heap.size, 2, none⟩) kz).trans k2
        replace kf2 := (hb.frozen (p := ⟨w.heap.size, 2, none⟩) kz).trans kf2
        replace k3 := (hb.cell (p := ⟨w.heap.size, 3, none⟩) kz).trans k3
        replace kf3 := (hb.frozen (p := ⟨w.heap.size, 3, none⟩) kz).trans kf3
        replace k4 := (hb.cell (p := ⟨w.heap.size, 4, none⟩) kz).trans k4
        replace kf4 := (hb.frozen (p := ⟨w.heap.size, 4, none⟩) kz).trans kf4
        replace k5 := (hb.cell (p := ⟨w.heap.size, 5, none⟩) kz).trans k5
        replace kf5 := (hb.frozen (p := ⟨w.heap.size, 5, none⟩) kz).trans kf5
        replace k6 := (hb.cell (p := ⟨w.heap.size, 6, none⟩) kz).trans k6
        replace kf6 := (hb.frozen (p := ⟨w.heap.size, 6, none⟩) kz).trans kf6
        replace k7 := (hb.cell (p := ⟨w.heap.size, 7, none⟩) kz).trans k7
        replace kf7 := (hb.frozen (p := ⟨w.heap.size, 7, none⟩) kz).trans kf7
        replace k8 := (hb.cell (p := ⟨w.heap.size, 8, none⟩) kz).trans k8
        replace kf8 := (hb.frozen (p := ⟨w.heap.size, 8, none⟩) kz).trans kf8
        replace kz := Nat.lt_of_lt_of_le kz hb.size
        have hbs7 := HB.out.size
        replace HB := Lib.hid (below_via HB.out hb HB.out.size ⟨rfl, rfl, rfl, rfl⟩)
        clear hown hz hb
        refine hK.out _ _ ⟨k0, k1, k2, k3, k4, k5, k6, k7, k8⟩ (fun hHeld => ?_)
        clear hK K
        try simp only [Act.put, List.setIfInBounds_toArray, List.set_cons_zero, List.set_cons_succ]
        refine wpAnyH_take (i := 13) (oi := { dst := some 0, op := Go.Op.assign (Go.Operand.tmp 48), type := 47, pos := "ref.go:63", after := #[{ on := 12, ground := Go.Ground.data }, { on := 12, ground := Go.Ground.chain }, { on := 0, ground := Go.Ground.phase }, { on := 1, ground := Go.Ground.phase }, { on := 2, ground := Go.Ground.phase }, { on := 3, ground := Go.Ground.phase }, { on := 4, ground := Go.Ground.phase }, { on := 5, ground := Go.Ground.phase }, { on := 6, ground := Go.Ground.phase }, { on := 7, ground := Go.Ground.phase }, { on := 8, ground := Go.Ground.phase }, { on := 9, ground := Go.Ground.phase }, { on := 10, ground := Go.Ground.phase }, { on := 11, ground := Go.Ground.phase }, { on := 12, ground := Go.Ground.phase }], guard := none }) (v := ?_) rfl (by kernel_rfl) (by kernel_rfl) (by kernel_rfl) (fun _ _ _ h => h) (Or.inl ⟨rfl, ?_⟩) (by assumption) ?_
        rotate_left
        · intro wz hSw; (try dsimp only at hSw); go_simp; try (with_reducible rfl)
        try simp only [Act.put, List.setIfInBounds_toArray, List.set_cons_zero]
        refine wpAnyH_done (by kernel_rfl) ?_ _
        go_wp2_with fail
        refine (refPutText_any A7 c7 g7 L7 text _ (by exact HZ7.out) (by omega) (by omega)).mono ?_
        generalize hL8 : L7 ++ (digitsF text.size ++ text.data.toList) = L8 at *
        have HL8 := Lib.hid hL8
        have hl8 : L8.length ≤ 100000000 + 320 := by rw [← hL8]; simp only [List.length_append, Array.length_toList]; omega
        clear hL8
        rintro e v8 ⟨A8, c8, rfl, hown, hb⟩
        have HO8 := Lib.hid hown
        obtain ⟨g8, hz, _, _, _⟩ := own_bytes hown
        have HZ8 := Lib.hid hz
        replace k0 := (hb.cell (p := ⟨w.heap.size, 0, none⟩) kz).trans k0
        replace kf0 := (hb.frozen (p := ⟨w.heap.size, 0, none⟩) kz).trans kf0
        replace k1 := (hb.cell (p := ⟨w.heap.size, 1, none⟩) kz).trans k1
        replace kf1 := (hb.frozen (p := ⟨w.heap.size, 1, none⟩) kz).trans kf1
        replace k2 := (hb.cell (p := ⟨w.heap.size, 2, none⟩) kz).trans k2
        replace kf2 := (hb.frozen (p := ⟨w.heap.size, 2, none⟩) kz).trans kf2
        replace k3 := (hb.cell (p := ⟨w.heap.size, 3, none⟩) kz).trans k3
        replace kf3 := (hb.frozen (p := ⟨w.heap.size, 3, none⟩) kz).trans kf3
        replace k4 := (hb.cell (p := ⟨w.heap.size, 4, none⟩) kz).trans k4
        replace kf4 := (hb.frozen (p := ⟨w.heap.size, 4, none⟩) kz).trans kf4
        replace k5 := (hb.cell (p := ⟨w.heap.size, 5, none⟩) kz).trans k5
        replace kf5 := (hb.frozen (p := ⟨w.heap.size, 5, none⟩) kz).trans kf5
        replace k6 := (hb.cell (p := ⟨w.heap.size, 6, none⟩) kz).trans k6
        replace kf6 := (hb.frozen (p := ⟨w.heap.size, 6, none⟩) kz).trans kf6
        replace k7 := (hb.cell (p := ⟨w.heap.size, 7, none⟩) kz).trans k7
        replace kf7 := (hb.frozen (p := ⟨w.heap.size, 7, none⟩) kz).trans kf7
        replace k8 := (hb.cell (p := ⟨w.heap.size, 8, none⟩) kz).trans k8
        replace kf8 := (hb.frozen (p := ⟨w.heap.size, 8, none⟩) kz).trans kf8
        replace kz := Nat.lt_of_lt_of_le kz hb.size
        have hbs8 := HB.out.size
        replace HB := Lib.hid (below_via HB.out hb HB.out.size ⟨rfl, rfl, rfl, rfl⟩)
        clear hown hz hb
        go_wp2
        go_ret
        have e : PF = L8 := by rw [HPI.out, if_pos trivial, HF.out, ← HL8.out, ← HL7.out, ← HL6.out, ← HL5.out, ← HL4.out, ← HL3.out, ← HL2.out, ← HL1.out]; simp
        rw [e]
        exact ⟨A8, c8, rfl, own_base HO8.out hbs8, HB.out⟩
    · skip
      go_wp2_with fail
      refine (refPut_any A4 c4 g4 L4 (0) _ (by exact HZ4.out) (by omega) (by omega)).mono ?_
      generalize hL5 : L4 ++ digitsF (Int.toNat 0) = L5 at *
      have HL5 := Lib.hid hL5
      have hl5 : L5.length ≤ 100000000 + 200 := by rw [← hL5]; simp only [List.length_append]; omega
      clear hL5
      rintro e v5 ⟨A5, c5, rfl, hown, hb⟩
      have HO5 := Lib.hid hown
      obtain ⟨g5, hz, _, _, _⟩ := own_bytes hown
      have HZ5 := Lib.hid hz
      replace k0 := (hb.cell (p := ⟨w.heap.size, 0, none⟩) kz).trans k0
      replace kf0 := (hb.frozen (p := ⟨w.heap.size, 0, none⟩) kz).trans kf0
      replace k1 := (hb.cell (p := ⟨w.heap.size, 1, none⟩) kz).trans k1
      replace kf1 := (hb.frozen (p := ⟨w.heap.size, 1, none⟩) kz).trans kf1
      replace k2 := (hb.cell (p := ⟨w.heap.size, 2, none⟩) kz).trans k2
      replace kf2 := (hb.frozen (p := ⟨w.heap.size, 2, none⟩) kz).trans kf2
      replace k3 := (hb.cell (p := ⟨w.heap.size, 3, none⟩) kz).trans k3
      replace kf3 := (hb.frozen (p := ⟨w.heap.size, 3, none⟩) kz).trans kf3
      replace k4 := (hb.cell (p := ⟨w.heap.size, 4, none⟩) kz).trans k4
      replace kf4 := (hb.frozen (p := ⟨w.heap.size, 4, none⟩) kz).trans kf4
      replace k5 := (hb.cell (p := ⟨w.heap.size, 5, none⟩) kz).trans k5
      replace kf5 := (hb.frozen (p := ⟨w.heap.size, 5, none⟩) kz).trans kf5
      replace k6 := (hb.cell (p := ⟨w.heap.size, 6, none⟩) kz).trans k6
      replace kf6 := (hb.frozen (p := ⟨w.heap.size, 6, none⟩) kz).trans kf6
      replace k7 := (hb.cell (p := ⟨w.heap.size, 7, none⟩) kz).trans k7
      replace kf7 := (hb.frozen (p := ⟨w.heap.size, 7, none⟩) kz).trans kf7
      replace k8 := (hb.cell (p := ⟨w.heap.size, 8, none⟩) kz).trans k8
      replace kf8 := (hb.frozen (p := ⟨w.heap.size, 8, none⟩) kz).trans kf8
      replace kz := Nat.lt_of_lt_of_le kz hb.size
      have hbs5 := HB.out.size
      replace HB := Lib.hid (below_via HB.out hb HB.out.size ⟨rfl, rfl, rfl, rfl⟩)
      clear hown hz hb
      go_wp2
      go_ret
      have e : PF = L5 := by rw [HPI.out, if_pos trivial, HF.out, ← HL5.out, ← HL4.out, ← HL3.out, ← HL2.out, ← HL1.out]; simp
      rw [e]
      exact ⟨A5, c5, rfl, own_base HO5.out hbs5, HB.out⟩
end Go.Proofs.Ytophhjknbanafaa
