/- The reference's Right of a Know. -/
import Derived.Test.YtbookbgfipbaoaaGreatDoorH21
import Derived.Test.YtbookbgfipbaoaaGreatDoorH6
namespace Go.Proofs.YtbookbgfipbaoaaGreatDoor.Kn
open Go.RowKit

/-- No text is longer than a machine may have it. -/
def ShortM (m : Mat) : Prop := ∀ x ∈ m, x.1.size ≤ 9223372036854775807 ∧ x.2.2.length ≤ 9223372036854775807
set_option maxRecDepth 100000 in
set_option maxHeartbeats 8000000 in
theorem rrightM_any (A : Option Addr) (n c : Nat) (m : Mat) (B : Nat) (w : World) (hB : B ≤ w.heap.size) (hz : MatAt w B A n m) (hn : n ≤ 1000000) (hv : ∀ z ∈ m, z.2.2.length ≤ 1000000) (hsh : ShortM m) :
    Calls Tryz.prog 102 #[.slice A n c] w fun e w' => e = .returned (.bool (rightM m)) ∧ Below w.heap.size w w' := by
  have HZ := Lib.hid hz
  have HL := Lib.hid hz.len
  have HV := Lib.hid hv
  have HSH := Lib.hid hsh
  clear hz hv hsh
  generalize hRS : rightM m = RS
  have HRS : Hid (rightFromM (prevI m 0) (m.drop 0) = RS) := hRS
  clear hRS
  go_enter Tryz.func102, Tryz.ntmps102
  go_wp2
  go_loopw [3] (fun i wr => ∃ k : Nat, k ≤ n ∧ i = .int .i64 k ∧ Hid (rightFromM (prevI m k) (m.drop k) = RS) ∧ Hid (Below w.heap.size w wr)) (fun i _ => n - (intOf i).toNat)
  case atStart => exact ⟨0, by omega, rfl, HRS, Below.refl _ _⟩
  case round =>
    clear HRS
    obtain ⟨k, hk, rfl, HRS, HB⟩ := hrel
    by_cases hlt : k < n
    · obtain ⟨blk, off, r, rfl, hbB, hmk, e0, e1, e2, hf⟩ := HZ.out.get (HB.out.mono hB) hlt
      have hi0 : (0 : Int) ≤ (k : Int) := by omega
      have hi1 : (k : Int) < n := by omega
      have hst := rightM_step hmk
      rw [HRS.out] at hst
      have HST := Lib.hid hst
      have hvl : r.v.length ≤ 1000000 := HV.out _ (List.mem_of_getElem? hmk)
      have hsz := HB.out.size
      have hbl : blk < wr.heap.size := by omega
      have hBr := Nat.le_trans hB hsz
      have HVC := Lib.hid hf.vec
      obtain ⟨id, u, Ar, cr, v⟩ := r
      have HOK : Hid (okRow (id, (u, v)) = (rightL id.data.toList && (Sp.rightF u v && decide (u + (v.length : Int) ≠ 0)))) := rfl
      simp only at e0 e1 e2 hvl HST HVC
      rw [HOK.out] at HST
      have HC3 : Hid (∀ b W, Sp.rightF u v = b → B ≤ W.heap.size → Sp.IntsAt W B Ar v.length v → Calls Tryz.prog 156 #[.agg #[.int .i64 u, .slice Ar v.length cr]] W fun e w' => e = .returned (.bool b) ∧ Below W.heap.size W w') := fun b W hb hB h => by
        rw [← hb]; exact Sp.refRight_any u Ar v.length cr v B W hB h (by omega)
      have HC4 : Hid (∀ W, 0 ≤ u → u ≤ 1048576 → Calls Tryz.prog 157 #[.agg #[.int .i64 u, .slice Ar v.length cr]] W fun e w' => e = .returned (.int .i64 (u + v.length)) ∧ Below W.heap.size W w') := fun W h0 h1 => Sp.refCount_any u Ar v.length cr W h0 h1 (by omega)
      clear HOK hst hf hmk
      cases hr : rightL id.data.toList with
      | false =>
        rw [hr] at HST
        have HF : Hid (RS = false) := by show _ = _; rw [HST.out]; rfl
        have HR := Lib.hid hr
        clear hr HST HC3 HC4
        generalize v.length = L at *
        go_upto_region 4 with fail
        refine wp_region_held_drew (S := fun w' => w'.cell? ⟨blk, off + k * 3, none⟩ = some (.string id) ∧ w'.cell? ⟨blk, off + k * 3 + 1, none⟩ = some (.int .i64 u) ∧ w'.cell? ⟨blk, off + k * 3 + 2, none⟩ = some (.slice Ar L cr)) (by kernel_rfl) ⟨e0, e1, e2⟩ (fun hHeld => ?_)
        refine tk 0 rfl ?_
        refine tk 1 rfl ?_
        refine tk 2 rfl ?_
        refine tk 3 rfl ?_
        refine tk 4 rfl ?_
        refine wpAnyH_ready (rs := [5]) (by kernel_rfl) (by simp) ?_
        refine (AllReadyH.cons rfl (fun K hK => ?_) AllReadyH.nil)
        go_simp
        go_at_call 33
        refine (rright_is _ false HR _).mono ?_
        rintro e u1 ⟨rfl, hw⟩
        have hb : Below wr.heap.size wr u1 := by rw [← hw]; exact drew_below _ _
        clear hw
        replace e0 := (hb.cell (p := ⟨blk, off + k * 3, none⟩) hbl).trans e0
        replace e1 := (hb.cell (p := ⟨blk, off + k * 3 + 1, none⟩) hbl).trans e1
        replace e2 := (hb.cell (p := ⟨blk, off + k * 3 + 2, none⟩) hbl).trans e2
        replace HVC := Lib.hid (HVC.out.keep (hb.mono (by exact hBr)))
        replace HB := Lib.hid (HB.out.trans (by exact hb.mono HB.out.size))
        replace hbl := Nat.lt_of_lt_of_le hbl hb.size
        replace hBr := Nat.le_trans hBr hb.size
        clear hb
        refine hK.out _ _ ⟨e0, e1, e2⟩ (fun hHeld => ?_)
        clear hK K
        try simp only [Act.put, List.setIfInBounds_toArray, List.set_cons_zero, List.set_cons_succ]
        refine tk 6 rfl ?_
        refine tk 7 rfl ?_
        refine wpAnyH_take (i := 8) (v := undef) rfl (by kernel_rfl) (by kernel_rfl) (by kernel_rfl) (fun _ _ _ h => h) (Or.inr ⟨rfl, rfl⟩) (by assumption) ?_
        try simp only [Act.put, List.setIfInBounds_toArray, List.set_cons_zero, List.set_cons_succ]
        refine wpAnyH_take (i := 9) (v := undef) rfl (by kernel_rfl) (by kernel_rfl) (by kernel_rfl) (fun _ _ _ h => h) (Or.inr ⟨rfl, rfl⟩) (by assumption) ?_
        try simp only [Act.put, List.setIfInBounds_toArray, List.set_cons_zero, List.set_cons_succ]
        refine wpAnyH_take (i := 10) (v := undef) rfl (by kernel_rfl) (by kernel_rfl) (by kernel_rfl) (fun _ _ _ h => h) (Or.inr ⟨rfl, rfl⟩) (by assumption) ?_
        try simp only [Act.put, List.setIfInBounds_toArray, List.set_cons_zero, List.set_cons_succ]
        refine wpAnyH_take (i := 11) (v := undef) rfl (by kernel_rfl) (by kernel_rfl) (by kernel_rfl) (fun _ _ _ h => h) (Or.inr ⟨rfl, rfl⟩) (by assumption) ?_
        try simp only [Act.put, List.setIfInBounds_toArray, List.set_cons_zero, List.set_cons_succ]
        refine wpAnyH_take (i := 12) (v := undef) rfl (by kernel_rfl) (by kernel_rfl) (by kernel_rfl) (fun _ _ _ h => h) (Or.inr ⟨rfl, rfl⟩) (by assumption) ?_
        try simp only [Act.put, List.setIfInBounds_toArray, List.set_cons_zero, List.set_cons_succ]
        refine wpAnyH_take (i := 13) (v := undef) rfl (by kernel_rfl) (by kernel_rfl) (by kernel_rfl) (fun _ _ _ h => h) (Or.inr ⟨rfl, rfl⟩) (by assumption) ?_
        try simp only [Act.put, List.setIfInBounds_toArray, List.set_cons_zero, List.set_cons_succ]
        refine wpAnyH_take (i := 14) (v := undef) rfl (by kernel_rfl) (by kernel_rfl) (by kernel_rfl) (fun _ _ _ h => h) (Or.inr ⟨rfl, rfl⟩) (by assumption) ?_
        try simp only [Act.put, List.setIfInBounds_toArray, List.set_cons_zero, List.set_cons_succ]
        refine tk 15 rfl ?_
        refine tk 16 rfl ?_
        refine wpAnyH_take (i := 17) (v := undef) rfl (by kernel_rfl) (by kernel_rfl) (by kernel_rfl) (fun _ _ _ h => h) (Or.inr ⟨rfl, rfl⟩) (by assumption) ?_
        try simp only [Act.put, List.setIfInBounds_toArray, List.set_cons_zero, List.set_cons_succ]
        refine wpAnyH_take (i := 18) (v := undef) rfl (by kernel_rfl) (by kernel_rfl) (by kernel_rfl) (fun _ _ _ h => h) (Or.inr ⟨rfl, rfl⟩) (by assumption) ?_
        try simp only [Act.put, List.setIfInBounds_toArray, List.set_cons_zero, List.set_cons_succ]
        refine wpAnyH_take (i := 19) (v := undef) rfl (by kernel_rfl) (by kernel_rfl) (by kernel_rfl) (fun _ _ _ h => h) (Or.inr ⟨rfl, rfl⟩) (by assumption) ?_
        try simp only [Act.put, List.setIfInBounds_toArray, List.set_cons_zero, List.set_cons_succ]
        refine wpAnyH_take (i := 20) (v := undef) rfl (by kernel_rfl) (by kernel_rfl) (by kernel_rfl) (fun _ _ _ h => h) (Or.inr ⟨rfl, rfl⟩) (by assumption) ?_
        try simp only [Act.put, List.setIfInBounds_toArray, List.set_cons_zero, List.set_cons_succ]
        refine wpAnyH_take (i := 21) (v := undef) rfl (by kernel_rfl) (by kernel_rfl) (by kernel_rfl) (fun _ _ _ h => h) (Or.inr ⟨rfl, rfl⟩) (by assumption) ?_
        try simp only [Act.put, List.setIfInBounds_toArray, List.set_cons_zero, List.set_cons_succ]
        refine wpAnyH_take (i := 22) (v := undef) rfl (by kernel_rfl) (by kernel_rfl) (by kernel_rfl) (fun _ _ _ h => h) (Or.inr ⟨rfl, rfl⟩) (by assumption) ?_
        try simp only [Act.put, List.setIfInBounds_toArray, List.set_cons_zero, List.set_cons_succ]
        refine wpAnyH_take (i := 23) (v := undef) rfl (by kernel_rfl) (by kernel_rfl) (by kernel_rfl) (fun _ _ _ h => h) (Or.inr ⟨rfl, rfl⟩) (by assumption) ?_
        try simp only [Act.put, List.setIfInBounds_toArray, List.set_cons_zero, List.set_cons_succ]
        refine tk 24 rfl ?_
        refine tk 25 rfl ?_
        refine wpAnyH_take (i := 26) (v := undef) rfl (by kernel_rfl) (by kernel_rfl) (by kernel_rfl) (fun _ _ _ h => h) (Or.inr ⟨rfl, rfl⟩) (by assumption) ?_
        try simp only [Act.put, List.setIfInBounds_toArray, List.set_cons_zero, List.set_cons_succ]
        refine wpAnyH_take (i := 27) (v := undef) rfl (by kernel_rfl) (by kernel_rfl) (by kernel_rfl) (fun _ _ _ h => h) (Or.inr ⟨rfl, rfl⟩) (by assumption) ?_
        try simp only [Act.put, List.setIfInBounds_toArray, List.set_cons_zero, List.set_cons_succ]
        refine wpAnyH_take (i := 28) (v := undef) rfl (by kernel_rfl) (by kernel_rfl) (by kernel_rfl) (fun _ _ _ h => h) (Or.inr ⟨rfl, rfl⟩) (by assumption) ?_
        try simp only [Act.put, List.setIfInBounds_toArray, List.set_cons_zero, List.set_cons_succ]
        refine wpAnyH_take (i := 29) (v := undef) rfl (by kernel_rfl) (by kernel_rfl) (by kernel_rfl) (fun _ _ _ h => h) (Or.inr ⟨rfl, rfl⟩) (by assumption) ?_
        try simp only [Act.put, List.setIfInBounds_toArray, List.set_cons_zero, List.set_cons_succ]
        refine wpAnyH_take (i := 30) (v := undef) rfl (by kernel_rfl) (by kernel_rfl) (by kernel_rfl) (fun _ _ _ h => h) (Or.inr ⟨rfl, rfl⟩) (by assumption) ?_
        try simp only [Act.put, List.setIfInBounds_toArray, List.set_cons_zero, List.set_cons_succ]
        refine wpAnyH_take (i := 31) (v := undef) rfl (by kernel_rfl) (by kernel_rfl) (by kernel_rfl) (fun _ _ _ h => h) (Or.inr ⟨rfl, rfl⟩) (by assumption) ?_
        try simp only [Act.put, List.setIfInBounds_toArray, List.set_cons_zero, List.set_cons_succ]
        refine wpAnyH_take (i := 32) (v := undef) rfl (by kernel_rfl) (by kernel_rfl) (by kernel_rfl) (fun _ _ _ h => h) (Or.inr ⟨rfl, rfl⟩) (by assumption) ?_
        try simp only [Act.put, List.setIfInBounds_toArray, List.set_cons_zero, List.set_cons_succ]
        refine wpAnyH_take (i := 33) (v := undef) rfl (by kernel_rfl) (by kernel_rfl) (by kernel_rfl) (fun _ _ _ h => h) (Or.inr ⟨rfl, rfl⟩) (by assumption) ?_
        try simp only [Act.put, List.setIfInBounds_toArray, List.set_cons_zero, List.set_cons_succ]
        refine wpAnyH_take (i := 34) (v := undef) rfl (by kernel_rfl) (by kernel_rfl) (by kernel_rfl) (fun _ _ _ h => h) (Or.inr ⟨rfl, rfl⟩) (by assumption) ?_
        try simp only [Act.put, List.setIfInBounds_toArray, List.set_cons_zero, List.set_cons_succ]
        refine wpAnyH_take (i := 35) (v := undef) rfl (by kernel_rfl) (by kernel_rfl) (by kernel_rfl) (fun _ _ _ h => h) (Or.inr ⟨rfl, rfl⟩) (by assumption) ?_
        try simp only [Act.put, List.setIfInBounds_toArray, List.set_cons_zero, List.set_cons_succ]
        refine wpAnyH_take (i := 36) (v := undef) rfl (by kernel_rfl) (by kernel_rfl) (by kernel_rfl) (fun _ _ _ h => h) (Or.inr ⟨rfl, rfl⟩) (by assumption) ?_
        try simp only [Act.put, List.setIfInBounds_toArray, List.set_cons_zero, List.set_cons_succ]
        refine wpAnyH_take (i := 37) (v := undef) rfl (by kernel_rfl) (by kernel_rfl) (by kernel_rfl) (fun _ _ _ h => h) (Or.inr ⟨rfl, rfl⟩) (by assumption) ?_
        try simp only [Act.put, List.setIfInBounds_toArray, List.set_cons_zero, List.set_cons_succ]
        refine wpAnyH_take (i := 38) (v := undef) rfl (by kernel_rfl) (by kernel_rfl) (by kernel_rfl) (fun _ _ _ h => h) (Or.inr ⟨rfl, rfl⟩) (by assumption) ?_
        try simp only [Act.put, List.setIfInBounds_toArray, List.set_cons_zero, List.set_cons_succ]
        refine wpAnyH_take (i := 39) (v := undef) rfl (by kernel_rfl) (by kernel_rfl) (by kernel_rfl) (fun _ _ _ h => h) (Or.inr ⟨rfl, rfl⟩) (by assumption) ?_
        try simp only [Act.put, List.setIfInBounds_toArray, List.set_cons_zero, List.set_cons_succ]
        refine wpAnyH_take (i := 40) (v := undef) rfl (by kernel_rfl) (by kernel_rfl) (by kernel_rfl) (fun _ _ _ h => h) (Or.inr ⟨rfl, rfl⟩) (by assumption) ?_
        try simp only [Act.put, List.setIfInBounds_toArray, List.set_cons_zero, List.set_cons_succ]
        refine wpAnyH_take (i := 41) (v := undef) rfl (by kernel_rfl) (by kernel_rfl) (by kernel_rfl) (fun _ _ _ h => h) (Or.inr ⟨rfl, rfl⟩) (by assumption) ?_
        try simp only [Act.put, List.setIfInBounds_toArray, List.set_cons_zero, List.set_cons_succ]
        refine wpAnyH_take (i := 42) (v := undef) rfl (by kernel_rfl) (by kernel_rfl) (by kernel_rfl) (fun _ _ _ h => h) (Or.inr ⟨rfl, rfl⟩) (by assumption) ?_
        try simp only [Act.put, List.setIfInBounds_toArray, List.set_cons_zero, List.set_cons_succ]
        refine tk 43 rfl ?_
        refine wpAnyH_done (by kernel_rfl) ?_ _
        go_wp2
        go_ret
        exact ⟨ret_bool HF.out.symm, HB.out⟩
      | true =>
        rw [hr] at HST
        have HR := Lib.hid hr
        clear hr
        cases hq : Sp.rightF u v with
        | false =>
          rw [hq] at HST
          have HF : Hid (RS = false) := by show _ = _; rw [HST.out]; rfl
          have HQ := Lib.hid hq
          clear hq HST HC4
          generalize v.length = L at *
          go_upto_region 4 with fail
          refine wp_region_held_drew (S := fun w' => w'.cell? ⟨blk, off + k * 3, none⟩ = some (.string id) ∧ w'.cell? ⟨blk, off + k * 3 + 1, none⟩ = some (.int .i64 u) ∧ w'.cell? ⟨blk, off + k * 3 + 2, none⟩ = some (.slice Ar L cr)) (by kernel_rfl) ⟨e0, e1, e2⟩ (fun hHeld => ?_)
          refine tk 0 rfl ?_
          refine tk 1 rfl ?_
          refine tk 2 rfl ?_
          refine tk 3 rfl ?_
          refine tk 4 rfl ?_
          refine wpAnyH_ready (rs := [5]) (by kernel_rfl) (by simp) ?_
          refine (AllReadyH.cons rfl (fun K hK => ?_) AllReadyH.nil)
          go_simp
          go_at_call 33
          refine (rright_is _ true HR _).mono ?_
          rintro e u1 ⟨rfl, hw⟩
          have hb : Below wr.heap.size wr u1 := by rw [← hw]; exact drew_below _ _
          clear hw
          replace e0 := (hb.cell (p := ⟨blk, off + k * 3, none⟩) hbl).trans e0
          replace e1 := (hb.cell (p := ⟨blk, off + k * 3 + 1, none⟩) hbl).trans e1
          replace e2 := (hb.cell (p := ⟨blk, off + k * 3 + 2, none⟩) hbl).trans e2
          replace HVC := Lib.hid (HVC.out.keep (hb.mono (by exact hBr)))
          replace HB := Lib.hid (HB.out.trans (by exact hb.mono HB.out.size))
          replace hbl := Nat.lt_of_lt_of_le hbl hb.size
          replace hBr := Nat.le_trans hBr hb.size
          clear hb
          refine hK.out _ _ ⟨e0, e1, e2⟩ (fun hHeld => ?_)
          clear hK K
          try simp only [Act.put, List.setIfInBounds_toArray, List.set_cons_zero, List.set_cons_succ]
          refine tk 6 rfl ?_
          refine tk 7 rfl ?_
          refine tk 8 rfl ?_
          refine tk 9 rfl ?_
          refine tk 10 rfl ?_
          refine tk 11 rfl ?_
          refine tk 12 rfl ?_
          refine wpAnyH_ready (rs := [13]) (by kernel_rfl) (by simp) ?_
          refine (AllReadyH.cons rfl (fun K hK => ?_) AllReadyH.nil)
          go_simp
          go_at_call 156
          refine (HC3.out false _ HQ.out (by exact hBr) (by exact HVC.out)).mono ?_
          rintro e u2 ⟨rfl, hb⟩
          replace e0 := (hb.cell (p := ⟨blk, off + k * 3, none⟩) hbl).trans e0
          replace e1 := (hb.cell (p := ⟨blk, off + k * 3 + 1, none⟩) hbl).trans e1
          replace e2 := (hb.cell (p := ⟨blk, off + k * 3 + 2, none⟩) hbl).trans e2
          replace HVC := Lib.hid (HVC.out.keep (hb.mono (by exact hBr)))
          replace HB := Lib.hid (HB.out.trans (by exact hb.mono HB.out.size))
          replace hbl := Nat.lt_of_lt_of_le hbl hb.size
          replace hBr := Nat.le_trans hBr hb.size
          clear hb
          refine hK.out _ _ ⟨e0, e1, e2⟩ (fun hHeld => ?_)
          clear hK K
          try simp only [Act.put, List.setIfInBounds_toArray, List.set_cons_zero, List.set_cons_succ]
          refine tk 14 rfl ?_
          refine tk 15 rfl ?_
          refine tk 16 rfl ?_
          refine wpAnyH_take (i := 17) (v := undef) rfl (by kernel_rfl) (by kernel_rfl) (by kernel_rfl) (fun _ _ _ h => h) (Or.inr ⟨rfl, rfl⟩) (by assumption) ?_
          try simp only [Act.put, List.setIfInBounds_toArray, List.set_cons_zero, List.set_cons_succ]
          refine wpAnyH_take (i := 18) (v := undef) rfl (by kernel_rfl) (by kernel_rfl) (by kernel_rfl) (fun _ _ _ h => h) (Or.inr ⟨rfl, rfl⟩) (by assumption) ?_
          try simp only [Act.put, List.setIfInBounds_toArray, List.set_cons_zero, List.set_cons_succ]
          refine wpAnyH_take (i := 19) (v := undef) rfl (by kernel_rfl) (by kernel_rfl) (by kernel_rfl) (fun _ _ _ h => h) (Or.inr ⟨rfl, rfl⟩) (by assumption) ?_
          try simp only [Act.put, List.setIfInBounds_toArray, List.set_cons_zero, List.set_cons_succ]
          refine wpAnyH_take (i := 20) (v := undef) rfl (by kernel_rfl) (by kernel_rfl) (by kernel_rfl) (fun _ _ _ h => h) (Or.inr ⟨rfl, rfl⟩) (by assumption) ?_
          try simp only [Act.put, List.setIfInBounds_toArray, List.set_cons_zero, List.set_cons_succ]
          refine wpAnyH_take (i := 21) (v := undef) rfl (by kernel_rfl) (by kernel_rfl) (by kernel_rfl) (fun _ _ _ h => h) (Or.inr ⟨rfl, rfl⟩) (by assumption) ?_
          try simp only [Act.put, List.setIfInBounds_toArray, List.set_cons_zero, List.set_cons_succ]
          refine wpAnyH_take (i := 22) (v := undef) rfl (by kernel_rfl) (by kernel_rfl) (by kernel_rfl) (fun _ _ _ h => h) (Or.inr ⟨rfl, rfl⟩) (by assumption) ?_
          try simp only [Act.put, List.setIfInBounds_toArray, List.set_cons_zero, List.set_cons_succ]
          refine wpAnyH_take (i := 23) (v := undef) rfl (by kernel_rfl) (by kernel_rfl) (by kernel_rfl) (fun _ _ _ h => h) (Or.inr ⟨rfl, rfl⟩) (by assumption) ?_
          try simp only [Act.put, List.setIfInBounds_toArray, List.set_cons_zero, List.set_cons_succ]
          refine tk 24 rfl ?_
          refine tk 25 rfl ?_
          refine wpAnyH_take (i := 26) (v := undef) rfl (by kernel_rfl) (by kernel_rfl) (by kernel_rfl) (fun _ _ _ h => h) (Or.inr ⟨rfl, rfl⟩) (by assumption) ?_
          try simp only [Act.put, List.setIfInBounds_toArray, List.set_cons_zero, List.set_cons_succ]
          refine wpAnyH_take (i := 27) (v := undef) rfl (by kernel_rfl) (by kernel_rfl) (by kernel_rfl) (fun _ _ _ h => h) (Or.inr ⟨rfl, rfl⟩) (by assumption) ?_
          try simp only [Act.put, List.setIfInBounds_toArray, List.set_cons_zero, List.set_cons_succ]
          refine wpAnyH_take (i := 28) (v := undef) rfl (by kernel_rfl) (by kernel_rfl) (by kernel_rfl) (fun _ _ _ h => h) (Or.inr ⟨rfl, rfl⟩) (by assumption) ?_
          try simp only [Act.put, List.setIfInBounds_toArray, List.set_cons_zero, List.set_cons_succ]
          refine wpAnyH_take (i := 29) (v := undef) rfl (by kernel_rfl) (by kernel_rfl) (by kernel_rfl) (fun _ _ _ h => h) (Or.inr ⟨rfl, rfl⟩) (by assumption) ?_
          try simp only [Act.put, List.setIfInBounds_toArray, List.set_cons_zero, List.set_cons_succ]
          refine wpAnyH_take (i := 30) (v := undef) rfl (by kernel_rfl) (by kernel_rfl) (by kernel_rfl) (fun _ _ _ h => h) (Or.inr ⟨rfl, rfl⟩) (by assumption) ?_
          try simp only [Act.put, List.setIfInBounds_toArray, List.set_cons_zero, List.set_cons_succ]
          refine wpAnyH_take (i := 31) (v := undef) rfl (by kernel_rfl) (by kernel_rfl) (by kernel_rfl) (fun _ _ _ h => h) (Or.inr ⟨rfl, rfl⟩) (by assumption) ?_
          try simp only [Act.put, List.setIfInBounds_toArray, List.set_cons_zero, List.set_cons_succ]
          refine wpAnyH_take (i := 32) (v := undef) rfl (by kernel_rfl) (by kernel_rfl) (by kernel_rfl) (fun _ _ _ h => h) (Or.inr ⟨rfl, rfl⟩) (by assumption) ?_
          try simp only [Act.put, List.setIfInBounds_toArray, List.set_cons_zero, List.set_cons_succ]
          refine wpAnyH_take (i := 33) (v := undef) rfl (by kernel_rfl) (by kernel_rfl) (by kernel_rfl) (fun _ _ _ h => h) (Or.inr ⟨rfl, rfl⟩) (by assumption) ?_
          try simp only [Act.put, List.setIfInBounds_toArray, List.set_cons_zero, List.set_cons_succ]
          refine wpAnyH_take (i := 34) (v := undef) rfl (by kernel_rfl) (by kernel_rfl) (by kernel_rfl) (fun _ _ _ h => h) (Or.inr ⟨rfl, rfl⟩) (by assumption) ?_
          try simp only [Act.put, List.setIfInBounds_toArray, List.set_cons_zero, List.set_cons_succ]
          refine wpAnyH_take (i := 35) (v := undef) rfl (by kernel_rfl) (by kernel_rfl) (by kernel_rfl) (fun _ _ _ h => h) (Or.inr ⟨rfl, rfl⟩) (by assumption) ?_
          try simp only [Act.put, List.setIfInBounds_toArray, List.set_cons_zero, List.set_cons_succ]
          refine wpAnyH_take (i := 36) (v := undef) rfl (by kernel_rfl) (by kernel_rfl) (by kernel_rfl) (fun _ _ _ h => h) (Or.inr ⟨rfl, rfl⟩) (by assumption) ?_
          try simp only [Act.put, List.setIfInBounds_toArray, List.set_cons_zero, List.set_cons_succ]
          refine wpAnyH_take (i := 37) (v := undef) rfl (by kernel_rfl) (by kernel_rfl) (by kernel_rfl) (fun _ _ _ h => h) (Or.inr ⟨rfl, rfl⟩) (by assumption) ?_
          try simp only [Act.put, List.setIfInBounds_toArray, List.set_cons_zero, List.set_cons_succ]
          refine wpAnyH_take (i := 38) (v := undef) rfl (by kernel_rfl) (by kernel_rfl) (by kernel_rfl) (fun _ _ _ h => h) (Or.inr ⟨rfl, rfl⟩) (by assumption) ?_
          try simp only [Act.put, List.setIfInBounds_toArray, List.set_cons_zero, List.set_cons_succ]
          refine wpAnyH_take (i := 39) (v := undef) rfl (by kernel_rfl) (by kernel_rfl) (by kernel_rfl) (fun _ _ _ h => h) (Or.inr ⟨rfl, rfl⟩) (by assumption) ?_
          try simp only [Act.put, List.setIfInBounds_toArray, List.set_cons_zero, List.set_cons_succ]
          refine wpAnyH_take (i := 40) (v := undef) rfl (by kernel_rfl) (by kernel_rfl) (by kernel_rfl) (fun _ _ _ h => h) (Or.inr ⟨rfl, rfl⟩) (by assumption) ?_
          try simp only [Act.put, List.setIfInBounds_toArray, List.set_cons_zero, List.set_cons_succ]
          refine wpAnyH_take (i := 41) (v := undef) rfl (by kernel_rfl) (by kernel_rfl) (by kernel_rfl) (fun _ _ _ h => h) (Or.inr ⟨rfl, rfl⟩) (by assumption) ?_
          try simp only [Act.put, List.setIfInBounds_toArray, List.set_cons_zero, List.set_cons_succ]
          refine wpAnyH_take (i := 42) (v := undef) rfl (by kernel_rfl) (by kernel_rfl) (by kernel_rfl) (fun _ _ _ h => h) (Or.inr ⟨rfl, rfl⟩) (by assumption) ?_
          try simp only [Act.put, List.setIfInBounds_toArray, List.set_cons_zero, List.set_cons_succ]
          refine tk 43 rfl ?_
          refine wpAnyH_done (by kernel_rfl) ?_ _
          go_wp2
          go_ret
          exact ⟨ret_bool HF.out.symm, HB.out⟩
        | true =>
          rw [hq] at HST
          have hur := right_bd hq
          have hu0 := hur.1
          have hu1 := hur.2
          have HQ := Lib.hid hq
          clear hq hur
          by_cases h0 : u + (v.length : Int) = 0
          · have HF : Hid (RS = false) := by show _ = _; rw [HST.out, decide_eq_false (fun h => h h0)]; rfl
            clear HST
            generalize v.length = L at *
            have hg : decide (u + (L : Int) < 1) = true := decide_eq_true (by omega)
            have hg' : u + (L : Int) < 1 := by omega
            go_upto_region 4 with fail
            refine wp_region_held_drew (S := fun w' => w'.cell? ⟨blk, off + k * 3, none⟩ = some (.string id) ∧ w'.cell? ⟨blk, off + k * 3 + 1, none⟩ = some (.int .i64 u) ∧ w'.cell? ⟨blk, off + k * 3 + 2, none⟩ = some (.slice Ar L cr)) (by kernel_rfl) ⟨e0, e1, e2⟩ (fun hHeld => ?_)
            refine tk 0 rfl ?_
            refine tk 1 rfl ?_
            refine tk 2 rfl ?_
            refine tk 3 rfl ?_
            refine tk 4 rfl ?_
            refine wpAnyH_ready (rs := [5]) (by kernel_rfl) (by simp) ?_
            refine (AllReadyH.cons rfl (fun K hK => ?_) AllReadyH.nil)
            go_simp
            go_at_call 33
            refine (rright_is _ true HR _).mono ?_
            rintro e u1 ⟨rfl, hw⟩
            have hb : Below wr.heap.size wr u1 := by rw [← hw]; exact drew_below _ _
            clear hw
            replace e0 := (hb.cell (p := ⟨blk, off + k * 3, none⟩) hbl).trans e0
            replace e1 := (hb.cell (p := ⟨blk, off + k * 3 + 1, none⟩) hbl).trans e1
            replace e2 := (hb.cell (p := ⟨blk, off + k * 3 + 2, none⟩) hbl).trans e2
            replace HVC := Lib.hid (HVC.out.keep (hb.mono (by exact hBr)))
            replace HB := Lib.hid (HB.out.trans (by exact hb.mono HB.out.size))
            replace hbl := Nat.lt_of_lt_of_le hbl hb.size
            replace hBr := Nat.le_trans hBr hb.size
            clear hb
            refine hK.out _ _ ⟨e0, e1, e2⟩ (fun hHeld => ?_)
            clear hK K
            try simp only [Act.put, List.setIfInBounds_toArray, List.set_cons_zero, List.set_cons_succ]
            refine tk 6 rfl ?_
            refine tk 7 rfl ?_
            refine tk 8 rfl ?_
            refine tk 9 rfl ?_
            refine tk 10 rfl ?_
            refine tk 11 rfl ?_
            refine tk 12 rfl ?_
            refine wpAnyH_ready (rs := [13]) (by kernel_rfl) (by simp) ?_
            refine (AllReadyH.cons rfl (fun K hK => ?_) AllReadyH.nil)
            go_simp
            go_at_call 156
            refine (HC3.out true _ HQ.out (by exact hBr) (by exact HVC.out)).mono ?_
            rintro e u2 ⟨rfl, hb⟩
            replace e0 := (hb.cell (p := ⟨blk, off + k * 3, none⟩) hbl).trans e0
            replace e1 := (hb.cell (p := ⟨blk, off + k * 3 + 1, none⟩) hbl).trans e1
            replace e2 := (hb.cell (p := ⟨blk, off + k * 3 + 2, none⟩) hbl).trans e2
            replace HVC := Lib.hid (HVC.out.keep (hb.mono (by exact hBr)))
            replace HB := Lib.hid (HB.out.trans (by exact hb.mono HB.out.size))
            replace hbl := Nat.lt_of_lt_of_le hbl hb.size
            replace hBr := Nat.le_trans hBr hb.size
            clear hb
            refine hK.out _ _ ⟨e0, e1, e2⟩ (fun hHeld => ?_)
            clear hK K
            try simp only [Act.put, List.setIfInBounds_toArray, List.set_cons_zero, List.set_cons_succ]
            refine tk 14 rfl ?_
            refine tk 15 rfl ?_
            refine tk 16 rfl ?_
            refine tk 17 rfl ?_
            refine tk 18 rfl ?_
            refine tk 19 rfl ?_
            refine tk 20 rfl ?_
            refine tk 21 rfl ?_
            refine wpAnyH_ready (rs := [22]) (by kernel_rfl) (by simp) ?_
            refine (AllReadyH.cons rfl (fun K hK => ?_) AllReadyH.nil)
            go_simp
            go_at_call 157
            refine (HC4.out _ hu0 hu1).mono ?_
            rintro e u3 ⟨rfl, hb⟩
            replace e0 := (hb.cell (p := ⟨blk, off + k * 3, none⟩) hbl).trans e0
            replace e1 := (hb.cell (p := ⟨blk, off + k * 3 + 1, none⟩) hbl).trans e1
            replace e2 := (hb.cell (p := ⟨blk, off + k * 3 + 2, none⟩) hbl).trans e2
            replace HVC := Lib.hid (HVC.out.keep (hb.mono (by exact hBr)))
            replace HB := Lib.hid (HB.out.trans (by exact hb.mono HB.out.size))
            replace hbl := Nat.lt_of_lt_of_le hbl hb.size
            replace hBr := Nat.le_trans hBr hb.size
            clear hb
            refine hK.out _ _ ⟨e0, e1, e2⟩ (fun hHeld => ?_)
            clear hK K
            try simp only [Act.put, List.setIfInBounds_toArray, List.set_cons_zero, List.set_cons_succ]
            refine tk 23 rfl ?_
            refine tk 24 rfl ?_
            refine tk 25 rfl ?_
            refine wpAnyH_take (i := 26) (v := undef) rfl (by kernel_rfl) (by kernel_rfl) (by kernel_rfl) (fun _ _ _ h => h) (Or.inr ⟨rfl, rfl⟩) (by assumption) ?_
            try simp only [Act.put, List.setIfInBounds_toArray, List.set_cons_zero, List.set_cons_succ]
            refine wpAnyH_take (i := 27) (v := undef) rfl (by kernel_rfl) (by kernel_rfl) (by kernel_rfl) (fun _ _ _ h => h) (Or.inr ⟨rfl, rfl⟩) (by assumption) ?_
            try simp only [Act.put, List.setIfInBounds_toArray, List.set_cons_zero, List.set_cons_succ]
            refine wpAnyH_take (i := 28) (v := undef) rfl (by kernel_rfl) (by kernel_rfl) (by kernel_rfl) (fun _ _ _ h => h) (Or.inr ⟨rfl, rfl⟩) (by assumption) ?_
            try simp only [Act.put, List.setIfInBounds_toArray, List.set_cons_zero, List.set_cons_succ]
            refine wpAnyH_take (i := 29) (v := undef) rfl (by kernel_rfl) (by kernel_rfl) (by kernel_rfl) (fun _ _ _ h => h) (Or.inr ⟨rfl, rfl⟩) (by assumption) ?_
            try simp only [Act.put, List.setIfInBounds_toArray, List.set_cons_zero, List.set_cons_succ]
            refine wpAnyH_take (i := 30) (v := undef) rfl (by kernel_rfl) (by kernel_rfl) (by kernel_rfl) (fun _ _ _ h => h) (Or.inr ⟨rfl, rfl⟩) (by assumption) ?_
            try simp only [Act.put, List.setIfInBounds_toArray, List.set_cons_zero, List.set_cons_succ]
            refine wpAnyH_take (i := 31) (v := undef) rfl (by kernel_rfl) (by kernel_rfl) (by kernel_rfl) (fun _ _ _ h => h) (Or.inr ⟨rfl, rfl⟩) (by assumption) ?_
            try simp only [Act.put, List.setIfInBounds_toArray, List.set_cons_zero, List.set_cons_succ]
            refine wpAnyH_take (i := 32) (v := undef) rfl (by kernel_rfl) (by kernel_rfl) (by kernel_rfl) (fun _ _ _ h => h) (Or.inr ⟨rfl, rfl⟩) (by assumption) ?_
            try simp only [Act.put, List.setIfInBounds_toArray, List.set_cons_zero, List.set_cons_succ]
            refine wpAnyH_take (i := 33) (v := undef) rfl (by kernel_rfl) (by kernel_rfl) (by kernel_rfl) (fun _ _ _ h => h) (Or.inr ⟨rfl, rfl⟩) (by assumption) ?_
            try simp only [Act.put, List.setIfInBounds_toArray, List.set_cons_zero, List.set_cons_succ]
            refine wpAnyH_take (i := 34) (v := undef) rfl (by kernel_rfl) (by kernel_rfl) (by kernel_rfl) (fun _ _ _ h => h) (Or.inr ⟨rfl, rfl⟩) (by assumption) ?_
            try simp only [Act.put, List.setIfInBounds_toArray, List.set_cons_zero, List.set_cons_succ]
            refine wpAnyH_take (i := 35) (v := undef) rfl (by kernel_rfl) (by kernel_rfl) (by kernel_rfl) (fun _ _ _ h => h) (Or.inr ⟨rfl, rfl⟩) (by assumption) ?_
            try simp only [Act.put, List.setIfInBounds_toArray, List.set_cons_zero, List.set_cons_succ]
            refine wpAnyH_take (i := 36) (v := undef) rfl (by kernel_rfl) (by kernel_rfl) (by kernel_rfl) (fun _ _ _ h => h) (Or.inr ⟨rfl, rfl⟩) (by assumption) ?_
            try simp only [Act.put, List.setIfInBounds_toArray, List.set_cons_zero, List.set_cons_succ]
            refine wpAnyH_take (i := 37) (v := undef) rfl (by kernel_rfl) (by kernel_rfl) (by kernel_rfl) (fun _ _ _ h => h) (Or.inr ⟨rfl, rfl⟩) (by assumption) ?_
            try simp only [Act.put, List.setIfInBounds_toArray, List.set_cons_zero, List.set_cons_succ]
            refine wpAnyH_take (i := 38) (v := undef) rfl (by kernel_rfl) (by kernel_rfl) (by kernel_rfl) (fun _ _ _ h => h) (Or.inr ⟨rfl, rfl⟩) (by assumption) ?_
            try simp only [Act.put, List.setIfInBounds_toArray, List.set_cons_zero, List.set_cons_succ]
            refine wpAnyH_take (i := 39) (v := undef) rfl (by kernel_rfl) (by kernel_rfl) (by kernel_rfl) (fun _ _ _ h => h) (Or.inr ⟨rfl, rfl⟩) (by assumption) ?_
            try simp only [Act.put, List.setIfInBounds_toArray, List.set_cons_zero, List.set_cons_succ]
            refine wpAnyH_take (i := 40) (v := undef) rfl (by kernel_rfl) (by kernel_rfl) (by kernel_rfl) (fun _ _ _ h => h) (Or.inr ⟨rfl, rfl⟩) (by assumption) ?_
            try simp only [Act.put, List.setIfInBounds_toArray, List.set_cons_zero, List.set_cons_succ]
            refine wpAnyH_take (i := 41) (v := undef) rfl (by kernel_rfl) (by kernel_rfl) (by kernel_rfl) (fun _ _ _ h => h) (Or.inr ⟨rfl, rfl⟩) (by assumption) ?_
            try simp only [Act.put, List.setIfInBounds_toArray, List.set_cons_zero, List.set_cons_succ]
            refine wpAnyH_take (i := 42) (v := undef) rfl (by kernel_rfl) (by kernel_rfl) (by kernel_rfl) (fun _ _ _ h => h) (Or.inr ⟨rfl, rfl⟩) (by assumption) ?_
            try simp only [Act.put, List.setIfInBounds_toArray, List.set_cons_zero, List.set_cons_succ]
            refine tk 43 rfl ?_
            refine wpAnyH_done (by kernel_rfl) ?_ _
            go_wp2
            go_ret
            exact ⟨ret_bool HF.out.symm, HB.out⟩
          · have hg : decide (u + (v.length : Int) < 1) = false := decide_eq_false (by omega)
            have hd0 : decide (u + (v.length : Int) ≠ 0) = true := decide_eq_true h0
            rw [hd0] at HST
            have hg' : ¬ (u + (v.length : Int) < 1) := by omega
            generalize v.length = L at *
            by_cases hk0 : k = 0
            · have hpv : prevI m k = none := by unfold prevI; rw [if_pos hk0]
              rw [hpv, prevOk_none] at HST
              have HN : Hid (rightFromM (prevI m (k + 1)) (m.drop (k + 1)) = RS) := by show _ = _; rw [HST.out]; simp
              have hgd : decide (0 < k) = false := by simp; omega
              clear HST hpv hk0 hd0 h0
              go_upto_region 4 with fail
              refine wp_region_held_drew (S := fun w' => w'.cell? ⟨blk, off + k * 3, none⟩ = some (.string id) ∧ w'.cell? ⟨blk, off + k * 3 + 1, none⟩ = some (.int .i64 u) ∧ w'.cell? ⟨blk, off + k * 3 + 2, none⟩ = some (.slice Ar L cr)) (by kernel_rfl) ⟨e0, e1, e2⟩ (fun hHeld => ?_)
              refine tk 0 rfl ?_
              refine tk 1 rfl ?_
              refine tk 2 rfl ?_
              refine tk 3 rfl ?_
              refine tk 4 rfl ?_
              refine wpAnyH_ready (rs := [5]) (by kernel_rfl) (by simp) ?_
              refine (AllReadyH.cons rfl (fun K hK => ?_) AllReadyH.nil)
              go_simp
              go_at_call 33
              refine (rright_is _ true HR _).mono ?_
              rintro e u1 ⟨rfl, hw⟩
              have hb : Below wr.heap.size wr u1 := by rw [← hw]; exact drew_below _ _
              clear hw
              replace e0 := (hb.cell (p := ⟨blk, off + k * 3, none⟩) hbl).trans e0
              replace e1 := (hb.cell (p := ⟨blk, off + k * 3 + 1, none⟩) hbl).trans e1
              replace e2 := (hb.cell (p := ⟨blk, off + k * 3 + 2, none⟩) hbl).trans e2
              replace HVC := Lib.hid (HVC.out.keep (hb.mono (by exact hBr)))
              replace HB := Lib.hid (HB.out.trans (by exact hb.mono HB.out.size))
              replace hbl := Nat.lt_of_lt_of_le hbl hb.size
              replace hBr := Nat.le_trans hBr hb.size
              clear hb
              refine hK.out _ _ ⟨e0, e1, e2⟩ (fun hHeld => ?_)
              clear hK K
              try simp only [Act.put, List.setIfInBounds_toArray, List.set_cons_zero, List.set_cons_succ]
              refine tk 6 rfl ?_
              refine tk 7 rfl ?_
              refine tk 8 rfl ?_
              refine tk 9 rfl ?_
              refine tk 10 rfl ?_
              refine tk 11 rfl ?_
              refine tk 12 rfl ?_
              refine wpAnyH_ready (rs := [13]) (by kernel_rfl) (by simp) ?_
              refine (AllReadyH.cons rfl (fun K hK => ?_) AllReadyH.nil)
              go_simp
              go_at_call 156
              refine (HC3.out true _ HQ.out (by exact hBr) (by exact HVC.out)).mono ?_
              rintro e u2 ⟨rfl, hb⟩
              replace e0 := (hb.cell (p := ⟨blk, off + k * 3, none⟩) hbl).trans e0
              replace e1 := (hb.cell (p := ⟨blk, off + k * 3 + 1, none⟩) hbl).trans e1
              replace e2 := (hb.cell (p := ⟨blk, off + k * 3 + 2, none⟩) hbl).trans e2
              replace HVC := Lib.hid (HVC.out.keep (hb.mono (by exact hBr)))
              replace HB := Lib.hid (HB.out.trans (by exact hb.mono HB.out.size))
              replace hbl := Nat.lt_of_lt_of_le hbl hb.size
              replace hBr := Nat.le_trans hBr hb.size
              clear hb
              refine hK.out _ _ ⟨e0, e1, e2⟩ (fun hHeld => ?_)
              clear hK K
              try simp only [Act.put, List.setIfInBounds_toArray, List.set_cons_zero, List.set_cons_succ]
              refine tk 14 rfl ?_
              refine tk 15 rfl ?_
              refine tk 16 rfl ?_
              refine tk 17 rfl ?_
              refine tk 18 rfl ?_
              refine tk 19 rfl ?_
              refine tk 20 rfl ?_
              refine tk 21 rfl ?_
              refine wpAnyH_ready (rs := [22]) (by kernel_rfl) (by simp) ?_
              refine (AllReadyH.cons rfl (fun K hK => ?_) AllReadyH.nil)
              go_simp
              go_at_call 157
              refine (HC4.out _ hu0 hu1).mono ?_
              rintro e u3 ⟨rfl, hb⟩
              replace e0 := (hb.cell (p := ⟨blk, off + k * 3, none⟩) hbl).trans e0
              replace e1 := (hb.cell (p := ⟨blk, off + k * 3 + 1, none⟩) hbl).trans e1
              replace e2 := (hb.cell (p := ⟨blk, off + k * 3 + 2, none⟩) hbl).trans e2
              replace HVC := Lib.hid (HVC.out.keep (hb.mono (by exact hBr)))
              replace HB := Lib.hid (HB.out.trans (by exact hb.mono HB.out.size))
              replace hbl := Nat.lt_of_lt_of_le hbl hb.size
              replace hBr := Nat.le_trans hBr hb.size
              clear hb
              refine hK.out _ _ ⟨e0, e1, e2⟩ (fun hHeld => ?_)
              clear hK K
              try simp only [Act.put, List.setIfInBounds_toArray, List.set_cons_zero, List.set_cons_succ]
              refine tk 23 rfl ?_
              refine tk 24 rfl ?_
              refine tk 25 rfl ?_
              refine tk 26 rfl ?_
              refine tk 27 rfl ?_
              refine tk 28 rfl ?_
              refine wpAnyH_take (i := 29) (v := undef) rfl (by kernel_rfl) (by kernel_rfl) (by kernel_rfl) (fun _ _ _ h => h) (Or.inr ⟨rfl, rfl⟩) (by assumption) ?_
              try simp only [Act.put, List.setIfInBounds_toArray, List.set_cons_zero, List.set_cons_succ]
              refine wpAnyH_take (i := 30) (v := undef) rfl (by kernel_rfl) (by kernel_rfl) (by kernel_rfl) (fun _ _ _ h => h) (Or.inr ⟨rfl, rfl⟩) (by assumption) ?_
              try simp only [Act.put, List.setIfInBounds_toArray, List.set_cons_zero, List.set_cons_succ]
              refine wpAnyH_take (i := 31) (v := undef) rfl (by kernel_rfl) (by kernel_rfl) (by kernel_rfl) (fun _ _ _ h => h) (Or.inr ⟨rfl, rfl⟩) (by assumption) ?_
              try simp only [Act.put, List.setIfInBounds_toArray, List.set_cons_zero, List.set_cons_succ]
              refine wpAnyH_take (i := 32) (v := undef) rfl (by kernel_rfl) (by kernel_rfl) (by kernel_rfl) (fun _ _ _ h => h) (Or.inr ⟨rfl, rfl⟩) (by assumption) ?_
              try simp only [Act.put, List.setIfInBounds_toArray, List.set_cons_zero, List.set_cons_succ]
              refine wpAnyH_take (i := 33) (v := undef) rfl (by kernel_rfl) (by kernel_rfl) (by kernel_rfl) (fun _ _ _ h => h) (Or.inr ⟨rfl, rfl⟩) (by assumption) ?_
              try simp only [Act.put, List.setIfInBounds_toArray, List.set_cons_zero, List.set_cons_succ]
              refine wpAnyH_take (i := 34) (v := undef) rfl (by kernel_rfl) (by kernel_rfl) (by kernel_rfl) (fun _ _ _ h => h) (Or.inr ⟨rfl, rfl⟩) (by assumption) ?_
              try simp only [Act.put, List.setIfInBounds_toArray, List.set_cons_zero, List.set_cons_succ]
              refine wpAnyH_take (i := 35) (v := undef) rfl (by kernel_rfl) (by kernel_rfl) (by kernel_rfl) (fun _ _ _ h => h) (Or.inr ⟨rfl, rfl⟩) (by assumption) ?_
              try simp only [Act.put, List.setIfInBounds_toArray, List.set_cons_zero, List.set_cons_succ]
              refine wpAnyH_take (i := 36) (v := undef) rfl (by kernel_rfl) (by kernel_rfl) (by kernel_rfl) (fun _ _ _ h => h) (Or.inr ⟨rfl, rfl⟩) (by assumption) ?_
              try simp only [Act.put, List.setIfInBounds_toArray, List.set_cons_zero, List.set_cons_succ]
              refine wpAnyH_take (i := 37) (v := undef) rfl (by kernel_rfl) (by kernel_rfl) (by kernel_rfl) (fun _ _ _ h => h) (Or.inr ⟨rfl, rfl⟩) (by assumption) ?_
              try simp only [Act.put, List.setIfInBounds_toArray, List.set_cons_zero, List.set_cons_succ]
              refine wpAnyH_take (i := 38) (v := undef) rfl (by kernel_rfl) (by kernel_rfl) (by kernel_rfl) (fun _ _ _ h => h) (Or.inr ⟨rfl, rfl⟩) (by assumption) ?_
              try simp only [Act.put, List.setIfInBounds_toArray, List.set_cons_zero, List.set_cons_succ]
              refine wpAnyH_take (i := 39) (v := undef) rfl (by kernel_rfl) (by kernel_rfl) (by kernel_rfl) (fun _ _ _ h => h) (Or.inr ⟨rfl, rfl⟩) (by assumption) ?_
              try simp only [Act.put, List.setIfInBounds_toArray, List.set_cons_zero, List.set_cons_succ]
              refine wpAnyH_take (i := 40) (v := undef) rfl (by kernel_rfl) (by kernel_rfl) (by kernel_rfl) (fun _ _ _ h => h) (Or.inr ⟨rfl, rfl⟩) (by assumption) ?_
              try simp only [Act.put, List.setIfInBounds_toArray, List.set_cons_zero, List.set_cons_succ]
              refine wpAnyH_take (i := 41) (v := undef) rfl (by kernel_rfl) (by kernel_rfl) (by kernel_rfl) (fun _ _ _ h => h) (Or.inr ⟨rfl, rfl⟩) (by assumption) ?_
              try simp only [Act.put, List.setIfInBounds_toArray, List.set_cons_zero, List.set_cons_succ]
              refine tk 42 rfl ?_
              refine tk 43 rfl ?_
              refine wpAnyH_done (by kernel_rfl) ?_ _
              go_wp2
              go_roundw
              case rel => exact ⟨k + 1, by omega, by go_num, HN, HB⟩
              case measure => simp [intOf]; omega
            · obtain ⟨b2, o2, r2, e3, _, hm2, d0, _, _, _⟩ := HZ.out.get (HB.out.mono hB) (k := k - 1) (by omega)
              injection e3 with e3
              injection e3 with e3 e4
              subst e3 e4
              have hpv : prevI m k = some r2.id := by unfold prevI; rw [if_neg hk0, hm2]; rfl
              rw [hpv, prevOk_some] at HST
              have hgd : decide (0 < k) = true := by simp; omega
              have hj0 : (1 : Int) ≤ (k : Int) := by omega
              have hks : IntKind.i64.wrap ((k : Int) - 1) = ((k - 1 : Nat) : Int) := by rw [IntWalk.i64_in _ (by omega)]; omega
              have hki : (((k - 1 : Nat) : Int)) < n := by omega
              have hki0 : (0 : Int) ≤ ((k - 1 : Nat) : Int) := by omega
              have HSZ : Hid (r2.id.size ≤ 9223372036854775807) := (HSH.out _ (List.mem_of_getElem? hm2)).1
              generalize r2.id = pid at *
              obtain ⟨y, hy⟩ : ∃ y, cmpId pid id = y := ⟨_, rfl⟩
              have HY : Hid (Lib.compareBytes pid.data.toList id.data.toList = y) := hy
              rw [hy] at HST
              clear hpv hk0 hd0 h0 hm2 hy
              go_upto_region 4 with fail
              refine wp_region_held_drew (S := fun w' => w'.cell? ⟨blk, off + k * 3, none⟩ = some (.string id) ∧ w'.cell? ⟨blk, off + k * 3 + 1, none⟩ = some (.int .i64 u) ∧ w'.cell? ⟨blk, off + k * 3 + 2, none⟩ = some (.slice Ar L cr) ∧ w'.cell? ⟨blk, off + (k - 1) * 3, none⟩ = some (.string pid)) (by kernel_rfl) ⟨e0, e1, e2, d0⟩ (fun hHeld => ?_)
              refine tk 0 rfl ?_
              refine tk 1 rfl ?_
              refine tk 2 rfl ?_
              refine tk 3 rfl ?_
              refine tk 4 rfl ?_
              refine wpAnyH_ready (rs := [5]) (by kernel_rfl) (by simp) ?_
              refine (AllReadyH.cons rfl (fun K hK => ?_) AllReadyH.nil)
              go_simp
              go_at_call 33
              refine (rright_is _ true HR _).mono ?_
              rintro e u1 ⟨rfl, hw⟩
              have hb : Below wr.heap.size wr u1 := by rw [← hw]; exact drew_below _ _
              clear hw
              replace e0 := (hb.cell (p := ⟨blk, off + k * 3, none⟩) hbl).trans e0
              replace e1 := (hb.cell (p := ⟨blk, off + k * 3 + 1, none⟩) hbl).trans e1
              replace e2 := (hb.cell (p := ⟨blk, off + k * 3 + 2, none⟩) hbl).trans e2
              replace d0 := (hb.cell (p := ⟨blk, off + (k - 1) * 3, none⟩) hbl).trans d0
              replace HVC := Lib.hid (HVC.out.keep (hb.mono (by exact hBr)))
              replace HB := Lib.hid (HB.out.trans (by exact hb.mono HB.out.size))
              replace hbl := Nat.lt_of_lt_of_le hbl hb.size
              replace hBr := Nat.le_trans hBr hb.size
              clear hb
              refine hK.out _ _ ⟨e0, e1, e2, d0⟩ (fun hHeld => ?_)
              clear hK K
              try simp only [Act.put, List.setIfInBounds_toArray, List.set_cons_zero, List.set_cons_succ]
              refine tk 6 rfl ?_
              refine tk 7 rfl ?_
              refine tk 8 rfl ?_
              refine tk 9 rfl ?_
              refine tk 10 rfl ?_
              refine tk 11 rfl ?_
              refine tk 12 rfl ?_
              refine wpAnyH_ready (rs := [13]) (by kernel_rfl) (by simp) ?_
              refine (AllReadyH.cons rfl (fun K hK => ?_) AllReadyH.nil)
              go_simp
              go_at_call 156
              refine (HC3.out true _ HQ.out (by exact hBr) (by exact HVC.out)).mono ?_
              rintro e u2 ⟨rfl, hb⟩
              replace e0 := (hb.cell (p := ⟨blk, off + k * 3, none⟩) hbl).trans e0
              replace e1 := (hb.cell (p := ⟨blk, off + k * 3 + 1, none⟩) hbl).trans e1
              replace e2 := (hb.cell (p := ⟨blk, off + k * 3 + 2, none⟩) hbl).trans e2
              replace d0 := (hb.cell (p := ⟨blk, off + (k - 1) * 3, none⟩) hbl).trans d0
              replace HVC := Lib.hid (HVC.out.keep (hb.mono (by exact hBr)))
              replace HB := Lib.hid (HB.out.trans (by exact hb.mono HB.out.size))
              replace hbl := Nat.lt_of_lt_of_le hbl hb.size
              replace hBr := Nat.le_trans hBr hb.size
              clear hb
              refine hK.out _ _ ⟨e0, e1, e2, d0⟩ (fun hHeld => ?_)
              clear hK K
              try simp only [Act.put, List.setIfInBounds_toArray, List.set_cons_zero, List.set_cons_succ]
              refine tk 14 rfl ?_
              refine tk 15 rfl ?_
              refine tk 16 rfl ?_
              refine tk 17 rfl ?_
              refine tk 18 rfl ?_
              refine tk 19 rfl ?_
              refine tk 20 rfl ?_
              refine tk 21 rfl ?_
              refine wpAnyH_ready (rs := [22]) (by kernel_rfl) (by simp) ?_
              refine (AllReadyH.cons rfl (fun K hK => ?_) AllReadyH.nil)
              go_simp
              go_at_call 157
              refine (HC4.out _ hu0 hu1).mono ?_
              rintro e u3 ⟨rfl, hb⟩
              replace e0 := (hb.cell (p := ⟨blk, off + k * 3, none⟩) hbl).trans e0
              replace e1 := (hb.cell (p := ⟨blk, off + k * 3 + 1, none⟩) hbl).trans e1
              replace e2 := (hb.cell (p := ⟨blk, off + k * 3 + 2, none⟩) hbl).trans e2
              replace d0 := (hb.cell (p := ⟨blk, off + (k - 1) * 3, none⟩) hbl).trans d0
              replace HVC := Lib.hid (HVC.out.keep (hb.mono (by exact hBr)))
              replace HB := Lib.hid (HB.out.trans (by exact hb.mono HB.out.size))
              replace hbl := Nat.lt_of_lt_of_le hbl hb.size
              replace hBr := Nat.le_trans hBr hb.size
              clear hb
              refine hK.out _ _ ⟨e0, e1, e2, d0⟩ (fun hHeld => ?_)
              clear hK K
              try simp only [Act.put, List.setIfInBounds_toArray, List.set_cons_zero, List.set_cons_succ]
              refine tk 23 rfl ?_
              refine tk 24 rfl ?_
              refine tk 25 rfl ?_
              refine tk 26 rfl ?_
              refine tk 27 rfl ?_
              refine tk 28 rfl ?_
              refine tk 29 rfl ?_
              refine tk 30 rfl ?_
              refine tk 31 rfl ?_
              refine tk 32 rfl ?_
              refine tk 33 rfl ?_
              refine tk 34 rfl ?_
              refine tk 35 rfl ?_
              refine tk 36 rfl ?_
              refine tk 37 rfl ?_
              refine tk 38 rfl ?_
              refine tk 39 rfl ?_
              refine wpAnyH_ready (rs := [40]) (by kernel_rfl) (by simp) ?_
              refine (AllReadyH.cons rfl (fun K hK => ?_) AllReadyH.nil)
              go_simp
              go_at_call 104
              refine (rcompare_is _ _ _ HY _ HSZ).mono ?_
              rintro e u4 ⟨rfl, hd⟩
              have hb : Below u3.heap.size u3 u4 := drawn_below hd.out _
              clear hd
              replace e0 := (hb.cell (p := ⟨blk, off + k * 3, none⟩) hbl).trans e0
              replace e1 := (hb.cell (p := ⟨blk, off + k * 3 + 1, none⟩) hbl).trans e1
              replace e2 := (hb.cell (p := ⟨blk, off + k * 3 + 2, none⟩) hbl).trans e2
              replace d0 := (hb.cell (p := ⟨blk, off + (k - 1) * 3, none⟩) hbl).trans d0
              replace HVC := Lib.hid (HVC.out.keep (hb.mono (by exact hBr)))
              replace HB := Lib.hid (HB.out.trans (by exact hb.mono HB.out.size))
              replace hbl := Nat.lt_of_lt_of_le hbl hb.size
              replace hBr := Nat.le_trans hBr hb.size
              clear hb
              refine hK.out _ _ ⟨e0, e1, e2, d0⟩ (fun hHeld => ?_)
              clear hK K
              try simp only [Act.put, List.setIfInBounds_toArray, List.set_cons_zero, List.set_cons_succ]
              refine tk 41 rfl ?_
              refine tk 42 rfl ?_
              refine tk 43 rfl ?_
              refine wpAnyH_done (by kernel_rfl) ?_ _
              by_cases hge : 0 ≤ y
              · have HF : Hid (RS = false) := by
                  show _ = _
                  rw [HST.out]
                  simp only [show decide (y < 0) = false by simp; omega]
                  rfl
                go_wp2
                go_ret
                exact ⟨ret_bool HF.out.symm, HB.out⟩
              · have HN : Hid (rightFromM (prevI m (k + 1)) (m.drop (k + 1)) = RS) := by
                  show _ = _
                  rw [HST.out]
                  simp only [show decide (y < 0) = true by simp; omega]
                  simp
                have hge' : decide (0 ≤ y) = false := by simpa using hge
                go_wp2
                go_roundw
                case rel => exact ⟨k + 1, by omega, by go_num, HN, HB⟩
                case measure => simp [intOf]; omega
    · obtain rfl : k = n := by omega
      have HF : Hid (RS = true) := by show _ = _; rw [← HRS.out, List.drop_of_length_le (by rw [HL.out]; omega)]; unfold rightFromM; rfl
      go_wp2
      go_ret
      exact ⟨ret_bool HF.out.symm, HB.out⟩
end Go.Proofs.YtbookbgfipbaoaaGreatDoor.Kn

/- The law's own little check 'told' of layer 10. -/
namespace Go.Proofs.YtbookbgfipbaoaaGreatDoor.Mx
open Go.RowKit

end Go.Proofs.YtbookbgfipbaoaaGreatDoor.Mx
