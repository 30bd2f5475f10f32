/- The document's Fix, Join and Meet of Vecs. -/
import Derived.Test.YtbbcifcdimfdgaaVo
import Derived.Test.YtbbcifcdimfdgaaIy
namespace Go.Proofs.Ytbbcifcdimfdgaa
open Go.RowKit

/-- How far Fix puts one. -/
def elV (y : Int) : Int := IntKind.i64.wrap (1 + IntKind.i64.wrap ((IntKind.u64.wrap y).tmod 1000))
theorem elV_bd (y : Int) : 1 ≤ elV y ∧ elV y ≤ 1000 := by
  have hw : 0 ≤ IntKind.u64.wrap y := by
    have := IntKind.wrap_u64 y
    omega
  have h2 := Int.tmod_nonneg 1000 hw
  have h3 := Int.tmod_lt_of_pos (IntKind.u64.wrap y) (show (0 : Int) < 1000 by omega)
  unfold elV
  rw [IntWalk.i64_in ((IntKind.u64.wrap y).tmod 1000) (by omega), IntWalk.i64_in _ (by omega)]
  omega
theorem put1_is (s x : ByteArray) (h : Hid (ByteArray.mk (fixL s.data.toList).toArray = x)) (w : World) :
    Calls Try.prog 41 #[.string s] w fun e w' => e = .returned (.string x) ∧ Hid (Drawn w w') := by
  rw [← h.out]; exact fix_any s w

/-- A Vec that may be, of at most so many, in a row of the call's own. -/
def GoodVec (B : Nat) (ty : TypeId) (m : Nat) (w : World) (e : Ending) (w' : World) : Prop := ∃ r, Good r ∧ r.length ≤ m ∧ OwnVec B ty r w e w'

set_option maxRecDepth 100000 in
set_option maxHeartbeats 8000000 in
theorem fixv_any (A : Option Addr) (n c : Nat) (zs : List At) (B : Nat) (w : World) (hB : B ≤ w.heap.size) (hz : VecAt w B A n zs) :
    Calls Try.prog 13 #[.slice A n c] w (GoodVec w.heap.size 76 12 w) := by
  have HZ := Lib.hid hz
  clear hz
  go_enter Try.func13, Try.ntmps13
  go_wp2
  go_loopw [3, 4] (fun v i wr => ∃ (k : Nat) (Av : Option Addr) (nv cv : Nat) (out : List At), k ≤ n ∧ k ≤ 12 ∧ nv ≤ k ∧ i = .int .i64 k ∧ v = .slice Av nv cv ∧ Hid (Good out) ∧ Hid (MakeRel w 76 out Av nv cv wr)) (fun _ i _ => 12 - (intOf i).toNat)
  case atStart => exact ⟨0, none, 0, 0, [], by omega, by omega, by omega, rfl, rfl, Good.nil, MakeRel.start w _⟩
  case round =>
    obtain ⟨k, Av, nv, cv, out, hk, hk12, hnv, rfl, rfl, HG, HM⟩ := hrel
    have HB := Lib.hid HM.out.2.2
    have hsz : w.heap.size ≤ wr.heap.size := HB.out.size
    by_cases hlt : k < n
    · by_cases hl2 : k < 12
      · obtain ⟨blk, off, rfl, hbB, hc1, hc2⟩ := HZ.out.cells (HB.out.mono hB) (k := k) hlt
        generalize zs.getD k atNil = x at hc1 hc2
        obtain ⟨s, hs⟩ : ∃ s, ByteArray.mk (fixL x.1.data.toList).toArray = s := ⟨_, rfl⟩
        have hsr : rightL s.data.toList = true := by rw [← hs]; exact fixL_right _
        have HS := Lib.hid hs
        have HSR := Lib.hid hsr
        have hbd := elV_bd x.2
        have hblk : blk < wr.heap.size := by omega
        have hi0 : (0 : Int) ≤ (k : Int) := by omega
        have hi1 : (k : Int) < (n : Int) := by omega
        have hl3 : (k : Int) < 12 := by omega
        have HV : Hid (VecAt wr wr.heap.size Av nv out) := own_vec HM.out.2.1
        clear hs hsr
        go_wp2_with fail
        go_region_held3 (fun w' => w'.cell? ⟨blk, off + k * 2, none⟩ = some (.string x.1) ∧ w'.cell? ⟨blk, off + k * 2 + 1, none⟩ = some (.int .i64 x.2))
          (first | go_keep | (go_split_ands; refine ⟨(hbp.cell (by show blk < _; omega)).trans (by assumption), (hbp.cell (by show blk < _; omega)).trans (by assumption)⟩) | (go_split_ands; refine ⟨(hbf.cell (by show blk < _; omega)).trans (by assumption), (hbf.cell (by show blk < _; omega)).trans (by assumption)⟩))
          (first
            | (go_at_call 41; refine (put1_is _ _ HS _).mono ?_; rintro e w1 ⟨rfl, hd1⟩; have hbf := drawn_below hd1.out wr.heap.size; have hs1 : wr.heap.size ≤ w1.heap.size := hbf.size; have HB1 : Hid (Below wr.heap.size wr w1) := (Below.refl _ _).drew.trans hbf; clear hd1)
            | (go_at_call 42; refine (put_any Av nv cv out s (elV x.2) wr.heap.size _ hs1 (HV.out.keep HB1.out) (by omega) HG.out).mono ?_; rintro e w2 ⟨A2, c2, rfl, hc2', ho2, hbp⟩))
        have HG2 : Hid (Good (putV out s (elV x.2))) := HG.out.put HSR.out (by omega)
        have hln := put_len out s (elV x.2)
        have hol : out.length = nv := HM.out.1
        generalize putV out s (elV x.2) = out2 at ho2 hc2' HG2 hln
        have HM2 : Hid (MakeRel w 76 out2 A2 out2.length c2 w2) := ⟨rfl, own_base ho2 (by omega), HB.out.trans ((HB1.out.trans (hbp.mono hs1)).mono hsz)⟩
        clear ho2 hbp hc2' hol
        go_wp2_with fail
        go_roundw
        case rel => exact ⟨k + 1, A2, out2.length, c2, out2, by omega, by omega, by have := HM.out.1; omega, by go_num, rfl, HG2, HM2⟩
        case measure => simp [intOf]; omega
      · have h3 : decide ((k : Int) < 12) = false := by simp; omega
        go_wp2
        go_ret
        exact ⟨out, HG.out, by have := HM.out.1; omega, HM.out.own⟩
    · go_wp2
      go_ret
      exact ⟨out, HG.out, by have := HM.out.1; omega, HM.out.own⟩
end Go.Proofs.Ytbbcifcdimfdgaa
