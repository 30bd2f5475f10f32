/- The document's Reader: Text, End. -/
import Derived.Test.YtophhjknbanafaaBl
namespace Go.Proofs.Ytophhjknbanafaa
open Go.RowKit

/-- s[lo : lo + t]. -/
theorem cut_mid (A : Option Addr) (n c lo t : Nat) (h1 : lo + t ≤ n) (h2 : n ≤ c) : ∃ A', (∀ W, (Instr.slice 47 (.slice A n c) (some (.int .i64 (lo : Int))) (some (.int .i64 ((lo : Int) + (t : Int)))) none).run Try.prog W = .ok (.slice A' t (c - lo)) W) ∧
    ∀ (w : World) (g : Nat) (bs : List UInt8), BytesAt w g A n bs → BytesAt w g A' t ((bs.drop lo).take t) := by
  have hel : Try.prog.elem 47 = 5 := by kernel_rfl
  have hsz : ∀ W, (sizeOf 5).run Try.prog W = .ok 1 W := fun W => by
    obtain ⟨i, hi, _, hz1, _⟩ := info_parts Try.infoB
    simp [sizeOf, typeInfo, hi, hz1]
  refine ⟨if c = lo then A else A.map (fun x => x.add lo), fun W => ?_, fun w g bs h => ?_⟩
  · rw [run_slice_lh (P := Try.prog) W 47 A n c (by rw [hel]; exact Try.underlying47) .i64 .i64 (lo : Int) ((lo : Int) + (t : Int)) (by omega) (by omega) (by omega), hel, hsz]
    simp [sliced, Result.andThen, show ((lo : Int) + (t : Int)).toNat - lo = t by omega]
  · rcases Nat.eq_zero_or_pos t with h0 | h0
    · subst h0
      exact ⟨by simp, fun h => absurd h (by omega)⟩
    · rw [if_neg (by omega)]
      obtain ⟨off, rfl, hc⟩ := h.2 (by omega)
      rw [Option.map_some, addr_add]
      exact (h.drop lo (by omega)).take t (by omega)

set_option maxRecDepth 100000 in
set_option maxHeartbeats 4000000 in
theorem refText_any {Q g : Nat} {s : Rf} (most : Int) (w : World) (h : RefAt w Q g s) :
    Calls Try.prog 49 #[.pointer (some ⟨Q, 0, none⟩), .int .i64 most] w (RefRet (.string ⟨(textF s.rd most).1.toArray⟩) Q g s.B (textF s.rd most).2 w) := by
  have HR := Lib.hid h
  clear h
  have HN := Lib.hid (show textF s.rd most = if (numF s.rd most).2.2 ≠ 0 then ([], (numF s.rd most).2) else
    if ((numF s.rd most).2.1.length : Int) < (numF s.rd most).1 then ([], ((numF s.rd most).2.1, 2)) else
    ((numF s.rd most).2.1.take (numF s.rd most).1.toNat, ((numF s.rd most).2.1.drop (numF s.rd most).1.toNat, 0)) from rfl)
  have hnn : 0 ≤ (numF s.rd most).1 := by unfold numF; split <;> (try split) <;> (try split) <;> simp <;> omega
  generalize textF s.rd most = N at HN ⊢
  go_enter Try.func49, Try.ntmps49
  go_wp2_with fail
  refine (refNum_any most _ HR.out).mono ?_
  generalize numF s.rd most = M at HN hnn ⊢
  obtain ⟨n, rs, er⟩ := M
  rintro e w1 ⟨rfl, ⟨s1, hB, hrd, hR⟩, hg⟩
  simp only at HN hrd hnn ⊢
  have hrs : rs = s1.B.drop s1.at' := by have := congrArg Prod.fst hrd; exact this.symm
  have her : er = s1.bad := by have := congrArg Prod.snd hrd; exact this.symm
  subst hrs her
  have HBB := Lib.hid hB
  obtain ⟨A, c, h0, hz, hlc, hc63, hl⟩ := hR.c0
  have c1 := hR.c1
  have c2 := hR.c2
  have f1 := hR.f1
  have f2 := hR.f2
  have hle := hR.le
  have HR1 := Lib.hid hR
  have HG := Lib.hid hg
  have HZ := Lib.hid hz
  clear hR hg hz HR hrd hB
  by_cases h2 : s1.bad = 0
  · have h2' : ((s1.bad : Int) != 0) = false := by simpa using h2
    rw [if_neg (by simpa using h2)] at HN
    have HB0 := Lib.hid h2
    clear h2
    simp only [List.length_drop] at HN
    by_cases hm : ((s1.B.length - s1.at' : Nat) : Int) < n
    · rw [if_pos hm] at HN
      have hm' : (s1.B.length : Int) - s1.at' < n := by omega
      go_wp2
      go_quiet (fail)
      go_wp2
      go_ret
      rw [HN.out]
      exact ⟨rfl, ⟨⟨s1.B, s1.at', 2⟩, HBB.out, rfl, HR1.out.badAt (by rfl) (by rfl)⟩, grown_cellOf HG.out (by exact ⟨rfl, rfl, rfl, rfl⟩)⟩
    · rw [if_neg hm] at HN
      obtain ⟨t, rfl⟩ : ∃ t : Nat, n = (t : Int) := ⟨n.toNat, by omega⟩
      rw [Int.toNat_natCast] at HN
      have hm' : ¬ ((s1.B.length : Int) - s1.at' < (t : Int)) := by omega
      have hle2 : s1.at' + t ≤ s1.B.length := by omega
      obtain ⟨A', hsl, hA'⟩ := cut_mid A s1.B.length c s1.at' t hle2 hlc
      have htx : ∀ q, (convert 47 9 (.slice A' t (c - s1.at'))).run Try.prog (w1.drewN q) = .ok (.string ⟨((s1.B.drop s1.at').take t).toArray⟩) (w1.drewN q) := fun q => run_text _ ((hA' w1 g s1.B HZ.out).hold rfl)
      have htx0 : (convert 47 9 (.slice A' t (c - s1.at'))).run Try.prog w1 = .ok (.string ⟨((s1.B.drop s1.at').take t).toArray⟩) w1 := run_text _ (hA' w1 g s1.B HZ.out)
      have HRD : Hid (Rf.rd ⟨s1.B, s1.at' + t, s1.bad⟩ = ((s1.B.drop s1.at').drop t, 0)) := by
        show (s1.B.drop (s1.at' + t), s1.bad) = _
        rw [List.drop_drop, HB0.out]
      clear hA'
      go_wp2
      go_quiet (fail)
      go_wp2
      go_quiet (fail)
      go_wp2
      go_ret
      rw [HN.out]
      exact ⟨rfl, ⟨⟨s1.B, s1.at' + t, s1.bad⟩, HBB.out, HRD.out, HR1.out.goneAt (by push_cast; omega) (by omega) (by rfl)⟩, grown_cellOf HG.out (by exact ⟨rfl, rfl, rfl, rfl⟩)⟩
  · rw [if_pos h2] at HN
    have h3 : ((s1.bad : Int) != 0) = true := by simpa using h2
    go_wp2
    go_ret
    rw [HN.out]
    exact ⟨rfl, ⟨s1, HBB.out, rfl, HR1.out⟩, HG.out⟩
end Go.Proofs.Ytophhjknbanafaa
