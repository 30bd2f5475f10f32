/- The law IdAboves walked. -/
import Derived.Test.YthplmnoalanhjaaDoorIf
namespace Go.Proofs.YthplmnoalanhjaaDoor
open Go.RowKit

theorem Drawn.trans {w w1 w2 : World} (h1 : Drawn w w1) (h2 : Drawn w1 w2) : Drawn w w2 := by
  obtain ⟨n, rfl⟩ := h2
  exact h1.more n
theorem fix_is (s x : ByteArray) (h : Hid (ByteArray.mk (fixL s.data.toList).toArray = x)) (w : World) :
    Calls Tryd.prog 29 #[.string s] w fun e w' => e = .returned (.string x) ∧ Hid (Drawn w w') := by
  rw [← h.out]; exact fix_any s w

set_option maxHeartbeats 4000000 in
theorem idAboves_walk (a b c : ByteArray) (w : World) :
    Calls Tryd.prog 8 #[.string a, .string b, .string c] w fun e w' => e = .returned (.bool true) ∧ Below w.heap.size w w' := by
  obtain ⟨x, hx⟩ : ∃ x, ByteArray.mk (fixL a.data.toList).toArray = x := ⟨_, rfl⟩
  obtain ⟨y, hy⟩ : ∃ y, ByteArray.mk (fixL b.data.toList).toArray = y := ⟨_, rfl⟩
  obtain ⟨z, hz⟩ : ∃ z, ByteArray.mk (fixL c.data.toList).toArray = z := ⟨_, rfl⟩
  have HX := Lib.hid hx
  have HY := Lib.hid hy
  have HZ := Lib.hid hz
  clear hx hy hz
  have HT := Lib.hid (@above_trans x.data.toList y.data.toList z.data.toList)
  have HC := Lib.hid (@above_cmp x.data.toList y.data.toList)
  have H2 := Lib.hid (@above_two x.data.toList y.data.toList z.data.toList)
  cases hxy : aboveL x.data.toList y.data.toList
  · cases hxz : aboveL x.data.toList z.data.toList
    · go_enter Tryd.func8, Tryd.ntmps8
      go_wp2_with fail
      refine (fix_is _ _ HX _).mono ?_
      rintro e w1 ⟨rfl, hd1⟩
      go_wp2_with fail
      refine (fix_is _ _ HY _).mono ?_
      rintro e w2 ⟨rfl, hd2⟩
      go_wp2_with fail
      refine (fix_is _ _ HZ _).mono ?_
      rintro e w3 ⟨rfl, hd3⟩
      go_wp2_with (first | (go_at_call 12; refine (told_any _).mono ?_; rintro e w' ⟨rfl, rfl⟩) | (go_at_call 17; refine (above_any _ _ _).mono ?_; rintro e w' ⟨rfl, rfl⟩))
      go_ret
      exact ⟨rfl, ((hd1.out.trans hd2.out).trans hd3.out).below⟩
    · cases hyz : aboveL y.data.toList z.data.toList
      · go_enter Tryd.func8, Tryd.ntmps8
        go_wp2_with fail
        refine (fix_is _ _ HX _).mono ?_
        rintro e w1 ⟨rfl, hd1⟩
        go_wp2_with fail
        refine (fix_is _ _ HY _).mono ?_
        rintro e w2 ⟨rfl, hd2⟩
        go_wp2_with fail
        refine (fix_is _ _ HZ _).mono ?_
        rintro e w3 ⟨rfl, hd3⟩
        go_wp2_with (first | (go_at_call 12; refine (told_any _).mono ?_; rintro e w' ⟨rfl, rfl⟩) | (go_at_call 17; refine (above_any _ _ _).mono ?_; rintro e w' ⟨rfl, rfl⟩))
        go_ret
        exact ⟨rfl, ((hd1.out.trans hd2.out).trans hd3.out).below⟩
      · rcases H2.out hxz hyz with he | he | hyx
        · have hq : (x.toList == y.toList) = true := beq_yes he
          clear he
          go_enter Tryd.func8, Tryd.ntmps8
          go_wp2_with fail
          refine (fix_is _ _ HX _).mono ?_
          rintro e w1 ⟨rfl, hd1⟩
          go_wp2_with fail
          refine (fix_is _ _ HY _).mono ?_
          rintro e w2 ⟨rfl, hd2⟩
          go_wp2_with fail
          refine (fix_is _ _ HZ _).mono ?_
          rintro e w3 ⟨rfl, hd3⟩
          go_wp2_with (first | (go_at_call 12; refine (told_any _).mono ?_; rintro e w' ⟨rfl, rfl⟩) | (go_at_call 17; refine (above_any _ _ _).mono ?_; rintro e w' ⟨rfl, rfl⟩))
          go_ret
          exact ⟨rfl, ((hd1.out.trans hd2.out).trans hd3.out).below⟩
        · rw [hxy] at he; cases he
        · cases hq : (x.toList == y.toList)
          all_goals
            go_enter Tryd.func8, Tryd.ntmps8
            go_wp2_with fail
            refine (fix_is _ _ HX _).mono ?_
            rintro e w1 ⟨rfl, hd1⟩
            go_wp2_with fail
            refine (fix_is _ _ HY _).mono ?_
            rintro e w2 ⟨rfl, hd2⟩
            go_wp2_with fail
            refine (fix_is _ _ HZ _).mono ?_
            rintro e w3 ⟨rfl, hd3⟩
            go_wp2_with (first | (go_at_call 12; refine (told_any _).mono ?_; rintro e w' ⟨rfl, rfl⟩) | (go_at_call 17; refine (above_any _ _ _).mono ?_; rintro e w' ⟨rfl, rfl⟩))
            go_ret
            exact ⟨rfl, ((hd1.out.trans hd2.out).trans hd3.out).below⟩
  · have hc : Lib.compareBytes x.data.toList y.data.toList = -1 := HC.out hxy
    cases hyz : aboveL y.data.toList z.data.toList
    · cases hxz : aboveL x.data.toList z.data.toList
      all_goals
        go_enter Tryd.func8, Tryd.ntmps8
        go_wp2_with fail
        refine (fix_is _ _ HX _).mono ?_
        rintro e w1 ⟨rfl, hd1⟩
        go_wp2_with fail
        refine (fix_is _ _ HY _).mono ?_
        rintro e w2 ⟨rfl, hd2⟩
        go_wp2_with fail
        refine (fix_is _ _ HZ _).mono ?_
        rintro e w3 ⟨rfl, hd3⟩
        go_wp2_with (first | (go_at_call 12; refine (told_any _).mono ?_; rintro e w' ⟨rfl, rfl⟩) | (go_at_call 17; refine (above_any _ _ _).mono ?_; rintro e w' ⟨rfl, rfl⟩) | (go_at_call 18; refine (compare_any _ _ _).mono ?_; rintro e w' ⟨rfl, rfl⟩))
        go_ret
        exact ⟨rfl, ((hd1.out.trans hd2.out).trans hd3.out).below⟩
    · have hxz : aboveL x.data.toList z.data.toList = true := HT.out hxy hyz
      cases hq : (x.toList == y.toList)
      all_goals
        go_enter Tryd.func8, Tryd.ntmps8
        go_wp2_with fail
        refine (fix_is _ _ HX _).mono ?_
        rintro e w1 ⟨rfl, hd1⟩
        go_wp2_with fail
        refine (fix_is _ _ HY _).mono ?_
        rintro e w2 ⟨rfl, hd2⟩
        go_wp2_with fail
        refine (fix_is _ _ HZ _).mono ?_
        rintro e w3 ⟨rfl, hd3⟩
        go_wp2_with (first | (go_at_call 12; refine (told_any _).mono ?_; rintro e w' ⟨rfl, rfl⟩) | (go_at_call 17; refine (above_any _ _ _).mono ?_; rintro e w' ⟨rfl, rfl⟩) | (go_at_call 18; refine (compare_any _ _ _).mono ?_; rintro e w' ⟨rfl, rfl⟩))
        go_ret
        exact ⟨rfl, ((hd1.out.trans hd2.out).trans hd3.out).below⟩
end Go.Proofs.YthplmnoalanhjaaDoor
