/- The law's own little check 'told'. -/
import Derived.Test.YtbbcifcdimfdgaaVg
namespace Go.Proofs.Ytbbcifcdimfdgaa
open Go.RowKit

theorem told_1 : setF [] (ByteArray.mk #[48, 49]) 2 = [(ByteArray.mk #[48, 49], 2)] := by
  unfold setF
  rw [if_pos (by decide)]
  simp only [joinF]
  rfl
theorem told_2 : setF [(ByteArray.mk #[48, 49], 2)] (ByteArray.mk #[48]) 3 = [(ByteArray.mk #[48], 3), (ByteArray.mk #[48, 49], 2)] := by
  unfold setF
  rw [if_pos (by decide), joinF_gt (by decide), joinF_nil]
  rfl
theorem told_3 : setF [] (ByteArray.mk #[48]) 1 = [(ByteArray.mk #[48], 1)] := by
  unfold setF
  rw [if_pos (by decide)]
  simp only [joinF]
  rfl
theorem told_4 : meetF [(ByteArray.mk #[48], 3), (ByteArray.mk #[48, 49], 2)] [(ByteArray.mk #[48], 1)] = [(ByteArray.mk #[48], 1)] := by decide
theorem told_5 : Rising [(ByteArray.mk #[48], 3), (ByteArray.mk #[48, 49], 2)] := by unfold Rising; decide
theorem told_6 : Rising [(ByteArray.mk #[48], 1)] := by unfold Rising; decide
theorem told_7 : withinF [(ByteArray.mk #[48], 1)] [(ByteArray.mk #[48], 3), (ByteArray.mk #[48, 49], 2)] = true := by decide
theorem told_8 : withinF [(ByteArray.mk #[48], 3), (ByteArray.mk #[48, 49], 2)] [(ByteArray.mk #[48], 1)] = false := by decide
theorem told_9 : rightV [(ByteArray.mk #[48], 3), (ByteArray.mk #[48, 49], 2)] = true := by decide
theorem told_10 : ofF [(ByteArray.mk #[48], 3), (ByteArray.mk #[48, 49], 2)] (ByteArray.mk #[48, 49]) = 2 := by decide

end Go.Proofs.Ytbbcifcdimfdgaa
