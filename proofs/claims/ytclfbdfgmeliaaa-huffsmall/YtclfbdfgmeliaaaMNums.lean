/-
  The contracts of merge's counted, Cost and Kraft.
-/
import Derived.Test.YtclfbdfgmeliaaaRInts
namespace Go.Proofs.Ytclfbdfgmeliaaa
open Go.RowKit

set_option maxRecDepth 4000 in
set_option maxHeartbeats 400000 in
theorem counted_any (z : Int) (w : World) : Calls Try.prog 47 #[.int .i64 z] w fun e w' => e = .returned (.int .i64 (clampN z : Nat)) ∧ w' = w := by
  obtain ⟨c, hc⟩ : ∃ c, c = clampN z := ⟨_, rfl⟩
  rw [← hc]
  have Hc : Hid ((c : Int) = min (max z 0) 1099511627776) := by show _ = _; rw [hc]; unfold clampN; omega
  clear hc
  by_cases h0 : z < 0
  · have He : Hid ((c : Int) = 0) := by show _ = _; rw [Hc.out]; omega
    go_enter Try.func47, Try.ntmps47
    go_wp2
    go_ret
    exact ⟨by rw [He.out]; rfl, rfl⟩
  · by_cases h1 : 1099511627776 < z
    · have He : Hid ((c : Int) = 1099511627776) := by show _ = _; rw [Hc.out]; omega
      go_enter Try.func47, Try.ntmps47
      go_wp2
      go_ret
      exact ⟨by rw [He.out]; rfl, rfl⟩
    · have He : Hid ((c : Int) = z) := by show _ = _; rw [Hc.out]; omega
      go_enter Try.func47, Try.ntmps47
      go_wp2
      go_ret
      exact ⟨by rw [He.out]; rfl, rfl⟩

end Go.Proofs.Ytclfbdfgmeliaaa
