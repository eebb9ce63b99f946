/-
  The contract of history's fits.
-/
import Derived.Test.YthdlhdeaeaahoaaJ1
namespace Go.Proofs.Ythdlhdeaeaahoaa
open Go.RowKit

set_option maxRecDepth 4000 in
set_option maxHeartbeats 400000 in
theorem fits_any (n m : Nat) (w : World) (hn : n < 18446744073709551616) (hm : m ≤ 1000000) : Calls Try.prog 44 #[.int .u64 (n : Int), .int .u64 (m : Int)] w fun r w' =>
    r = .returned (.bool (decide (n ≤ 4294967296))) ∧ Fr w w' (fun _ => False) := by
  have d2 : decide ((m : Int) ≤ 2147483648) = true := decide_eq_true (by omega)
  have d2' : decide (m ≤ 2147483648) = true := decide_eq_true (by omega)
  by_cases h : n ≤ 4294967296
  · have d1 : decide ((n : Int) ≤ 4294967296) = true := decide_eq_true (by omega)
    have d1' : decide (n ≤ 4294967296) = true := decide_eq_true h
    rw [d1']
    go_enter Try.func44, Try.ntmps44
    go_wp2
    go_ret
    exact ⟨rfl, Fr.refl w _⟩
  · have d1 : decide ((n : Int) ≤ 4294967296) = false := decide_eq_false (by omega)
    have d1' : decide (n ≤ 4294967296) = false := decide_eq_false h
    rw [d1']
    go_enter Try.func44, Try.ntmps44
    go_wp2
    go_ret
    exact ⟨rfl, Fr.refl w _⟩

end Go.Proofs.Ythdlhdeaeaahoaa
