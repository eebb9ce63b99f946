/-
  What a slice of pairs (a number below 2^64, an int) that came in holds.
-/
import Derived.Test.YtjojjfnbnhfdgaaStr
import Derived.Test.YtjojjfnbnhfdgaaLex
import Derived.Deep.SlicePairs
namespace Go.Proofs.Ytjojjfnbnhfdgaa
open Go.ChangeShapes Go.WideShapes Go.ChangeAt Go.RowKit Go.Deep

def IsActs (w : World) (a : Option Addr) (len : Nat) (V : Nat → Nat) (M : Nat → Int) : Prop :=
  0 < len → ∃ b off, a = some ⟨b, off, none⟩ ∧ ∀ i, i < len → w.cell? ⟨b, off + i * 2, none⟩ = some (.int .u64 (V i : Int)) ∧ w.cell? ⟨b, off + i * 2 + 1, none⟩ = some (.int .i64 (M i)) ∧ V i < 18446744073709551616

theorem acts_open {H : Type} {enc : TypeId × Value → H} {w : World} {fuel : Nat} {a : Option Addr} {len cap : Nat} {x : DataW H × List MemPlace}
    (h : DataW.trod enc Try.prog w 0 (fun _ => true) true fuel 22 (Value.slice a len cap).cells.toList = some x) : ∃ V M, IsActs w a len V M := by
  rcases open_slice_pairs Try.underlying22 Try.underlying32 (by kernel_rfl) rfl rfl (by kernel_rfl) (by kernel_rfl) h with ⟨hcs, _⟩ | ⟨ad, len', cap', m, n, V0, V1, D0, D1, P0, P1, hcs, _, hl, hm, hmm, _, hx⟩
  · simp [Value.cells] at hcs
    obtain ⟨rfl, rfl, rfl⟩ := hcs
    exact ⟨fun _ => 0, fun _ => 0, fun h => by omega⟩
  · simp [Value.cells] at hcs
    obtain ⟨rfl, rfl, rfl⟩ := hcs
    rw [if_pos rfl] at hmm
    refine ⟨fun i => (intOf (V0 i)).toNat, fun i => intOf (V1 i), fun h0 => ?_⟩
    obtain ⟨b, off, rfl⟩ := spot_none (by have := (hx 0 (by omega)).1; simpa using this)
    refine ⟨b, off, rfl, fun i hi => ?_⟩
    obtain ⟨h1, h2, h3, h4⟩ := hx i (by omega)
    rw [add_none] at h1 h2
    rw [← Nat.add_assoc] at h2
    obtain ⟨v, e1, _, hv⟩ := DataW.trod_int Try.underlying30 h3
    obtain ⟨u, e2, _, hu⟩ := DataW.trod_int Try.underlying3 h4
    simp only [List.cons.injEq, and_true] at e1 e2
    have hb := bounds_u64 hv
    refine ⟨?_, ?_, ?_⟩
    · rw [h1]
      show _ = some (Value.int .u64 (((intOf (V0 i)).toNat : Nat) : Int))
      rw [e1]
      simp only [intOf]
      congr 2
      omega
    · rw [h2]
      show _ = some (Value.int .i64 (intOf (V1 i)))
      rw [e2]
      rfl
    · show (intOf (V0 i)).toNat < _
      rw [e1]
      simp only [intOf]
      omega

/-- The bits of the first i pairs, one behind another. -/
def actBits (V C : Nat → Nat) : Nat → List Bool
  | 0 => []
  | i + 1 => actBits V C i ++ putBits (V i) (C i)

theorem actBits_le (V C : Nat → Nat) (i n : Nat) (h : i ≤ n) : ∃ r, actBits V C n = actBits V C i ++ r := by
  induction n with
  | zero => exact ⟨[], by simp [show i = 0 by omega]⟩
  | succ n ih =>
    by_cases e : i = n + 1
    · subst e; exact ⟨[], by simp⟩
    · obtain ⟨r, hr⟩ := ih (by omega)
      exact ⟨r ++ putBits (V n) (C n), by rw [actBits, hr, List.append_assoc]⟩

theorem actBits_length (V C : Nat → Nat) (hC : ∀ i, C i ≤ 64) (n : Nat) : (actBits V C n).length ≤ 64 * n := by
  induction n with
  | zero => simp [actBits]
  | succ n ih =>
    rw [actBits, List.length_append, length_putBits]
    have := hC n
    omega

theorem act_take (V C : Nat → Nat) (i n : Nat) (h : i < n) (z : List Bool) : ((actBits V C n ++ z).drop (actBits V C i).length).take (C i) = putBits (V i) (C i) := by
  obtain ⟨r, hr⟩ := actBits_le V C (i + 1) n h
  rw [hr, actBits, List.append_assoc, List.append_assoc, List.drop_left, List.take_append_of_le_length (by rw [length_putBits]; omega), List.take_of_length_le (by rw [length_putBits]; omega)]

theorem num_zeros (n : Nat) : num (List.replicate n false) = 0 := by
  induction n with
  | zero => rfl
  | succ n ih => rw [List.replicate_succ, num_cons, ih]; simp

theorem and63 (z : Int) : bits .and .i64 z 63 = z % 64 := by
  have e : bits .and .i64 z 63 = IntKind.i64.wrap (((BitVec.ofInt 64 z &&& BitVec.ofInt 64 63).toNat : Nat) : Int) := rfl
  rw [e, BitVec.toNat_and, BitVec.toNat_ofInt]
  have h63 : (BitVec.ofInt 64 63).toNat = 63 := by decide
  rw [h63, nat_mask6]
  have h1 : ((z % ((2 ^ 64 : Nat) : Int)).toNat : Int) = z % 18446744073709551616 := by
    rw [Int.toNat_of_nonneg (Int.emod_nonneg _ (by decide))]; rfl
  rw [IntWalk.i64_in _ (by omega)]
  omega

end Go.Proofs.Ytjojjfnbnhfdgaa
