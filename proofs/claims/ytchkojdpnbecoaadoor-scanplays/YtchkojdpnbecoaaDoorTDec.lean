/-
  The decimal of a number.
-/
import Derived.Test.YtchkojdpnbecoaaDoorTNum
namespace Go.Proofs.YtchkojdpnbecoaaDoor
open Go.RowKit

/-- A number's decimal digits, as bytes. -/
def decL (n : Nat) : List Nat := if h : n < 10 then [48 + n] else decL (n / 10) ++ [48 + n % 10]
theorem decL_small (n : Nat) (h : n < 10) : decL n = [48 + n] := by rw [decL, dif_pos h]
theorem decL_big (n : Nat) (h : ¬ n < 10) : decL n = decL (n / 10) ++ [48 + n % 10] := by rw [decL, dif_neg h]
theorem decL_len : ∀ (k n : Nat), n < 10 ^ (k + 1) → (decL n).length ≤ k + 1
  | 0, n, h => by rw [decL_small n (by omega)]; exact Nat.le_refl 1
  | k + 1, n, h => by
    by_cases h1 : n < 10
    · rw [decL_small n h1]
      simp
    · have := decL_len k (n / 10) (by rw [Nat.pow_succ] at h; omega)
      rw [decL_big n h1, List.length_append]
      simp only [List.length_cons, List.length_nil]
      omega
theorem decL_len20 (n : Nat) (h : n < 18446744073709551616) : (decL n).length ≤ 20 := decL_len 19 n (by omega)
theorem strOf_append (a b : List Nat) : strOf a ++ strOf b = strOf (a ++ b) := by
  apply ByteArray.ext
  simp [strOf, strOfNums]
theorem digs_cut (d : Nat) (h : d < 10) : (ByteArray.mk #[48, 49, 50, 51, 52, 53, 54, 55, 56, 57]).extract d (d + 1) = strOf [48 + d] := by
  match d, h with
  | 0, _ => rfl
  | 1, _ => rfl
  | 2, _ => rfl
  | 3, _ => rfl
  | 4, _ => rfl
  | 5, _ => rfl
  | 6, _ => rfl
  | 7, _ => rfl
  | 8, _ => rfl
  | 9, _ => rfl
theorem digs_slice (d : Nat) (h : d < 10) (w : World) : (Instr.slice 9 (.string ⟨#[48, 49, 50, 51, 52, 53, 54, 55, 56, 57]⟩) (some (.int .u64 (d : Int))) (some (.int .u64 ((d : Int) + 1))) none).run Tryd.prog w = .ok (.string (strOf [48 + d])) w := by
  rw [run_slice_string w 9 _ .u64 .u64 (d : Int) ((d : Int) + 1) Tryd.underlying9 (by omega) (by omega) (by show _ ≤ (10 : Int); omega)]
  rw [← digs_cut d h]
  rfl

set_option maxRecDepth 4000 in
set_option maxHeartbeats 800000 in
theorem refDecimal_any (n : Nat) : ∀ (w : World), n < 18446744073709551616 → Calls Tryd.prog 24 #[.int .u64 (n : Int)] w fun r w' => r = .returned (.string (strOf (decL n))) ∧ Fr w w' (fun _ => False) := by
  induction n using Nat.strongRecOn with
  | ind n ih =>
  intro w hn
  by_cases h1 : n < 10
  · have g1 : (n : Int) < 10 := by omega
    have g1' : decide (n < 10) = true := decide_eq_true h1
    have hw1 : IntKind.u64.wrap ((n : Int) + 1) = (n : Int) + 1 := IntWalk.u64_in _ (by omega)
    have hsl := digs_slice n h1
    rw [decL_small n h1]
    generalize strOf [48 + n] = X at hsl ⊢
    go_enter Tryd.func24, Tryd.ntmps24
    go_wp2_with fail
    go_ret
    exact ⟨rfl, Fr.refl _ _⟩
  · have g1 : ¬ (n : Int) < 10 := by omega
    have g1' : decide (n < 10) = false := decide_eq_false h1
    obtain ⟨q, hq⟩ : ∃ q, q = n / 10 := ⟨_, rfl⟩
    obtain ⟨d, hd⟩ : ∃ d, d = n % 10 := ⟨_, rfl⟩
    have hd10 : d < 10 := by omega
    have hqn : q < n := by omega
    have IH := ih q hqn
    have hsl := digs_slice d hd10
    have h20 := decL_len20 q (by omega)
    have hno : ¬ 9223372036854775807 < (strOf (decL q)).size + (strOf [48 + d]).size := by rw [strOf_length, strOf_length]; show ¬ _ < _ + 1; omega
    have hcat := strOf_append (decL q) [48 + d]
    have Hres : Hid (decL n = decL q ++ [48 + d]) := by show _ = _; rw [hq, hd]; exact decL_big n h1
    rw [Hres.out]
    generalize decL q ++ [48 + d] = Y at hcat ⊢
    generalize strOf (decL q) = A at hno hcat IH
    generalize strOf [48 + d] = X at hsl hno hcat
    generalize strOf Y = Z at hcat ⊢
    have Hcat : Hid _ := hcat
    have hqi : (n : Int) / 10 = (q : Int) := by omega
    have hqt : (n : Int).tdiv 10 = (q : Int) := by rw [Int.tdiv_eq_ediv_of_nonneg (by omega)]; exact hqi
    have hdi : (n : Int) % 10 = (d : Int) := by omega
    have hdt : (n : Int).tmod 10 = (d : Int) := by rw [Int.tmod_eq_emod_of_nonneg (by omega)]; exact hdi
    have hwq : IntKind.u64.wrap (q : Int) = (q : Int) := IntWalk.u64_in _ (by omega)
    have hwd : IntKind.u64.wrap (d : Int) = (d : Int) := IntWalk.u64_in _ (by omega)
    have hw1 : IntKind.u64.wrap ((d : Int) + 1) = (d : Int) + 1 := IntWalk.u64_in _ (by omega)
    have IH2 : Hid _ := fun w => IH w (by omega)
    clear hq hd ih IH hcat Hres h20
    go_enter Tryd.func24, Tryd.ntmps24
    go_wp2_with fail
    refine wp_region_tree (fun _ => False) (.take 0 (.take 1 (.take 3 (.take 4 (.take 5 (.take 6 (.take 7 (.take 8 (.one 2 (.take 9 (.take 10 .nil))))))))))) (by kernel_rfl) (by kernel_rfl) (by decide) (by kernel_rfl) ?_
    iterate 8 (refine wpT_take (v := ?_) rfl rfl (fun x hx => ?_) ?_; rotate_left; (focus (go_simp; with_reducible rfl)); simp only [Act.put, List.setIfInBounds_toArray, List.set_cons_zero, List.set_cons_succ])
    refine wpT_one rfl rfl (fun K hK => ?_)
    go_simp
    refine (IH2.out _).mono ?_
    rintro r x3 ⟨rfl, g⟩
    refine hK _ _ g ?_
    clear hK K
    have Hf3 : Hid (Fr w x3 (fun _ => False)) := (Fr.refl w (fun _ => False)).drew.none g
    clear g
    iterate 2 (refine wpT_take (v := ?_) rfl rfl (fun x hx => ?_) ?_; rotate_left; (focus (go_simp; with_reducible rfl)); simp only [Act.put, List.setIfInBounds_toArray, List.set_cons_zero, List.set_cons_succ])
    unfold wpT
    go_wp2_with fail
    go_ret
    rw [Hcat.out]
    exact ⟨rfl, Hf3.out⟩

end Go.Proofs.YtchkojdpnbecoaaDoor
