/-
  Lengths by package-merge that can be reckoned out: counts that double, and small examples. Plain mathematics, no program.
-/
import Derived.Test.YtjjanlpkhoeejaaPLaws
namespace Go.Proofs.Ytjjanlpkhoeejaa

def mgIn (wt : Nat → Nat) (c : List Nat) (rest : List (List Nat) → List (List Nat)) (all : List (List Nat)) : List (List Nat) → List (List Nat)
  | [] => all
  | p :: ps => if W wt c ≤ W wt p then c :: rest (p :: ps) else p :: mgIn wt c rest all ps
def mgS (wt : Nat → Nat) : List (List Nat) → List (List Nat) → List (List Nat)
  | [], q => q
  | c :: cs, q => mgIn wt c (mgS wt cs) (c :: cs) q
theorem mgS_eq (wt : Nat → Nat) : ∀ c p : List (List Nat), mgS wt c p = mg wt c p
  | [], p => by simp [mgS, mg]
  | c :: cs, p => by
    have ih := mgS_eq wt cs
    rw [mgS]
    induction p with
    | nil => simp [mgIn, mg]
    | cons p ps ih2 =>
      rw [mgIn, mg, ih, ih2]
def lvS (wt : Nat → Nat) (cs : List Nat) : Nat → List (List Nat)
  | 0 => coin cs
  | k + 1 => mgS wt (coin cs) (pk (lvS wt cs k))
theorem lvS_eq (wt : Nat → Nat) (cs : List Nat) : ∀ k, lvS wt cs k = lv wt cs k
  | 0 => rfl
  | k + 1 => by rw [lvS, lv, lvS_eq wt cs k, mgS_eq]
def pmS (counts : List Nat) (most : Nat) : List Nat :=
  if 256 < counts.length ∨ 2 ^ most < (there counts).length then [] else
    (fun T => (List.range counts.length).map fun s => if (there counts).length = 1 then (if cnt counts s = 0 then 0 else 1) else occ T s) ((lvS (cnt counts) (there counts) (most - 1)).take (2 * (there counts).length - 2))
theorem pmS_eq (counts : List Nat) (most : Nat) : pmS counts most = pmLens counts most := by
  unfold pmS pmLens pmLen pmOcc
  rw [lvS_eq]

theorem pm_skew : ∀ k, 2 ≤ k → k ≤ 15 → pmLens ((List.range k).map fun i => 2 ^ i) 15 = (List.range k).map fun i => min (k - i) (k - 1) := by
  intro k h1 h2
  rw [← pmS_eq]
  have : ∀ k, k < 16 → 2 ≤ k → pmS ((List.range k).map fun i => 2 ^ i) 15 = (List.range k).map fun i => min (k - i) (k - 1) := by decide +kernel
  exact this k (by omega) h1
theorem pm_known : pmLens [1, 1, 2, 0] 15 = [2, 2, 1, 0] := by rw [← pmS_eq]; decide +kernel
theorem pm_known1 : pmLens [0, 7] 3 = [0, 1] := by rw [← pmS_eq]; decide +kernel
theorem pm_known2 : pmLens [1, 1, 1] 1 = [] := by rw [← pmS_eq]; decide +kernel
theorem kraft_known : kraftOf [2, 2, 1, 0] = 32768 := by decide +kernel

end Go.Proofs.Ytjjanlpkhoeejaa
