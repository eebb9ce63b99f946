/-
  Which lengths may be, of ints: plain mathematics, no program.
-/
import Derived.Test.YtclfbdfgmeliaaaKMath
import Derived.Test.YtclfbdfgmeliaaaRIntsP
namespace Go.Proofs.Ytclfbdfgmeliaaa

def someZ (zs : List Int) : Nat := zs.countP fun z => decide (0 < z)
def oneZ (zs : List Int) : Bool := zs.all fun z => decide (0 < z → z = 1)
def inZ (zs : List Int) : Bool := zs.all fun z => decide (0 ≤ z ∧ z ≤ 15)
def rightB (zs : List Int) : Bool := decide (zs.length ≤ 256) && inZ zs && ((decide (someZ zs = 1) && oneZ zs) || decide (kraftZ zs = 32768))

theorem someZ_snoc (zs : List Int) (z : Int) : someZ (zs ++ [z]) = someZ zs + if 0 < z then 1 else 0 := by
  unfold someZ
  rw [List.countP_append, List.countP_singleton]
  by_cases h : 0 < z <;> simp [h]
theorem oneZ_snoc (zs : List Int) (z : Int) : oneZ (zs ++ [z]) = (oneZ zs && decide (0 < z → z = 1)) := by simp [oneZ]
theorem inZ_snoc (zs : List Int) (z : Int) : inZ (zs ++ [z]) = (inZ zs && decide (0 ≤ z ∧ z ≤ 15)) := by simp [inZ]
theorem inZ_bad {zs : List Int} {z : Int} (h : z ∈ zs) (hz : z < 0 ∨ 15 < z) : inZ zs = false := by
  cases h1 : inZ zs with
  | false => rfl
  | true =>
    unfold inZ at h1
    have := List.all_eq_true.1 h1 z h
    simp at this
    omega
theorem someZ_le (zs : List Int) : someZ zs ≤ zs.length := List.countP_le_length

/-- Lengths that may be, as numbers. -/
def nats (zs : List Int) : List Nat := zs.map Int.toNat
theorem nats_length (zs : List Int) : (nats zs).length = zs.length := by simp [nats]
theorem nats_back {zs : List Int} (h : inZ zs = true) : (nats zs).map (fun (n : Nat) => (n : Int)) = zs := by
  unfold nats
  rw [List.map_map]
  conv => rhs; rw [← List.map_id zs]
  apply List.map_congr_left
  intro z hz
  have := List.all_eq_true.1 h z hz
  simp at this
  simp
  omega
theorem rightB_in {zs : List Int} (h : rightB zs = true) : inZ zs = true := by
  unfold rightB at h
  simp at h
  exact h.1.2
theorem rightB_len {zs : List Int} (h : rightB zs = true) : zs.length ≤ 256 := by
  unfold rightB at h
  simp at h
  exact h.1.1
theorem someZ_nats {zs : List Int} : someOf (nats zs) = someZ zs := by
  unfold someOf someZ nats
  rw [List.countP_map]
  congr 1
  funext z
  simp
theorem right_nats {zs : List Int} (h : rightB zs = true) : RightL (nats zs) := by
  have hi := rightB_in h
  have hb := nats_back hi
  refine ⟨by rw [nats_length]; exact rightB_len h, fun n hn => ?_, ?_⟩
  · obtain ⟨z, hz, rfl⟩ := List.mem_map.1 hn
    have := List.all_eq_true.1 hi z hz
    simp at this
    omega
  · unfold rightB at h
    simp only [Bool.and_eq_true, Bool.or_eq_true, decide_eq_true_eq] at h
    rcases h.2 with ⟨h1, h2⟩ | h1
    · refine .inl ⟨by rw [someZ_nats]; exact h1, fun n hn h0 => ?_⟩
      obtain ⟨z, hz, rfl⟩ := List.mem_map.1 hn
      have := List.all_eq_true.1 h2 z hz
      simp at this
      omega
    · refine .inr ?_
      rw [← hb, kraftZ_nat] at h1
      rw [h1]
theorem right_of_nats (l : List Nat) : rightB (l.map fun (n : Nat) => (n : Int)) = true ↔ RightL l := by
  have hn : nats (l.map fun (n : Nat) => (n : Int)) = l := by
    unfold nats
    rw [List.map_map]
    conv => rhs; rw [← List.map_id l]
    apply List.map_congr_left
    intro n _
    simp
  constructor
  · intro h
    have := right_nats h
    rwa [hn] at this
  · intro h
    unfold rightB
    have hi : inZ (l.map fun (n : Nat) => (n : Int)) = true := by
      unfold inZ
      rw [List.all_eq_true]
      intro z hz
      obtain ⟨n, hm, rfl⟩ := List.mem_map.1 hz
      have := h.le n hm
      simp
      omega
    rw [hi, kraftZ_nat, List.length_map, decide_eq_true h.most]
    simp only [Bool.and_self, Bool.true_and, Bool.or_eq_true, Bool.and_eq_true, decide_eq_true_eq]
    rcases h.how with ⟨h1, h2⟩ | h1
    · refine .inl ⟨by rw [← someZ_nats, hn]; exact h1, ?_⟩
      unfold oneZ
      rw [List.all_eq_true]
      intro z hz
      obtain ⟨n, hm, rfl⟩ := List.mem_map.1 hz
      have := h2 n hm
      simp
      omega
    · exact .inr h1
/-- The codes of lengths; nothing of those that may not be. -/
def codesZ (zs : List Int) : List Nat := if rightB zs = true then (List.range zs.length).map (codeOf (nats zs)) else []

end Go.Proofs.Ytclfbdfgmeliaaa
