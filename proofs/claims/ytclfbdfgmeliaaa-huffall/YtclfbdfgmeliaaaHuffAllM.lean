/-
  The walk of the law HuffAll, under the condition that the program's functions answer as their contracts say.
-/
import Derived.Test.YtclfbdfgmeliaaaRows
import Derived.Test.YtclfbdfgmeliaaaJ8
namespace Go.Proofs.Ytclfbdfgmeliaaa.huffAll
open Go.ChangeShapes Go.WideShapes Go.ChangeAt Go.RowKit

/-- The bytes from f on, round and round. -/
def allB (f n : Nat) : List Nat := (List.range n).map fun j => (f + j) % 256
theorem allB_len (f n : Nat) : (allB f n).length = n := by simp [allB]
theorem allB_lt (f n : Nat) : ∀ x ∈ allB f n, x < 256 := fun x hx => by
  obtain ⟨j, -, rfl⟩ := List.mem_map.1 hx
  exact Nat.mod_lt _ (by omega)
theorem allB_succ (f n : Nat) : allB f (n + 1) = allB f n ++ [(f + n) % 256] := by
  unfold allB
  rw [List.range_succ, List.map_append]
  rfl
theorem allB_add (f n m : Nat) : allB f (n + m) = allB f n ++ allB (f + n) m := by
  induction m with
  | zero => simp [allB]
  | succ m ih => rw [← Nat.add_assoc, allB_succ, ih, allB_succ, List.append_assoc, Nat.add_assoc]
theorem round_count (f s : Nat) (hs : s < 256) : (allB f 256).count s = 1 := by
  have hnd : (allB f 256).Nodup := by
    unfold allB List.Nodup
    rw [List.pairwise_map]
    refine (List.pairwise_lt_range (n := 256)).imp_of_mem ?_
    intro a b ha hb hab
    have := List.mem_range.1 ha
    have := List.mem_range.1 hb
    omega
  rw [hnd.count, if_pos]
  refine List.mem_map.2 ⟨(s + 256 - f % 256) % 256, List.mem_range.2 (Nat.mod_lt _ (by omega)), ?_⟩
  omega
theorem allB_count (f s : Nat) (hs : s < 256) : ∀ k, (allB f (256 * k)).count s = k
  | 0 => by simp [allB]
  | k + 1 => by
    rw [Nat.mul_succ, allB_add, List.count_append, allB_count f s hs k, round_count _ s hs]

set_option maxRecDepth 4000 in
set_option maxHeartbeats 1600000 in
theorem walkM (M : HC) (a0 : Int) (a1 : Int) (w0 : (Lit.int .u8 a0).wf = true) (w1 : (Lit.int .u8 a1).wf = true) (w : World) :
    Calls Try.prog 7 #[.int .u8 a0, .int .u8 a1] w fun e w' => e = .returned (.bool true) ∧ Below w.heap.size w w' := by
  obtain ⟨n, rfl⟩ : ∃ k : Nat, a0 = (k : Int) := ⟨a0.toNat, by have := hu8 a0 w0; omega⟩
  obtain ⟨f, rfl⟩ : ∃ k : Nat, a1 = (k : Int) := ⟨a1.toNat, by have := hu8 a1 w1; omega⟩
  have hn := (hu8 _ w0).2
  have hf := (hu8 _ w1).2
  have hnb : n < 256 := by omega
  have hfb : f < 256 := by omega
  clear w0 w1 hn hf
  obtain ⟨n5, hn5⟩ : ∃ y, y = n % 5 := ⟨_, rfl⟩
  obtain ⟨k, hk⟩ : ∃ y, y = n5 + 1 := ⟨_, rfl⟩
  obtain ⟨K, hK⟩ : ∃ y, y = 256 * k := ⟨_, rfl⟩
  have r1 : (n : Int).tmod 5 = (n5 : Int) := by rw [Int.tmod_eq_emod_of_nonneg (by omega)]; omega
  have r1b : (n : Int) % 5 = (n5 : Int) := by omega
  have r2 : (n5 : Int) + 1 = (k : Int) := by omega
  have r3 : (256 : Int) * (k : Int) = (K : Int) := by omega
  obtain ⟨X, hX⟩ : ∃ X, X = 516 + K := ⟨_, rfl⟩
  have r4 : (516 : Int) + (K : Int) = (X : Int) := by omega
  have hn5b : n5 < 5 := by omega
  have hkb : 0 < k ∧ k ≤ 5 := by omega
  have hKb : K ≤ 1280 := by omega
  have HK : Hid _ := hK
  have HX : Hid _ := hX
  have hXb : X ≤ 2000 := by omega
  clear hn5 hk hK hX
  go_enter Try.func7, Try.ntmps7
  go_wp2_with fail
  refine (known_any M w).mono ?_
  rintro e w1 ⟨rfl, hf1⟩
  have Hf1 : Hid (Fr w w1 (fun _ => False)) := hf1
  clear hf1
  go_wp2_with fail
  go_loopg [6, 7] K (fun g B I wr => ∃ i : Nat, g = K - i ∧ i ≤ K ∧ I = .int .i64 (i : Int) ∧ Own wr B (allB f i) ∧ Fr w wr (fun _ => False) ∧ (∀ k, B.ownBlock = some k → w.heap.size ≤ k))
  case atStart => exact ⟨0, rfl, by omega, rfl, Own.nil _, Hf1.out, fun k hk => by simp [Value.ownBlock] at hk⟩
  case round =>
    obtain ⟨i, hg, hi, rfl, ho, hf, hnw⟩ := hrel
    have Hg : Hid _ := hg
    have Ho : Hid (Own wr u6 (allB f i)) := ho
    have Hf : Hid (Fr w wr (fun _ => False)) := hf
    have Hnw : Hid _ := hnw
    clear hg ho hf hnw
    by_cases hlt : i < K
    · have hi1 : (i : Int) < (K : Int) := by omega
      obtain ⟨r, hr⟩ : ∃ y, y = i % 256 := ⟨_, rfl⟩
      obtain ⟨y, hy⟩ : ∃ y, y = (f + i) % 256 := ⟨_, rfl⟩
      have q1 : IntKind.u8.wrap (i : Int) = (r : Int) := by rw [IntKind.wrap_u8]; omega
      have q2 : IntKind.u8.wrap ((f : Int) + (r : Int)) = (y : Int) := by rw [IntKind.wrap_u8]; omega
      obtain ⟨v7, w7, hrun7, ho7, hf7, hm7⟩ := app_byte wr u6 (allB f i) y (y : Int) rfl Ho.out (by rw [allB_len]; omega)
      have Ho7 : Hid (Own w7 v7 (allB f (i + 1))) := by rw [allB_succ, ← hy]; exact ho7
      have Hf7 : Hid (Fr w w7 (fun _ => False)) := Hf.out.newer hf7 Hnw.out
      have Hn7 : Hid (∀ k, v7.ownBlock = some k → w.heap.size ≤ k) := fun k hk => by
        rcases hm7 k hk with h | h
        · exact Hnw.out k h
        · have := Hf.out.size; omega
      clear ho7 hf7 hm7 hr hy
      go_wp2_with (at_builtin; refine wpList_append_run rfl (.tmp 23) (.tmp 28) 22 rfl rfl rfl hrun7 ?_)
      go_roundg (K - (i + 1))
      case rel => exact ⟨i + 1, rfl, by omega, by go_num, Ho7.out, Hf7.out, Hn7.out⟩
      case measure => rw [Hg.out]; omega
    · have hi1 : ¬ (i : Int) < (K : Int) := by omega
      obtain rfl : i = K := by omega
      have hl := allB_len f i
      have HTb := allB_lt f i
      have hlen : (hput (allB f i)).length = X := by
        rw [HX.out, HK.out]
        rw [hput_all (k := k) hkb.1 hkb.2 (allB_lt _ _) (fun s hs => allB_count f s hs k) (allB_len _ _)]
      have hy : hread (hput (allB f i)) = some (allB f i) := hread_put _ HTb (le62 (by omega))
      have hPb := hput_bytes (allB f i)
      have hrT := Ho.out.reads
      obtain ⟨T, hT⟩ : ∃ T, T = allB f i := ⟨_, rfl⟩
      rw [← hT] at hl HTb hlen hy hPb hrT
      have HrT : Hid (Reads .u8 wr u6 T) := hrT
      have HTb' : Hid (∀ x ∈ T, x < 256) := HTb
      have Hl : Hid (T.length = i) := hl
      have Hlen : Hid ((hput T).length = X) := hlen
      have Hy : Hid _ := hy
      have HPb : Hid (∀ x ∈ hput T, x < 256) := hPb
      clear hl HTb hlen hy hPb hrT hT Ho Hnw HK HX
      go_wp2_with fail
      refine (M.put _ T wr HrT.out HTb'.out (by rw [Hl.out]; omega)).mono ?_
      rintro e w3 ⟨sp, rfl, hrp, hf3⟩
      have Hf3 : Hid (Fr w w3 (fun _ => False)) := Hf.out.none hf3
      have HrT3 : Hid (Reads .u8 w3 u6 T) := HrT.out.keep hf3
      obtain ⟨P, hP⟩ : ∃ P, P = hput T := ⟨_, rfl⟩
      rw [← hP] at hrp Hlen Hy HPb
      obtain ⟨ap, cp, hsp, hcp, -⟩ := id hrp
      rw [length_row, Hlen.out] at hsp
      subst hsp
      have Hrp3 : Hid (Reads .u8 w3 (.slice ap X cp) P) := hrp
      clear hf3 hrp hP hcp
      go_wp2_with fail
      refine (M.readY Hrp3.out HPb.out (by rw [Hlen.out]; omega) Hy.out).mono ?_
      rintro e w4 ⟨sx, rfl, hrx, hf4⟩
      have Hf4 : Hid (Fr w w4 (fun _ => False)) := Hf3.out.none hf4
      have hc1 := conv_reads hrx
      have hc2 := conv_reads (HrT3.out.keep hf4)
      generalize strOf T = S at hc1 hc2
      clear hrx hf4
      go_wp2
      go_ret
      exact ⟨rfl, below_of Hf4.out⟩

end Go.Proofs.Ytclfbdfgmeliaaa.huffAll
