/-
  The walk of the law HuffBack, under the condition that the program's functions answer as their contracts say.
-/
import Derived.Test.YtclfbdfgmeliaaaRows
import Derived.Test.YtclfbdfgmeliaaaJ8
namespace Go.Proofs.Ytclfbdfgmeliaaa.huffBack
open Go.ChangeShapes Go.WideShapes Go.ChangeAt Go.RowKit

set_option maxRecDepth 4000 in
set_option maxHeartbeats 1600000 in
theorem walkM (M : HC) (a0 : Option Addr) (len0 cap0 : Nat) (z0 : List Int) (a1 : Int) (a2 : Int) (a3 : Option Addr) (len3 cap3 : Nat) (z3 : List Int) (w : World) (w0 : IsRow .u8 w a0 len0 cap0 z0) (w1 : (Lit.int .u8 a1).wf = true) (w2 : (Lit.int .u16 a2).wf = true) (w3 : IsRow .u8 w a3 len3 cap3 z3) :
    Calls Try.prog 4 #[.slice a0 len0 cap0, .int .u8 a1, .int .u16 a2, .slice a3 len3 cap3] w fun e w' => e = .returned (.bool true) ∧ Below w.heap.size w w' := by
  obtain ⟨ls, hll, hlx, hrl, -⟩ := reads_isRow hu8 (by decide) w0
  obtain ⟨ms, hml, hmx, hrm, -⟩ := reads_isRow hu8 (by decide) w3
  obtain ⟨k, rfl⟩ : ∃ k : Nat, a1 = (k : Int) := ⟨a1.toNat, by have := hu8 a1 w1; omega⟩
  obtain ⟨c, rfl⟩ : ∃ k : Nat, a2 = (k : Int) := ⟨a2.toNat, by have := hu16 a2 w2; omega⟩
  have hk := (hu8 _ w1).2
  have hc := (hu16 _ w2).2
  have Hrl : Hid (Reads .u8 w (.slice a0 len0 cap0) ls) := hrl
  have Hrm : Hid (Reads .u8 w (.slice a3 len3 cap3) ms) := hrm
  have Hlx : Hid (∀ x ∈ ls, x < 256) := mem_of_getD hlx
  have Hmx : Hid (∀ x ∈ ms, x < 256) := mem_of_getD hmx
  have Hll : Hid (ls.length = len0) := by first | exact hll | exact hll.symm
  have Hml : Hid (ms.length = len3) := by first | exact hml | exact hml.symm
  have hkb : k < 256 := by omega
  have hcb : c < 65536 := by omega
  clear w0 w1 w2 w3 hrl hrm hlx hmx hll hml hk hc
  go_enter Try.func4, Try.ntmps4
  go_wp2_with fail
  refine (known_any M w).mono ?_
  rintro e w1 ⟨rfl, hf1⟩
  by_cases hbig : 60 < len0
  · have hd : decide ((60 : Int) < (len0 : Int)) = true := decide_eq_true (by omega)
    have hd2 : decide (60 < len0) = true := decide_eq_true hbig
    go_wp2
    go_ret
    exact ⟨rfl, below_of hf1⟩
  · have hd : decide ((60 : Int) < (len0 : Int)) = false := decide_eq_false (by omega)
    have hd2 : decide (60 < len0) = false := decide_eq_false hbig
    by_cases hbig2 : 8 < len3
    · have he : decide ((8 : Int) < (len3 : Int)) = true := decide_eq_true (by omega)
      have he2 : decide (8 < len3) = true := decide_eq_true hbig2
      go_wp2
      go_ret
      exact ⟨rfl, below_of hf1⟩
    · have he : decide ((8 : Int) < (len3 : Int)) = false := decide_eq_false (by omega)
      have he2 : decide (8 < len3) = false := decide_eq_false hbig2
      by_cases h0 : len3 = 0
      · have hg : ((len3 : Int) == 0) = true := by simp [h0]
        have hg2 : (len3 == 0) = true := by simp [h0]
        clear h0
        go_wp2
        go_ret
        exact ⟨rfl, below_of hf1⟩
      · have hg : ((len3 : Int) == 0) = false := by rw [beq_eq_false_iff_ne]; omega
        have hg2 : (len3 == 0) = false := by rw [beq_eq_false_iff_ne]; omega
        go_wp2_with fail
        refine (text_any _ ls k w1 (Hrl.out.keep hf1) Hlx.out hkb (by rw [Hll.out]; omega)).mono ?_
        rintro e w2 ⟨sb, rfl, hob, hf2, -⟩
        have Hf2 : Hid (Fr w w2 (fun _ => False)) := hf1.none hf2
        have hTl := text_len ls k
        rw [Hll.out] at hTl
        have hTb := text_lt ls k Hlx.out
        obtain ⟨T, hT⟩ : ∃ T, T = textOf ls k := ⟨_, rfl⟩
        rw [← hT] at hob hTl hTb
        have Hrb : Hid (Reads .u8 w2 sb T) := hob.reads
        have HTb : Hid (∀ x ∈ T, x < 256) := hTb
        have hT480 : T.length ≤ 480 := by omega
        clear hob hf2 hf1 hT hTl hTb
        go_wp2_with fail
        refine (M.put _ T w2 Hrb.out HTb.out (by omega)).mono ?_
        rintro e w3 ⟨sp, rfl, hrp, hf3⟩
        have Hf3 : Hid (Fr w w3 (fun _ => False)) := Hf2.out.none hf3
        have Hrb3 : Hid (Reads .u8 w3 sb T) := Hrb.out.keep hf3
        have hpp := hput_pos T
        have hpl := hput_le T (by omega)
        have Hpb : Hid (∀ x ∈ hput T, x < 256) := hput_bytes T
        have Hy : Hid (hread (hput T) = some T) := hread_put T HTb.out (le62 (by omega))
        have Hcut : Hid (∀ j, j < (hput T).length → hread ((hput T).take j) = none) := fun j hj => hread_cut T HTb.out (le62 (by omega)) j hj
        have Hmore : Hid (∀ r, r ≠ [] → hread (hput T ++ r) = none) := fun r hr => hread_more T r HTb.out (le62 (by omega)) hr
        obtain ⟨P, hP⟩ : ∃ P, P = hput T := ⟨_, rfl⟩
        rw [← hP] at hrp hpp hpl Hpb Hy Hcut Hmore
        obtain ⟨np, hnp⟩ : ∃ n, n = P.length := ⟨_, rfl⟩
        obtain ⟨ap, cp, hsp, hcp, -⟩ := id hrp
        rw [length_row, ← hnp] at hsp hcp
        subst hsp
        have Hrp3 : Hid (Reads .u8 w3 (.slice ap np cp) P) := hrp
        have Hnp : Hid _ := hnp
        rw [← hnp] at hpp hpl
        have hn0 : ((np : Int) == 0) = false := by rw [beq_eq_false_iff_ne]; omega
        clear hf3 hrp hP hnp Hrb
        go_wp2_with fail
        refine (M.readY Hrp3.out Hpb.out (by rw [← Hnp.out]; omega) Hy.out).mono ?_
        rintro e w4 ⟨sx, rfl, hrx, hf4⟩
        have Hf4 : Hid (Fr w w4 (fun _ => False)) := Hf3.out.none hf4
        have Hrp4 : Hid (Reads .u8 w4 (.slice ap np cp) P) := Hrp3.out.keep hf4
        have Hrb4 : Hid (Reads .u8 w4 sb T) := Hrb3.out.keep hf4
        have Hrx4 : Hid (Reads .u8 w4 sx T) := hrx
        obtain ⟨v5, w5, hrun5, ho5, hf5, hm5, -⟩ := app_bytes w4 (.slice none 0 0) (.slice ap np cp) [] P (Own.nil w4) Hrp4.out (by rw [← Hnp.out]; simp; omega)
        rw [List.nil_append] at ho5
        have hf5' : Fr w4 w5 (fun _ => False) := hf5.mono (fun k _ h => by simp [Value.ownBlock] at h)
        have hrm5 : Reads .u8 w5 (.slice a3 len3 cap3) ms := (Hrm.out.keep Hf4.out).keep hf5'
        obtain ⟨v6, w6, hrun6, ho6, hf6, hm6, -⟩ := app_bytes w5 v5 (.slice a3 len3 cap3) P ms ho5 hrm5 (by rw [← Hnp.out, Hml.out]; omega)
        have hn5 : ∀ k, v5.ownBlock = some k → w4.heap.size ≤ k := fun k hk => by
          rcases hm5 k hk with h | h
          · simp [Value.ownBlock] at h
          · exact h
        have hf46 : Fr w4 w6 (fun _ => False) := hf5'.newer hf6 hn5
        have Hf6 : Hid (Fr w w6 (fun _ => False)) := Hf4.out.none hf46
        have Hr6 : Hid (Reads .u8 w6 v6 (P ++ ms)) := ho6.reads
        have Hrp6 : Hid (Reads .u8 w6 (.slice ap np cp) P) := Hrp4.out.keep hf46
        have Hrb6 : Hid (Reads .u8 w6 sb T) := Hrb4.out.keep hf46
        have Hrx6 : Hid (Reads .u8 w6 sx T) := Hrx4.out.keep hf46
        have HmN : Hid (hread (P ++ ms) = none) := Hmore.out ms (fun e => by have := Hml.out; rw [e] at this; simp at this; omega)
        clear hf4 hrx ho5 hf5 hf5' hm5 hrm5 ho6 hf6 hm6 hn5 hf46
        go_wp2_with (at_builtin; first | refine wpList_append_run rfl (.const (.slice none 0 0)) (.tmp 46) 22 rfl rfl rfl hrun5 ?_ | refine wpList_append_run rfl (.tmp 47) (.tmp 48) 22 rfl rfl rfl hrun6 ?_)
        clear hrun5 hrun6
        refine (M.readN Hr6.out (fun x hx => by rcases List.mem_append.1 hx with h | h; exact Hpb.out x h; exact Hmx.out x h) (by rw [List.length_append, ← Hnp.out, Hml.out]; omega) HmN.out).mono ?_
        rintro e w7 ⟨rfl, hf7⟩
        have Hf7 : Hid (Fr w w7 (fun _ => False)) := Hf6.out.none hf7
        have Hrp7 : Hid (Reads .u8 w7 (.slice ap np cp) P) := Hrp6.out.keep hf7
        have Hrb7 : Hid (Reads .u8 w7 sb T) := Hrb6.out.keep hf7
        have Hrx7 : Hid (Reads .u8 w7 sx T) := Hrx6.out.keep hf7
        obtain ⟨m, hm⟩ : ∃ m, m = c % np := ⟨_, rfl⟩
        have hmn : m < np := by rw [hm]; exact Nat.mod_lt _ hpp
        have r1 : (c : Int).tmod (np : Int) = (m : Int) := by rw [Int.tmod_eq_emod_of_nonneg (by omega), hm]; simp
        have r1b : (c : Int) % (np : Int) = (m : Int) := by rw [hm]; simp
        have wc : IntKind.i64.wrap (c : Int) = (c : Int) := IntWalk.i64_in _ (by omega)
        have hmi : (m : Int) ≤ (cp : Int) := by omega
        have hmi2 : (m : Int) ≤ (np : Int) := by omega
        have hmi3 : m ≤ cp := by omega
        have Hr7 : Hid (Reads .u8 w7 (.slice ap m cp) (P.take m)) := by
          have := Holds.take Hrp7.out m (by omega) cp (by omega)
          rw [← row_take] at this
          exact this
        have HmC : Hid (hread (P.take m) = none) := Hcut.out m (by rw [← Hnp.out]; exact hmn)
        clear hf7 hm
        go_wp2_with fail
        refine (M.readN Hr7.out (mem_take_lt Hpb.out) (by rw [List.length_take, ← Hnp.out]; omega) HmC.out).mono ?_
        rintro e w8 ⟨rfl, hf8⟩
        have Hf8 : Hid (Fr w w8 (fun _ => False)) := Hf7.out.none hf8
        have hcb8 := conv_reads (Hrb7.out.keep hf8)
        have hcx8 := conv_reads (Hrx7.out.keep hf8)
        clear hf8
        generalize strOf T = S at hcb8 hcx8
        go_wp2
        go_ret
        exact ⟨rfl, below_of Hf8.out⟩

end Go.Proofs.Ytclfbdfgmeliaaa.huffBack
