/-
  The contract of huff's Put.
-/
import Derived.Test.YtclfbdfgmeliaaaHCnt
import Derived.Test.YtclfbdfgmeliaaaHPutL
import Derived.Test.YtclfbdfgmeliaaaHPutC
import Derived.Test.YtclfbdfgmeliaaaMLens
namespace Go.Proofs.Ytclfbdfgmeliaaa
open Go.RowKit

set_option maxRecDepth 4000 in
set_option maxHeartbeats 1600000 in
theorem hputP_any (v : Value) (bs : List Nat) (w : World) (h : Reads .u8 w v bs) (hb : ∀ x ∈ bs, x < 256) (hl : bs.length ≤ 1000000) :
    Calls Try.prog 11 #[v] w fun e w' => ∃ sv, e = .returned sv ∧ Own w' sv (hput bs) ∧ Fr w w' (fun _ => False) ∧ (∀ k, sv.ownBlock = some k → w.heap.size ≤ k) := by
  obtain ⟨a0, c0, rfl, hc0, -⟩ := id h
  rw [length_row] at h hc0 ⊢
  obtain ⟨n, hn⟩ : ∃ n, n = bs.length := ⟨_, rfl⟩
  rw [← hn] at h hl hc0 ⊢
  have Hr : Hid (Reads .u8 w (.slice a0 n c0) bs) := h
  have Hn : Hid _ := hn
  have Hb : Hid _ := hb
  clear h hn hb
  have wn : IntKind.u64.wrap (n : Int) = (n : Int) := by rw [IntKind.wrap_u64]; omega
  go_enter Try.func11, Try.ntmps11
  go_wp2_with fail
  refine (vputs_any _ [n] _ (holds_lit w 42 [.int .u64 (n : Int)] (by simp)) (by simp; omega) (by simp)).mono ?_
  rintro e w1 ⟨s1, rfl, ho1, hf1, hn1⟩
  have hf1' : Fr w w1 (fun _ => False) := ((Fr.refl w (fun _ => False)).alloc _).none hf1
  have hn1' : ∀ k, s1.ownBlock = some k → w.heap.size ≤ k := fun k hk => by have := hn1 k hk; simp at this; omega
  have e1 : encs [n] = enc n := by simp [encs]
  rw [e1] at ho1
  have Ho1 : Hid (Own w1 s1 (enc n)) := ho1
  have Hf1 : Hid (Fr w w1 (fun _ => False)) := hf1'
  have Hn1 : Hid _ := hn1'
  clear ho1 hf1 hf1' hn1 hn1' e1 wn
  by_cases h0 : n = 0
  · subst h0
    have Hres : Hid (hput bs = enc 0) := by
      show _ = _
      have e : bs = [] := List.eq_nil_of_length_eq_zero Hn.out.symm
      subst e
      unfold hput
      simp
    go_wp2_with fail
    go_ret
    exact ⟨_, rfl, by rw [Hres.out]; exact Ho1.out, Hf1.out, Hn1.out⟩
  · have hn2 : ((n : Int) == 0) = false := by rw [beq_eq_false_iff_ne]; omega
    have h0n : 0 < n := by omega
    have hne : bs ≠ [] := fun e => by have := Hn.out; rw [e] at this; simp at this; omega
    have Hput : Hid (hput bs = enc n ++ (headOf (lensB bs) ++ pack (bitsOf (lensB bs) bs))) := by show _ = _; unfold hput; rw [if_neg hne, ← Hn.out]
    have HR : Hid (RightL (lensB bs)) := lensB_right bs Hb.out hne
    have H15 : Hid (∀ s, ln (lensB bs) s ≤ 15) := lnB_15 bs
    have Hll : Hid ((lensB bs).length = 256) := lensB_len bs
    have Hpos : Hid (∀ x ∈ bs, 0 < ln (lensB bs) x) := fun x hx => (lnB_pos bs x (Hb.out x hx)).2 hx
    clear hne
    go_wp2_with fail
    refine (hcounts_any _ bs w1 (Hr.out.keep Hf1.out) Hb.out (by rw [← Hn.out]; omega)).mono ?_
    rintro e w2 ⟨sc, rfl, hrc, hf2, -⟩
    go_wp2_with fail
    refine (lengths_any sc _ 15 w2 hrc.z (by decide) (by decide)).mono ?_
    rw [lensB_of bs (by rw [← Hn.out]; exact hl)]
    rintro e w3 ⟨sl, rfl, hrl, hf3, hnl⟩
    have Hf13 : Hid (Fr w1 w3 (fun _ => False)) := hf2.none hf3
    generalize lensB bs = l at Hput HR H15 Hll hrl Hpos
    have Hrl : Hid (Reads .i64 w3 sl l) := hrl
    obtain ⟨al, cl, ll, hsl⟩ := hrl.form
    subst hsl
    have HnL : Hid (∀ k, (Value.slice al cl ll).ownBlock = some k → w1.heap.size ≤ k) := fun k hk => Nat.le_trans hf2.size (hnl k hk)
    clear hrc hf2 hf3 hrl hnl
    go_wp2_with fail
    refine (putLengths_any _ l w3 Hrl.out Hll.out H15.out).mono ?_
    rintro e w4 ⟨s4, rfl, ho4, hf4, hn4⟩
    have hlh : (headOf l).length ≤ 2000 := by
      have h2 := rowsTo_small l H15.out 256 (Nat.le_refl _)
      have h3 := enc_le (someTo l 256) (by have := someTo_le l 256; omega)
      unfold headOf
      rw [List.length_append]
      omega
    have hel := enc_le n (by omega)
    have hf14 : Fr w1 w4 (fun _ => False) := Hf13.out.none hf4
    obtain ⟨v5, w5, hrun5, ho5, hf5, hm5, -⟩ := app_bytes w4 s1 s4 _ _ (Ho1.out.frame hf14 (fun _ _ h => h)) ho4.reads (by omega)
    have Ho5 : Hid (Own w5 v5 (enc n ++ headOf l)) := ho5
    have Hlen5 : Hid ((enc n ++ headOf l).length ≤ 3000) := by show _ ≤ _; rw [List.length_append]; omega
    have Hn5 : Hid (∀ k, v5.ownBlock = some k → w.heap.size ≤ k) := fun k hk => by
      rcases hm5 k hk with h2 | h2
      · exact Hn1.out k h2
      · have := Hf1.out.size; have := hf14.size; omega
    have Hf5 : Hid (Fr w w5 (fun _ => False)) := (Hf1.out.none hf14).newer hf5 Hn1.out
    have hlt1 := Ho1.out.lt
    have Hrl5 : Hid (Reads .i64 w5 (.slice al cl ll) l) := by
      refine ((Hrl.out.keep hf4).frame hf5 (fun k hk h2 => ?_))
      have := hlt1 k h2; have := HnL.out k hk; omega
    clear ho4 hf4 hn4 hlh hel hf14 ho5 hf5 hm5 hlt1
    go_wp2_with (at_builtin; refine wpList_append_run rfl (.tmp 17) (.tmp 19) 22 rfl rfl rfl hrun5 ?_)
    clear hrun5
    refine (putCodes_any _ _ l bs w5 Hrl5.out (Hr.out.keep Hf5.out) HR.out H15.out Hpos.out (by rw [← Hn.out]; exact hl)).mono ?_
    rintro e w6 ⟨s6, rfl, ho6, hf6, hn6⟩
    have hlp := length_pack (bitsOf l bs)
    have hlb := bitsOf_le l bs H15.out
    rw [← Hn.out] at hlb
    obtain ⟨v7, w7, hrun7, ho7, hf7, hm7, -⟩ := app_bytes w6 v5 s6 _ _ (Ho5.out.frame hf6 (fun _ _ h => h)) ho6.reads (by have := Hlen5.out; omega)
    have Hres : Hid (Own w7 v7 (hput bs)) := by rw [Hput.out, ← List.append_assoc]; exact ho7
    have Hfo : Hid (Fr w w7 (fun _ => False)) := (Hf5.out.none hf6).newer hf7 Hn5.out
    have Hno : Hid (∀ k, v7.ownBlock = some k → w.heap.size ≤ k) := fun k hk => by
      rcases hm7 k hk with h1 | h1
      · exact Hn5.out k h1
      · have := Hf5.out.size; have := hf6.size; omega
    clear ho6 hf6 hn6 hlp hlb ho7 hf7 hm7
    go_wp2_with (at_builtin; refine wpList_append_run rfl (.tmp 21) (.tmp 24) 22 rfl rfl rfl hrun7 ?_)
    go_ret
    exact ⟨_, rfl, Hres.out, Hfo.out, Hno.out⟩

end Go.Proofs.Ytclfbdfgmeliaaa
