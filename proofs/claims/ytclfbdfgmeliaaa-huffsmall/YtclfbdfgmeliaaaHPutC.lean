/-
  The contract of huff's putCodes: the codes of all bytes.
-/
import Derived.Test.YtclfbdfgmeliaaaHRPut
import Derived.Test.YtclfbdfgmeliaaaTNew
namespace Go.Proofs.Ytclfbdfgmeliaaa
open Go.RowKit

theorem natsC (l : List Nat) : nats (l.map fun (n : Nat) => (n : Int)) = l := by
  unfold nats
  rw [List.map_map]
  conv => rhs; rw [← List.map_id l]
  apply List.map_congr_left
  intro n _
  simp
theorem codeBits_is (l : List Nat) (x : Nat) (h : 0 < ln l x) : codeBits l (x : Int) = putBits (codeOf l x) (ln l x) := by
  unfold codeBits hasCode
  rw [if_pos (by simp; exact h)]
  simp

set_option maxRecDepth 4000 in
set_option maxHeartbeats 1600000 in
theorem putCodes_any (u v : Value) (l bs : List Nat) (w : World) (hu : Reads .i64 w u l) (h : Reads .u8 w v bs) (hR : RightL l) (h15 : ∀ s, ln l s ≤ 15) (hb : ∀ x ∈ bs, 0 < ln l x) (hl : bs.length ≤ 1000000) :
    Calls Try.prog 25 #[u, v] w fun e w' => ∃ sv, e = .returned sv ∧ Own w' sv (pack (bitsOf l bs)) ∧ Fr w w' (fun _ => False) ∧ (∀ k, sv.ownBlock = some k → w.heap.size ≤ k) := by
  obtain ⟨a0, c0, rfl, hc0, -⟩ := id h
  rw [length_row] at h hc0 ⊢
  obtain ⟨n, hn⟩ : ∃ n, n = bs.length := ⟨_, rfl⟩
  rw [← hn] at h hl hc0 ⊢
  have Hr : Hid (Reads .u8 w (.slice a0 n c0) bs) := h
  have Hn : Hid _ := hn
  have Hb : Hid _ := hb
  have HR : Hid (rightB (l.map fun (n : Nat) => (n : Int)) = true) := (right_of_nats l).2 hR
  have H15 : Hid _ := h15
  clear h hn hb hR h15
  go_enter Try.func25, Try.ntmps25
  go_wp2_with fail
  refine (newC_yes _ _ w hu.z HR.out).mono ?_
  rintro e w1 ⟨t, F, rfl, ht, hf1, hF⟩
  have Ht1 : Hid (Tab w1 t (l.map fun (n : Nat) => (n : Int)) F) := ht
  have Hf1 : Hid (Fr w w1 (fun _ => False)) := hf1
  clear ht hf1 hF
  go_wp2_with fail
  refine (newWriter_any w1).mono ?_
  rintro e w2 ⟨rfl, hw2, hf2⟩
  obtain ⟨q, hq⟩ : ∃ q, q = w1.heap.size := ⟨_, rfl⟩
  rw [← hq] at hw2 ⊢
  have hlt2 := lt_of_block hw2.1
  have HFq : Hid (∀ k, F k → k < q) := fun k hk => by have := Ht1.out.lt k hk; omega
  have Hqw : Hid (w.heap.size ≤ q) := by have := Hf1.out.size; show _ ≤ _; omega
  have Ht2 : Hid (Tab w2 t (l.map fun (n : Nat) => (n : Int)) F) := Ht1.out.frame hf2 (fun _ _ h => h)
  have Hw2 : Hid (Wr w2 q (.slice none 0 0) []) := hw2
  have Hf2 : Hid (Fr w w2 (fun _ => False)) := Hf1.out.none hf2
  have Hq2 : Hid (q < w2.heap.size) := hlt2
  have Hbq : Hid (0 < n → ∀ k, (Value.slice a0 n c0).ownBlock = some k → k < q) := fun h0 k hk => by
    obtain ⟨b, off, e2, hb2, -⟩ := Hr.out.at Hn.out 0 h0
    rw [e2] at hk
    simp [Value.ownBlock] at hk
    have := Hqw.out
    omega
  clear hq hw2 hf2 hlt2 Ht1 Hf1
  go_wp2_with fail
  go_loopg [20] n (fun g' I wi => ∃ (i : Nat) (sv : Value), g' = n - i ∧ i ≤ n ∧ I = .int .i64 (i : Int) ∧ Wr wi q sv (bitsOf l (bs.take i)) ∧ (∀ k, sv.ownBlock = some k → w2.heap.size ≤ k) ∧ Fr w2 wi (fun k => k = q))
  case atStart => exact ⟨0, _, rfl, by omega, rfl, Hw2.out, fun k hk => by simp [Value.ownBlock] at hk, Fr.refl _ _⟩
  case round =>
    obtain ⟨i, sv, hg2, hi, rfl, hw, hsv, hf⟩ := hrel
    have Hg2 : Hid _ := hg2
    have Hw : Hid (Wr wr q sv (bitsOf l (bs.take i))) := hw
    have Hsv : Hid _ := hsv
    have Hf9 : Hid (Fr w2 wr (fun k => k = q)) := hf
    have hbl : (bitsOf l (bs.take i)).length ≤ 15000000 := by
      have := bitsOf_le l (bs.take i) H15.out
      rw [List.length_take] at this
      omega
    clear hg2 hw hsv hf
    by_cases hlt : i < n
    · have hrb : Reads .u8 wr (.slice a0 n c0) bs := (Hr.out.keep Hf2.out).frame Hf9.out (fun k hk e => by have := Hbq.out (by omega) k hk; omega)
      obtain ⟨bb, ob, rfl, hbb, cb⟩ := hrb.at Hn.out i hlt
      obtain ⟨x, hx⟩ : ∃ x, x = bs.getD i 0 := ⟨_, rfl⟩
      have hmem : x ∈ bs := by rw [hx]; exact getD_mem (by rw [← Hn.out]; exact hlt)
      have hx256 : x < 256 := by
        have h1 := Hb.out x hmem
        have h2 := ((right_of_nats l).1 HR.out).1
        unfold ln at h1
        rcases Nat.lt_or_ge x l.length with h3 | h3
        · omega
        · rw [List.getD_eq_getElem?_getD, List.getElem?_eq_none h3] at h1
          simp at h1
      have Hbits : Hid (bitsOf l (bs.take (i + 1)) = bitsOf l (bs.take i) ++ codeBits l (x : Int)) := by
        show _ = _
        rw [take_step (by rw [← Hn.out]; exact hlt), ← hx, bitsOf_append, codeBits_is l x (Hb.out x hmem)]
        simp [bitsOf]
      rw [← hx] at cb
      have hi1 : (i : Int) < (n : Int) := by omega
      clear hx hmem hrb hbb
      go_wp2_with fail
      refine (putC_any t q sv _ _ F (x : Int) wr (Ht2.out.frame Hf9.out (fun k hk e => by have := HFq.out k hk; omega)) HR.out Hw.out (by omega) (fun k hk h2 => by
        have := HFq.out k hk
        rcases h2 with h2 | h2
        · omega
        · have := Hsv.out k h2; have := Hq2.out; omega)).mono ?_
      rw [natsC, ← Hbits.out]
      rintro e w9 ⟨rfl, sv9, hw9, hf9, hm9⟩
      have Hw9 : Hid (Wr w9 q sv9 (bitsOf l (bs.take (i + 1)))) := hw9
      have Hsv9 : Hid (∀ k, sv9.ownBlock = some k → w2.heap.size ≤ k) := fun k hk => by
        rcases hm9 k hk with h1 | h1
        · exact Hsv.out k h1
        · exact Nat.le_trans Hf9.out.size h1
      have Hf10 : Hid (Fr w2 w9 (fun k => k = q)) := Hf9.out.trans hf9 (fun k hk ht => by
        rcases ht with h1 | h1
        · exact h1
        · have := Hsv.out k h1; omega)
      clear hw9 hf9 hm9
      go_wp2_with fail
      go_roundg (n - (i + 1))
      case rel => exact ⟨i + 1, sv9, rfl, by omega, by go_num, Hw9.out, Hsv9.out, Hf10.out⟩
      case measure => rw [Hg2.out]; omega
    · have hi1 : ¬ (i : Int) < (n : Int) := by omega
      have hti : bs.take i = bs := List.take_of_length_le (by rw [← Hn.out]; omega)
      rw [hti] at Hw hbl
      clear hti
      go_wp2_with fail
      refine (bytesP_any q sv _ wr Hw.out (by omega)).mono ?_
      rintro e w9 ⟨v9, rfl, hv9, -, hf9⟩
      have Hfo : Hid (Fr w w9 (fun _ => False)) := (Hf2.out.newer Hf9.out (fun k hk => by rw [hk]; exact Hqw.out)).none hf9
      have Hno : Hid (∀ k, v9.ownBlock = some k → w.heap.size ≤ k) := fun k hk => by
        obtain ⟨g, rfl, -, hg, -⟩ := hv9
        simp [Value.ownBlock] at hk
        have := Hf2.out.size
        have := Hf9.out.size
        omega
      go_wp2_with fail
      go_ret
      exact ⟨_, rfl, hv9.own, Hfo.out, Hno.out⟩

end Go.Proofs.Ytclfbdfgmeliaaa
