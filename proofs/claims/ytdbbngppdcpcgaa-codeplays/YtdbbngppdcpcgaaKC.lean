/-
  What the statements ask of code's functions, as one condition; and the laws' own first test under it.
-/
import Derived.Test.YtdbbngppdcpcgaaRPutC
import Derived.Test.YtdbbngppdcpcgaaRTakeC
import Derived.Test.YtdbbngppdcpcgaaBRefBytes
namespace Go.Proofs.Ytdbbngppdcpcgaa
open Go.RowKit

structure KC where
  /-- A table of lengths at a place, in some blocks. -/
  tb : World → Nat → List Int → (Nat → Prop) → Prop
  lt : ∀ {w p zs F}, tb w p zs F → ∀ k, F k → k < w.heap.size
  frame : ∀ {w w' p zs F S}, tb w p zs F → Fr w w' S → (∀ k, F k → ¬ S k) → tb w' p zs F
  right : ∀ (v : Value) (zs : List Int) (w : World), ReadsZ w v zs → zs.length ≤ 1000 → Calls Try.prog 11 #[v] w fun e w' => e = .returned (.bool (rightB zs)) ∧ Fr w w' (fun _ => False)
  codes : ∀ (v : Value) (zs : List Int) (w : World), ReadsZ w v zs → zs.length ≤ 1000 → Calls Try.prog 14 #[v] w fun e w' => ∃ sv, e = .returned sv ∧ Reads .i64 w' sv (codesZ zs) ∧ Fr w w' (fun _ => False)
  newY : ∀ (v : Value) (zs : List Int) (w : World), ReadsZ w v zs → zs.length ≤ 1000 → rightB zs = true → Calls Try.prog 10 #[v] w fun e w' => ∃ p F, e = .returned (.tuple #[.pointer (some ⟨p, 0, none⟩), .bool true]) ∧ tb w' p zs F ∧ Fr w w' (fun _ => False) ∧ (∀ k, F k → w.heap.size ≤ k)
  newN : ∀ (v : Value) (zs : List Int) (w : World), ReadsZ w v zs → zs.length ≤ 1000 → rightB zs = false → Calls Try.prog 10 #[v] w fun e w' => e = .returned (.tuple #[.pointer none, .bool false]) ∧ Fr w w' (fun _ => False)
  put : ∀ (p q : Nat) (sv : Value) (bl : List Bool) (zs : List Int) (F : Nat → Prop) (s : Int) (w : World), tb w p zs F → rightB zs = true → Wr w q sv bl → bl.length ≤ 100000000 → (∀ k, F k → ¬ foot q sv k) → -9223372036854775808 ≤ s → s ≤ 9223372036854775807 →
    Calls Try.prog 18 #[.pointer (some ⟨p, 0, none⟩), .pointer (some ⟨q, 0, none⟩), .int .i64 s] w fun e w' => e = .returned (.bool (hasCode (nats zs) s)) ∧
      ∃ sv', Wr w' q sv' (bl ++ codeBits (nats zs) s) ∧ Fr w w' (foot q sv) ∧ Moved w sv sv'
  take : ∀ (p q : Nat) (sv : Value) (bs : List Nat) (i : Nat) (zs : List Int) (F : Nat → Prop) (w : World), tb w p zs F → rightB zs = true → Rd 76 w q sv bs i → (∀ k, F k → ¬ foot q sv k) →
    Calls Try.prog 24 #[.pointer (some ⟨p, 0, none⟩), .pointer (some ⟨q, 0, none⟩)] w fun e w' => e = .returned (.tuple #[.int .i64 (tkS (nats zs) ((unpack bs).drop i) : Nat), .bool (tkB (nats zs) ((unpack bs).drop i))]) ∧
      Rd 76 w' q sv bs (i + tkN (nats zs) ((unpack bs).drop i)) ∧ Fr w w' (fun k => k = q)

/-- Ints that are written out. -/
theorem klit (w : World) (zs : List Int) (C : Array Value) (n : Nat) (hC : C = (zrow zs).toArray) (hn : n = zs.length) (h : zs.length ≤ 1000) : ReadsZ (w.alloc (.cells C 3)) (.slice (some ⟨w.heap.size, 0, none⟩) n n) zs := by
  subst hC hn
  have := holds_lit w 3 (zrow zs) (by rw [zrow_length]; exact h)
  rwa [zrow_length] at this

theorem k122 : rightB [1, 2, 2] = true := by decide
theorem k1 : rightB [1] = true := by decide
theorem k111 : rightB [1, 1, 1] = false := by decide
theorem k01 : rightB [0, 1] = true := by decide
theorem k2 : rightB [2] = false := by decide
theorem kcodes : codesZ [1, 2, 2] = [0, 2, 3] := by decide +kernel
theorem khas2 : hasCode (nats [1, 2, 2]) 2 = true := by decide
theorem khas3 : hasCode (nats [1, 2, 2]) 3 = false := by decide
theorem kbits2 : codeBits (nats [1, 2, 2]) 2 = [true, true] := by decide +kernel
theorem kbits3 : codeBits (nats [1, 2, 2]) 3 = [] := by decide +kernel
theorem ktake : takeSym (nats [1, 2, 2]) ((unpack (pack ([] ++ [true, true] ++ []))).drop 0) = some (2, 2) := by decide +kernel

set_option maxHeartbeats 1600000 in
theorem known_any (M : KC) (w : World) : Calls Try.prog 8 #[] w fun e w' => e = .returned (.bool true) ∧ Fr w w' (fun _ => False) := by
  go_enter Try.func8, Try.ntmps8
  go_wp2_with fail
  refine (M.newY _ [1, 2, 2] _ (klit w _ _ _ rfl rfl (by decide)) (by decide) k122).mono ?_
  rintro e w1 ⟨t, F, rfl, ht1, hf1, hF⟩
  replace hf1 := ((Fr.refl w (fun _ => False)).alloc _).none hf1
  have HF : Hid (∀ k, F k → w.heap.size ≤ k) := fun k hk => by have := hF k hk; simp at this; omega
  clear hF
  go_wp2_with fail
  refine (M.newY _ [1] _ (klit w1 _ _ _ rfl rfl (by decide)) (by decide) k1).mono ?_
  rintro e w2 ⟨t', F', rfl, -, hf2, -⟩
  replace hf2 := ((Fr.refl w1 (fun _ => False)).alloc _).none hf2
  have ht2 := M.frame ht1 hf2 (fun _ _ h => h)
  replace hf2 := hf1.none hf2
  clear ht1 hf1
  go_wp2_with fail
  refine (M.newN _ [1, 1, 1] _ (klit w2 _ _ _ rfl rfl (by decide)) (by decide) k111).mono ?_
  rintro e w3 ⟨rfl, hf3⟩
  replace hf3 := ((Fr.refl w2 (fun _ => False)).alloc _).none hf3
  have ht3 := M.frame ht2 hf3 (fun _ _ h => h)
  replace hf3 := hf2.none hf3
  clear ht2 hf2
  go_wp2_with fail
  refine (newWriter_any w3).mono ?_
  rintro e w4 ⟨rfl, hw4, hf4⟩
  have ht4 := M.frame ht3 hf4 (fun _ _ h => h)
  have hlt := M.lt ht3
  obtain ⟨q, hq⟩ : ∃ q, q = w3.heap.size := ⟨_, rfl⟩
  rw [← hq] at hw4 ⊢
  have hap : ∀ k, F k → ¬ foot q (.slice none 0 0) k := fun k hk h => by
    have := hlt k hk
    rcases h with rfl | h
    · omega
    · simp [Value.ownBlock] at h
  have hn4 : Newer w.heap.size q (.slice none 0 0) := by
    intro k hk
    have := hf3.size
    rcases hk with rfl | hk
    · omega
    · simp [Value.ownBlock] at hk
  replace hf4 := hf3.none hf4
  clear ht3 hf3 hq hlt
  go_wp2_with fail
  refine (M.put t q _ [] [1, 2, 2] F 2 w4 ht4 k122 hw4 (by simp) hap (by decide) (by decide)).mono ?_
  rw [khas2, kbits2]
  rintro e w5 ⟨rfl, sv5, hw5, hf5, hm5⟩
  have ht5 := M.frame ht4 hf5 hap
  have hap5 : ∀ k, F k → ¬ foot q sv5 k := fun k hk h => by
    rcases h with h | h
    · exact hap k hk (.inl h)
    · rcases hm5 k h with h2 | h2
      · exact hap k hk (.inr h2)
      · have := M.lt ht4 k hk; omega
  have hn5 := hn4.moved hm5 hf4.size
  replace hf5 := hf4.newer hf5 hn4
  clear ht4 hw4 hf4 hn4 hap hm5
  go_wp2_with fail
  refine (M.put t q _ _ [1, 2, 2] F 3 w5 ht5 k122 hw5 (by simp) hap5 (by decide) (by decide)).mono ?_
  rw [khas3, kbits3]
  rintro e w6 ⟨rfl, sv6, hw6, hf6, hm6⟩
  have ht6 := M.frame ht5 hf6 hap5
  have hn6 := hn5.moved hm6 hf5.size
  replace hf6 := hf5.newer hf6 hn5
  clear ht5 hw5 hf5 hn5 hap5 hm6
  go_wp2_with fail
  refine (bytesP_any q _ _ w6 hw6 (by simp)).mono ?_
  rintro e w7 ⟨v7, rfl, hv7, hw7, hf7⟩
  have ht7 := M.frame ht6 hf7 (fun _ _ h => h)
  replace hf7 := hf6.none hf7
  clear ht6 hw6 hf6
  have hl1 : (pack ([] ++ [true, true] ++ [])).length = 1 := by decide
  obtain ⟨av, lv_, cv, hv7e⟩ : ∃ a l c, v7 = .slice a l c := by obtain ⟨g, e, -⟩ := hv7; exact ⟨_, _, _, e⟩
  subst hv7e
  go_wp2_with fail
  refine (newReader_any _ _ w7 hv7.reads (by rw [hl1]; omega) (packs_pack _).small).mono ?_
  rintro e w8 ⟨r, sv8, rfl, hr8, hf8, hn8⟩
  have hlt7 := M.lt ht7
  have hap8 : ∀ k, F k → ¬ foot r sv8 k := fun k hk h => by have := hn8 k h; have := hlt7 k hk; omega
  have hqr : ∀ k, foot q sv6 k → k ≠ r := fun k h1 h2 => by have := hn8 r (.inl rfl); have := hw7.lt k h1; omega
  have hrn : w.heap.size ≤ r := by have := hn8 r (.inl rfl); have := hf7.size; omega
  have ht8 := M.frame ht7 hf8 (fun _ _ h => h)
  replace hw7 := hw7.frame hf8 (fun _ _ h => h)
  replace hf8 := hf7.none hf8
  clear ht7 hf7 hn8 hv7 hlt7 hl1
  go_wp2_with fail
  refine (M.take t r sv8 _ 0 [1, 2, 2] F w8 ht8 k122 hr8 hap8).mono ?_
  have e1 : tkS (nats [1, 2, 2]) ((unpack (pack ([] ++ [true, true] ++ []))).drop 0) = 2 := by unfold tkS; rw [ktake]; rfl
  have e2 : tkB (nats [1, 2, 2]) ((unpack (pack ([] ++ [true, true] ++ []))).drop 0) = true := by unfold tkB; rw [ktake]; rfl
  rw [e1, e2]
  rintro e w9 ⟨rfl, -, hf9⟩
  replace hw7 := hw7.frame hf9 (fun k h1 h2 => hqr k h1 h2)
  replace hf9 := hf8.newer1 hf9 hrn
  clear ht8 hf8 hr8 hap8 hqr e1 e2
  go_wp2_with fail
  refine (len_any q sv6 _ w9 hw7).mono ?_
  rintro e w10 ⟨rfl, rfl⟩
  go_wp2_with fail
  refine (M.codes _ [1, 2, 2] _ (klit w10 _ _ _ rfl rfl (by decide)) (by decide)).mono ?_
  rw [kcodes]
  rintro e w11 ⟨sc, rfl, hrc, hf11⟩
  replace hf11 := hf9.none (((Fr.refl w10 (fun _ => False)).alloc _).none hf11)
  obtain ⟨a11, l11, c11, rfl⟩ := hrc.form
  clear hf9
  go_wp2_with fail
  refine (ints_any _ _ _ [0, 2, 3] _ (hrc.keep ((Fr.refl w11 _).alloc _)).z (klit w11 _ _ _ rfl rfl (by decide)) (by decide)).mono ?_
  rw [show decide (([0, 2, 3] : List Nat).map (fun (b : Nat) => (b : Int)) = [0, 2, 3]) = true by decide]
  rintro e w12 ⟨rfl, hf12⟩
  replace hf12 := hf11.none (((Fr.refl w11 (fun _ => False)).alloc _).none hf12)
  clear hf11 hrc
  go_wp2_with fail
  refine (M.right _ [0, 1] _ (klit w12 _ _ _ rfl rfl (by decide)) (by decide)).mono ?_
  rw [k01]
  rintro e w13 ⟨rfl, hf13⟩
  replace hf13 := hf12.none (((Fr.refl w12 (fun _ => False)).alloc _).none hf13)
  clear hf12
  go_wp2_with fail
  refine (M.right _ [2] _ (klit w13 _ _ _ rfl rfl (by decide)) (by decide)).mono ?_
  rw [k2]
  rintro e w14 ⟨rfl, hf14⟩
  replace hf14 := hf13.none (((Fr.refl w13 (fun _ => False)).alloc _).none hf14)
  clear hf13
  go_wp2
  go_ret
  exact ⟨rfl, hf14⟩

end Go.Proofs.Ytdbbngppdcpcgaa
