/-
  The contract of the law's own first test, known: it returns true and touches nothing that was there.
-/
import Derived.Test.YtjojjfnbnhfdgaaFlip
namespace Go.Proofs.Ytjojjfnbnhfdgaa
open Go.RowKit

/-- All blocks of the object are newer than N. -/
def Newer (N p : Nat) (sv : Value) : Prop := ∀ k, foot p sv k → N ≤ k

theorem Newer.moved {N p : Nat} {w : World} {sv sv' : Value} (h : Newer N p sv) (hm : Moved w sv sv') (hN : N ≤ w.heap.size) : Newer N p sv' := by
  intro k hk
  rcases hk with rfl | hk
  · exact h _ (.inl rfl)
  · rcases hm k hk with h2 | h2
    · exact h k (.inr h2)
    · omega

/-- Behind a step that touches what is newer alone. -/
theorem Fr.newer {a b c : World} {S : Nat → Prop} {p : Nat} {sv : Value} (h : Fr a b S) (k : Fr b c (foot p sv)) (hn : Newer a.heap.size p sv) : Fr a c S :=
  h.trans k (fun i hi ht => by have := hn i ht; omega)
theorem Fr.newer1 {a b c : World} {S : Nat → Prop} {p : Nat} (h : Fr a b S) (k : Fr b c (fun k => k = p)) (hn : a.heap.size ≤ p) : Fr a c S :=
  h.trans k (fun i hi ht => by subst ht; omega)
theorem Fr.none {a b c : World} {S : Nat → Prop} (h : Fr a b S) (k : Fr b c (fun _ => False)) : Fr a c S :=
  h.trans k (fun _ _ ht => ht.elim)

theorem left_fr (p : Nat) (sv : Value) (bs : List Nat) (i : Nat) (w : World) (h : Rd 60 w p sv bs i) :
    Calls Try.prog 19 #[.pointer (some ⟨p, 0, none⟩)] w fun e w' => e = .returned (.int .i64 ((8 * bs.length - i : Nat) : Int)) ∧ Rd 60 w' p sv bs i ∧ Fr w w' (fun _ => False) := by
  refine (left_any p sv bs i w h).mono ?_
  rintro e w' ⟨rfl, n, rfl⟩
  exact ⟨rfl, h, (Fr.refl _ _).drewN _⟩
theorem take_nofr (p : Nat) (sv : Value) (bs : List Nat) (i : Nat) (n : Int) (w : World) (h : Rd 60 w p sv bs i) (hno : 8 * bs.length - i < wide n) :
    Calls Try.prog 17 #[.pointer (some ⟨p, 0, none⟩), .int .i64 n] w fun e w' => e = .returned (.tuple #[.int .u64 0, .bool false]) ∧ Rd 60 w' p sv bs i ∧ Fr w w' (fun _ => False) := by
  refine (take_no p sv bs i n w h hno).mono ?_
  rintro e w' ⟨rfl, n, rfl⟩
  exact ⟨rfl, h, (Fr.refl _ _).drewN _⟩

theorem flips_known : flips [0, 0] 7 3 32 = [128, 1] := by decide +kernel

set_option maxHeartbeats 1600000 in
theorem known_any (w : World) : Calls Try.prog 9 #[] w fun e w' => e = .returned (.bool true) ∧ Fr w w' (fun _ => False) := by
  go_enter Try.func9, Try.ntmps9
  go_wp2_with fail
  refine (newWriter_any w).mono ?_
  rintro e w1 ⟨rfl, hw1, hf1⟩
  obtain ⟨p, hp⟩ : ∃ p, p = w.heap.size := ⟨_, rfl⟩
  rw [← hp] at hw1 ⊢
  have Hp : Hid _ := hp
  have hn1 : Newer w.heap.size p (.slice none 0 0) := by
    intro k hk
    rcases hk with rfl | hk
    · omega
    · simp [Value.ownBlock] at hk
  clear hp
  go_wp2_with fail
  refine (put_any p _ [] 1 2 w1 hw1 (by simp) (by omega)).mono ?_
  rintro e w2 ⟨rfl, sv2, hw2, hf2, hm2⟩
  have hn2 := hn1.moved hm2 hf1.size
  replace hf2 := hf1.newer hf2 hn1
  clear hw1 hf1 hm2 hn1
  go_wp2_with fail
  refine (put_any p _ _ 5 3 w2 hw2 (by rw [List.length_append, length_putBits]; decide) (by omega)).mono ?_
  rintro e w3 ⟨rfl, sv3, hw3, hf3, hm3⟩
  have hn3 := hn2.moved hm3 hf2.size
  replace hf3 := hf2.newer hf3 hn2
  clear hw2 hf2 hm3 hn2
  have el : [] ++ putBits 1 (wide 2) ++ putBits 5 (wide 3) = [false, true, true, false, true] := by decide +kernel
  rw [el] at hw3
  clear el
  go_wp2_with fail
  refine (bytes_any p _ _ w3 hw3 (by decide)).mono ?_
  rintro e w4 ⟨bs, hb, rfl, ho4, hf4⟩
  have hbl : bs.length = 1 := hb.len
  have hu := hb.unpack
  rw [hbl] at hu
  replace hw3 := hw3.frame hf4 (fun _ _ h => h)
  have hw4 := hw3
  replace hf4 := hf3.none hf4
  clear hf3
  have Hbl : Hid _ := hbl
  have Hu : Hid _ := hu
  have Hb : Hid _ := hb
  clear hbl hu hb
  go_wp2_with fail
  refine (newReader_any _ bs w4 (reads_own ho4) (by rw [Hbl.out]; decide) Hb.out.small).mono ?_
  rintro e w5 ⟨q, sv5, rfl, hr5, hf5, hn5⟩
  replace hw3 := hw3.frame hf5 (fun _ _ h => h)
  have hn5' : ∀ k, foot p sv3 k → ¬ foot q sv5 k := fun k h1 h2 => by have := hn5 k h2; have := hw4.lt k h1; omega
  have hqn : w.heap.size ≤ q := by have := hn5 q (.inl rfl); have := hf4.size; omega
  replace hf5 := hf4.none hf5
  clear ho4 hf4 hn5 hw4
  go_wp2_with fail
  refine (take_yes q sv5 bs 0 5 w5 hr5 (by rw [Hbl.out]; decide)).mono ?_
  rintro e w6 ⟨rfl, hr6, hf6⟩
  replace hw3 := hw3.frame hf6 (fun k h1 h2 => hn5' k h1 (.inl h2))
  replace hf6 := hf5.newer1 hf6 hqn
  clear hr5 hf5
  rw [Hu.out]
  have e13 : num (List.take (wide 5) (List.drop 0 ([false, true, true, false, true] ++ List.replicate (8 * 1 - [false, true, true, false, true].length) false))) = 13 := by decide +kernel
  rw [e13]
  clear e13
  go_wp2_with fail
  refine (left_fr q sv5 bs _ w6 hr6).mono ?_
  rintro e w7 ⟨rfl, hr7, hf7⟩
  replace hw3 := hw3.frame hf7 (fun _ _ h => h)
  replace hf7 := hf6.none hf7
  have e3 : (8 * bs.length - (0 + wide 5)) = 3 := by rw [Hbl.out]; decide
  rw [e3]
  clear e3 hf6 hr6
  go_wp2_with fail
  refine (take_nofr q sv5 bs _ 4 _ hr7 (by rw [Hbl.out]; decide)).mono ?_
  rintro e w8 ⟨rfl, hr8, hf8⟩
  replace hw3 := hw3.frame hf8 (fun _ _ h => h)
  replace hf8 := hf7.none hf8
  clear hr7 hf7
  go_wp2_with fail
  have hrd : Reads (w8.alloc (.cells #[.int .u8 0, .int .u8 0] 5)) (.slice (some ⟨w8.heap.size, 0, none⟩) 2 2) [0, 0] :=
    reads_own (bs := [0, 0]) (World.ownsRow_lit w8 #[.int .u8 0, .int .u8 0] 2 (Nat.zero_le _) (by unfold maxLen; decide) (by decide))
  refine (flip_any _ [0, 0] 7 3 _ hrd (by decide) (by intro j; match j with | 0 => decide | 1 => decide | j + 2 => simp) (by decide) (by decide) (by decide)).mono ?_
  rw [flips_known]
  rintro e w9 ⟨rfl, ho9, hf9⟩
  replace hw3 := hw3.frame (((Fr.refl w8 (fun _ => False)).alloc _).none hf9) (fun _ _ h => h)
  replace hf9 := (hf8.alloc _).none hf9
  generalize (w8.alloc (.cells #[.int .u8 0, .int .u8 0] 5)).heap.size = g at *
  have g0 : w9.cell? ⟨g, 0, none⟩ = some (.int .u8 128) := ho9.cellAt 0 (by decide)
  have g1 : w9.cell? ⟨g, 1, none⟩ = some (.int .u8 1) := ho9.cellAt 1 (by decide)
  clear hrd ho9 hf8 hr8
  go_wp2_with fail
  refine (len_any p _ _ w9 hw3).mono ?_
  rintro e w10 ⟨rfl, rfl⟩
  go_wp2
  go_ret
  exact ⟨rfl, hf9⟩
end Go.Proofs.Ytjojjfnbnhfdgaa
