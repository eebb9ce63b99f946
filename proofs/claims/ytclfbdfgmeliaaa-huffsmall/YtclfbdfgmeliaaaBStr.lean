/-
  What is newer; the bytes of bits by a function; bytes as a string.
-/
import Derived.Test.YtclfbdfgmeliaaaBRead
import Derived.Test.YtclfbdfgmeliaaaStr
namespace Go.Proofs.Ytclfbdfgmeliaaa
open Go.RowKit
set_option maxRecDepth 4000

/-- All blocks of the object are newer than N. -/
def Newer (N p : Nat) (sv : Value) : Prop := ∀ k, foot p sv k → N ≤ k

theorem Newer.moved {N p : Nat} {w : World} {sv sv' : Value} (h : Newer N p sv) (hm : Moved w sv sv') (hN : N ≤ w.heap.size) : Newer N p sv' := by
  intro k hk
  rcases hk with rfl | hk
  · exact h _ (.inl rfl)
  · rcases hm k hk with h2 | h2
    · exact h k (.inr h2)
    · omega

theorem Fr.newer1 {a b c : World} {S : Nat → Prop} {p : Nat} (h : Fr a b S) (k : Fr b c (fun k => k = p)) (hn : a.heap.size ≤ p) : Fr a c S :=
  h.trans k (fun i hi ht => by subst ht; omega)
theorem left_fr (p : Nat) (sv : Value) (bs : List Nat) (i : Nat) (w : World) (h : Rd 124 w p sv bs i) :
    Calls Try.prog 84 #[.pointer (some ⟨p, 0, none⟩)] w fun e w' => e = .returned (.int .i64 ((8 * bs.length - i : Nat) : Int)) ∧ Rd 124 w' p sv bs i ∧ Fr w w' (fun _ => False) := by
  refine (left_any p sv bs i w h).mono ?_
  rintro e w' ⟨rfl, n, rfl⟩
  exact ⟨rfl, h, (Fr.refl _ _).drewN _⟩
theorem take_nofr (p : Nat) (sv : Value) (bs : List Nat) (i : Nat) (n : Int) (w : World) (h : Rd 124 w p sv bs i) (hno : 8 * bs.length - i < wide n) :
    Calls Try.prog 72 #[.pointer (some ⟨p, 0, none⟩), .int .i64 n] w fun e w' => e = .returned (.tuple #[.int .u64 0, .bool false]) ∧ Rd 124 w' p sv bs i ∧ Fr w w' (fun _ => False) := by
  refine (take_no p sv bs i n w h hno).mono ?_
  rintro e w' ⟨rfl, n, rfl⟩
  exact ⟨rfl, h, (Fr.refl _ _).drewN _⟩

def byteOf (f : Nat → Bool) : Nat → Nat
  | 0 => 0
  | k + 1 => byteOf f k ||| (f k).toNat * 2 ^ k

theorem testBit_byteOf (f : Nat → Bool) (k i : Nat) : (byteOf f k).testBit i = (decide (i < k) && f i) := by
  induction k with
  | zero => simp [byteOf]
  | succ k ih =>
    rw [byteOf, Nat.testBit_or, ih, testBit_bool]
    by_cases h1 : i = k
    · subst h1; simp
    · have : decide (i < k + 1) = decide (i < k) := decide_eq_decide.2 (by omega)
      simp [this, h1]

theorem byteOf_lt (f : Nat → Bool) (k : Nat) (hk : k ≤ 8) : byteOf f k < 256 := by
  induction k with
  | zero => simp [byteOf]
  | succ k ih => exact or_lt _ _ (ih (by omega)) (bool_lt _ _ (by omega))

def pack (l : List Bool) : List Nat := (List.range ((l.length + 7) / 8)).map fun j => byteOf (fun i => l.getD (8 * j + i) false) 8

theorem length_pack (l : List Bool) : (pack l).length = (l.length + 7) / 8 := by simp [pack]

theorem packs_pack (l : List Bool) : Packs (pack l) l := by
  have hg : ∀ j, (pack l).getD j 0 = if j < (l.length + 7) / 8 then byteOf (fun i => l.getD (8 * j + i) false) 8 else 0 := by
    intro j
    simp only [pack, List.getD_eq_getElem?_getD, List.getElem?_map]
    split
    · rename_i h; rw [List.getElem?_range h]; rfl
    · rename_i h; rw [List.getElem?_eq_none (by simp; omega)]; rfl
  refine ⟨length_pack l, fun j => ?_, fun i => ?_⟩
  · rw [hg]; split
    · exact byteOf_lt _ _ (by omega)
    · omega
  · unfold bitAt
    rw [hg]
    split
    · rw [testBit_byteOf, show 8 * (i / 8) + i % 8 = i by omega]
      have : decide (i % 8 < 8) = true := decide_eq_true (by omega)
      rw [this]; simp
    · rename_i h
      simp only [List.getD_eq_getElem?_getD]
      rw [List.getElem?_eq_none (by omega : l.length ≤ i)]; simp

theorem conv_rds {w : World} {v : Value} {bs : List Nat} (h : Rds w v bs) : (convert 22 9 v).run Try.prog w = .ok (.string (strOf bs)) w := by
  obtain ⟨ao, cap, rfl, hc⟩ := h
  by_cases h0 : 0 < bs.length
  · obtain ⟨b, off, rfl, hcell⟩ := hc h0
    refine run_convert_bytes_arg w 22 5 Try.underlying22 Try.underlying5 b off bs.length cap _ (by simp) (fun i hi => ?_) 9 Try.underlying9
    rw [hcell i _ (row_get .u8 bs i hi)]
    simp [List.getD_eq_getElem?_getD, hi]
  · have e : bs = [] := List.eq_nil_of_length_eq_zero (by omega)
    subst e
    rw [run_convert_bytes_string w 22 9 5 _ _ cap Try.underlying22 Try.underlying5 Try.underlying9]
    cases ao with
    | none => simp [Conv.bytesToString, strOf, strOfNums]; rfl
    | some a =>
      have := run_bytesToString (P := Try.prog) w a 0 cap [] (by simp [loadCells, loadCellsFrom])
      exact this

/-- A new slice of bytes, bs, that reads so, and as a string, wherever nothing that is there now has been touched. -/
def Fresh (w w' : World) (v : Value) (bs : List Nat) : Prop := ∃ g, v = .slice (some ⟨g, 0, none⟩) bs.length bs.length ∧ w'.ownsRow 0 5 1 v bs.length (row .u8 bs) ∧ w.heap.size ≤ g ∧ g < w'.heap.size

theorem Fresh.reads {w w' : World} {v : Value} {bs : List Nat} (h : Fresh w w' v bs) : Rds w' v bs := by
  obtain ⟨g, rfl, ho, _⟩ := h
  exact rds_own ho

theorem bytesP_any (p : Nat) (sv : Value) (l : List Bool) (w : World) (h : Wr w p sv l) (hn : l.length ≤ 1000000000000) :
    Calls Try.prog 41 #[.pointer (some ⟨p, 0, none⟩)] w fun e w' => ∃ v, e = .returned v ∧ Fresh w w' v (pack l) ∧ Wr w' p sv l ∧ Fr w w' (fun _ => False) := by
  refine (bytes_any p sv l w h hn).mono ?_
  rintro e w' ⟨bs, hb, rfl, ho, hf⟩
  obtain rfl := hb.eq (packs_pack l)
  exact ⟨_, rfl, ⟨_, rfl, ho, Nat.le_refl _, (ho.lt _ rfl).2⟩, h.frame hf (fun _ _ h => h), hf⟩

theorem putBits_split (v a : Nat) : ∀ n, putBits v (a + n) = putBits (v >>> a) n ++ putBits v a
  | 0 => by simp [putBits]
  | n + 1 => by
    rw [← Nat.add_assoc, putBits, putBits, putBits_split v a n, Nat.testBit_shiftRight]
    rfl

theorem Rd.drew {T : TypeId} {w : World} {p : Nat} {sv : Value} {bs : List Nat} {i : Nat} (h : Rd T w p sv bs i) : Rd T w.drew p sv bs i := h

/-- Two objects share no block. -/
def Apart (p : Nat) (sv : Value) (q : Nat) (sv' : Value) : Prop := ∀ k, foot p sv k → ¬ foot q sv' k
theorem Apart.symm {p q : Nat} {sv sv' : Value} (h : Apart p sv q sv') : Apart q sv' p sv := fun k h1 h2 => h k h2 h1
theorem Apart.moved {p q : Nat} {sv sv' sv'' : Value} {w : World} (h : Apart p sv q sv') (hm : Moved w sv' sv'') (hlt : ∀ k, foot p sv k → k < w.heap.size) : Apart p sv q sv'' := by
  intro k h1 h2
  rcases h2 with rfl | h2
  · exact h _ h1 (.inl rfl)
  · rcases hm k h2 with h3 | h3
    · exact h k h1 (.inr h3)
    · have := hlt k h1; omega
theorem Apart.newer {p q : Nat} {sv sv' : Value} {n : Nat} (hlt : ∀ k, foot p sv k → k < n) (hn : Newer n q sv') : Apart p sv q sv' := fun k h1 h2 => by
  have := hlt k h1; have := hn k h2; omega
theorem Newer.mono {m n p : Nat} {sv : Value} (h : Newer n p sv) (hm : m ≤ n) : Newer m p sv := fun k hk => Nat.le_trans hm (h k hk)

theorem Reads.rds {w : World} {v : Value} {bs : List Nat} (h : Reads .u8 w v bs) : Rds w v bs := by
  obtain ⟨ao, cap, rfl, _, hc⟩ := h
  rw [length_row] at hc ⊢
  exact ⟨ao, cap, rfl, hc⟩

end Go.Proofs.Ytclfbdfgmeliaaa
