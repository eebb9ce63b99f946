/-
  The contract of the method Put of bits.Writer; at most 10^11 bits held before.
-/
import Derived.Test.YtclfbdfgmeliaaaBAdd
import Derived.Test.YtclfbdfgmeliaaaBMath
namespace Go.Proofs.Ytclfbdfgmeliaaa
open Go.RowKit
set_option maxRecDepth 4000

/-- A writer in block p that holds the bits l; sv is its slice of bytes. -/
def Wr (w : World) (p : Nat) (sv : Value) (l : List Bool) : Prop :=
  w.heap[p]? = some (.cells #[sv, .int .i64 (l.length : Int)] 110 (0, 0)) ∧ ∃ bs, Packs bs l ∧ w.ownsRow 0 5 1 sv bs.length (row .u8 bs)
/-- The blocks of an object: its own and its slice's. -/
def foot (p : Nat) (sv : Value) (k : Nat) : Prop := k = p ∨ sv.ownBlock = some k
theorem own_elem {w : World} {base : Nat} {e e' : TypeId} {size : Nat} {v : Value} {n : Nat} {xs : List Value} {k : Nat} {cs : Array Value} (h : w.ownsRow base e size v n xs) (hk : v.ownBlock = some k)
    (hb : w.heap[k]? = some (.cells cs e' (0, 0))) : e = e' := by
  rcases h.2 with ⟨rfl, _⟩ | ⟨g, cap, cur, rfl, _, hg, _⟩
  · simp [Value.ownBlock] at hk
  · simp [Value.ownBlock] at hk
    subst hk
    rw [hg] at hb
    simp at hb
    exact hb.2

theorem Wr.apart {w : World} {p : Nat} {sv : Value} {l : List Bool} (h : Wr w p sv l) : sv.ownBlock ≠ some p := by
  obtain ⟨hp, bs, _, ho⟩ := h
  intro e
  exact absurd (own_elem ho e hp) (by decide)

theorem Wr.drew {w : World} {p : Nat} {sv : Value} {l : List Bool} (h : Wr w p sv l) : Wr w.drew p sv l := h

theorem Wr.frame {w w' : World} {p : Nat} {sv : Value} {l : List Bool} {S : Nat → Prop} (h : Wr w p sv l) (f : Fr w w' S) (hs : ∀ k, foot p sv k → ¬ S k) : Wr w' p sv l := by
  obtain ⟨hp, bs, hb, ho⟩ := h
  exact ⟨f.kept hp (hs p (.inl rfl)), bs, hb, f.owns ho (fun k hk => hs k (.inr hk))⟩

theorem Wr.lt {w : World} {p : Nat} {sv : Value} {l : List Bool} (h : Wr w p sv l) : ∀ k, foot p sv k → k < w.heap.size := by
  obtain ⟨hp, bs, _, ho⟩ := h
  intro k hk
  rcases hk with rfl | hk
  · exact lt_of_block hp
  · exact (ho.lt k hk).2

theorem Fr.foot_trans {a b c : World} {p : Nat} {sv sv' : Value} (h : Fr a b (foot p sv)) (k : Fr b c (foot p sv')) (hm : Moved a sv sv') : Fr a c (foot p sv) :=
  h.trans k (fun i hi ht => by
    rcases ht with rfl | ht
    · exact .inl rfl
    · rcases hm i ht with h2 | h2
      · exact .inr h2
      · omega)

theorem add_any (p : Nat) (sv : Value) (l : List Bool) (b : Bool) (x : Int) (w : World) (hx : x = (b.toNat : Int)) (h : Wr w p sv l) (hn : l.length ≤ 1000000000000) :
    Calls Try.prog 71 #[.pointer (some ⟨p, 0, none⟩), .int .u8 x] w fun e w' => e = .returned (.tuple #[]) ∧
      ∃ sv', Wr w' p sv' (l ++ [b]) ∧ Fr w w' (foot p sv) ∧ Moved w sv sv' := by
  subst hx
  have hap := h.apart
  obtain ⟨hp, bs, hb, ho⟩ := h
  have hl := hb.len
  by_cases hm : l.length % 8 = 0
  · refine (add_new p bs.length l.length b.toNat sv (row .u8 bs) w hp ho hap (show _ = _ by omega) (by omega) (by simp; omega)).mono ?_
    rintro e w' ⟨rfl, g, cap, w1, hg, ho1, hat, rfl⟩
    have hpg : p ≠ g := by
      rcases hat with h | h
      · intro e; subst e; exact hap h
      · have := lt_of_block hp; omega
    have hpl := lt_of_block hp
    have hp1 : w1.heap[p]? = some (.cells #[sv, .int .i64 (l.length : Int)] 110 (0, 0)) := by
      rw [hg.block p (by simp; omega) (fun e => hap e.symm)]; exact blk_alloc _ hp
    have e2 : (bits .or .u8 (0 : Int) ((b.toNat : Int) * 2 ^ (l.length % 8) % 256)) = ((0 ||| b.toNat * 2 ^ (l.length % 8) : Nat) : Int) := or_val 0 b.toNat l.length (by omega) (by cases b <;> simp)
    have ho2 := ownsRow_setCell_other ho1 (a := ⟨p, 0, none⟩) (u := .slice (some ⟨g, 0, none⟩) (bs.length + 1) cap) (by simp [Value.ownBlock]; omega)
    obtain ⟨ho3, hg3⟩ := ho2.stored bs.length (.int .u8 ((0 ||| b.toNat * 2 ^ (l.length % 8) : Nat) : Int))
    have ho4 := ownsRow_setCell_other ho3 (a := ⟨p, 1, none⟩) (u := .int .i64 ((l.length : Int) + 1)) (by simp [Value.ownBlock]; omega)
    rw [e2]
    refine ⟨rfl, .slice (some ⟨g, 0, none⟩) (bs.length + 1) cap, Wr.drew ⟨?_, _, hb.addNew hm b, ?_⟩, ?_, ?_⟩
    · have := two_set1 (u := .int .i64 ((l.length : Int) + 1)) (blk_set_other (a := ⟨g, bs.length, none⟩) (u := .int .u8 ((0 ||| b.toNat * 2 ^ (l.length % 8) : Nat) : Int)) (two_set0 (u := .slice (some ⟨g, 0, none⟩) (bs.length + 1) cap) hp1) hpg)
      simpa using this
    · have e3 : (row .u8 bs ++ [Value.int .u8 0]).set bs.length (.int .u8 ((0 ||| b.toNat * 2 ^ (l.length % 8) : Nat) : Int)) = row .u8 (bs ++ [0 ||| b.toNat * 2 ^ (l.length % 8)]) := by
        rw [row_append, List.set_append_right _ _ (by rw [length_row]; omega)]
        simp [row]
      rw [e3] at ho4
      simpa using ho4
    · refine Fr.drew (Fr.setCell (Fr.setCell (Fr.setCell (Fr.grown ((Fr.refl w _).alloc _) hg ?_) _ ?_ _) _ ?_ _) _ ?_ _)
      · intro k hk _; exact .inr hk
      · intro _; exact .inl rfl
      · intro hlt
        rcases hat with h | h
        · exact .inr h
        · simp at hlt; omega
      · intro _; exact .inl rfl
    · intro k hk
      simp [Value.ownBlock] at hk
      subst hk
      rcases hat with h | h
      · exact .inl h
      · exact .inr (by omega)
  · have hlt : l.length / 8 < bs.length := by omega
    obtain ⟨g, cap, rfl, cur, hgg⟩ := own_form ho (by omega)
    have hpg : p ≠ g := by intro e; subst e; exact hap rfl
    refine (add_in p g cap bs.length l.length (l.length / 8) (bs.getD (l.length / 8) 0) b.toNat w hp (by rw [ho.cellAt _ (by omega)]; exact row_get .u8 _ _ hlt) (ho.frozenAt _) hpg (show _ = _ from rfl) hlt (by omega) (by simp; omega)).mono ?_
    rintro e w' ⟨rfl, rfl⟩
    have e2 := or_val (bs.getD (l.length / 8) 0) b.toNat l.length (hb.small _) (by cases b <;> simp)
    rw [e2]
    obtain ⟨ho3, hg3⟩ := ho.stored (l.length / 8) (.int .u8 ((bs.getD (l.length / 8) 0 ||| b.toNat * 2 ^ (l.length % 8) : Nat) : Int))
    have ho4 := ownsRow_setCell_other ho3 (a := ⟨p, 1, none⟩) (u := .int .i64 ((l.length : Int) + 1)) (by simp [Value.ownBlock]; omega)
    refine ⟨rfl, _, Wr.drew ⟨?_, _, hb.addIn hm b, ?_⟩, ?_, Moved.refl _ _⟩
    · have := two_set1 (u := .int .i64 ((l.length : Int) + 1)) (blk_set_other (a := ⟨g, l.length / 8, none⟩) (u := .int .u8 ((bs.getD (l.length / 8) 0 ||| b.toNat * 2 ^ (l.length % 8) : Nat) : Int)) hp hpg)
      simpa using this
    · rw [row_set]
      simpa using ho4
    · exact Fr.drew (Fr.setCell (Fr.setCell (Fr.refl w _) _ (fun _ => .inr rfl) _) _ (fun _ => .inl rfl) _)

theorem bit_val (v k : Nat) (hv : v < 18446744073709551616) : bits .and .u64 ((v : Int) / 2 ^ k) 1 % 256 = ((v.testBit k).toNat : Int) := by
  have e : (v : Int) / 2 ^ k = ((v / 2 ^ k : Nat) : Int) := by simp
  have hlt : v / 2 ^ k < 18446744073709551616 := Nat.lt_of_le_of_lt (Nat.div_le_self _ _) hv
  rw [e, show (1 : Int) = ((1 : Nat) : Int) from rfl, u64_and_nat _ _ hlt (by omega), nat_mask1, Nat.testBit_eq_decide_div_mod_eq]
  have h2 : v / 2 ^ k % 2 = 0 ∨ v / 2 ^ k % 2 = 1 := by omega
  rcases h2 with h2 | h2 <;> simp [h2]

set_option maxHeartbeats 800000 in
theorem put_any (p : Nat) (sv : Value) (l : List Bool) (v : Nat) (n : Int) (w : World) (h : Wr w p sv l) (hn : l.length ≤ 100000000000) (hv : v < 18446744073709551616) :
    Calls Try.prog 59 #[.pointer (some ⟨p, 0, none⟩), .int .u64 (v : Int), .int .i64 n] w fun e w' => e = .returned (.tuple #[]) ∧
      ∃ sv', Wr w' p sv' (l ++ putBits v (wide n)) ∧ Fr w w' (foot p sv) ∧ Moved w sv sv' := by
  have hwd := wide_le n
  obtain ⟨m, hm⟩ : ∃ m, m = wide n := ⟨_, rfl⟩
  rw [← hm] at hwd ⊢
  have Hm : Hid (min (max n 0) 64 = (m : Int)) := by rw [hm]; exact (wide_cast n).symm
  clear hm
  go_enter Try.func59, Try.ntmps59
  go_wp2_with fail
  refine (width_any n _).mono ?_
  rintro e w' ⟨rfl, rfl⟩
  rw [Hm.out]
  go_wp2_with fail
  go_loopw [6] (fun left wr => ∃ k : Nat, k ≤ m ∧ left = .int .u64 (k : Int) ∧ ∃ sv' l', Wr wr p sv' l' ∧ l' ++ putBits v k = l ++ putBits v m ∧ Fr w wr (foot p sv) ∧ Moved w sv sv')
    (fun left _ => (intOf left).toNat)
  case atStart => exact ⟨m, Nat.le_refl _, rfl, sv, l, h, rfl, Fr.refl _ _, Moved.refl _ _⟩
  case round =>
    obtain ⟨k, hk, rfl, sv', l', hw, he, hf, hmv⟩ := hrel
    have hll : l'.length + k = l.length + m := by have := congrArg List.length he; simpa [length_putBits] using this
    have He : Hid _ := he
    clear he
    by_cases hk0 : 0 < k
    · obtain ⟨k', rfl⟩ : ∃ k', k = k' + 1 := ⟨k - 1, by omega⟩
      go_wp2_with fail
      refine (add_any p sv' l' (v.testBit k') _ wr (bit_val v k' hv) hw (by omega)).mono ?_
      rintro e w1 ⟨rfl, sv1, hw1, hf1, hm1⟩
      go_wp2
      go_roundw
      case rel => exact ⟨k', by omega, by go_num, sv1, _, hw1, by rw [← He.out]; simp [putBits], hf.foot_trans hf1 hmv, hmv.trans hm1 hf.size⟩
      case measure => simp [intOf]
    · obtain rfl : k = 0 := by omega
      go_wp2
      go_end0
      refine ⟨rfl, sv', ?_, hf, hmv⟩
      rw [← He.out]; simpa [putBits] using hw

end Go.Proofs.Ytclfbdfgmeliaaa
