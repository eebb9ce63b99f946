/-
  The contracts of bits.place, bits.width and of the method add of bits.Writer; counts at most 10^12.
-/
import Derived.Test.YtclfbdfgmeliaaaBytes
import Derived.Deep.AppendLies
import Derived.StillTailTactics
namespace Go.Proofs.Ytclfbdfgmeliaaa
open Go.RowKit
set_option maxRecDepth 4000

set_option maxHeartbeats 400000 in
theorem place_any (n : Int) (w : World) (h0 : 0 ≤ n) (h1 : n ≤ 9223372036854775807) :
    Calls Try.prog 83 #[.int .i64 n] w fun e w' => e = .returned (.int .u64 (n % 8)) ∧ w' = w := by
  go_enter Try.func83, Try.ntmps83
  go_wp2
  go_ret
  exact ⟨rfl, rfl⟩

set_option maxHeartbeats 400000 in
theorem width_any (n : Int) (w : World)  :
    Calls Try.prog 70 #[.int .i64 n] w fun e w' => e = .returned (.int .u64 (min (max n 0) 64)) ∧ w = w' := by
  by_cases h1 : n < 0
  · have e : min (max n 0) 64 = 0 := by omega
    rw [e]
    go_enter Try.func70, Try.ntmps70
    go_wp2
    go_ret
    exact ⟨rfl, rfl⟩
  · by_cases h2 : 64 < n
    · have e : min (max n 0) 64 = 64 := by omega
      rw [e]
      go_enter Try.func70, Try.ntmps70
      go_wp2
      go_ret
      exact ⟨rfl, rfl⟩
    · have e : min (max n 0) 64 = n := by omega
      rw [e]
      go_enter Try.func70, Try.ntmps70
      go_wp2
      go_ret
      exact ⟨rfl, rfl⟩

theorem or_val (x bit n : Nat) (hx : x < 256) (hb : bit ≤ 1) : bits .or .u8 (x : Int) ((bit : Int) * 2 ^ (n % 8) % 256) = ((x ||| bit * 2 ^ (n % 8) : Nat) : Int) := by
  have h2 : 2 ^ (n % 8) ≤ 2 ^ 7 := Nat.pow_le_pow_right (by omega) (by omega)
  have h3 : bit * 2 ^ (n % 8) ≤ 1 * 2 ^ 7 := Nat.mul_le_mul hb h2
  have e : (bit : Int) * 2 ^ (n % 8) % 256 = ((bit * 2 ^ (n % 8) : Nat) : Int) := by
    have : (bit : Int) * 2 ^ (n % 8) = ((bit * 2 ^ (n % 8) : Nat) : Int) := by simp
    rw [this]; omega
  rw [e]
  exact u8_or_nat _ _ hx (by omega)

-- the bit goes into a byte that is there
set_option maxHeartbeats 800000 in
theorem add_in (p g cap len n k x bit : Nat) (w : World)
    (hp : w.heap[p]? = some (.cells #[.slice (some ⟨g, 0, none⟩) len cap, .int .i64 (n : Int)] 110 (0, 0)))
    (cg : w.cell? ⟨g, k, none⟩ = some (.int .u8 (x : Int))) (fg : w.frozen? ⟨g, k, none⟩ = false) (hpg : p ≠ g)
    (hk : Hid (k = n / 8)) (hl : k < len) (hn : (n : Int) ≤ 1000000000000) (hm : ((n : Int) % 8 == 0) = false) :
    Calls Try.prog 71 #[.pointer (some ⟨p, 0, none⟩), .int .u8 (bit : Int)] w fun e w' => e = .returned (.tuple #[]) ∧
      w' = ((w.setCell ⟨g, k, none⟩ (.int .u8 (bits .or .u8 (x : Int) ((bit : Int) * 2 ^ (n % 8) % 256)))).setCell ⟨p, 1, none⟩ (.int .i64 ((n : Int) + 1))).drew := by
  have c0 := two_cell0 hp
  have c1 := two_cell1 hp
  have f0 := two_free hp 0
  have f1 := two_free hp 1
  have hcs : ∀ v, (w.setCell ⟨g, k, none⟩ v).cell? ⟨p, 1, none⟩ = some (.int .i64 (n : Int)) := fun v => two_cell1 (blk_set_other hp hpg)
  have hfs : ∀ v, (w.setCell ⟨g, k, none⟩ v).frozen? ⟨p, 1, none⟩ = false := fun v => two_free (blk_set_other hp hpg) 1
  clear hp
  have hq : IntKind.i64.wrap ((n : Int) / 8) = (k : Int) := by
    rw [IntWalk.i64_in _ (by omega), hk.out]; omega
  have i0 : (0 : Int) ≤ (k : Int) := by omega
  have i1 : (k : Int) < (len : Int) := by omega
  go_enter Try.func71, Try.ntmps71
  go_wp2
  go_still_tail 20, (by kernel_rfl)
  still_call (place_any (n : Int) _ (by omega) (by omega))
  repeat still_step
  refine wpStill_nil ?_
  go_wp2
  go_end0
  exact ⟨rfl, rfl⟩

-- a new byte, and the bit into it
set_option maxHeartbeats 1600000 in
theorem add_new (p len n bit : Nat) (sv : Value) (xs : List Value) (w : World)
    (hp : w.heap[p]? = some (.cells #[sv, .int .i64 (n : Int)] 110 (0, 0)))
    (ho : w.ownsRow 0 5 1 sv len xs) (hsp : sv.ownBlock ≠ some p)
    (hk : Hid (len = n / 8)) (hn : (n : Int) ≤ 1000000000000) (hm : ((n : Int) % 8 == 0) = true) :
    Calls Try.prog 71 #[.pointer (some ⟨p, 0, none⟩), .int .u8 (bit : Int)] w fun e w' => e = .returned (.tuple #[]) ∧
      ∃ g cap w1, (w.alloc (.cells #[.int .u8 0] 5)).grownBy w1 sv.ownBlock ∧ w1.ownsRow 0 5 1 (.slice (some ⟨g, 0, none⟩) (len + 1) cap) (len + 1) (xs ++ [.int .u8 0]) ∧ (sv.ownBlock = some g ∨ g = w.heap.size + 1) ∧
      w' = (((w1.setCell ⟨p, 0, none⟩ (.slice (some ⟨g, 0, none⟩) (len + 1) cap)).setCell ⟨g, len, none⟩ (.int .u8 (bits .or .u8 (0 : Int) ((bit : Int) * 2 ^ (n % 8) % 256)))).setCell ⟨p, 1, none⟩ (.int .i64 ((n : Int) + 1))).drew := by
  have c0 := two_cell0 hp
  have c1 := two_cell1 hp
  have f0 := two_free hp 0
  have f1 := two_free hp 1
  have hpl := lt_of_block hp
  have hq : IntKind.i64.wrap ((n : Int) / 8) = (len : Int) := by
    rw [IntWalk.i64_in _ (by omega), hk.out]; omega
  have hlb : len ≤ 125000000000 := by rw [hk.out]; omega
  obtain ⟨i0, hi, hz0, hz1, hz2⟩ := info_parts Try.info5
  have Hp : Hid _ := hp
  have Hsp : Hid _ := hsp
  clear hp hsp
  go_enter Try.func71, Try.ntmps71
  go_wp2_with (at_builtin; refine wpList_append_lies _ rfl (.tmp 14) (.tmp 15) 22 rfl 0 5 i0 (.int .u8 0) 1 1 Try.underlying22 hi hz0 hz1 hz2 rfl (by decide) sv len xs rfl (ho.alloc _) ⟨w.heap.size, 0, none⟩ 1 1 [.int .u8 0] rfl rfl (cell_one_new _ _ _) ?h1 (by decide) ?h2 ?h3 (Nat.zero_le _) (w.heap.size + 1) (by simp) ?_)
  case h1 => intro u hu; simp at hu; subst hu; rfl
  case h2 => unfold maxLen; omega
  case h3 => omega
  intro g cap w1 hown hgrow hat hlt
  have hp1 : w1.heap[p]? = some (.cells #[sv, .int .i64 (n : Int)] 110 (0, 0)) := by
    rw [hgrow.block p (by simp; omega) (fun e => Hsp.out e.symm)]; exact blk_alloc _ Hp.out
  have hpg : p ≠ g := by
    rcases hat with h | h
    · intro e; subst e; exact Hsp.out h
    · omega
  have cg : w1.cell? ⟨g, len, none⟩ = some (.int .u8 0) := by
    rw [hown.cellAt len (by omega)]
    have := ho.1
    rw [List.getElem?_append_right (by omega)]
    simp [this]
  have fg : w1.frozen? ⟨g, len, none⟩ = false := hown.frozenAt _
  have k0 := two_cell0 hp1
  have e0 := two_free hp1 0
  have hp2 : (w1.setCell ⟨p, 0, none⟩ (.slice (some ⟨g, 0, none⟩) (len + 1) cap)).heap[p]? = some (.cells #[.slice (some ⟨g, 0, none⟩) (len + 1) cap, .int .i64 (n : Int)] 110 (0, 0)) := two_set0 hp1
  have a0 := two_cell0 hp2
  have a1 := two_cell1 hp2
  have b1 := two_free hp2 1
  have a2 : (w1.setCell ⟨p, 0, none⟩ (.slice (some ⟨g, 0, none⟩) (len + 1) cap)).cell? ⟨g, len, none⟩ = some (.int .u8 0) := by
    rw [World.cell?_of_block (w := w1) (Below.heap_setCell _ _ _ _ (fun e => hpg e.symm))]; exact cg
  have a3 : (w1.setCell ⟨p, 0, none⟩ (.slice (some ⟨g, 0, none⟩) (len + 1) cap)).frozen? ⟨g, len, none⟩ = false := by
    rw [World.frozen?_of_block (w := w1) (Below.heap_setCell _ _ _ _ (fun e => hpg e.symm))]; exact fg
  have HG : Hid _ := hgrow
  have HO : Hid _ := hown
  have HA : Hid _ := hat
  have HP2 : Hid _ := hp2
  clear hp1 hp2 hgrow hown hat ho hlt
  go_wp2
  generalize hw2 : w1.setCell ⟨p, 0, none⟩ (.slice (some ⟨g, 0, none⟩) (len + 1) cap) = w2 at *
  have HW2 : Hid _ := hw2
  have hcs : ∀ v, (w2.setCell ⟨g, len, none⟩ v).cell? ⟨p, 1, none⟩ = some (.int .i64 (n : Int)) := fun v => two_cell1 (blk_set_other HP2.out hpg)
  have hfs : ∀ v, (w2.setCell ⟨g, len, none⟩ v).frozen? ⟨p, 1, none⟩ = false := fun v => two_free (blk_set_other HP2.out hpg) 1
  clear hw2
  have hlt1 : (len : Int) < (len : Int) + 1 := by omega
  go_still_tail 20, (by kernel_rfl)
  still_call (place_any (n : Int) _ (by omega) (by omega))
  repeat still_step
  refine wpStill_nil ?_
  go_wp2
  go_end0
  exact ⟨rfl, g, cap, w1, HG.out, HO.out, HA.out, by rw [HW2.out]⟩

end Go.Proofs.Ytclfbdfgmeliaaa
