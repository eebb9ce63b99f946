/-
  The contracts of the reference's writer: Put; at most 10^11 bits held before.
-/
import Derived.Test.YtclfbdfgmeliaaaBStr
import Derived.Test.YtclfbdfgmeliaaaLex
import Derived.Deep.RegionLaw
import Derived.Deep.AppendLies
namespace Go.Proofs.Ytclfbdfgmeliaaa
open Go.RowKit
set_option maxRecDepth 4000

theorem Try.info4 : (Try.prog.info? 4).map (fun i => (i.zero, i.size, i.bytes)) = some (some (.bool false), 1, 1) := by kernel_rfl

/-- The reference's writer in block q: the bits l. -/
def RefWr (w : World) (q : Nat) (sv : Value) (l : List Bool) : Prop :=
  w.heap[q]? = some (.cells #[sv] 47 (0, 0)) ∧ w.ownsRow 0 4 1 sv l.length (l.map Value.bool)

theorem RefWr.drew {w : World} {q : Nat} {sv : Value} {l : List Bool} (h : RefWr w q sv l) : RefWr w.drew q sv l := h
theorem RefWr.apart {w : World} {q : Nat} {sv : Value} {l : List Bool} (h : RefWr w q sv l) : sv.ownBlock ≠ some q := fun e => absurd (own_elem h.2 e h.1) (by decide)
theorem RefWr.frame {w w' : World} {q : Nat} {sv : Value} {l : List Bool} {S : Nat → Prop} (h : RefWr w q sv l) (f : Fr w w' S) (hs : ∀ k, foot q sv k → ¬ S k) : RefWr w' q sv l :=
  ⟨f.kept h.1 (hs q (.inl rfl)), f.owns h.2 (fun k hk => hs k (.inr hk))⟩
theorem RefWr.lt {w : World} {q : Nat} {sv : Value} {l : List Bool} (h : RefWr w q sv l) : ∀ k, foot q sv k → k < w.heap.size := by
  intro k hk
  rcases hk with rfl | hk
  · exact lt_of_block h.1
  · exact (h.2.lt k hk).2

theorem bit_eq (v k : Nat) (hv : v < 18446744073709551616) : (bits .and .u64 ((v : Int) / 2 ^ k) 1 == 1) = v.testBit k := by
  have e : (v : Int) / 2 ^ k = ((v / 2 ^ k : Nat) : Int) := by simp
  have hlt : v / 2 ^ k < 18446744073709551616 := Nat.lt_of_le_of_lt (Nat.div_le_self _ _) hv
  rw [e, show (1 : Int) = ((1 : Nat) : Int) from rfl, u64_and_nat _ _ hlt (by omega), nat_mask1, Nat.testBit_eq_decide_div_mod_eq]
  have h2 : v / 2 ^ k % 2 = 0 ∨ v / 2 ^ k % 2 = 1 := by omega
  rcases h2 with h2 | h2 <;> simp [h2]

set_option maxRecDepth 4000 in
set_option maxHeartbeats 1600000 in
theorem refPutM (q : Nat) (sv : Value) (l : List Bool) (v : Nat) (m : Nat) (w : World) (h : RefWr w q sv l) (hn : l.length ≤ 100000000000) (hv : v < 18446744073709551616) (hwd : m ≤ 64) :
    Calls Try.prog 20 #[.pointer (some ⟨q, 0, none⟩), .int .u64 (v : Int), .int .i64 (m : Int)] w fun e w' => e = .returned (.tuple #[]) ∧
      ∃ sv', RefWr w' q sv' (l ++ putBits v m) ∧ Fr w w' (foot q sv) ∧ Moved w sv sv' := by
  obtain ⟨i0, hi, hz0, hz1, hz2⟩ := info_parts Try.info4
  go_enter Try.func20, Try.ntmps20
  go_wp2_with fail
  go_loopw [6] (fun I wr => ∃ k : Nat, k ≤ m ∧ I = .int .i64 ((k : Int) - 1) ∧ ∃ sv' l', RefWr wr q sv' l' ∧ l' ++ putBits v k = l ++ putBits v m ∧ Fr w wr (foot q sv) ∧ Moved w sv sv')
    (fun I _ => (intOf I + 1).toNat)
  case atStart => exact ⟨m, Nat.le_refl _, rfl, sv, l, h, rfl, Fr.refl _ _, Moved.refl _ _⟩
  case round =>
    obtain ⟨k, hk, rfl, sv', l', hw, he, hf, hmv⟩ := hrel
    have hll : l'.length + k = l.length + m := by have := congrArg List.length he; simpa [length_putBits] using this
    have He : Hid _ := he
    clear he
    by_cases hk0 : 0 < k
    · obtain ⟨k', rfl⟩ : ∃ k', k = k' + 1 := ⟨k - 1, by omega⟩
      rw [show (((k' + 1 : Nat) : Int) - 1) = (k' : Int) by omega]
      have hbit := bit_eq v k' hv
      have hap := hw.apart
      have c0 := cell_of_one hw.1
      have f0 := free_of_one hw.1
      have hqlt := lt_of_block hw.1
      have ho := hw.2
      have ca : ∀ o, (wr.alloc o).cell? ⟨q, 0, none⟩ = some sv' := fun o => cell_of_one (blk_alloc o hw.1)
      have hb63 : l'.length + 1 ≤ maxLen := by unfold maxLen; omega
      have hb47 : (l'.length + 1) * 1 ≤ 140737488355328 := by omega
      have h1c : ∀ u ∈ [Value.bool (v.testBit k')], u.oneCell' = true := by intro u hu; simp at hu; subst hu; rfl
      have Hw : Hid (RefWr wr q sv' l') := hw
      have Ho : Hid (wr.ownsRow 0 4 1 sv' l'.length (l'.map Value.bool)) := ho
      have Hap : Hid _ := hap
      clear hw ho hap
      go_wp2
      go_region_law ((refine step_append_lies _ (by rfl) (.tmp 19) (.tmp 25) 45 (by rfl) 0 4 i0 (.bool false) 1 1 Try.underlying45 hi hz0 hz1 hz2 rfl (by decide) sv' l'.length (l'.map Value.bool) (by rfl) (by exact Ho.out.alloc _) ⟨wr.heap.size, 0, none⟩ 1 1 [.bool (v.testBit k')] (by rfl) rfl (by exact cell_one_new _ _ _) h1c (by decide) hb63 hb47 (Nat.zero_le _) (wr.heap.size + 1) (by simp) ?_; intro g cap w1 hown hgrow hat hlt; have hq1 : w1.heap[q]? = some (.cells #[sv'] 47 (0, 0)) := (hgrow.block q (by simp; omega) (fun e => Hap.out e.symm)).trans (by exact blk_alloc _ Hw.out.1); have cq := cell_of_one hq1; have fq := free_of_one hq1))
      all_goals
        have hgq : q ≠ g := by
          rcases hat with h | h
          · intro e; subst e; exact Hap.out h
          · omega
        have hq2 := one_setCell (u := .slice (some ⟨g, 0, none⟩) (l'.length + 1) cap) hq1
        have ho2 := ownsRow_setCell_other hown (a := ⟨q, 0, none⟩) (u := .slice (some ⟨g, 0, none⟩) (l'.length + 1) cap) (by simp [Value.ownBlock]; omega)
        have hfr : Fr wr (w1.setCell ⟨q, 0, none⟩ (.slice (some ⟨g, 0, none⟩) (l'.length + 1) cap)) (foot q sv') := Fr.setCell (Fr.grown ((Fr.refl wr _).alloc _).drew hgrow (fun k hk _ => .inr hk)) _ (fun _ => .inl rfl) _
        have hmv' : Moved wr sv' (.slice (some ⟨g, 0, none⟩) (l'.length + 1) cap) := by
          intro k hk
          simp [Value.ownBlock] at hk
          subst hk
          rcases hat with h | h
          · exact .inl h
          · exact .inr (by omega)
        have hw2 : RefWr (w1.setCell ⟨q, 0, none⟩ (.slice (some ⟨g, 0, none⟩) (l'.length + 1) cap)) q (.slice (some ⟨g, 0, none⟩) (l'.length + 1) cap) (l' ++ [v.testBit k']) := ⟨hq2, by simpa using ho2⟩
        clear hown hgrow hat hlt hq1 cq fq hq2 ho2
        go_wp2
        go_roundw
        case rel => exact ⟨k', by omega, by go_num, _, _, hw2, by rw [← He.out]; simp [putBits], hf.foot_trans hfr hmv, hmv.trans hmv' hf.size⟩
        case measure => simp [intOf]
    · obtain rfl : k = 0 := by omega
      go_wp2
      go_end0
      refine ⟨rfl, sv', ?_, hf, hmv⟩
      rw [← He.out]; simpa [putBits] using hw
set_option maxRecDepth 4000 in
set_option maxHeartbeats 1600000 in
theorem refPut0 (q : Nat) (sv : Value) (l : List Bool) (v : Nat) (n : Int) (hneg : n < 0) (w : World) (h : RefWr w q sv l) (_hn : l.length ≤ 100000000000) (hv : v < 18446744073709551616) :
    Calls Try.prog 20 #[.pointer (some ⟨q, 0, none⟩), .int .u64 (v : Int), .int .i64 n] w fun e w' => e = .returned (.tuple #[]) ∧
      ∃ sv', RefWr w' q sv' (l ++ putBits v 0) ∧ Fr w w' (foot q sv) ∧ Moved w sv sv' := by
  obtain ⟨i0, hi, hz0, hz1, hz2⟩ := info_parts Try.info4
  go_enter Try.func20, Try.ntmps20
  go_wp2_with fail
  go_loopw [6] (fun I wr => ∃ k : Nat, k ≤ 0 ∧ I = .int .i64 ((k : Int) - 1) ∧ ∃ sv' l', RefWr wr q sv' l' ∧ l' ++ putBits v k = l ++ putBits v 0 ∧ Fr w wr (foot q sv) ∧ Moved w sv sv')
    (fun I _ => (intOf I + 1).toNat)
  case atStart => exact ⟨0, Nat.le_refl _, congrArg (Value.int .i64) (by decide), sv, l, h, rfl, Fr.refl _ _, Moved.refl _ _⟩
  case round =>
    obtain ⟨k, hk, rfl, sv', l', hw, he, hf, hmv⟩ := hrel
    have hll : l'.length + k = l.length + 0 := by have := congrArg List.length he; simpa [length_putBits] using this
    have He : Hid _ := he
    clear he
    by_cases hk0 : 0 < k
    · obtain ⟨k', rfl⟩ : ∃ k', k = k' + 1 := ⟨k - 1, by omega⟩
      rw [show (((k' + 1 : Nat) : Int) - 1) = (k' : Int) by omega]
      have hbit := bit_eq v k' hv
      have hap := hw.apart
      have c0 := cell_of_one hw.1
      have f0 := free_of_one hw.1
      have hqlt := lt_of_block hw.1
      have ho := hw.2
      have ca : ∀ o, (wr.alloc o).cell? ⟨q, 0, none⟩ = some sv' := fun o => cell_of_one (blk_alloc o hw.1)
      have hb63 : l'.length + 1 ≤ maxLen := by unfold maxLen; omega
      have hb47 : (l'.length + 1) * 1 ≤ 140737488355328 := by omega
      have h1c : ∀ u ∈ [Value.bool (v.testBit k')], u.oneCell' = true := by intro u hu; simp at hu; subst hu; rfl
      have Hw : Hid (RefWr wr q sv' l') := hw
      have Ho : Hid (wr.ownsRow 0 4 1 sv' l'.length (l'.map Value.bool)) := ho
      have Hap : Hid _ := hap
      clear hw ho hap
      go_wp2
      go_region_law ((refine step_append_lies _ (by rfl) (.tmp 19) (.tmp 25) 45 (by rfl) 0 4 i0 (.bool false) 1 1 Try.underlying45 hi hz0 hz1 hz2 rfl (by decide) sv' l'.length (l'.map Value.bool) (by rfl) (by exact Ho.out.alloc _) ⟨wr.heap.size, 0, none⟩ 1 1 [.bool (v.testBit k')] (by rfl) rfl (by exact cell_one_new _ _ _) h1c (by decide) hb63 hb47 (Nat.zero_le _) (wr.heap.size + 1) (by simp) ?_; intro g cap w1 hown hgrow hat hlt; have hq1 : w1.heap[q]? = some (.cells #[sv'] 47 (0, 0)) := (hgrow.block q (by simp; omega) (fun e => Hap.out e.symm)).trans (by exact blk_alloc _ Hw.out.1); have cq := cell_of_one hq1; have fq := free_of_one hq1))
      all_goals
        have hgq : q ≠ g := by
          rcases hat with h | h
          · intro e; subst e; exact Hap.out h
          · omega
        have hq2 := one_setCell (u := .slice (some ⟨g, 0, none⟩) (l'.length + 1) cap) hq1
        have ho2 := ownsRow_setCell_other hown (a := ⟨q, 0, none⟩) (u := .slice (some ⟨g, 0, none⟩) (l'.length + 1) cap) (by simp [Value.ownBlock]; omega)
        have hfr : Fr wr (w1.setCell ⟨q, 0, none⟩ (.slice (some ⟨g, 0, none⟩) (l'.length + 1) cap)) (foot q sv') := Fr.setCell (Fr.grown ((Fr.refl wr _).alloc _).drew hgrow (fun k hk _ => .inr hk)) _ (fun _ => .inl rfl) _
        have hmv' : Moved wr sv' (.slice (some ⟨g, 0, none⟩) (l'.length + 1) cap) := by
          intro k hk
          simp [Value.ownBlock] at hk
          subst hk
          rcases hat with h | h
          · exact .inl h
          · exact .inr (by omega)
        have hw2 : RefWr (w1.setCell ⟨q, 0, none⟩ (.slice (some ⟨g, 0, none⟩) (l'.length + 1) cap)) q (.slice (some ⟨g, 0, none⟩) (l'.length + 1) cap) (l' ++ [v.testBit k']) := ⟨hq2, by simpa using ho2⟩
        clear hown hgrow hat hlt hq1 cq fq hq2 ho2
        go_wp2
        go_roundw
        case rel => exact ⟨k', by omega, by go_num, _, _, hw2, by rw [← He.out]; simp [putBits], hf.foot_trans hfr hmv, hmv.trans hmv' hf.size⟩
        case measure => simp [intOf]
    · obtain rfl : k = 0 := by omega
      go_wp2
      go_end0
      refine ⟨rfl, sv', ?_, hf, hmv⟩
      rw [← He.out]; simpa [putBits] using hw
set_option maxRecDepth 4000 in
set_option maxHeartbeats 1600000 in
theorem refPut64 (q : Nat) (sv : Value) (l : List Bool) (v : Nat) (n : Int) (hbig : 64 < n) (w : World) (h : RefWr w q sv l) (hn : l.length ≤ 100000000000) (hv : v < 18446744073709551616) :
    Calls Try.prog 20 #[.pointer (some ⟨q, 0, none⟩), .int .u64 (v : Int), .int .i64 n] w fun e w' => e = .returned (.tuple #[]) ∧
      ∃ sv', RefWr w' q sv' (l ++ putBits v 64) ∧ Fr w w' (foot q sv) ∧ Moved w sv sv' := by
  obtain ⟨i0, hi, hz0, hz1, hz2⟩ := info_parts Try.info4
  go_enter Try.func20, Try.ntmps20
  go_wp2_with fail
  go_loopw [6] (fun I wr => ∃ k : Nat, k ≤ 64 ∧ I = .int .i64 ((k : Int) - 1) ∧ ∃ sv' l', RefWr wr q sv' l' ∧ l' ++ putBits v k = l ++ putBits v 64 ∧ Fr w wr (foot q sv) ∧ Moved w sv sv')
    (fun I _ => (intOf I + 1).toNat)
  case atStart => exact ⟨64, Nat.le_refl _, congrArg (Value.int .i64) (by decide), sv, l, h, rfl, Fr.refl _ _, Moved.refl _ _⟩
  case round =>
    obtain ⟨k, hk, rfl, sv', l', hw, he, hf, hmv⟩ := hrel
    have hll : l'.length + k = l.length + 64 := by have := congrArg List.length he; simpa [length_putBits] using this
    have He : Hid _ := he
    clear he
    by_cases hk0 : 0 < k
    · obtain ⟨k', rfl⟩ : ∃ k', k = k' + 1 := ⟨k - 1, by omega⟩
      rw [show (((k' + 1 : Nat) : Int) - 1) = (k' : Int) by omega]
      have hbit := bit_eq v k' hv
      have hap := hw.apart
      have c0 := cell_of_one hw.1
      have f0 := free_of_one hw.1
      have hqlt := lt_of_block hw.1
      have ho := hw.2
      have ca : ∀ o, (wr.alloc o).cell? ⟨q, 0, none⟩ = some sv' := fun o => cell_of_one (blk_alloc o hw.1)
      have hb63 : l'.length + 1 ≤ maxLen := by unfold maxLen; omega
      have hb47 : (l'.length + 1) * 1 ≤ 140737488355328 := by omega
      have h1c : ∀ u ∈ [Value.bool (v.testBit k')], u.oneCell' = true := by intro u hu; simp at hu; subst hu; rfl
      have Hw : Hid (RefWr wr q sv' l') := hw
      have Ho : Hid (wr.ownsRow 0 4 1 sv' l'.length (l'.map Value.bool)) := ho
      have Hap : Hid _ := hap
      clear hw ho hap
      go_wp2
      go_region_law ((refine step_append_lies _ (by rfl) (.tmp 19) (.tmp 25) 45 (by rfl) 0 4 i0 (.bool false) 1 1 Try.underlying45 hi hz0 hz1 hz2 rfl (by decide) sv' l'.length (l'.map Value.bool) (by rfl) (by exact Ho.out.alloc _) ⟨wr.heap.size, 0, none⟩ 1 1 [.bool (v.testBit k')] (by rfl) rfl (by exact cell_one_new _ _ _) h1c (by decide) hb63 hb47 (Nat.zero_le _) (wr.heap.size + 1) (by simp) ?_; intro g cap w1 hown hgrow hat hlt; have hq1 : w1.heap[q]? = some (.cells #[sv'] 47 (0, 0)) := (hgrow.block q (by simp; omega) (fun e => Hap.out e.symm)).trans (by exact blk_alloc _ Hw.out.1); have cq := cell_of_one hq1; have fq := free_of_one hq1))
      all_goals
        have hgq : q ≠ g := by
          rcases hat with h | h
          · intro e; subst e; exact Hap.out h
          · omega
        have hq2 := one_setCell (u := .slice (some ⟨g, 0, none⟩) (l'.length + 1) cap) hq1
        have ho2 := ownsRow_setCell_other hown (a := ⟨q, 0, none⟩) (u := .slice (some ⟨g, 0, none⟩) (l'.length + 1) cap) (by simp [Value.ownBlock]; omega)
        have hfr : Fr wr (w1.setCell ⟨q, 0, none⟩ (.slice (some ⟨g, 0, none⟩) (l'.length + 1) cap)) (foot q sv') := Fr.setCell (Fr.grown ((Fr.refl wr _).alloc _).drew hgrow (fun k hk _ => .inr hk)) _ (fun _ => .inl rfl) _
        have hmv' : Moved wr sv' (.slice (some ⟨g, 0, none⟩) (l'.length + 1) cap) := by
          intro k hk
          simp [Value.ownBlock] at hk
          subst hk
          rcases hat with h | h
          · exact .inl h
          · exact .inr (by omega)
        have hw2 : RefWr (w1.setCell ⟨q, 0, none⟩ (.slice (some ⟨g, 0, none⟩) (l'.length + 1) cap)) q (.slice (some ⟨g, 0, none⟩) (l'.length + 1) cap) (l' ++ [v.testBit k']) := ⟨hq2, by simpa using ho2⟩
        clear hown hgrow hat hlt hq1 cq fq hq2 ho2
        go_wp2
        go_roundw
        case rel => exact ⟨k', by omega, by go_num, _, _, hw2, by rw [← He.out]; simp [putBits], hf.foot_trans hfr hmv, hmv.trans hmv' hf.size⟩
        case measure => simp [intOf]
    · obtain rfl : k = 0 := by omega
      go_wp2
      go_end0
      refine ⟨rfl, sv', ?_, hf, hmv⟩
      rw [← He.out]; simpa [putBits] using hw
theorem refPut_any (q : Nat) (sv : Value) (l : List Bool) (v : Nat) (n : Int) (w : World) (h : RefWr w q sv l) (hn : l.length ≤ 100000000000) (hv : v < 18446744073709551616) :
    Calls Try.prog 20 #[.pointer (some ⟨q, 0, none⟩), .int .u64 (v : Int), .int .i64 n] w fun e w' => e = .returned (.tuple #[]) ∧
      ∃ sv', RefWr w' q sv' (l ++ putBits v (wide n)) ∧ Fr w w' (foot q sv) ∧ Moved w sv sv' := by
  rcases (show n < 0 ∨ 64 < n ∨ (0 ≤ n ∧ n ≤ 64) by omega) with c | c | ⟨c, c'⟩
  · have e : wide n = 0 := by unfold wide; omega
    rw [e]
    exact refPut0 q sv l v n c w h hn hv
  · have e : wide n = 64 := by unfold wide; omega
    rw [e]
    exact refPut64 q sv l v n c w h hn hv
  · have hn' : ((n.toNat : Nat) : Int) = n := by omega
    have e : wide n = n.toNat := by unfold wide; omega
    rw [e]
    have := refPutM q sv l v n.toNat w h hn hv (by omega)
    rwa [hn'] at this

end Go.Proofs.Ytclfbdfgmeliaaa
