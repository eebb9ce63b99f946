/-
  The walk of the law VarintForms: called with whatever arguments, it returns true and touches nothing that was there. No condition.
-/
import Derived.Test.YtimegheijfnkaaaKnown
import Derived.Deep.LoopGhost
namespace Go.Proofs.Ytimegheijfnkaaa.varintForms
open Go.ChangeShapes Go.WideShapes Go.ChangeAt Go.RowKit

theorem or_high (y : Nat) (hy : y < 256) : bits .or .u8 (y : Int) 128 = ((y % 128 + 128 : Nat) : Int) := by
  rw [show (128 : Int) = ((128 : Nat) : Int) from rfl, u8_or_nat _ _ hy (by omega), or128 _ hy]

set_option maxRecDepth 4000 in
set_option maxHeartbeats 800000 in
theorem walk (a0 : Int) (a1 : Int) (a2 : Int) (w0 : (Lit.int .u64 a0).wf = true) (w1 : (Lit.int .u8 a1).wf = true) (w2 : (Lit.int .u8 a2).wf = true) (w : World) :
    Calls Try.prog 6 #[.int .u64 a0, .int .u8 a1, .int .u8 a2] w fun e w' => e = .returned (.bool true) ∧ Below w.heap.size w w' := by
  obtain ⟨hb0, hb0'⟩ := bounds_u64 w0
  obtain ⟨hb1, hb1'⟩ := bounds_u8 w1
  obtain ⟨hb2, hb2'⟩ := bounds_u8 w2
  obtain ⟨n, rfl⟩ := Int.eq_ofNat_of_zero_le hb0
  obtain ⟨s, rfl⟩ := Int.eq_ofNat_of_zero_le hb1
  obtain ⟨c, rfl⟩ := Int.eq_ofNat_of_zero_le hb2
  clear hb0 hb1 hb2 w0 w1 w2
  go_enter Try.func6, Try.ntmps6
  go_wp2_with fail
  refine (known_any w).mono ?_
  rintro e wa ⟨rfl, hf1⟩
  go_wp2_with fail
  obtain ⟨X, hX, hX2⟩ : ∃ X : Nat, (n : Int) / 2 ^ (s % 64) = (X : Int) ∧ X < 18446744073709551616 := by
    refine ⟨n / 2 ^ (s % 64), by simp, Nat.lt_of_le_of_lt (Nat.div_le_self _ _) (by omega)⟩
  rw [hX]
  clear hX
  refine (puts_any _ [X] _ (holds_lit wa 24 [.int .u64 (X : Int)] (by simp)) (by simpa using hX2) (by simp)).mono ?_
  rintro e wb ⟨sv, rfl, ho, hf, -⟩
  have hf2 := (hf1.alloc (.cells #[.int .u64 (X : Int)] 24)).none hf
  have hee : encs [X] = enc X := by simp [encs]
  rw [hee] at ho
  obtain ⟨hs, y, hfm⟩ := form X
  have h9 := (hfm.nine hX2).1
  rw [hfm.eq] at ho
  obtain ⟨sx, wc, hrun, hox, hfx, hmx, -⟩ := app_bytes wb (.slice none 0 0) sv [] (hs ++ [y]) (Own.nil _) ho.reads (by simp; omega)
  obtain ⟨ao, cap, rfl, hlc, -⟩ := ho.reads
  have hll : (row .u8 (hs ++ [y])).length = hs.length + 1 := by rw [length_row]; simp
  rw [hll] at hlc hrun ⊢
  have hf3 := hf2.trans hfx (fun _ _ h => by simp [Value.ownBlock] at h)
  have hnew : ∀ k, sx.ownBlock = some k → w.heap.size ≤ k := fun k hk => by
    rcases hmx k hk with h | h
    · simp [Value.ownBlock] at h
    · have := hf2.size; omega
  rw [List.nil_append] at hox
  have Hh : Hid _ := hfm.high
  have hy := hfm.low
  clear hf1 hf hf2 hfx hmx ho hee hll hfm
  go_wp2_with (at_builtin; refine wpList_append_run rfl (.const (.slice none 0 0)) (.tmp 24) 23 rfl rfl rfl hrun ?_)
  clear hrun
  go_loopg [8, 9] (c % 3 + 1) (fun g S I wr => ∃ (i : Nat) (hs : List Nat) (y : Nat), i ≤ c % 3 + 1 ∧ g = c % 3 + 1 - i ∧ I = .int .i64 (i : Int) ∧ Own wr S (hs ++ [y]) ∧ (∀ h ∈ hs, 128 ≤ h ∧ h < 256) ∧ y < 256 ∧ hs.length ≤ 9 + i ∧ (0 < i → y = 0 ∧ 0 < hs.length) ∧ Fr w wr (fun _ => False) ∧ (∀ k, S.ownBlock = some k → w.heap.size ≤ k))
  case atStart => exact ⟨0, hs, y, by omega, by omega, rfl, hox, Hh.out, by omega, by omega, fun h => by omega, hf3, hnew⟩
  case round =>
    clear hox Hh hf3 hnew hy h9 hlc
    obtain ⟨i, hs, y, hi, hgk, rfl, ho, hh, hy, hl, hz, hf, hb⟩ := hrel
    have Hgk : Hid _ := hgk
    have Hh : Hid _ := hh
    have Hz : Hid _ := hz
    clear hgk hh hz
    by_cases hlt : i < c % 3 + 1
    · obtain ⟨g, cap, rfl, cur, hg⟩ := own_form ho (by simp)
      have ho' : Own wr (.slice (some ⟨g, 0, none⟩) (hs.length + 1) cap) (hs ++ [y]) := by simpa using ho
      obtain ⟨N, hN⟩ : ∃ N, N = hs.length := ⟨_, rfl⟩
      have hlen : (hs ++ [y]).length = N + 1 := by simp [hN]
      have hNb : N ≤ 1000 := by omega
      have cg : wr.cell? ⟨g, N, none⟩ = some (.int .u8 (y : Int)) := by
        rw [World.ownsRow.cellAt ho N (by simp [hN]), row_get .u8 _ N (by simp [hN])]
        simp [hN]
      have fg : wr.frozen? ⟨g, N, none⟩ = false := World.ownsRow.frozenAt ho N
      obtain ⟨ho3, hg3⟩ := World.ownsRow.stored ho N (.int .u8 ((y % 128 + 128 : Nat) : Int))
      have ho4 : Own (wr.setCell ⟨g, N, none⟩ (.int .u8 (bits .or .u8 (y : Int) 128))) (.slice (some ⟨g, 0, none⟩) (N + 1) cap) (hs ++ [y % 128 + 128]) := by
        rw [or_high y hy]
        rw [← row_set, hlen] at ho3
        have e : (hs ++ [y]).set N (y % 128 + 128) = hs ++ [y % 128 + 128] := by rw [hN, List.set_append_right _ _ (Nat.le_refl _)]; simp
        rw [e] at ho3
        unfold Own
        simpa [hN] using ho3
      obtain ⟨S', w1, hrun, ho1, hf1, hm1⟩ := app_byte (wr.setCell ⟨g, N, none⟩ (.int .u8 (bits .or .u8 (y : Int) 128))) _ _ 0 0 rfl ho4 (by simp; omega)
      have hfr : Fr wr (wr.setCell ⟨g, N, none⟩ (.int .u8 (bits .or .u8 (y : Int) 128))) (fun k => (Value.slice (some ⟨g, 0, none⟩) (N + 1) cap).ownBlock = some k) := Fr.setCell (S := fun k => (Value.slice (some ⟨g, 0, none⟩) (N + 1) cap).ownBlock = some k) (Fr.refl wr _) ⟨g, N, none⟩ (fun _ => rfl) _
      have hfn := hf.newer (hfr.trans hf1 (fun _ _ h => h)) (fun k hk => hb k hk)
      have hb' : ∀ k, S'.ownBlock = some k → w.heap.size ≤ k := fun k hk => by
        rcases hm1 k hk with h2 | h2
        · exact hb k h2
        · have := hf.size; have := hfr.size; omega
      have Hh' : Hid (∀ h ∈ hs ++ [y % 128 + 128], 128 ≤ h ∧ h < 256) := fun h hm => by
        rcases List.mem_append.1 hm with h1 | h1
        · exact Hh.out h h1
        · simp at h1; omega
      have hsz : ∀ v, (wr.setCell ⟨g, N, none⟩ v).heap.size = wr.heap.size := fun v => by simp [World.setCell]
      rw [hsz] at hrun
      clear hsz
      rw [hlen]
      have Hlen : Hid _ := hlen
      clear hlen hN ho ho' ho3 ho4 hg3 hf1 hm1 hfr hg hb
      go_wp2_with (at_builtin; refine wpList_append_run rfl (.tmp 42) (.tmp 43) 23 rfl rfl rfl hrun ?_)
      go_roundg (c % 3 + 1 - (i + 1))
      case rel => exact ⟨i + 1, hs ++ [y % 128 + 128], 0, by omega, rfl, by go_num, ho1, Hh'.out, by omega, by simp; omega, fun _ => ⟨rfl, by simp⟩, hfn, hb'⟩
      case measure => rw [Hgk.out]; omega
    · obtain ⟨rfl, hl0⟩ := Hz.out (by omega)
      have hr := ho.reads
      have Hb : Hid (∀ x ∈ hs ++ [0], x < 256) := fun x hx => by
        rcases List.mem_append.1 hx with h | h
        · exact (Hh.out x h).2
        · simp at h; omega
      have Ht : Hid (took (hs ++ [0]) 18446744073709551615 = (0, 0, 21)) := by
        show _ = _
        unfold took
        rw [lenFrom_zero hs 0 Hh.out (by omega)]
        rfl
      have hll : (hs ++ [0]).length ≤ 1000000000 := by simp; omega
      clear ho
      go_wp2_with fail
      refine (take_any _ _ 18446744073709551615 wr hr Hb.out hll (by omega)).mono ?_
      rw [Ht.out]
      rintro e w' ⟨rfl, rfl⟩
      go_wp2
      go_ret
      exact ⟨rfl, hf.below (Nat.le_refl _) (fun _ h => h.elim)⟩

end Go.Proofs.Ytimegheijfnkaaa.varintForms
