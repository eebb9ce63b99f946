/-
  The contract of the reference's Bytes; at most 10^11 bits.
-/
import Derived.Test.YtclfbdfgmeliaaaBRefPut
namespace Go.Proofs.Ytclfbdfgmeliaaa
open Go.RowKit
set_option maxRecDepth 4000

theorem or_one (x n : Nat) (hx : x < 256) : bits .or .u8 (x : Int) (2 ^ (n % 8) % 256) = ((x ||| 2 ^ (n % 8) : Nat) : Int) := by
  have h2 := pow_lt (n % 8) (by omega)
  have e : (2 : Int) ^ (n % 8) % 256 = ((2 ^ (n % 8) : Nat) : Int) := by
    have : (2 : Int) ^ (n % 8) = ((2 ^ (n % 8) : Nat) : Int) := by simp
    rw [this]
    generalize 2 ^ (n % 8) = y at *
    omega
  rw [e]
  exact u8_or_nat _ _ hx h2

/-- So far: the first i bits of l. -/
structure Part (bs : List Nat) (l : List Bool) (i : Nat) : Prop where
  len : bs.length = (l.length + 7) / 8
  small : ∀ j, bs.getD j 0 < 256
  bit : ∀ j, bitAt bs j = (decide (j < i) && l.getD j false)

theorem Part.zero (l : List Bool) : Part (List.replicate ((l.length + 7) / 8) 0) l 0 := by
  have hg : ∀ j, (List.replicate ((l.length + 7) / 8) 0).getD j 0 = 0 := by
    intro j; simp only [List.getD_eq_getElem?_getD, List.getElem?_replicate]; split <;> rfl
  exact ⟨by simp, fun j => by rw [hg]; omega, fun j => by unfold bitAt; rw [hg]; simp⟩

theorem Part.skip {bs : List Nat} {l : List Bool} {i : Nat} (h : Part bs l i) (hb : l.getD i false = false) : Part bs l (i + 1) := by
  refine ⟨h.len, h.small, fun j => ?_⟩
  rw [h.bit j]
  by_cases e : j = i
  · subst e; rw [hb]; simp
  · rw [show decide (j < i + 1) = decide (j < i) from decide_eq_decide.2 (by omega)]

theorem Part.put {bs : List Nat} {l : List Bool} {i : Nat} (h : Part bs l i) (hb : l.getD i false = true) (hi : i < l.length) : Part (bs.set (i / 8) (bs.getD (i / 8) 0 ||| 2 ^ (i % 8))) l (i + 1) := by
  have hlt : i / 8 < bs.length := by have := h.len; omega
  refine ⟨by rw [List.length_set]; exact h.len, fun j => ?_, fun j => ?_⟩
  · rw [getD_set_nat _ _ _ _ hlt]
    split
    · exact or_lt _ _ (h.small _) (pow_lt _ (by omega))
    · exact h.small _
  · have hj := h.bit j
    unfold bitAt at hj ⊢
    rw [getD_set_nat _ _ _ _ hlt]
    by_cases h1 : j / 8 = i / 8
    · rw [if_pos h1, Nat.testBit_or, Nat.testBit_two_pow, ← h1, hj]
      by_cases e : j = i
      · subst e; rw [hb]; simp
      · have h3 : i % 8 ≠ j % 8 := by omega
        rw [decide_eq_false h3, show decide (j < i + 1) = decide (j < i) from decide_eq_decide.2 (by omega)]; simp
    · rw [if_neg h1, hj, show decide (j < i + 1) = decide (j < i) from decide_eq_decide.2 (by omega)]

theorem Part.all {bs : List Nat} {l : List Bool} (h : Part bs l l.length) : Packs bs l := by
  refine ⟨h.len, h.small, fun i => ?_⟩
  rw [h.bit i]
  by_cases e : i < l.length
  · rw [decide_eq_true e]; simp
  · rw [decide_eq_false e]
    simp only [List.getD_eq_getElem?_getD]
    rw [List.getElem?_eq_none (by omega)]; rfl

theorem row_zeros (n : Nat) : (madeCells #[Value.int .u8 0] n).toList = row .u8 (List.replicate n 0) := by
  rw [toList_madeCells_one]
  simp [row]

set_option maxRecDepth 4000 in
set_option maxHeartbeats 1600000 in
theorem refBytes_any (q : Nat) (sv : Value) (l : List Bool) (w : World) (h : RefWr w q sv l) (hn : l.length ≤ 100000000000) :
    Calls Try.prog 21 #[.pointer (some ⟨q, 0, none⟩)] w fun e w' => ∃ v, e = .returned v ∧ Fresh w w' v (pack l) ∧ RefWr w' q sv l ∧ Fr w w' (fun _ => False) := by
  obtain ⟨i0, hi, hz0, hz1, hz2⟩ := info_parts Try.info5
  obtain ⟨ao, cap, rfl, hao⟩ : ∃ ao cap, sv = .slice ao l.length cap ∧ (0 < l.length → ∃ g, ao = some ⟨g, 0, none⟩) := by
    rcases h.2.2 with ⟨rfl, h0⟩ | ⟨g, cap, cur, rfl, _⟩
    · exact ⟨none, 0, by rw [h0], fun hp => by omega⟩
    · exact ⟨some ⟨g, 0, none⟩, cap, rfl, fun _ => ⟨g, rfl⟩⟩
  obtain ⟨len, hlen⟩ : ∃ len, len = l.length := ⟨_, rfl⟩
  have c0 := cell_of_one h.1
  rw [← hlen] at c0 hn hao
  have Hl : Hid _ := hlen
  have H : Hid (RefWr w q (.slice ao l.length cap) l) := h
  clear h
  obtain ⟨n8, hn8⟩ : ∃ n8, n8 = (len + 7) / 8 := ⟨_, rfl⟩
  have Hn8 : Hid _ := hn8
  clear hlen hn8
  go_enter Try.func21, Try.ntmps21
  go_wp2_with (at_make; refine wpList_make_full _ rfl _ _ 22 rfl 0 5 i0 (.int .u8 0) 1 Try.underlying22 hi hz0 hz1 _ _ _ _ n8 rfl rfl (by rw [Hn8.out]; omega) (by rw [Hn8.out]; omega) ?b1 ?b2 (Nat.zero_le _) ?_)
  case b1 => rw [hz2, Hn8.out]; omega
  case b2 => rw [Hn8.out]; unfold maxLen; omega
  intro w1 hown hgrow
  rw [row_zeros] at hown
  obtain ⟨G, hG⟩ : ∃ G, G = w.heap.size := ⟨_, rfl⟩
  rw [← hG] at hown ⊢
  have hfr1 : Fr w w1 (fun _ => False) := (Fr.refl w _).grown hgrow (fun k hk => by cases hk)
  have Hown : Hid (w1.ownsRow 0 5 1 (.slice (some ⟨G, 0, none⟩) n8 n8) n8 (row .u8 (List.replicate n8 0))) := hown
  have HG : Hid _ := hG
  clear hown hgrow hG
  go_wp2_with fail
  go_loopw [4] (fun I wr => ∃ (i : Nat) (bs : List Nat), i ≤ len ∧ I = .int .i64 (i : Int) ∧ Part bs l i ∧ wr.ownsRow 0 5 1 (.slice (some ⟨G, 0, none⟩) n8 n8) n8 (row .u8 bs) ∧ Fr w wr (fun _ => False)) (fun I _ => len - (intOf I).toNat)
  case atStart => exact ⟨0, List.replicate n8 0, Nat.zero_le _, rfl, by rw [Hn8.out, Hl.out]; exact Part.zero l, Hown.out, hfr1⟩
  case round =>
    clear hfr1
    obtain ⟨i, bs, hil, rfl, hpt, ho, hfr⟩ := hrel
    have hw := H.out.frame hfr (fun _ _ h => h)
    have c0 := cell_of_one hw.1
    rw [← Hl.out] at c0
    have Hpt : Hid (Part bs l i) := hpt
    have Ho : Hid (wr.ownsRow 0 5 1 (.slice (some ⟨G, 0, none⟩) n8 n8) n8 (row .u8 bs)) := ho
    clear hpt ho
    by_cases hlt : i < len
    · obtain ⟨g, rfl⟩ := hao (by omega)
      have cb : wr.cell? ⟨g, i, none⟩ = some (.bool (l.getD i false)) := by
        have := hw.2.cellAt i (by rw [← Hl.out]; omega)
        rw [this]
        simp [List.getD_eq_getElem?_getD, show i < l.length by rw [← Hl.out]; exact hlt]
      have Hw : Hid (RefWr wr q (.slice (some ⟨g, 0, none⟩) l.length cap) l) := hw
      clear hw
      have ii : (i : Int) < (len : Int) := by omega
      cases hbit : l.getD i false
      · rw [hbit] at cb
        have hpn := Hpt.out.skip hbit
        clear hbit
        go_wp2
        go_roundw
        case rel => exact ⟨i + 1, bs, by omega, by go_num, hpn, Ho.out, hfr⟩
        case measure => simp [intOf]; omega
      · rw [hbit] at cb
        have hpn := Hpt.out.put hbit (by rw [← Hl.out]; exact hlt)
        have hbl : bs.length = n8 := by rw [Hpt.out.len, Hn8.out, Hl.out]
        obtain ⟨x, hx⟩ : ∃ x, x = bs.getD (i / 8) 0 := ⟨_, rfl⟩
        obtain ⟨k, hk⟩ : ∃ k, k = i / 8 := ⟨_, rfl⟩
        have hk8 : k < n8 := by rw [Hn8.out]; omega
        have hx2 : x < 256 := by rw [hx]; exact Hpt.out.small _
        rw [← hx, ← hk] at hpn
        have cg : wr.cell? ⟨G, k, none⟩ = some (.int .u8 (x : Int)) := by
          have := World.ownsRow.cellAt Ho.out k (by omega)
          rw [this, row_get .u8 bs k (by omega), hx, hk]
        have fg : wr.frozen? ⟨G, k, none⟩ = false := World.ownsRow.frozenAt Ho.out k
        have hqw : IntKind.i64.wrap ((i : Int) / 8) = (k : Int) := by rw [IntWalk.i64_in _ (by omega)]; omega
        have hrem : (i : Int).tmod 8 = ((i % 8 : Nat) : Int) := by rw [Int.tmod_eq_emod_of_nonneg (by omega)]; omega
        have i1 : (k : Int) < (n8 : Int) := by omega
        clear hbit hx hk hbl
        go_wp2
        go_still_tail 10, (by kernel_rfl)
        go_wp2
        go_roundw
        case rel =>
          obtain ⟨ho3, hg3⟩ := World.ownsRow.stored Ho.out k (.int .u8 ((x ||| 2 ^ (i % 8) : Nat) : Int))
          rw [or_one x i hx2]
          refine ⟨i + 1, _, by omega, by go_num, hpn, ?_, Fr.drew (hfr.grown hg3 ?_)⟩
          · rw [row_set]; exact ho3
          · intro k' hk' hlt'
            simp at hk'
            rw [← hk', HG.out] at hlt'; omega
        case measure => simp [intOf]; omega
    · have Hil : Hid (i = len) := by show i = len; omega
      go_wp2
      go_ret
      have hpk := Hpt.out
      rw [Hil.out, Hl.out] at hpk
      obtain rfl := hpk.all.eq (packs_pack l)
      have hpl : n8 = (pack l).length := by rw [length_pack, ← Hl.out]; exact Hn8.out
      refine ⟨_, rfl, ⟨G, ?_, ?_, by rw [HG.out]; omega, (World.ownsRow.lt Ho.out G rfl).2⟩, hw, hfr⟩
      · rw [← hpl]; rfl
      · rw [← hpl]; exact Ho.out

end Go.Proofs.Ytclfbdfgmeliaaa
