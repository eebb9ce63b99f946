/-
  The program's scanner at a block; its smaller calls.
-/
import Derived.Test.YtchkojdpnbecoaaDoorQText
import Derived.Test.YtchkojdpnbecoaaDoorFour
import Derived.Test.YtchkojdpnbecoaaDoorESkip
import Derived.Laws.Rows
namespace Go.Proofs.YtchkojdpnbecoaaDoor
open Go.RowKit

theorem results_cell1s {fn : Func} {p : Tmp} {ty : TypeId} (h : fn.results = #[.cell p ty]) {tmps : Array Value} {P : Program} {w : World} {b o : Nat} {v : Value} (hp : tmps.getD p undef = .pointer (some ⟨b, o, none⟩)) (hl : (loadVar ty ⟨b, o, none⟩).run P w = .ok v w) :
    (results fn tmps).run P w = .ok v w := by
  have hp' : tmps[p]?.getD undef = .pointer (some ⟨b, o, none⟩) := by rw [← hp]; simp
  simp [results, h, asAddr, hp', hl]
theorem placeSizeQ : (Tryd.prog.info? 45).map (·.size) = some 2 := by kernel_rfl
/-- The program's scanner at a block: the text from the place on, the place, the error. -/
def LSc (w : World) (p : Nat) (s : ByteArray) (c : Sc) : Prop := w.heap[p]? = some (.cells #[.string (scLeft s c.pos), .int .i64 (c.line : Int), .int .i64 (c.col : Int), .int .i64 (c.err : Int)] 56 (0, 0))
theorem four_cells {w : World} {x0 x1 x2 x3 : Value} {T : TypeId} {p : Nat} (h : w.heap[p]? = some (.cells #[x0, x1, x2, x3] T (0, 0))) : w.cell? ⟨p, 0, none⟩ = some x0 ∧ w.cell? ⟨p, 1, none⟩ = some x1 ∧ w.cell? ⟨p, 2, none⟩ = some x2 ∧ w.cell? ⟨p, 3, none⟩ = some x3 := by
  refine ⟨?_, ?_, ?_, ?_⟩ <;> simp [World.cell?, h]
theorem four_free {w : World} {x0 x1 x2 x3 : Value} {T : TypeId} {p : Nat} (h : w.heap[p]? = some (.cells #[x0, x1, x2, x3] T (0, 0))) (j : Nat) : w.frozen? ⟨p, j, none⟩ = false := by simp [World.frozen?, h]

set_option maxRecDepth 4000 in
set_option maxHeartbeats 400000 in
theorem scanNew_any (s : ByteArray) (w : World) : Calls Tryd.prog 10 #[.string s] w fun r w' => ∃ p, r = .returned (.pointer (some ⟨p, 0, none⟩)) ∧ w.heap.size ≤ p ∧ LSc w' p s ⟨0, 1, 1, 0⟩ ∧ Fr w w' (fun _ => False) := by
  obtain ⟨S, hS⟩ : ∃ S, S = s := ⟨_, rfl⟩
  have HS : Hid (scLeft s 0 = S) := by show _ = _; rw [left_zero, hS]
  rw [← hS]
  clear hS
  go_enter Tryd.func10, Tryd.ntmps10
  go_wp2_with fail
  go_ret
  refine ⟨w.heap.size, rfl, Nat.le_refl _, ?_, ?_⟩
  · show _ = _
    rw [show scLeft S (⟨0, 1, 1, 0⟩ : Sc).pos = S from left_zero S]
    exact heap_alloc_new w _
  · exact (Fr.refl w _).alloc _

set_option maxRecDepth 4000 in
set_option maxHeartbeats 400000 in
theorem scanFail_any (p e : Nat) (s : ByteArray) (c : Sc) (w : World) (h : LSc w p s c) : Calls Tryd.prog 20 #[.pointer (some ⟨p, 0, none⟩), .int .i64 (e : Int)] w fun r w' => r = .returned (.tuple #[]) ∧ LSc w' p s (scFail c e) ∧ Fr w w' (fun k => k = p) := by
  obtain ⟨C, hC⟩ : ∃ C, C = scFail c e := ⟨_, rfl⟩
  rw [← hC]
  have HC : Hid _ := hC
  have H : Hid (LSc w p s c) := h
  obtain ⟨k0, k1, k2, k3⟩ := four_cells h
  have f3 := four_free h 3
  clear hC h
  by_cases h0 : c.err = 0
  · have HC2 : Hid (C = { c with err := e }) := by show _ = _; rw [HC.out]; exact if_pos h0
    rw [h0] at k3
    have e0 : ((0 : Nat) : Int) = 0 := rfl
    rw [e0] at k3
    obtain rfl := HC2.out
    have HR : Hid (LSc (w.setCell ⟨p, 3, none⟩ (.int .i64 (e : Int))) p s { c with err := e }) := four_setD H.out
    clear HC HC2 h0
    go_enter Tryd.func20, Tryd.ntmps20
    go_wp2
    go_end0
    exact ⟨rfl, HR.out, fr_put _ _ _ _⟩
  · have HC2 : Hid (C = c) := by show _ = _; rw [HC.out]; exact if_neg h0
    have hb : ((c.err : Int) == 0) = false := by rw [beq_eq_false_iff_ne]; omega
    have hb' : (c.err == 0) = false := by rw [beq_eq_false_iff_ne]; exact h0
    obtain rfl := HC2.out
    clear HC HC2
    go_enter Tryd.func20, Tryd.ntmps20
    go_wp2
    go_end0
    exact ⟨rfl, H.out, Fr.refl _ _⟩

set_option maxRecDepth 4000 in
set_option maxHeartbeats 400000 in
theorem scanErr_any (p : Nat) (s : ByteArray) (c : Sc) (w : World) (h : LSc w p s c) : Calls Tryd.prog 22 #[.pointer (some ⟨p, 0, none⟩)] w fun r w' => r = .returned (.int .i64 (c.err : Int)) ∧ Fr w w' (fun _ => False) := by
  obtain ⟨k0, k1, k2, k3⟩ := four_cells h
  clear h
  go_enter Tryd.func22, Tryd.ntmps22
  go_wp2_with fail
  go_ret
  exact ⟨rfl, Fr.refl _ _⟩

set_option maxRecDepth 4000 in
set_option maxHeartbeats 400000 in
theorem scanPlace_any (p : Nat) (s : ByteArray) (c : Sc) (w : World) (h : LSc w p s c) : Calls Tryd.prog 23 #[.pointer (some ⟨p, 0, none⟩)] w fun r w' => r = .returned (placeV c) ∧ Fr w w' (fun _ => False) := by
  have H : Hid (LSc (w.alloc (.cells #[.int .i64 0, .int .i64 0] 45)) p s c) := ((Fr.refl w (fun _ => False)).alloc _).kept h (fun h => h)
  obtain ⟨k0, k1, k2, k3⟩ := four_cells H.out
  obtain ⟨w1, hw1⟩ : ∃ x, x = w.alloc (.cells #[.int .i64 0, .int .i64 0] 45) := ⟨_, rfl⟩
  obtain ⟨q, hq⟩ : ∃ x, x = w.heap.size := ⟨_, rfl⟩
  have Hq : Hid (w1.heap[q]? = some (.cells #[.int .i64 0, .int .i64 0] 45 (0, 0))) := by show _ = _; rw [hw1, hq]; exact heap_alloc_new w _
  have Hfr : Hid (Fr w w1 (fun _ => False)) := by show Fr _ _ _; rw [hw1]; exact (Fr.refl w _).alloc _
  have Hnew : Hid (w.heap.size ≤ q) := by show _ ≤ _; rw [hq]; exact Nat.le_refl _
  rw [← hw1] at k0 k1 k2 k3
  have q0 : w1.cell? ⟨q, 0, none⟩ = some (.int .i64 0) := by rw [World.cell?, Hq.out]; rfl
  have q1 : ∀ u, (w1.setCell ⟨q, 0, none⟩ u).cell? ⟨q, 1, none⟩ = some (.int .i64 0) := fun u => by
    have := heap_setCell_same w1 q 0 #[.int .i64 0, .int .i64 0] 45 u Hq.out
    rw [World.cell?, this]; rfl
  have f0 : ∀ j, w1.frozen? ⟨q, j, none⟩ = false := fun j => by simp [World.frozen?, Hq.out]
  have f1 : ∀ u j, (w1.setCell ⟨q, 0, none⟩ u).frozen? ⟨q, j, none⟩ = false := fun u j => by
    have := heap_setCell_same w1 q 0 #[.int .i64 0, .int .i64 0] 45 u Hq.out
    simp [World.frozen?, this]
  have Hrow : Hid (((w1.setCell ⟨q, 0, none⟩ (.int .i64 (c.line : Int))).setCell ⟨q, 1, none⟩ (.int .i64 (c.col : Int))).heap[q]? = some (.cells #[.int .i64 (c.line : Int), .int .i64 (c.col : Int)] 45 (0, 0))) := by
    show _ = _
    have h1 := heap_setCell_same w1 q 0 #[.int .i64 0, .int .i64 0] 45 (.int .i64 (c.line : Int)) Hq.out
    have h2 := heap_setCell_same _ q 1 #[.int .i64 (c.line : Int), .int .i64 0] 45 (.int .i64 (c.col : Int)) (by simpa using h1)
    simpa using h2
  have Hfe : Hid (Fr w ((w1.setCell ⟨q, 0, none⟩ (.int .i64 (c.line : Int))).setCell ⟨q, 1, none⟩ (.int .i64 (c.col : Int))) (fun _ => False)) := (Hfr.out.setCell ⟨q, 0, none⟩ (fun h => by have := Hnew.out; simp at h; omega) _).setCell ⟨q, 1, none⟩ (fun h => by have := Hnew.out; simp at h; omega) _
  clear h
  go_enter Tryd.func23, Tryd.ntmps23
  go_upto_region 1 with fail
  rw [← hw1, ← hq]
  clear hw1 hq
  go_wp2_with fail
  refine bodyPost_ret (results_cell1s rfl rfl (run_loadVar_row _ _ 45 _ _ (0, 0) _ Hrow.out Tryd.underlying45 rfl placeSizeQ)) rfl ?_
  exact ⟨rfl, Hfe.out⟩

set_option maxRecDepth 4000 in
set_option maxHeartbeats 800000 in
theorem scanNext_any (p : Nat) (s : ByteArray) (c : Sc) (w : World) (h : LSc w p s c) : Calls Tryd.prog 16 #[.pointer (some ⟨p, 0, none⟩)] w fun r w' => r = .returned (.tuple #[.int .u8 ((scNext s c).1 : Int), .bool (scNext s c).2]) ∧ Fr w w' (fun _ => False) := by
  obtain ⟨⟨B, O⟩, hR⟩ : ∃ R, R = scNext s c := ⟨_, rfl⟩
  rw [← hR]
  have HR : Hid _ := hR
  have H : Hid (LSc w p s c) := h
  obtain ⟨L, hL⟩ : ∃ L, L = scLeft s c.pos := ⟨_, rfl⟩
  have HL : Hid (L = scLeft s c.pos) := hL
  obtain ⟨k0, k1, k2, k3⟩ := four_cells h
  rw [← hL] at k0
  clear hR h hL
  by_cases he : c.err = 0
  · have hb : ((c.err : Int) == 0) = true := by rw [beq_iff_eq]; omega
    have hb' : (c.err == 0) = true := by rw [beq_iff_eq]; exact he
    have hn : ((c.err : Int) != 0) = false := by rw [bne, hb]; rfl
    by_cases hlt : c.pos < s.size
    · have hLs : 0 < L.size := by rw [HL.out, left_size]; omega
      have hne : L ≠ ⟨#[]⟩ := fun e => by rw [e] at hLs; exact absurd hLs (by decide)
      have hemp : L.toList.isEmpty = false := by
        rw [← decide_eq_emptyBytes]
        exact decide_eq_false hne
      have HR2 : Hid ((B, O) = (chAt s c.pos, true)) := by show _ = _; rw [HR.out]; exact if_pos ⟨he, hlt⟩
      have hidx : ∀ z, (Instr.index 9 (.string L) (.int .i64 0)).run Tryd.prog z = .ok (.int .u8 (chAt s c.pos : Int)) z := fun z => by
        have := index_any L 0 hLs z
        rw [HL.out, chAt_left, Nat.add_zero, ← HL.out] at this
        exact this
      generalize chAt s c.pos = b at hidx HR2
      go_enter Tryd.func16, Tryd.ntmps16
      go_wp2_with fail
      go_ret2
      cases HR2.out
      exact ⟨rfl, Fr.refl _ _⟩
    · have hemp : L.toList.isEmpty = true := by
        rw [← decide_eq_emptyBytes]
        refine decide_eq_true (bytes_ext ?_)
        rw [HL.out, left_list, List.drop_of_length_le (by rw [← Lib.size_eq]; omega)]; rfl
      have HR2 : Hid ((B, O) = (0, false)) := by show _ = _; rw [HR.out]; exact if_neg (fun h => hlt h.2)
      go_enter Tryd.func16, Tryd.ntmps16
      go_wp2_with fail
      go_ret2
      cases HR2.out
      exact ⟨rfl, Fr.refl _ _⟩
  · have hb : ((c.err : Int) == 0) = false := by rw [beq_eq_false_iff_ne]; omega
    have hb' : (c.err == 0) = false := by rw [beq_eq_false_iff_ne]; exact he
    have hn : ((c.err : Int) != 0) = true := by rw [bne, hb]; rfl
    have HR2 : Hid ((B, O) = (0, false)) := by show _ = _; rw [HR.out]; exact if_neg (fun h => he h.1)
    go_enter Tryd.func16, Tryd.ntmps16
    go_wp2_with fail
    go_ret2
    cases HR2.out
    exact ⟨rfl, Fr.refl _ _⟩

end Go.Proofs.YtchkojdpnbecoaaDoor
