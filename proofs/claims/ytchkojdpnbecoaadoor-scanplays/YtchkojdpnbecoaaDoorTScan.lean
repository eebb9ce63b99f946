/-
  A scanner of a text: plain mathematics; the contracts of the reference's.
-/
import Derived.Test.YtchkojdpnbecoaaDoorRows
import Derived.Test.YtchkojdpnbecoaaDoorMem
import Derived.Test.YtchkojdpnbecoaaDoorTree
import Derived.Deep.CutRange
import Derived.Deep.LoopGhost
namespace Go.Proofs.YtchkojdpnbecoaaDoor
open Go.RowKit

/-- A scanner's state. -/
structure Sc where
  pos : Nat
  line : Nat
  col : Nat
  err : Nat
deriving DecidableEq
/-- A text's byte. -/
def chAt (s : ByteArray) (i : Nat) : Nat := (s[i]?.getD 0).toNat
def scFail (c : Sc) (e : Nat) : Sc := if c.err = 0 then { c with err := e } else c
def scStep (s : ByteArray) (c : Sc) : Sc := if chAt s c.pos = 10 then { c with pos := c.pos + 1, line := c.line + 1, col := 1 } else { c with pos := c.pos + 1, col := c.col + 1 }
def scMove (s : ByteArray) (c : Sc) : Nat → Sc
  | 0 => c
  | n + 1 => scMove s (scStep s c) n
theorem scStep_pos (s : ByteArray) (c : Sc) : (scStep s c).pos = c.pos + 1 := by unfold scStep; split <;> rfl
theorem scMove_pos (s : ByteArray) : ∀ (n : Nat) (c : Sc), (scMove s c n).pos = c.pos + n
  | 0, c => rfl
  | n + 1, c => by rw [scMove, scMove_pos s n, scStep_pos]; omega
/-- The numbers are no greater than a text's length lets them be. -/
def ScOk (s : ByteArray) (c : Sc) : Prop := c.pos ≤ s.size ∧ c.line ≤ c.pos + 1 ∧ c.col ≤ c.pos + 1

/-- The reference's scanner at a block. -/
def RSc (w : World) (p : Nat) (s : ByteArray) (c : Sc) : Prop := w.heap[p]? = some (.cells #[.string s, .int .i64 (c.pos : Int), .int .i64 (c.line : Int), .int .i64 (c.col : Int), .int .i64 (c.err : Int)] 47 (0, 0))
theorem five_cells {w : World} {x0 x1 x2 x3 x4 : Value} {T : TypeId} {p : Nat} (h : w.heap[p]? = some (.cells #[x0, x1, x2, x3, x4] T (0, 0))) : w.cell? ⟨p, 0, none⟩ = some x0 ∧ w.cell? ⟨p, 1, none⟩ = some x1 ∧ w.cell? ⟨p, 2, none⟩ = some x2 ∧ w.cell? ⟨p, 3, none⟩ = some x3 ∧ w.cell? ⟨p, 4, none⟩ = some x4 := by
  refine ⟨?_, ?_, ?_, ?_, ?_⟩ <;> simp [World.cell?, h]
theorem five_free {w : World} {x0 x1 x2 x3 x4 : Value} {T : TypeId} {p : Nat} (h : w.heap[p]? = some (.cells #[x0, x1, x2, x3, x4] T (0, 0))) (j : Nat) : w.frozen? ⟨p, j, none⟩ = false := by simp [World.frozen?, h]
theorem fr_put (w : World) (b o : Nat) (v : Value) : Fr w (w.setCell ⟨b, o, none⟩ v) (fun k => k = b) := (Fr.refl w (fun k => k = b)).setCell _ (fun _ => rfl) _
theorem five_put4 {w : World} {x0 x1 x2 x3 x4 : Value} {T : TypeId} {p : Nat} (h : w.heap[p]? = some (.cells #[x0, x1, x2, x3, x4] T (0, 0))) (u : Value) : (w.setCell ⟨p, 4, none⟩ u).heap[p]? = some (.cells #[x0, x1, x2, x3, u] T (0, 0)) := by
  have := heap_setCell_same w p 4 #[x0, x1, x2, x3, x4] T u h
  simpa using this
theorem five_put3 {w : World} {x0 x1 x2 x3 x4 : Value} {T : TypeId} {p : Nat} (h : w.heap[p]? = some (.cells #[x0, x1, x2, x3, x4] T (0, 0))) (u : Value) : (w.setCell ⟨p, 3, none⟩ u).heap[p]? = some (.cells #[x0, x1, x2, u, x4] T (0, 0)) := by
  have := heap_setCell_same w p 3 #[x0, x1, x2, x3, x4] T u h
  simpa using this
theorem five_put2 {w : World} {x0 x1 x2 x3 x4 : Value} {T : TypeId} {p : Nat} (h : w.heap[p]? = some (.cells #[x0, x1, x2, x3, x4] T (0, 0))) (u : Value) : (w.setCell ⟨p, 2, none⟩ u).heap[p]? = some (.cells #[x0, x1, u, x3, x4] T (0, 0)) := by
  have := heap_setCell_same w p 2 #[x0, x1, x2, x3, x4] T u h
  simpa using this
theorem five_put1 {w : World} {x0 x1 x2 x3 x4 : Value} {T : TypeId} {p : Nat} (h : w.heap[p]? = some (.cells #[x0, x1, x2, x3, x4] T (0, 0))) (u : Value) : (w.setCell ⟨p, 1, none⟩ u).heap[p]? = some (.cells #[x0, u, x2, x3, x4] T (0, 0)) := by
  have := heap_setCell_same w p 1 #[x0, x1, x2, x3, x4] T u h
  simpa using this

set_option maxRecDepth 4000 in
set_option maxHeartbeats 400000 in
theorem refFail_any (p e : Nat) (s : ByteArray) (c : Sc) (w : World) (h : RSc w p s c) : Calls Tryd.prog 21 #[.pointer (some ⟨p, 0, none⟩), .int .i64 (e : Int)] w fun r w' => r = .returned (.tuple #[]) ∧ RSc w' p s (scFail c e) ∧ Fr w w' (fun k => k = p) := by
  obtain ⟨C, hC⟩ : ∃ C, C = scFail c e := ⟨_, rfl⟩
  rw [← hC]
  have HC : Hid _ := hC
  have H : Hid (RSc w p s c) := h
  obtain ⟨k0, k1, k2, k3, k4⟩ := five_cells h
  have f4 := five_free h 4
  clear hC h
  by_cases h0 : c.err = 0
  · have HC2 : Hid (C = { c with err := e }) := by show _ = _; rw [HC.out]; exact if_pos h0
    rw [h0] at k4
    have e0 : ((0 : Nat) : Int) = 0 := rfl
    rw [e0] at k4
    obtain rfl := HC2.out
    have HR : Hid (RSc (w.setCell ⟨p, 4, none⟩ (.int .i64 (e : Int))) p s { c with err := e }) := five_put4 H.out _
    clear HC HC2 h0
    go_enter Tryd.func21, Tryd.ntmps21
    go_wp2
    go_end0
    exact ⟨rfl, HR.out, fr_put _ _ _ _⟩
  · have HC2 : Hid (C = c) := by show _ = _; rw [HC.out]; exact if_neg h0
    have hb : ((c.err : Int) == 0) = false := by rw [beq_eq_false_iff_ne]; omega
    have hb' : (c.err == 0) = false := by rw [beq_eq_false_iff_ne]; exact h0
    obtain rfl := HC2.out
    clear HC HC2
    go_enter Tryd.func21, Tryd.ntmps21
    go_wp2
    go_end0
    exact ⟨rfl, H.out, Fr.refl _ _⟩

/-- A text's byte, by the program. -/
theorem index_any (s : ByteArray) (i : Nat) (h : i < s.size) (w : World) : (Instr.index 9 (.string s) (.int .i64 (i : Int))).run Tryd.prog w = .ok (.int .u8 (chAt s i : Int)) w := by
  rw [run_index_string w 9 s .i64 (i : Int) Tryd.underlying9, dif_pos ⟨by omega, by omega⟩]
  have e : (s[((i : Int)).toNat]'(by omega)).toNat = chAt s i := by
    unfold chAt
    simp only [Int.toNat_natCast]
    rw [ByteArray.getElem?_lt' s i h]
    rfl
  rw [e]

set_option maxRecDepth 4000 in
set_option maxHeartbeats 1600000 in
theorem refMove_any (p n : Nat) (s : ByteArray) (c : Sc) (w : World) (h : RSc w p s c) (hok : ScOk s c) (hn : c.pos + n ≤ s.size) (hs : s.size ≤ 1000000000) : Calls Tryd.prog 28 #[.pointer (some ⟨p, 0, none⟩), .int .i64 (n : Int)] w fun r w' => r = .returned (.tuple #[]) ∧ RSc w' p s (scMove s c n) ∧ Fr w w' (fun k => k = p) := by
  have H : Hid (RSc w p s c) := h
  have Hok : Hid (ScOk s c) := hok
  clear h hok
  go_enter Tryd.func28, Tryd.ntmps28
  go_wp2_with fail
  go_loopg [4] n (fun g I wr => ∃ (i : Nat) (d : Sc), g = n - i ∧ i ≤ n ∧ I = .int .i64 (i : Int) ∧ d.pos = c.pos + i ∧ ScOk s d ∧ RSc wr p s d ∧ scMove s d (n - i) = scMove s c n ∧ Fr w wr (fun k => k = p))
  case atStart => exact ⟨0, c, by omega, by omega, rfl, rfl, Hok.out, H.out, rfl, Fr.refl _ _⟩
  case round =>
    obtain ⟨i, d, hg, hi, rfl, hdp, hdo, hr, hst, hf⟩ := hrel
    have Hg : Hid _ := hg
    have Hdo : Hid (ScOk s d) := hdo
    have Hr : Hid (RSc wr p s d) := hr
    have Hst : Hid _ := hst
    have Hf : Hid (Fr w wr (fun k => k = p)) := hf
    have Hdp : Hid _ := hdp
    have hd1 : d.pos < s.size ∨ ¬ i < n := by omega
    have hd2 : d.line ≤ 1000000000 + 1 ∧ d.col ≤ 1000000000 + 1 ∧ d.pos ≤ 1000000000 := by unfold ScOk at hdo; omega
    clear hg hr hst hf hdp hdo
    by_cases hlt : i < n
    · have hin : (i : Int) < (n : Int) := by omega
      have hin' : decide (i < n) = true := decide_eq_true hlt
      obtain ⟨b, hb⟩ : ∃ b, b = chAt s d.pos := ⟨_, rfl⟩
      have Hb : Hid _ := hb
      have hidx : ∀ z, (Instr.index 9 (.string s) (.int .i64 (d.pos : Int))).run Tryd.prog z = .ok (.int .u8 (b : Int)) z := fun z => by rw [hb]; exact index_any s d.pos (by omega) z
      clear hb
      have k0 : ∀ z, Fr wr.drew z (fun _ => False) → z.cell? ⟨p, 0, none⟩ = some (.string s) := fun z hz => (five_cells ((Fr.refl wr (fun _ => False)).drew.none hz |>.kept Hr.out (fun h => h))).1
      have k1 : ∀ z, Fr wr.drew z (fun _ => False) → z.cell? ⟨p, 1, none⟩ = some (.int .i64 (d.pos : Int)) := fun z hz => (five_cells ((Fr.refl wr (fun _ => False)).drew.none hz |>.kept Hr.out (fun h => h))).2.1
      go_upto_region 3 with fail
      refine wp_region_tree (fun _ => False) (.take 0 (.take 1 (.take 2 (.take 3 (.take 4 (.take 5 (.take 6 (.take 7 (.take 8 (.take 9 .nil)))))))))) (by kernel_rfl) (by kernel_rfl) (by decide) (by kernel_rfl) ?_
      iterate 9 (refine wpT_take (v := ?_) rfl rfl (fun x hx => ?_) ?_; rotate_left; (focus (go_simp; with_reducible rfl)); simp only [Act.put, List.setIfInBounds_toArray, List.set_cons_zero, List.set_cons_succ])
      have Hrd : Hid (RSc wr.drew p s d) := (Fr.refl wr (fun _ => False)).drew.kept Hr.out (fun h => h)
      have Hfd : Hid (Fr w wr.drew (fun k => k = p)) := Hf.out.drew
      have Hst2 : Hid (scMove s (scStep s d) (n - (i + 1)) = scMove s c n) := by
        show _ = _
        rw [← Hst.out]
        obtain ⟨m, hm⟩ : ∃ m, n - i = m + 1 := ⟨n - (i + 1), by omega⟩
        rw [hm, show n - (i + 1) = m by omega]
        rfl
      have Hso : Hid (ScOk s (scStep s d)) := by
        have h1 := Hdo.out
        have h2 := Hdp.out
        show ScOk _ _
        unfold ScOk at h1 ⊢
        unfold scStep
        split <;> dsimp only <;> omega
      have Hdp2 : Hid ((scStep s d).pos = c.pos + (i + 1)) := by show _ = _; rw [scStep_pos, Hdp.out]; omega
      by_cases h10 : b = 10
      · have Hstep : Hid (scStep s d = { d with pos := d.pos + 1, line := d.line + 1, col := 1 }) := by show _ = _; unfold scStep; rw [if_pos (by rw [← Hb.out]; exact h10)]
        subst h10
        (refine wpT_take (v := ?_) rfl rfl (fun x hx => ?_) ?_; rotate_left; (focus (go_simp; with_reducible rfl)); simp only [Act.put, List.setIfInBounds_toArray, List.set_cons_zero, List.set_cons_succ])
        unfold wpT
        clear k0 k1 hidx
        generalize wr.drew = wd at Hrd Hfd ⊢
        obtain ⟨k0, k1, k2, k3, k4⟩ := five_cells Hrd.out
        have fz := fun j => five_free Hrd.out j
        have Hfin : Hid (RSc (((wd.setCell ⟨p, 2, none⟩ (.int .i64 ((d.line : Int) + 1))).setCell ⟨p, 3, none⟩ (.int .i64 1)).setCell ⟨p, 1, none⟩ (.int .i64 ((d.pos : Int) + 1))) p s (scStep s d)) := by
          show RSc _ _ _ _
          rw [Hstep.out]
          exact five_put1 (five_put3 (five_put2 Hrd.out _) _) _
        have Hff : Hid (Fr w (((wd.setCell ⟨p, 2, none⟩ (.int .i64 ((d.line : Int) + 1))).setCell ⟨p, 3, none⟩ (.int .i64 1)).setCell ⟨p, 1, none⟩ (.int .i64 ((d.pos : Int) + 1))) (fun k => k = p)) := Hfd.out.trans (((fr_put _ _ _ _).trans (fr_put _ _ _ _) (fun _ _ h => h)).trans (fr_put _ _ _ _) (fun _ _ h => h)) (fun _ _ h => h)
        go_wp2_with fail
        go_roundg (n - (i + 1))
        case rel => exact ⟨i + 1, scStep s d, rfl, by omega, by go_num, Hdp2.out, Hso.out, Hfin.out, Hst2.out, Hff.out⟩
        case measure => rw [Hg.out]; omega
      · have hb1 : ((b : Int) == 10) = false := by rw [beq_eq_false_iff_ne]; omega
        have hb2 : (b == 10) = false := by rw [beq_eq_false_iff_ne]; exact h10
        have Hstep : Hid (scStep s d = { d with pos := d.pos + 1, col := d.col + 1 }) := by show _ = _; unfold scStep; rw [if_neg (by rw [← Hb.out]; exact h10)]
        (refine wpT_take (v := ?_) rfl rfl (fun x hx => ?_) ?_; rotate_left; (focus (go_simp; with_reducible rfl)); simp only [Act.put, List.setIfInBounds_toArray, List.set_cons_zero, List.set_cons_succ])
        unfold wpT
        clear k0 k1 hidx
        generalize wr.drew = wd at Hrd Hfd ⊢
        obtain ⟨k0, k1, k2, k3, k4⟩ := five_cells Hrd.out
        have fz := fun j => five_free Hrd.out j
        have Hfin : Hid (RSc ((wd.setCell ⟨p, 3, none⟩ (.int .i64 ((d.col : Int) + 1))).setCell ⟨p, 1, none⟩ (.int .i64 ((d.pos : Int) + 1))) p s (scStep s d)) := by
          show RSc _ _ _ _
          rw [Hstep.out]
          exact five_put1 (five_put3 Hrd.out _) _
        have Hff : Hid (Fr w ((wd.setCell ⟨p, 3, none⟩ (.int .i64 ((d.col : Int) + 1))).setCell ⟨p, 1, none⟩ (.int .i64 ((d.pos : Int) + 1))) (fun k => k = p)) := Hfd.out.trans ((fr_put _ _ _ _).trans (fr_put _ _ _ _) (fun _ _ h => h)) (fun _ _ h => h)
        go_wp2_with fail
        go_roundg (n - (i + 1))
        case rel => exact ⟨i + 1, scStep s d, rfl, by omega, by go_num, Hdp2.out, Hso.out, Hfin.out, Hst2.out, Hff.out⟩
        case measure => rw [Hg.out]; omega
    · have hin : ¬ (i : Int) < (n : Int) := by omega
      have hin' : decide (i < n) = false := decide_eq_false hlt
      have Hend : Hid (d = scMove s c n) := by
        show _ = _
        rw [← Hst.out, show n - i = 0 by omega]
        rfl
      have Hr2 : Hid (RSc wr p s (scMove s c n)) := by show RSc _ _ _ _; rw [← Hend.out]; exact Hr.out
      go_wp2_with fail
      go_end0
      exact ⟨rfl, Hr2.out, Hf.out⟩

end Go.Proofs.YtchkojdpnbecoaaDoor
