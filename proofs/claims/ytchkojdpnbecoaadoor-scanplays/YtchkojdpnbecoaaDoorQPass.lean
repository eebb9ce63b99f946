/-
  The program's scanner goes behind so many bytes.
-/
import Derived.Test.YtchkojdpnbecoaaDoorQScan
import Derived.Lib.ConvBytes
namespace Go.Proofs.YtchkojdpnbecoaaDoor
open Go.RowKit

/-- A string as bytes of a block of its own. -/
theorem str_bytesQ (s : ByteArray) (w : World) : ∃ cap w', (convert 9 22 (.string s)).run Tryd.prog w = .ok (.slice (some ⟨w.heap.size, 0, none⟩) s.size cap) w' ∧ (∀ j, j < s.size → w'.cell? ⟨w.heap.size, j, none⟩ = some (.int .u8 (chAt s j : Int))) ∧ Fr w w' (fun _ => False) := by
  refine ⟨_, _, Lib.run_convert_string_bytes w 9 22 5 s Tryd.underlying9 Tryd.underlying22 Tryd.underlying5, fun j hj => ?_, ?_⟩
  · rw [Lib.bytesWorld_cell w 5 s j hj, chAt_data, List.getD_eq_getElem?_getD]
  · refine ⟨rfl, rfl, rfl, ?_, fun k hk _ => Lib.bytesWorld_at_old w 5 s k hk⟩
    rw [Lib.bytesWorld_size]
    omega

set_option maxRecDepth 4000 in
set_option maxHeartbeats 1600000 in
theorem scanPass_any (p n : Nat) (s : ByteArray) (c : Sc) (w : World) (h : LSc w p s c) (hok : ScOk s c) (hn : c.pos + n ≤ s.size) (hs : s.size ≤ 1000000000) : Calls Tryd.prog 26 #[.pointer (some ⟨p, 0, none⟩), .int .i64 (n : Int)] w fun r w' => r = .returned (.tuple #[]) ∧ LSc w' p s (scMove s c n) ∧ Fr w w' (fun k => k = p) := by
  obtain ⟨L, hL⟩ : ∃ L, L = scLeft s c.pos := ⟨_, rfl⟩
  have HL : Hid (L = scLeft s c.pos) := hL
  have hLs : L.size = s.size - c.pos := by rw [hL, left_size]
  have hnL : n ≤ L.size := by omega
  have h' : w.heap[p]? = some (.cells #[.string L, .int .i64 (c.line : Int), .int .i64 (c.col : Int), .int .i64 (c.err : Int)] 56 (0, 0)) := by rw [hL]; exact h
  have H : Hid _ := h'
  have Hok : Hid (ScOk s c) := hok
  obtain ⟨X, hX⟩ : ∃ X, X = L.extract 0 n := ⟨_, rfl⟩
  have hXs : X.size = n := by rw [hX]; exact extract_size L n hnL
  have HX : Hid (∀ j, j < n → chAt X j = chAt s (c.pos + j)) := by
    show ∀ j, _
    intro j hj
    rw [hX, chAt_extract L n j hj, hL, chAt_left]
  obtain ⟨cap, w1, hcv, hce, hfc⟩ := str_bytesQ X w
  rw [hXs] at hcv hce
  obtain ⟨k0, k1, k2, k3⟩ := four_cells h'
  have Hp : Hid (p < w.heap.size) := lt_of_block h'
  obtain ⟨q, hq⟩ : ∃ x, x = w.heap.size := ⟨_, rfl⟩
  rw [← hq] at hcv hce
  have Hce : Hid _ := hce
  have Hfc : Hid (Fr w w1 (fun _ => False)) := hfc
  have Hpq : Hid (p ≠ q) := by show _ ≠ _; have := Hp.out; omega
  have HLe : Hid (L.extract n L.size = scLeft s (c.pos + n)) := by show _ = _; rw [hL]; exact left_left s c.pos n
  have hni : (0 : Int) ≤ (n : Int) := by omega
  have hni2 : (n : Int) ≤ (L.size : Int) := by omega
  clear hL h h' hok hXs hce hfc hq hLs
  go_enter Tryd.func26, Tryd.ntmps26
  rw [hX] at hcv
  go_wp2_with fail
  go_loopg [5, 14] n (fun g B I wr => ∃ (i : Nat) (d : Sc), g = n - i ∧ i ≤ n ∧ I = .int .i64 (i : Int) ∧ d.pos = c.pos + i ∧ ScOk s d ∧ d.err = c.err ∧ wr.heap[p]? = some (.cells #[.string L, .int .i64 (d.line : Int), .int .i64 (d.col : Int), .int .i64 (c.err : Int)] 56 (0, 0)) ∧ (∀ j, j < n → wr.cell? ⟨q, j, none⟩ = some (.int .u8 (chAt X j : Int))) ∧ scMove s d (n - i) = scMove s c n ∧ Fr w wr (fun k => k = p))
  case atStart => exact ⟨0, c, rfl, Nat.zero_le _, rfl, rfl, Hok.out, rfl, Hfc.out.kept H.out (fun h => h), Hce.out, rfl, Hfc.out.mono (fun _ _ h => h.elim)⟩
  case round =>
    obtain ⟨i, d, hg, hi, rfl, hdp, hdo, hde, hr, hb, hst, hf⟩ := hrel
    have Hg : Hid _ := hg
    have Hdo : Hid (ScOk s d) := hdo
    have Hde : Hid (d.err = c.err) := hde
    have Hr : Hid _ := hr
    have Hb : Hid _ := hb
    have Hst : Hid _ := hst
    have Hf : Hid (Fr w wr (fun k => k = p)) := hf
    have Hdp : Hid _ := hdp
    have hd2 : d.line ≤ 1000000000 + 1 ∧ d.col ≤ 1000000000 + 1 := by unfold ScOk at hdo; omega
    obtain ⟨k0, k1, k2, k3⟩ := four_cells hr
    have fz := fun j => four_free hr j
    clear hg hr hb hst hf hdp hdo hde
    by_cases hlt : i < n
    · have hin : (i : Int) < (n : Int) := by omega
      have hin' : decide (i < n) = true := decide_eq_true hlt
      have hbi := Hb.out i hlt
      have Hst2 : Hid (scMove s (scStep s d) (n - (i + 1)) = scMove s c n) := by
        show _ = _
        rw [← Hst.out]
        obtain ⟨m, hm⟩ : ∃ m, n - i = m + 1 := ⟨n - (i + 1), by omega⟩
        rw [hm, show n - (i + 1) = m by omega]
        rfl
      have Hso : Hid (ScOk s (scStep s d)) := by
        have h1 := Hdo.out
        have h2 := Hdp.out
        show ScOk _ _
        unfold ScOk at h1 ⊢
        unfold scStep
        split <;> dsimp only <;> omega
      have Hdp2 : Hid ((scStep s d).pos = c.pos + (i + 1)) := by show _ = _; rw [scStep_pos, Hdp.out]; omega
      have Hse : Hid ((scStep s d).err = c.err) := by show _ = _; unfold scStep; split <;> exact Hde.out
      have Hch : Hid (chAt s d.pos = chAt X i) := by show _ = _; rw [HX.out i hlt, Hdp.out]
      generalize chAt X i = b at hbi Hch
      by_cases h10 : b = 10
      · have Hstep : Hid (scStep s d = { d with pos := d.pos + 1, line := d.line + 1, col := 1 }) := by show _ = _; unfold scStep; rw [if_pos (by rw [Hch.out]; exact h10)]
        subst h10
        have Hfin : Hid (((wr.setCell ⟨p, 1, none⟩ (.int .i64 ((d.line : Int) + 1))).setCell ⟨p, 2, none⟩ (.int .i64 1)).heap[p]? = some (.cells #[.string L, .int .i64 ((d.line + 1 : Nat) : Int), .int .i64 ((1 : Nat) : Int), .int .i64 (c.err : Int)] 56 (0, 0))) := four_setC (four_setB Hr.out)
        have Hff : Hid (Fr wr ((wr.setCell ⟨p, 1, none⟩ (.int .i64 ((d.line : Int) + 1))).setCell ⟨p, 2, none⟩ (.int .i64 1)) (fun k => k = p)) := (fr_put _ _ _ _).trans (fr_put _ _ _ _) (fun _ _ h => h)
        have z1 := (four_cells (four_setB Hr.out (u := .int .i64 ((d.line : Int) + 1)))).2.2.1
        have z2 := fun j => four_free (four_setB Hr.out (u := .int .i64 ((d.line : Int) + 1))) j
        have Hbf : Hid (∀ j, j < n → ((wr.setCell ⟨p, 1, none⟩ (.int .i64 ((d.line : Int) + 1))).setCell ⟨p, 2, none⟩ (.int .i64 1)).cell? ⟨q, j, none⟩ = some (.int .u8 (chAt X j : Int))) := by
          show ∀ j, _
          intro j hj
          have h1 := Hb.out j hj
          rw [World.cell?_of_block (w := wr) (Hff.out.block _ (World.block_lt_of_cell? _ _ h1) (fun e => Hpq.out e.symm))]
          exact h1
        go_wp2_with fail
        go_roundg (n - (i + 1))
        case rel => exact ⟨i + 1, scStep s d, rfl, by omega, by go_num, Hdp2.out, Hso.out, Hse.out, by rw [Hstep.out]; exact Hfin.out, Hbf.out, Hst2.out, Hf.out.trans Hff.out (fun _ _ h => h)⟩
        case measure => rw [Hg.out]; omega
      · have hb1 : ((b : Int) == 10) = false := by rw [beq_eq_false_iff_ne]; omega
        have hb2 : (b == 10) = false := by rw [beq_eq_false_iff_ne]; exact h10
        have Hstep : Hid (scStep s d = { d with pos := d.pos + 1, col := d.col + 1 }) := by show _ = _; unfold scStep; rw [if_neg (by rw [Hch.out]; exact h10)]
        have Hfin : Hid ((wr.setCell ⟨p, 2, none⟩ (.int .i64 ((d.col : Int) + 1))).heap[p]? = some (.cells #[.string L, .int .i64 (d.line : Int), .int .i64 ((d.col + 1 : Nat) : Int), .int .i64 (c.err : Int)] 56 (0, 0))) := four_setC Hr.out
        have Hff : Hid (Fr wr (wr.setCell ⟨p, 2, none⟩ (.int .i64 ((d.col : Int) + 1))) (fun k => k = p)) := fr_put _ _ _ _
        have Hbf : Hid (∀ j, j < n → (wr.setCell ⟨p, 2, none⟩ (.int .i64 ((d.col : Int) + 1))).cell? ⟨q, j, none⟩ = some (.int .u8 (chAt X j : Int))) := by
          show ∀ j, _
          intro j hj
          have h1 := Hb.out j hj
          rw [World.cell?_of_block (w := wr) (Hff.out.block _ (World.block_lt_of_cell? _ _ h1) (fun e => Hpq.out e.symm))]
          exact h1
        go_wp2_with fail
        go_roundg (n - (i + 1))
        case rel => exact ⟨i + 1, scStep s d, rfl, by omega, by go_num, Hdp2.out, Hso.out, Hse.out, by rw [Hstep.out]; exact Hfin.out, Hbf.out, Hst2.out, Hf.out.trans Hff.out (fun _ _ h => h)⟩
        case measure => rw [Hg.out]; omega
    · have hin : ¬ (i : Int) < (n : Int) := by omega
      have hin' : decide (i < n) = false := decide_eq_false hlt
      have Hend : Hid (d = scMove s c n) := by
        show _ = _
        rw [← Hst.out, show n - i = 0 by omega]
        rfl
      have Hle : Hid (scLeft s (scMove s c n).pos = L.extract n L.size) := by show _ = _; rw [scMove_pos, HLe.out]
      have Hfin : Hid (LSc (wr.setCell ⟨p, 0, none⟩ (.string (L.extract n L.size))) p s (scMove s c n)) := by
        show _ = _
        have h1 := four_setA Hr.out (u := .string (L.extract n L.size))
        rw [← Hend.out]
        rw [Hle.out.symm, ← Hend.out] at h1
        rw [Hde.out, Hle.out.symm, ← Hend.out]
        exact h1
      have Hff : Hid (Fr w (wr.setCell ⟨p, 0, none⟩ (.string (L.extract n L.size))) (fun k => k = p)) := Hf.out.trans (fr_put _ _ _ _) (fun _ _ h => h)
      go_wp2_with fail
      go_end0
      exact ⟨rfl, Hfin.out, Hff.out⟩

end Go.Proofs.YtchkojdpnbecoaaDoor
