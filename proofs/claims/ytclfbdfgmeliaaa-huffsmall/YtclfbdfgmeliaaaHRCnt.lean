/-
  The contract of the reference's Counts.
-/
import Derived.Test.YtclfbdfgmeliaaaRCodes
import Derived.Test.YtclfbdfgmeliaaaHFacts
import Derived.Test.YtclfbdfgmeliaaaBytes
namespace Go.Proofs.Ytclfbdfgmeliaaa
open Go.RowKit

theorem count_step {bs : List Nat} {i : Nat} (h : i < bs.length) (s : Nat) : (bs.take (i + 1)).count s = (bs.take i).count s + if s = bs.getD i 0 then 1 else 0 := by
  rw [take_step h, List.count_append, List.count_singleton]
  congr 1
  by_cases e : s = bs.getD i 0
  · rw [if_pos e, if_pos (by simpa using e.symm)]
  · rw [if_neg e, if_neg (by simpa using fun h2 : bs.getD i 0 = s => e h2.symm)]
/-- A byte, in memory. -/
theorem Reads.at {k : IntKind} {w : World} {a : Option Addr} {n c : Nat} {bs : List Nat} (h : Reads k w (.slice a n c) bs) (hn : n = bs.length) (i : Nat) (hi : i < n) : ∃ b off, a = some ⟨b, off, none⟩ ∧ b < w.heap.size ∧ w.cell? ⟨b, off + i, none⟩ = some (.int k ((bs.getD i 0 : Nat) : Int)) := by
  obtain ⟨a', c', e, -, hc⟩ := h
  simp only [Value.slice.injEq] at e
  obtain ⟨b, off, e2, hcell⟩ := hc (by rw [length_row]; omega)
  have h1 := hcell i _ (row_get k bs i (by omega))
  exact ⟨b, off, by rw [e.1, e2], World.block_lt_of_cell? _ _ h1, h1⟩

set_option maxRecDepth 4000 in
set_option maxHeartbeats 800000 in
theorem refCounts_any (v : Value) (bs : List Nat) (w : World) (h : Reads .u8 w v bs) (hb : ∀ x ∈ bs, x < 256) (hl : bs.length ≤ 1000000000) :
    Calls Try.prog 14 #[v] w fun e w' => ∃ sv, e = .returned sv ∧ Reads .i64 w' sv (cntB bs) ∧ Fr w w' (fun _ => False) ∧ (∀ k, sv.ownBlock = some k → w.heap.size ≤ k) := by
  obtain ⟨a0, c0, rfl, hc0, -⟩ := id h
  rw [length_row] at h hc0 ⊢
  obtain ⟨n, hn⟩ : ∃ n, n = bs.length := ⟨_, rfl⟩
  rw [← hn] at h hl hc0 ⊢
  have Hr : Hid (Reads .u8 w (.slice a0 n c0) bs) := h
  have Hn : Hid _ := hn
  have Hb : Hid _ := hb
  clear h hn hb
  obtain ⟨i0, hi0, hz0, hz1, hz2⟩ := info_parts infoIntC
  go_enter Try.func14, Try.ntmps14
  go_wp2_with (at_make; refine wpList_make_full _ rfl _ _ 28 rfl 0 3 i0 (.int .i64 0) 1 Try.underlying28 hi0 hz0 hz1 _ _ _ _ 256 rfl rfl rfl rfl ?b1 ?b2 (Nat.zero_le _) ?_)
  case b1 => rw [hz2]; omega
  case b2 => unfold maxLen; omega
  intro wm hown hgrow
  rw [zeros_fnRow] at hown
  have hfm : Fr w wm (fun _ => False) := (Fr.refl w _).grown hgrow (fun k hk => by cases hk)
  obtain ⟨g, hg⟩ : ∃ g, g = w.heap.size := ⟨_, rfl⟩
  rw [← hg] at hown ⊢
  have Hgw : Hid (w.heap.size ≤ g) := by show _ ≤ _; omega
  have Hkeep : Hid (∀ x, Fr wm x (fun k => k = g) → Reads .u8 x (.slice a0 n c0) bs) := fun x hx => by
    have h1 : Reads .u8 wm (.slice a0 n c0) bs := Hr.out.keep hfm
    refine h1.frame' hx (fun h0 k hk e => ?_)
    obtain ⟨b, off, e2, hb2, -⟩ := Hr.out.at Hn.out 0 (by rw [Hn.out]; exact h0)
    rw [e2] at hk
    simp [Value.ownBlock] at hk
    omega
  have Hown : Hid (OwnC wm (.slice (some ⟨g, 0, none⟩) 256 256) (fnRow 256 (fun s => (bs.take 0).count s))) := by
    have e : fnRow 256 (fun s => (bs.take 0).count s) = fnRow 256 (fun _ => 0) := fnRow_congr 256 fun t _ => by simp
    rw [e]
    unfold OwnC
    rw [fnRow_length]
    exact hown
  have Hfm : Hid _ := hfm
  clear hgrow hfm hown hi0 hz0 hz1 hz2 hg
  go_wp2_with fail
  go_loopg [4] n (fun g' I wr => ∃ i : Nat, g' = n - i ∧ i ≤ n ∧ I = .int .i64 (i : Int) ∧ OwnC wr (.slice (some ⟨g, 0, none⟩) 256 256) (fnRow 256 (fun s => (bs.take i).count s)) ∧ Fr wm wr (fun k => k = g))
  case atStart => exact ⟨0, rfl, by omega, rfl, Hown.out, Fr.refl _ _⟩
  case round =>
    obtain ⟨i, hg', hi, rfl, ho, hf⟩ := hrel
    have Hg' : Hid _ := hg'
    have Ho : Hid (OwnC wr (.slice (some ⟨g, 0, none⟩) 256 256) (fnRow 256 (fun s => (bs.take i).count s))) := ho
    have Hf : Hid (Fr wm wr (fun k => k = g)) := hf
    clear hg' ho hf
    by_cases hlt : i < n
    · obtain ⟨bb, off, rfl, hbb, cx⟩ := (Hkeep.out _ Hf.out).at Hn.out i hlt
      obtain ⟨x, hx⟩ : ∃ x, x = bs.getD i 0 := ⟨_, rfl⟩
      have hx256 : x < 256 := by rw [hx]; exact Hb.out _ (getD_mem (by rw [← Hn.out]; exact hlt))
      have Hstep : Hid (∀ s, (bs.take (i + 1)).count s = (bs.take i).count s + if s = x then 1 else 0) := fun s => by rw [hx]; exact count_step (by rw [← Hn.out]; exact hlt) s
      rw [← hx] at cx
      clear hx hbb
      have hoc := Ho.out
      unfold OwnC at hoc
      rw [fnRow_length] at hoc
      have hfz := World.ownsRow.frozenAt hoc x
      have hce : wr.cell? ⟨g, x, none⟩ = some (.int .i64 (((bs.take i).count x : Nat) : Int)) := by
        rw [World.ownsRow.cellAt hoc x (by omega)]
        simp [row, fnRow, hx256]
      have hcb : (bs.take i).count x ≤ i := Nat.le_trans List.count_le_length (by rw [List.length_take]; omega)
      have Hset : Hid ((fnRow 256 (fun s => (bs.take i).count s)).set x ((bs.take i).count x + 1) = fnRow 256 (fun s => (bs.take (i + 1)).count s)) := fnRow_set 256 _ _ x _ (by rw [Hstep.out x, if_pos rfl]) (fun t ht => by rw [Hstep.out t, if_neg ht]; rfl)
      have Hst : Hid (OwnC (wr.setCell ⟨g, x, none⟩ (.int .i64 (((bs.take i).count x + 1 : Nat) : Int))) (.slice (some ⟨g, 0, none⟩) 256 256) (fnRow 256 (fun s => (bs.take (i + 1)).count s))) := by
        have := (World.ownsRow.stored hoc x (.int .i64 (((bs.take i).count x + 1 : Nat) : Int))).1
        unfold OwnC
        rw [fnRow_length, ← Hset.out, row_set]
        exact this
      have Hf2 : Hid (Fr wm (wr.setCell ⟨g, x, none⟩ (.int .i64 (((bs.take i).count x + 1 : Nat) : Int))) (fun k => k = g)) := Hf.out.setCell ⟨g, x, none⟩ (fun _ => rfl) _
      generalize (bs.take i).count x = c at hce hcb Hst Hf2
      have hcw : IntKind.i64.wrap ((c : Int) + 1) = ((c + 1 : Nat) : Int) := by rw [IntWalk.i64_in _ (by omega)]; omega
      have hi1 : (i : Int) < (n : Int) := by omega
      have hx1 : (x : Int) < 256 := by omega
      clear hoc Hset
      go_wp2_with fail
      go_roundg (n - (i + 1))
      case rel => exact ⟨i + 1, rfl, by omega, by go_num, Hst.out, Hf2.out⟩
      case measure => rw [Hg'.out]; omega
    · have hi1 : ¬ (i : Int) < (n : Int) := by omega
      have Hrow : Hid (fnRow 256 (fun s => (bs.take i).count s) = cntB bs) := by
        show _ = _
        rw [List.take_of_length_le (by rw [← Hn.out]; omega)]
        rfl
      have hfo := Hfm.out.newer Hf.out (fun k hk => by rw [hk]; exact Hgw.out)
      go_wp2_with fail
      go_ret
      refine ⟨_, rfl, ?_, hfo, fun k hk => by simp [Value.ownBlock] at hk; rw [← hk]; exact Hgw.out⟩
      rw [← Hrow.out]
      exact holds_own Ho.out

end Go.Proofs.Ytclfbdfgmeliaaa
