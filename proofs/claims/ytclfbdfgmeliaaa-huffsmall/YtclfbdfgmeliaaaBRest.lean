/-
  The contract of bits.copied: a new slice with the same bytes; at most 2 * 10^11 bytes.
-/
import Derived.Test.YtclfbdfgmeliaaaBPut
import Derived.Laws.CopyOwn
namespace Go.Proofs.Ytclfbdfgmeliaaa
open Go.RowKit
set_option maxRecDepth 4000

/-- A slice of bytes that can be read: bs. -/
def Rds (w : World) (v : Value) (bs : List Nat) : Prop :=
  ∃ ao cap, v = .slice ao bs.length cap ∧ (0 < bs.length → ∃ b off, ao = some ⟨b, off, none⟩ ∧ ∀ j u, (row .u8 bs)[j]? = some u → w.cell? ⟨b, off + j, none⟩ = some u)

theorem rds_own {w : World} {v : Value} {bs : List Nat} (h : w.ownsRow 0 5 1 v bs.length (row .u8 bs)) : Rds w v bs := by
  rcases h.2 with ⟨rfl, h0⟩ | ⟨g, cap, cur, rfl, _⟩
  · exact ⟨none, 0, by rw [h0], fun hp => by omega⟩
  · exact ⟨some ⟨g, 0, none⟩, cap, rfl, fun _ => ⟨g, 0, rfl, fun j u hj => by have := h.cells rfl j u hj; rwa [add_none] at this⟩⟩

theorem Try.size5 : (Try.prog.info? 5).map (·.size) = some 1 := by kernel_rfl

theorem run_copy_all {P : Program} (w : World) (dT sT ty elem t : TypeId) (hu : P.underlying dT = some (.slice elem)) (hsz : (P.info? elem).map (·.size) = some 1) (g n cap : Nat) (ao : Option Addr) (cur cs : List Value)
    (hg : w.heap[g]? = some (.cells cur.toArray t (0, 0))) (hcl : cs.length = n) (hcz : cur.length = n)
    (hsrc : 0 < n → ∃ ad : Addr, ao = some ad ∧ ∀ j u, cs[j]? = some u → w.cell? (ad.add j) = some u) (h1 : ∀ u ∈ cs, u.oneCell' = true) :
    ∃ w2, (Builtin.copy_ #[dT, sT] ty #[.slice (some ⟨g, 0, none⟩) n n, .slice ao n cap]).run P w = .ok (goInt n) w2 ∧ w2.heap[g]? = some (.cells cs.toArray t (0, 0)) ∧ w.grownBy w2 (some g) := by
  by_cases h0 : n = 0
  · subst h0
    obtain rfl := List.eq_nil_of_length_eq_zero hcl
    obtain rfl := List.eq_nil_of_length_eq_zero hcz
    exact ⟨w, run_copy_none (P := P) w dT sT ty elem _ _ 0 0 0 cap hu hsz rfl, hg, ⟨rfl, rfl, rfl, Nat.le_refl _, fun _ _ _ => rfl⟩⟩
  · obtain ⟨ad, rfl, hc⟩ := hsrc (by omega)
    have hrun := run_copy_row (P := P) w dT sT ty elem g 0 n n ad n cap cur.toArray t cs hu hsz hg (by rw [hcl]; exact (Nat.min_self n).symm) hc (by simp; omega) h1
    rw [hcl] at hrun
    refine ⟨_, hrun, ?_, ⟨rfl, rfl, rfl, by simp, fun k _ hk => setRow_other w g k _ (fun e => hk (by simp [e]))⟩⟩
    rw [setRow_heap w g _ _ t _ hg]
    simp [← hcz]

set_option maxHeartbeats 800000 in
theorem copied_any (v : Value) (bs : List Nat) (w : World) (hv : Rds w v bs) (hb : bs.length ≤ 200000000000) :
    Calls Try.prog 60 #[v] w fun e w' => e = .returned (.slice (some ⟨w.heap.size, 0, none⟩) bs.length bs.length) ∧
      w'.ownsRow 0 5 1 (.slice (some ⟨w.heap.size, 0, none⟩) bs.length bs.length) bs.length (row .u8 bs) ∧ Fr w w' (fun _ => False) := by
  obtain ⟨ao, cap, rfl, hc⟩ := hv
  obtain ⟨i0, hi, hz0, hz1, hz2⟩ := info_parts Try.info5
  obtain ⟨cs, hcs⟩ : ∃ cs, cs = row .u8 bs := ⟨_, rfl⟩
  obtain ⟨n, hn⟩ : ∃ n, n = bs.length := ⟨_, rfl⟩
  have hcl : cs.length = n := by rw [hcs, hn, length_row]
  have h1 : ∀ u ∈ cs, u.oneCell' = true := by rw [hcs]; exact row_one .u8 bs
  rw [← hn, ← hcs]
  rw [← hn] at hb hc
  rw [← hcs] at hc
  have Hcl : Hid _ := hcl
  have Hc : Hid _ := hc
  clear hcs hn hcl hc
  go_enter Try.func60, Try.ntmps60
  go_wp2_with (at_make; refine wpList_make_full _ rfl _ _ 22 rfl 0 5 i0 (.int .u8 0) 1 Try.underlying22 hi hz0 hz1 _ _ _ _ n rfl rfl (by omega) (by omega) ?b1 ?b2 (Nat.zero_le _) ?_)
  case b1 => rw [hz2]; omega
  case b2 => unfold maxLen; omega
  intro w1 hown hgrow
  obtain ⟨cur, hg, hcz⟩ : ∃ cur : List Value, w1.heap[w.heap.size]? = some (.cells cur.toArray 5 (0, 0)) ∧ cur.length = n := by
    rcases hown.2 with ⟨h, _⟩ | ⟨g', cap', cur, h, _, hg, _, _, hcz, _⟩
    · simp at h
    · simp only [Value.slice.injEq, Option.some.injEq, Addr.mk.injEq, and_true, true_and] at h
      obtain ⟨rfl, rfl⟩ := h
      exact ⟨cur.toList, by simpa using hg, by simpa using hcz⟩
  have hbel : Below w.heap.size w w1 := (Below.refl _ _).grown hgrow (Nat.le_refl _) (fun k h => by cases h)
  obtain ⟨w2, hrun, hg2, hgr2⟩ := run_copy_all (P := Try.prog) w1 22 22 3 5 5 Try.underlying22 Try.size5 w.heap.size n cap ao cur cs hg Hcl.out hcz (fun hpos => by
    obtain ⟨b, off, rfl, hcell⟩ := Hc.out hpos
    exact ⟨⟨b, off, none⟩, rfl, fun j u hj => by rw [add_none]; exact cell_later hbel (hcell j u hj)⟩) h1
  have hb2 : Below w.heap.size w w2 := hbel.grown hgr2 hbel.size (fun k h => by simp at h; omega)
  have Hg : Hid _ := hg2
  have Hb : Hid _ := hb2
  clear hown hgrow hg hcz hbel hg2 hgr2 hb2
  go_wp2
  go_ret
  refine ⟨rfl, ⟨by rw [Hcl.out]; omega, .inr ⟨w.heap.size, n, _, rfl, Nat.zero_le _, Hg.out, Nat.le_refl _, by unfold maxLen; omega, ?_, ?_⟩⟩, Fr.of_below Hb.out _⟩
  · rw [List.size_toArray, Hcl.out]; omega
  · exact List.take_of_length_le (by rw [Hcl.out]; omega)

end Go.Proofs.Ytclfbdfgmeliaaa
