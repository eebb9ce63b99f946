/-
  The walk of the law BitsRead: called with whatever arguments, it returns true and touches nothing that was there. No condition.
-/
import Derived.Test.YtjojjfnbnhfdgaaRows
import Derived.Test.YtjojjfnbnhfdgaaArgs
import Derived.Test.YtjojjfnbnhfdgaaRefRead
namespace Go.Proofs.Ytjojjfnbnhfdgaa.bitsRead
open Go.ChangeShapes Go.WideShapes Go.ChangeAt Go.RowKit

set_option maxHeartbeats 3200000 in
theorem walk (a0 : Option Addr) (len0 cap0 : Nat) (z0 : List Int) (a1 : Option Addr) (len1 cap1 : Nat) (z1 : List Int) (w : World) (w0 : IsRow .u8 w a0 len0 cap0 z0) (w1 : IsRow .i64 w a1 len1 cap1 z1) :
    Calls Try.prog 4 #[.slice a0 len0 cap0, .slice a1 len1 cap1] w fun e w' => e = .returned (.bool true) ∧ Below w.heap.size w w' := by
  obtain ⟨bs, hbl, hbs, hr, hblk⟩ := reads_isRow w0
  go_enter Try.func4, Try.ntmps4
  go_wp2_with fail
  refine (known_any w).mono ?_
  rintro e wa ⟨rfl, hf1⟩
  by_cases hlen : 60 < len0
  · go_wp2
    go_ret
    exact ⟨rfl, hf1.below (Nat.le_refl _) (fun _ h => h.elim)⟩
  · have hd60 : decide (60 < (len0 : Int)) = false := decide_eq_false (by omega)
    by_cases hlen1 : 40 < len1
    · go_wp2
      go_ret
      exact ⟨rfl, hf1.below (Nat.le_refl _) (fun _ h => h.elim)⟩
    · have hd40 : decide (40 < (len1 : Int)) = false := decide_eq_false (by omega)
      have Hr : Hid (Reads w (.slice a0 len0 cap0) bs) := hr
      have Hbl : Hid _ := hbl
      have Hbs : Hid _ := hbs
      have Hblk : Hid _ := hblk
      clear hr hbl hbs hblk
      go_wp2_with fail
      refine (newReader_any _ bs wa (Hr.out.frame hf1 (fun _ _ h => h)) (by rw [Hbl.out]; omega) Hbs.out).mono ?_
      rintro e wb ⟨p, sv, rfl, hrd, hf2, hn2⟩
      have hpn : w.heap.size ≤ p := by have := hn2 p (.inl rfl); have := hf1.size; omega
      have hpl : p < wb.heap.size := lt_of_block hrd.1
      have hsl : 0 < bs.length → ∀ k, sv.ownBlock = some k → k < wb.heap.size := by
        intro h0 k hk
        obtain ⟨_, ⟨ao, cap, rfl, hc⟩, _⟩ := hrd
        obtain ⟨b, off, rfl, hcell⟩ := hc h0
        simp [Value.ownBlock] at hk
        subst hk
        exact World.block_lt_of_cell? _ _ (hcell 0 _ (row_get bs 0 h0))
      replace hf2 := hf1.none hf2
      clear hf1 hn2
      go_wp2_with fail
      have hrq : Rd 43 (wb.alloc (.cells #[.slice a0 len0 cap0, .int .i64 0] 43)) wb.heap.size (.slice a0 len0 cap0) bs 0 := by
        refine ⟨heap_alloc_new wb _, (Hr.out.frame hf2 (fun _ _ h => h)).frame ((Fr.refl wb (fun _ => False)).alloc _) (fun _ _ h => h), by omega, by rw [Hbl.out]; omega, Hbs.out, fun h0 e => ?_⟩
        have h1 := Hblk.out _ e (by rw [← Hbl.out]; exact h0)
        have h2 := hf2.size
        omega
      have hrp : Rd 60 (wb.alloc (.cells #[.slice a0 len0 cap0, .int .i64 0] 43)) p sv bs 0 := hrd.frame ((Fr.refl wb (fun _ => False)).alloc _) (fun _ _ h => h)
      have hf3 := hf2.alloc (.cells #[.slice a0 len0 cap0, .int .i64 0] 43)
      have hq : w.heap.size ≤ wb.heap.size := hf2.size
      generalize wb.alloc (.cells #[.slice a0 len0 cap0, .int .i64 0] 43) = wc at *
      generalize wb.heap.size = q at *
      clear hf2 hrd
      go_loopw [7] (fun I wr => ∃ i j : Nat, i ≤ len1 ∧ I = .int .i64 (i : Int) ∧ Rd 60 wr p sv bs j ∧ Rd 43 wr q (.slice a0 len0 cap0) bs j ∧ Fr w wr (fun _ => False)) (fun I _ => len1 - (intOf I).toNat)
      case atStart => exact ⟨0, 0, Nat.zero_le _, rfl, hrp, hrq, hf3⟩
      case round =>
        clear hrp hrq hf3
        obtain ⟨i, j, hi, rfl, hrp, hrq, hfr⟩ := hrel
        by_cases hlt : i < len1
        · obtain ⟨b, off, rfl, cz⟩ : ∃ b off, a1 = some ⟨b, off, none⟩ ∧ wr.cell? ⟨b, off + i, none⟩ = some (.int .i64 (z1.getD i 0)) := by
            rcases w1 with ⟨_, h, _⟩ | ⟨x, rfl, hl, _, hz, hc, _⟩
            · omega
            · obtain ⟨b, off, rfl⟩ := spot_none (hc 0 (by omega))
              have h1 := hc i (by omega)
              rw [add_none] at h1
              exact ⟨b, off, rfl, by rw [World.cell?_of_block (w := w) (hfr.block _ (World.block_lt_of_cell? _ _ h1) (fun h => h))]; exact h1⟩
          generalize z1.getD i 0 = z at cz
          by_cases h3 : 0 < i % 3
          all_goals
            go_wp2_with fail
            refine (take_all p sv bs j _ wr hrp).mono ?_
            rintro e wd ⟨rfl, hrp', hfd⟩
            replace hrq := hrq.frame' hfd (by omega) (fun h0 k hk e => by have := Hblk.out k hk (by rw [← Hbl.out]; exact h0); omega)
            replace hfd := hfr.newer1 hfd hpn
            go_wp2_with fail
            refine (refTake_all q _ bs j _ wd hrq).mono ?_
            rintro e we ⟨rfl, hrq', hfe⟩
            replace hrp' := hrp'.frame' hfe (by omega) (fun h0 k hk e => by have := hsl h0 k hk; omega)
            replace hfe := hfd.newer1 hfe hq
            generalize tookV bs j _ = V
            generalize tookB bs j _ = Bo
            generalize tookI bs j _ = j' at hrp' hrq'
            clear hrp hrq hfd hfr
            go_wp2_with fail
            refine (left_fr p sv bs j' we hrp').mono ?_
            rintro e wf ⟨rfl, hrp2, hff⟩
            replace hrq' := hrq'.frame hff (fun _ _ h => h)
            replace hff := hfe.none hff
            go_wp2_with fail
            refine (refLeft_fr q _ bs j' wf hrq').mono ?_
            rintro e wg ⟨rfl, hrq2, hfg⟩
            replace hrp2 := hrp2.frame hfg (fun _ _ h => h)
            replace hfg := hff.none hfg
            clear hrp' hrq' hff hfe
            go_wp2
            go_roundw
            case rel => exact ⟨i + 1, j', by omega, by go_num, hrp2, hrq2, hfg⟩
            case measure => simp [intOf]; omega
        · go_wp2
          go_ret
          exact ⟨rfl, hfr.below (Nat.le_refl _) (fun _ h => h.elim)⟩

end Go.Proofs.Ytjojjfnbnhfdgaa.bitsRead
