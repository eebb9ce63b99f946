/-
  The contracts of the reference's Put and Size of numbers.
-/
import Derived.Test.YtclfbdfgmeliaaaVPut
import Derived.Deep.LoopGhost
namespace Go.Proofs.Ytclfbdfgmeliaaa
open Go.RowKit

theorem ref_byte (v : Nat) (hv : v < 18446744073709551616) : bits .or .u8 (bits .and .u64 (v : Int) 127 % 256) 128 = ((v % 128 + 128 : Nat) : Int) := by
  rw [show (127 : Int) = ((127 : Nat) : Int) from rfl, u64_and_nat _ _ hv (by omega), nat_mask7, show ((v % 128 : Nat) : Int) % 256 = ((v % 128 : Nat) : Int) by omega, show (128 : Int) = ((128 : Nat) : Int) from rfl, u8_or_nat _ _ (by omega) (by omega), or128 _ (by omega)]
  congr 1
  omega

set_option maxRecDepth 4000 in
set_option maxHeartbeats 1600000 in
theorem vrefPut_any (v : Value) (us : List Nat) (w : World) (hr : Reads .u64 w v us) (hus : ∀ u ∈ us, u < 18446744073709551616) (hn : us.length ≤ 100000) :
    Calls Try.prog 17 #[v] w fun e w' => ∃ sv, e = .returned sv ∧ Own w' sv (encs us) ∧ Fr w w' (fun _ => False) ∧ (∀ k, sv.ownBlock = some k → w.heap.size ≤ k) := by
  obtain ⟨ao, cap, rfl, hlc, hc⟩ := id hr
  rw [length_row] at hr hlc hc ⊢
  obtain ⟨n, hnn⟩ : ∃ n, n = us.length := ⟨_, rfl⟩
  rw [← hnn] at hr hlc hc hn ⊢
  have Hn : Hid _ := hnn
  have Hr : Hid (Reads .u64 w (.slice ao n cap) us) := hr
  have Hus : Hid _ := hus
  have Hc : Hid _ := hc
  clear hnn hr hus hc
  go_enter Try.func17, Try.ntmps17
  go_wp2_with fail
  go_loopg [3, 4] n (fun g S I wr => ∃ i : Nat, i ≤ n ∧ g = n - i ∧ I = .int .i64 (i : Int) ∧ Own wr S (encs (us.take i)) ∧ Fr w wr (fun _ => False) ∧ (∀ k, S.ownBlock = some k → w.heap.size ≤ k))
  case atStart => exact ⟨0, by omega, by omega, rfl, Own.nil _, Fr.refl _ _, fun k hk => by simp [Value.ownBlock] at hk⟩
  case round =>
    obtain ⟨i, hi, hgk, rfl, ho, hf, hb⟩ := hrel
    have Hgk : Hid _ := hgk
    clear hgk
    by_cases hlt : i < n
    · obtain ⟨b, off, rfl, -⟩ := Hc.out (by omega)
      have hel := Hus.out _ (getD_mem (us := us) (i := i) (by rw [← Hn.out]; exact hlt))
      obtain ⟨ao', cap', e, -, hcl⟩ := Hr.out.keep hf
      obtain ⟨b', off', rfl, hcell⟩ := hcl (by rw [length_row, ← Hn.out]; omega)
      simp only [Value.slice.injEq, Option.some.injEq, Addr.mk.injEq, and_true] at e
      obtain ⟨⟨rfl, rfl⟩, -, rfl⟩ := e
      have cg := hcell i _ (row_get .u64 us i (by rw [← Hn.out]; exact hlt))
      have hlen : (encs (us.take i)).length ≤ 10 * n := by
        have := encs_le (us.take i) (fun u hu => Hus.out u (List.mem_of_mem_take hu))
        rw [List.length_take, ← Hn.out] at this
        omega
      have Hst : Hid (encs (us.take (i + 1)) = encs (us.take i) ++ enc (us.getD i 0)) := by
        show _ = _
        rw [take_step (by rw [← Hn.out]; exact hlt), encs_snoc]
      have hel2 := enc_le _ hel
      generalize us.getD i 0 = u at cg hel Hst hel2
      generalize hds : encs (us.take i) = ds at ho hlen Hst
      clear hcl hcell hds
      go_wp2_with fail
      go_loopg [3, 5] u (fun g S V wi => ∃ (cs : List Nat) (x : Nat), g = x ∧ V = .int .u64 (x : Int) ∧ x < 18446744073709551616 ∧ Own wi S cs ∧ cs ++ enc x = ds ++ enc u ∧ Fr w wi (fun _ => False) ∧ (∀ k, S.ownBlock = some k → w.heap.size ≤ k))
      case atStart => exact ⟨ds, u, rfl, rfl, hel, ho, rfl, hf, hb⟩
      case round =>
        clear ho hf hb
        obtain ⟨cs, x, hgx, rfl, hx, ho, he, hf, hb⟩ := hrel
        have Hgx : Hid _ := hgx
        have He : Hid _ := he
        have hcl : cs.length + (enc x).length = ds.length + (enc u).length := by have := congrArg List.length he; simpa using this
        have hcb : cs.length ≤ 2000000000 := by omega
        clear he hcl hgx
        by_cases hbig : 128 ≤ x
        · obtain ⟨S', w1, hrun, ho1, hf1, hm1⟩ := app_byte wr u3 cs (x % 128 + 128) _ (ref_byte x hx) ho (by omega)
          go_wp2_with (at_builtin; refine wpList_append_run rfl (.tmp 18) (.tmp 23) 22 rfl rfl rfl hrun ?_)
          go_roundg (x / 128)
          case rel =>
            refine ⟨_, x / 128, rfl, by go_num, by omega, ho1, by rw [← He.out, enc_big x hbig]; simp, hf.newer hf1 hb, fun k hk => ?_⟩
            rcases hm1 k hk with h2 | h2
            · exact hb k h2
            · have := hf.size; omega
          case measure => rw [Hgx.out]; omega
        · obtain ⟨S', w1, hrun, ho1, hf1, hm1⟩ := app_byte wr u3 cs x _ rfl ho (by omega)
          go_wp2_with (at_builtin; refine wpList_append_run rfl (.tmp 27) (.tmp 30) 22 rfl rfl rfl hrun ?_)
          go_roundg (n - (i + 1))
          case rel =>
            refine ⟨i + 1, by omega, rfl, by go_num, by rw [Hst.out, ← He.out, enc_small x (by omega)]; exact ho1, hf.newer hf1 hb, fun k hk => ?_⟩
            rcases hm1 k hk with h2 | h2
            · exact hb k h2
            · have := hf.size; omega
          case measure => rw [Hgk.out]; omega
    · have Hin : Hid (us.take i = us) := by show _ = _; exact List.take_of_length_le (by rw [← Hn.out]; omega)
      go_wp2
      go_ret
      exact ⟨_, rfl, by rw [Hin.out] at ho; exact ho, hf, hb⟩


end Go.Proofs.Ytclfbdfgmeliaaa
