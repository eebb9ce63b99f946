/-
  The contracts of varint.put, varint.Put, varint.Size: what each returns and what it leaves in memory.
-/
import Derived.Test.YtclfbdfgmeliaaaBytes
import Derived.Test.YtclfbdfgmeliaaaVMath
namespace Go.Proofs.Ytclfbdfgmeliaaa
open Go.RowKit

theorem or128 (x : Nat) (hx : x < 256) : x ||| 128 = x % 128 + 128 := by
  have h : ∀ x : Fin 256, x.val ||| 128 = x.val % 128 + 128 := by decide +kernel
  exact h ⟨x, hx⟩

theorem put_byte (v : Nat) : bits .or .u8 ((v : Int) % 256) 128 = ((v % 128 + 128 : Nat) : Int) := by
  rw [show (v : Int) % 256 = ((v % 256 : Nat) : Int) by omega, show (128 : Int) = ((128 : Nat) : Int) from rfl, u8_or_nat _ _ (by omega) (by omega), or128 _ (by omega)]
  congr 1
  omega

set_option maxRecDepth 4000 in
set_option maxHeartbeats 800000 in
theorem vput_any (sv : Value) (bs : List Nat) (v : Nat) (w : World) (h : Own w sv bs) (hn : bs.length ≤ 1000000000) (hv : v < 18446744073709551616) :
    Calls Try.prog 34 #[sv, .int .u64 (v : Int)] w fun e w' => ∃ sv', e = .returned sv' ∧ Own w' sv' (bs ++ enc v) ∧ Fr w w' (fun k => sv.ownBlock = some k) ∧ Moved w sv sv' := by
  have hel := enc_le v hv
  go_enter Try.func34, Try.ntmps34
  go_wp2_with fail
  go_loopw [0, 1] (fun S V wr => ∃ (cs : List Nat) (u : Nat), V = .int .u64 (u : Int) ∧ u < 18446744073709551616 ∧ Own wr S cs ∧ cs ++ enc u = bs ++ enc v ∧ Fr w wr (fun k => sv.ownBlock = some k) ∧ Moved w sv S)
    (fun _ V _ => (intOf V).toNat)
  case atStart => exact ⟨bs, v, rfl, hv, h, rfl, Fr.refl _ _, Moved.refl _ _⟩
  case round =>
    obtain ⟨cs, u, rfl, hu, ho, he, hf, hm⟩ := hrel
    have He : Hid _ := he
    have hcl : cs.length + (enc u).length = bs.length + (enc v).length := by have := congrArg List.length he; simpa using this
    have hcb : cs.length ≤ 2000000000 := by omega
    clear he hcl hel
    by_cases hbig : 128 ≤ u
    · obtain ⟨S', w1, hrun, ho1, hf1, hm1⟩ := app_byte wr u0 cs (u % 128 + 128) _ (put_byte u) ho (by omega)
      go_wp2_with (at_builtin; refine wpList_append_run rfl (.tmp 9) (.tmp 13) 22 rfl rfl rfl hrun ?_)
      go_roundw
      case rel => exact ⟨_, u / 128, by go_num, by omega, ho1, by rw [← He.out, enc_big u hbig]; simp, hf.own hf1 hm, hm.trans hm1 hf.size⟩
      case measure => simp [intOf]; omega
    · obtain ⟨S', w1, hrun, ho1, hf1, hm1⟩ := app_byte wr u0 cs u _ rfl ho (by omega)
      go_wp2_with (at_builtin; refine wpList_append_run rfl (.tmp 15) (.tmp 18) 22 rfl rfl rfl hrun ?_)
      go_ret
      exact ⟨_, rfl, by rw [← He.out, enc_small u (by omega)]; exact ho1, hf.own hf1 hm, hm.trans hm1 hf.size⟩


set_option maxRecDepth 4000 in
set_option maxHeartbeats 800000 in
theorem vputs_any (v : Value) (us : List Nat) (w : World) (hr : Reads .u64 w v us) (hus : ∀ u ∈ us, u < 18446744073709551616) (hn : us.length ≤ 100000) :
    Calls Try.prog 22 #[v] w fun e w' => ∃ sv, e = .returned sv ∧ Own w' sv (encs us) ∧ Fr w w' (fun _ => False) ∧ (∀ k, sv.ownBlock = some k → w.heap.size ≤ k) := by
  obtain ⟨ao, cap, rfl, hlc, hc⟩ := id hr
  rw [length_row] at hr hlc hc ⊢
  obtain ⟨n, hnn⟩ : ∃ n, n = us.length := ⟨_, rfl⟩
  rw [← hnn] at hr hlc hc hn ⊢
  have Hn : Hid _ := hnn
  have Hr : Hid (Reads .u64 w (.slice ao n cap) us) := hr
  have Hus : Hid _ := hus
  have Hc : Hid _ := hc
  clear hnn hr hus hc
  go_enter Try.func22, Try.ntmps22
  go_wp2_with fail
  go_loopw [3, 8] (fun S I wr => ∃ i : Nat, i ≤ n ∧ I = .int .i64 (i : Int) ∧ Own wr S (encs (us.take i)) ∧ Fr w wr (fun _ => False) ∧ (∀ k, S.ownBlock = some k → w.heap.size ≤ k))
    (fun _ I _ => n - (intOf I).toNat)
  case atStart => exact ⟨0, by omega, rfl, Own.nil _, Fr.refl _ _, fun k hk => by simp [Value.ownBlock] at hk⟩
  case round =>
    obtain ⟨i, hi, rfl, ho, hf, hb⟩ := hrel
    by_cases hlt : i < n
    · obtain ⟨b, off, rfl, -⟩ := Hc.out (by omega)
      have hel := Hus.out _ (getD_mem (us := us) (i := i) (by rw [← Hn.out]; exact hlt))
      obtain ⟨ao', cap', e, -, hcl⟩ := Hr.out.keep hf
      obtain ⟨b', off', rfl, hcell⟩ := hcl (by rw [length_row, ← Hn.out]; omega)
      simp only [Value.slice.injEq, Option.some.injEq, Addr.mk.injEq, and_true] at e
      obtain ⟨⟨rfl, rfl⟩, -, rfl⟩ := e
      have cg := hcell i _ (row_get .u64 us i (by rw [← Hn.out]; exact hlt))
      have hlen : (encs (us.take i)).length ≤ 10 * n := by
        have := encs_le (us.take i) (fun u hu => Hus.out u (List.mem_of_mem_take hu))
        rw [List.length_take, ← Hn.out] at this
        omega
      have Hst : Hid (encs (us.take (i + 1)) = encs (us.take i) ++ enc (us.getD i 0)) := by
        show _ = _
        rw [take_step (by rw [← Hn.out]; exact hlt), encs_snoc]
      generalize us.getD i 0 = u at cg hel Hst
      clear hcl hcell
      go_wp2_with fail
      refine (vput_any _ _ u wr ho (by omega) hel).mono ?_
      rintro e w1 ⟨sv1, rfl, ho1, hf1, hm1⟩
      go_wp2
      go_roundw
      case rel => 
        refine ⟨i + 1, by omega, by go_num, by rw [Hst.out]; exact ho1, hf.newer hf1 (fun k hk => hb k hk), fun k hk => ?_⟩
        rcases hm1 k hk with h2 | h2
        · exact hb k h2
        · have := hf.size; omega
      case measure => simp [intOf]; omega
    · have Hin : Hid (us.take i = us) := by show _ = _; exact List.take_of_length_le (by rw [← Hn.out]; omega)
      go_wp2
      go_ret
      exact ⟨_, rfl, by rw [Hin.out] at ho; exact ho, hf, hb⟩

end Go.Proofs.Ytclfbdfgmeliaaa
