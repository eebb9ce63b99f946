/-
  The contracts of the reference's Put and Size, and of the law's own edge.
-/
import Derived.Test.YtimegheijfnkaaaPut
import Derived.Deep.LoopGhost
namespace Go.Proofs.Ytimegheijfnkaaa
open Go.RowKit

theorem ref_byte (v : Nat) (hv : v < 18446744073709551616) : bits .or .u8 (bits .and .u64 (v : Int) 127 % 256) 128 = ((v % 128 + 128 : Nat) : Int) := by
  rw [show (127 : Int) = ((127 : Nat) : Int) from rfl, u64_and_nat _ _ hv (by omega), nat_mask7, show ((v % 128 : Nat) : Int) % 256 = ((v % 128 : Nat) : Int) by omega, show (128 : Int) = ((128 : Nat) : Int) from rfl, u8_or_nat _ _ (by omega) (by omega), or128 _ (by omega)]
  congr 1
  omega

set_option maxRecDepth 4000 in
set_option maxHeartbeats 1600000 in
theorem refPut_any (v : Value) (us : List Nat) (w : World) (hr : Reads .u64 w v us) (hus : ∀ u ∈ us, u < 18446744073709551616) (hn : us.length ≤ 100000) :
    Calls Try.prog 9 #[v] w fun e w' => ∃ sv, e = .returned sv ∧ Own w' sv (encs us) ∧ Fr w w' (fun _ => False) ∧ (∀ k, sv.ownBlock = some k → w.heap.size ≤ k) := by
  obtain ⟨ao, cap, rfl, hlc, hc⟩ := id hr
  rw [length_row] at hr hlc hc ⊢
  obtain ⟨n, hnn⟩ : ∃ n, n = us.length := ⟨_, rfl⟩
  rw [← hnn] at hr hlc hc hn ⊢
  have Hn : Hid _ := hnn
  have Hr : Hid (Reads .u64 w (.slice ao n cap) us) := hr
  have Hus : Hid _ := hus
  have Hc : Hid _ := hc
  clear hnn hr hus hc
  go_enter Try.func9, Try.ntmps9
  go_wp2_with fail
  go_loopg [3, 4] n (fun g S I wr => ∃ i : Nat, i ≤ n ∧ g = n - i ∧ I = .int .i64 (i : Int) ∧ Own wr S (encs (us.take i)) ∧ Fr w wr (fun _ => False) ∧ (∀ k, S.ownBlock = some k → w.heap.size ≤ k))
  case atStart => exact ⟨0, by omega, by omega, rfl, Own.nil _, Fr.refl _ _, fun k hk => by simp [Value.ownBlock] at hk⟩
  case round =>
    obtain ⟨i, hi, hgk, rfl, ho, hf, hb⟩ := hrel
    have Hgk : Hid _ := hgk
    clear hgk
    by_cases hlt : i < n
    · obtain ⟨b, off, rfl, -⟩ := Hc.out (by omega)
      have hel := Hus.out _ (getD_mem (us := us) (i := i) (by rw [← Hn.out]; exact hlt))
      obtain ⟨ao', cap', e, -, hcl⟩ := Hr.out.keep hf
      obtain ⟨b', off', rfl, hcell⟩ := hcl (by rw [length_row, ← Hn.out]; omega)
      simp only [Value.slice.injEq, Option.some.injEq, Addr.mk.injEq, and_true] at e
      obtain ⟨⟨rfl, rfl⟩, -, rfl⟩ := e
      have cg := hcell i _ (row_get .u64 us i (by rw [← Hn.out]; exact hlt))
      have hlen : (encs (us.take i)).length ≤ 10 * n := by
        have := encs_le (us.take i) (fun u hu => Hus.out u (List.mem_of_mem_take hu))
        rw [List.length_take, ← Hn.out] at this
        omega
      have Hst : Hid (encs (us.take (i + 1)) = encs (us.take i) ++ enc (us.getD i 0)) := by
        show _ = _
        rw [take_step (by rw [← Hn.out]; exact hlt), encs_snoc]
      have hel2 := enc_le _ hel
      generalize us.getD i 0 = u at cg hel Hst hel2
      generalize hds : encs (us.take i) = ds at ho hlen Hst
      clear hcl hcell hds
      go_wp2_with fail
      go_loopg [3, 5] u (fun g S V wi => ∃ (cs : List Nat) (x : Nat), g = x ∧ V = .int .u64 (x : Int) ∧ x < 18446744073709551616 ∧ Own wi S cs ∧ cs ++ enc x = ds ++ enc u ∧ Fr w wi (fun _ => False) ∧ (∀ k, S.ownBlock = some k → w.heap.size ≤ k))
      case atStart => exact ⟨ds, u, rfl, rfl, hel, ho, rfl, hf, hb⟩
      case round =>
        clear ho hf hb
        obtain ⟨cs, x, hgx, rfl, hx, ho, he, hf, hb⟩ := hrel
        have Hgx : Hid _ := hgx
        have He : Hid _ := he
        have hcl : cs.length + (enc x).length = ds.length + (enc u).length := by have := congrArg List.length he; simpa using this
        have hcb : cs.length ≤ 2000000000 := by omega
        clear he hcl hgx
        by_cases hbig : 128 ≤ x
        · obtain ⟨S', w1, hrun, ho1, hf1, hm1⟩ := app_byte wr u3 cs (x % 128 + 128) _ (ref_byte x hx) ho (by omega)
          go_wp2_with (at_builtin; refine wpList_append_run rfl (.tmp 18) (.tmp 23) 23 rfl rfl rfl hrun ?_)
          go_roundg (x / 128)
          case rel =>
            refine ⟨_, x / 128, rfl, by go_num, by omega, ho1, by rw [← He.out, enc_big x hbig]; simp, hf.newer hf1 hb, fun k hk => ?_⟩
            rcases hm1 k hk with h2 | h2
            · exact hb k h2
            · have := hf.size; omega
          case measure => rw [Hgx.out]; omega
        · obtain ⟨S', w1, hrun, ho1, hf1, hm1⟩ := app_byte wr u3 cs x _ rfl ho (by omega)
          go_wp2_with (at_builtin; refine wpList_append_run rfl (.tmp 27) (.tmp 30) 23 rfl rfl rfl hrun ?_)
          go_roundg (n - (i + 1))
          case rel =>
            refine ⟨i + 1, by omega, rfl, by go_num, by rw [Hst.out, ← He.out, enc_small x (by omega)]; exact ho1, hf.newer hf1 hb, fun k hk => ?_⟩
            rcases hm1 k hk with h2 | h2
            · exact hb k h2
            · have := hf.size; omega
          case measure => rw [Hgk.out]; omega
    · have Hin : Hid (us.take i = us) := by show _ = _; exact List.take_of_length_le (by rw [← Hn.out]; omega)
      go_wp2
      go_ret
      exact ⟨_, rfl, by rw [Hin.out] at ho; exact ho, hf, hb⟩

set_option maxRecDepth 4000 in
set_option maxHeartbeats 800000 in
theorem refSize_any (v : Nat) (w : World) (hv : v < 18446744073709551616) : Calls Try.prog 15 #[.int .u64 (v : Int)] w fun e w' => e = .returned (.int .i64 ((enc v).length : Int)) ∧ Fr w w' (fun _ => False) := by
  go_enter Try.func15, Try.ntmps15
  go_wp2_with fail
  refine (refPut_any _ [v] _ (holds_lit w 24 [.int .u64 (v : Int)] (by simp)) (by simpa using hv) (by simp)).mono ?_
  rintro e w1 ⟨sv, rfl, ho, hf, -⟩
  obtain ⟨ao, cap, rfl, -, -⟩ := ho.reads
  have he : encs [v] = enc v := by simp [encs]
  rw [he, length_row]
  have hf2 := (((Fr.refl w (fun _ => False)).alloc (.cells #[.int .u64 (v : Int)] 24))).none hf
  clear hf he ho
  go_wp2
  go_ret
  exact ⟨rfl, hf2⟩

/-- The law's own numbers at edges. -/
def edgeV (n k : Nat) : Nat := [n, n / 4294967296, n / 144115188075855872, 0, 1, 127, 128, 16383, 16384, 9223372036854775807, 9223372036854775808, 18446744073709551615].getD (k % 12) 0

theorem edgeV_lt (n k : Nat) (hn : n < 18446744073709551616) : edgeV n k < 18446744073709551616 := by
  have h : k % 12 < 12 := by omega
  unfold edgeV
  generalize k % 12 = j at h
  match j with
  | 0 | 1 | 2 | 3 | 4 | 5 | 6 | 7 | 8 | 9 | 10 | 11 => simp <;> omega
  | j + 12 => omega

set_option maxRecDepth 4000 in
set_option maxHeartbeats 800000 in
theorem edge_any (n k : Nat) (w : World) (_hn : n < 18446744073709551616) (hk : k < 256) : Calls Try.prog 11 #[.int .u64 (n : Int), .int .u8 (k : Int)] w fun e w' => e = .returned (.int .u64 (edgeV n k : Int)) ∧ Fr w w' (fun _ => False) := by
  have cg : [Value.int .u64 (n : Int), Value.int .u64 ((n : Int) / 4294967296), Value.int .u64 ((n : Int) / 144115188075855872), Value.int .u64 0, Value.int .u64 1, Value.int .u64 127, Value.int .u64 128,
      Value.int .u64 16383, Value.int .u64 16384, Value.int .u64 9223372036854775807, Value.int .u64 9223372036854775808, Value.int .u64 18446744073709551615][k % 12]? = some (.int .u64 (edgeV n k : Int)) := by
    have h : k % 12 < 12 := by omega
    unfold edgeV
    generalize k % 12 = j at h
    match j with
    | 0 | 1 | 2 | 3 | 4 | 5 | 6 | 7 | 8 | 9 | 10 | 11 => simp
    | j + 12 => omega
  generalize edgeV n k = x at cg
  go_enter Try.func11, Try.ntmps11
  go_wp2
  go_ret
  exact ⟨rfl, (Fr.refl _ _).alloc _⟩
end Go.Proofs.Ytimegheijfnkaaa
