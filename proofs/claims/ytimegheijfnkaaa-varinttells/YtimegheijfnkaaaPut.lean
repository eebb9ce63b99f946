/-
  The contracts of varint.put, varint.Put, varint.Size: what each returns and what it leaves in memory.
-/
import Derived.Test.YtimegheijfnkaaaRows
import Derived.Test.YtimegheijfnkaaaMem
import Derived.Test.YtimegheijfnkaaaMath
import Derived.WalkLawsBesides
namespace Go.Proofs.Ytimegheijfnkaaa
open Go.RowKit

theorem Try.info5 : (Try.prog.info? 5).map (fun i => (i.zero, i.size, i.bytes)) = some (some (.int .u8 0), 1, 1) := by kernel_rfl
theorem Try.info24 : (Try.prog.info? 24).map (fun i => (i.zero, i.size, i.bytes)) = some (some (.int .u64 0), 1, 8) := by kernel_rfl

/-- A slice of bytes that the call owns. -/
def Own (w : World) (v : Value) (bs : List Nat) : Prop := w.ownsRow 0 5 1 v bs.length (row .u8 bs)
theorem Own.nil (w : World) : Own w (.slice none 0 0) [] := World.ownsRow_nil _ _ _ _
theorem Own.reads {w : World} {v : Value} {bs : List Nat} (h : Own w v bs) : Reads .u8 w v bs := holds_own h
theorem Own.alloc {w : World} {v : Value} {bs : List Nat} (h : Own w v bs) (o : Obj) : Own (w.alloc o) v bs := World.ownsRow.alloc h o
theorem Own.lt {w : World} {v : Value} {bs : List Nat} (h : Own w v bs) : ∀ k, v.ownBlock = some k → k < w.heap.size := fun k hk => (World.ownsRow.lt h k hk).2
theorem Own.frame {w w' : World} {v : Value} {bs : List Nat} {S : Nat → Prop} (h : Own w v bs) (f : Fr w w' S) (hs : ∀ k, v.ownBlock = some k → ¬ S k) : Own w' v bs := f.owns h hs

/-- append onto bytes that the call owns, of bytes that can be read. -/
theorem app_bytes (w : World) (v u : Value) (bs cs : List Nat) (h : Own w v bs) (hu : Reads .u8 w u cs) (hb : bs.length + cs.length ≤ 100000000000) :
    ∃ v' w', (Builtin.append_ #[23, 23] 23 #[v, u]).run Try.prog w = .ok v' w' ∧ Own w' v' (bs ++ cs) ∧ Fr w w' (fun k => v.ownBlock = some k) ∧ Moved w v v' ∧ Reads .u8 w' v bs := by
  obtain ⟨i0, hi, hz0, hz1, hz2⟩ := info_parts Try.info5
  obtain ⟨v', w', h1, h2, h3, h4, h5, -⟩ := run_append_holds (P := Try.prog) w 23 23 5 i0 (.int .u8 0) 1 Try.underlying23 hi hz0 hz1 hz2 rfl (by decide) v _ _ h u _ hu (row_one _ _) (by rw [length_row]; exact hb)
  refine ⟨v', w', h1, ?_, h3, h4, h5⟩
  unfold Own
  rw [length_row] at h2
  rw [List.length_append, row_append]
  exact h2
/-- .. of one byte that is written out. -/
theorem app_byte (w : World) (v : Value) (bs : List Nat) (x : Nat) (z : Int) (hz : z = (x : Int)) (h : Own w v bs) (hb : bs.length ≤ 10000000000) :
    ∃ v' w', (Builtin.append_ #[23, 23] 23 #[v, .slice (some ⟨w.heap.size, 0, none⟩) 1 1]).run Try.prog (w.alloc (.cells #[.int .u8 z] 5)) = .ok v' w' ∧ Own w' v' (bs ++ [x]) ∧ Fr w w' (fun k => v.ownBlock = some k) ∧ Moved w v v' := by
  subst hz
  obtain ⟨v', w', h1, h2, h3, h4, _⟩ := app_bytes _ v _ bs [x] (h.alloc _) (holds_lit w 5 [.int .u8 (x : Int)] (by simp)) (by simp; omega)
  exact ⟨v', w', h1, h2, ((Fr.refl w _).alloc _).trans h3 (fun _ _ h => h), h4.mono' (by simp)⟩

theorem or128 (x : Nat) (hx : x < 256) : x ||| 128 = x % 128 + 128 := by
  have h : ∀ x : Fin 256, x.val ||| 128 = x.val % 128 + 128 := by decide +kernel
  exact h ⟨x, hx⟩

theorem put_byte (v : Nat) : bits .or .u8 ((v : Int) % 256) 128 = ((v % 128 + 128 : Nat) : Int) := by
  rw [show (v : Int) % 256 = ((v % 256 : Nat) : Int) by omega, show (128 : Int) = ((128 : Nat) : Int) from rfl, u8_or_nat _ _ (by omega) (by omega), or128 _ (by omega)]
  congr 1
  omega

set_option maxRecDepth 4000 in
set_option maxHeartbeats 800000 in
theorem put_any (sv : Value) (bs : List Nat) (v : Nat) (w : World) (h : Own w sv bs) (hn : bs.length ≤ 1000000000) (hv : v < 18446744073709551616) :
    Calls Try.prog 16 #[sv, .int .u64 (v : Int)] w fun e w' => ∃ sv', e = .returned sv' ∧ Own w' sv' (bs ++ enc v) ∧ Fr w w' (fun k => sv.ownBlock = some k) ∧ Moved w sv sv' := by
  have hel := enc_le v hv
  go_enter Try.func16, Try.ntmps16
  go_wp2_with fail
  go_loopw [0, 1] (fun S V wr => ∃ (cs : List Nat) (u : Nat), V = .int .u64 (u : Int) ∧ u < 18446744073709551616 ∧ Own wr S cs ∧ cs ++ enc u = bs ++ enc v ∧ Fr w wr (fun k => sv.ownBlock = some k) ∧ Moved w sv S)
    (fun _ V _ => (intOf V).toNat)
  case atStart => exact ⟨bs, v, rfl, hv, h, rfl, Fr.refl _ _, Moved.refl _ _⟩
  case round =>
    obtain ⟨cs, u, rfl, hu, ho, he, hf, hm⟩ := hrel
    have He : Hid _ := he
    have hcl : cs.length + (enc u).length = bs.length + (enc v).length := by have := congrArg List.length he; simpa using this
    have hcb : cs.length ≤ 2000000000 := by omega
    clear he hcl hel
    by_cases hbig : 128 ≤ u
    · obtain ⟨S', w1, hrun, ho1, hf1, hm1⟩ := app_byte wr u0 cs (u % 128 + 128) _ (put_byte u) ho (by omega)
      go_wp2_with (at_builtin; refine wpList_append_run rfl (.tmp 9) (.tmp 13) 23 rfl rfl rfl hrun ?_)
      go_roundw
      case rel => exact ⟨_, u / 128, by go_num, by omega, ho1, by rw [← He.out, enc_big u hbig]; simp, hf.own hf1 hm, hm.trans hm1 hf.size⟩
      case measure => simp [intOf]; omega
    · obtain ⟨S', w1, hrun, ho1, hf1, hm1⟩ := app_byte wr u0 cs u _ rfl ho (by omega)
      go_wp2_with (at_builtin; refine wpList_append_run rfl (.tmp 15) (.tmp 18) 23 rfl rfl rfl hrun ?_)
      go_ret
      exact ⟨_, rfl, by rw [← He.out, enc_small u (by omega)]; exact ho1, hf.own hf1 hm, hm.trans hm1 hf.size⟩

set_option maxRecDepth 4000 in
set_option maxHeartbeats 800000 in
theorem size_any (v : Nat) (w : World) (hv : v < 18446744073709551616) : Calls Try.prog 14 #[.int .u64 (v : Int)] w fun e w' => e = .returned (.int .i64 ((enc v).length : Int)) ∧ w' = w := by
  have hel := enc_le v hv
  go_enter Try.func14, Try.ntmps14
  go_wp2_with fail
  go_loopw [0, 3] (fun V K wr => ∃ (u k : Nat), V = .int .u64 (u : Int) ∧ u < 18446744073709551616 ∧ K = .int .i64 (k : Int) ∧ k + (enc u).length = (enc v).length + 1 ∧ wr = w)
    (fun V _ _ => (intOf V).toNat)
  case atStart => exact ⟨v, 1, rfl, hv, rfl, by omega, rfl⟩
  case round =>
    obtain ⟨u, k, rfl, hu, rfl, he, rfl⟩ := hrel
    have He : Hid _ := he
    have hk : k ≤ 11 := by omega
    clear he hel
    by_cases hbig : 128 ≤ u
    · go_wp2
      go_roundw
      case rel => exact ⟨u / 128, k + 1, by go_num, by omega, by go_num, by have := He.out; rw [enc_big u hbig] at this; simp at this; omega, trivial⟩
      case measure => simp [intOf]; omega
    · go_wp2
      go_ret
      have := He.out
      rw [enc_small u (by omega)] at this
      simp at this
      exact ⟨by rw [this]; rfl, rfl⟩

theorem getD_mem {us : List Nat} {i : Nat} (h : i < us.length) : us.getD i 0 ∈ us := by
  rw [List.getD_eq_getElem?_getD, List.getElem?_eq_getElem h]; exact List.getElem_mem h
theorem take_step {us : List Nat} {i : Nat} (h : i < us.length) : us.take (i + 1) = us.take i ++ [us.getD i 0] := by
  rw [List.take_add_one, List.getD_eq_getElem?_getD, List.getElem?_eq_getElem h]; rfl

set_option maxRecDepth 4000 in
set_option maxHeartbeats 800000 in
theorem puts_any (v : Value) (us : List Nat) (w : World) (hr : Reads .u64 w v us) (hus : ∀ u ∈ us, u < 18446744073709551616) (hn : us.length ≤ 100000) :
    Calls Try.prog 10 #[v] w fun e w' => ∃ sv, e = .returned sv ∧ Own w' sv (encs us) ∧ Fr w w' (fun _ => False) ∧ (∀ k, sv.ownBlock = some k → w.heap.size ≤ k) := by
  obtain ⟨ao, cap, rfl, hlc, hc⟩ := id hr
  rw [length_row] at hr hlc hc ⊢
  obtain ⟨n, hnn⟩ : ∃ n, n = us.length := ⟨_, rfl⟩
  rw [← hnn] at hr hlc hc hn ⊢
  have Hn : Hid _ := hnn
  have Hr : Hid (Reads .u64 w (.slice ao n cap) us) := hr
  have Hus : Hid _ := hus
  have Hc : Hid _ := hc
  clear hnn hr hus hc
  go_enter Try.func10, Try.ntmps10
  go_wp2_with fail
  go_loopw [3, 8] (fun S I wr => ∃ i : Nat, i ≤ n ∧ I = .int .i64 (i : Int) ∧ Own wr S (encs (us.take i)) ∧ Fr w wr (fun _ => False) ∧ (∀ k, S.ownBlock = some k → w.heap.size ≤ k))
    (fun _ I _ => n - (intOf I).toNat)
  case atStart => exact ⟨0, by omega, rfl, Own.nil _, Fr.refl _ _, fun k hk => by simp [Value.ownBlock] at hk⟩
  case round =>
    obtain ⟨i, hi, rfl, ho, hf, hb⟩ := hrel
    by_cases hlt : i < n
    · obtain ⟨b, off, rfl, -⟩ := Hc.out (by omega)
      have hel := Hus.out _ (getD_mem (us := us) (i := i) (by rw [← Hn.out]; exact hlt))
      obtain ⟨ao', cap', e, -, hcl⟩ := Hr.out.keep hf
      obtain ⟨b', off', rfl, hcell⟩ := hcl (by rw [length_row, ← Hn.out]; omega)
      simp only [Value.slice.injEq, Option.some.injEq, Addr.mk.injEq, and_true] at e
      obtain ⟨⟨rfl, rfl⟩, -, rfl⟩ := e
      have cg := hcell i _ (row_get .u64 us i (by rw [← Hn.out]; exact hlt))
      have hlen : (encs (us.take i)).length ≤ 10 * n := by
        have := encs_le (us.take i) (fun u hu => Hus.out u (List.mem_of_mem_take hu))
        rw [List.length_take, ← Hn.out] at this
        omega
      have Hst : Hid (encs (us.take (i + 1)) = encs (us.take i) ++ enc (us.getD i 0)) := by
        show _ = _
        rw [take_step (by rw [← Hn.out]; exact hlt), encs_snoc]
      generalize us.getD i 0 = u at cg hel Hst
      clear hcl hcell
      go_wp2_with fail
      refine (put_any _ _ u wr ho (by omega) hel).mono ?_
      rintro e w1 ⟨sv1, rfl, ho1, hf1, hm1⟩
      go_wp2
      go_roundw
      case rel => 
        refine ⟨i + 1, by omega, by go_num, by rw [Hst.out]; exact ho1, hf.newer hf1 (fun k hk => hb k hk), fun k hk => ?_⟩
        rcases hm1 k hk with h2 | h2
        · exact hb k h2
        · have := hf.size; omega
      case measure => simp [intOf]; omega
    · have Hin : Hid (us.take i = us) := by show _ = _; exact List.take_of_length_le (by rw [← Hn.out]; omega)
      go_wp2
      go_ret
      exact ⟨_, rfl, by rw [Hin.out] at ho; exact ho, hf, hb⟩
end Go.Proofs.Ytimegheijfnkaaa
