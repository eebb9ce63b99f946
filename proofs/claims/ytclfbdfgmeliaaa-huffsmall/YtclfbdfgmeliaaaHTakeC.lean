/-
  The contract of huff's takeCodes: the bytes whose codes stand at the beginning.
-/
import Derived.Test.YtclfbdfgmeliaaaHRRead
import Derived.Test.YtclfbdfgmeliaaaTNew
namespace Go.Proofs.Ytclfbdfgmeliaaa
open Go.RowKit

set_option maxRecDepth 4000 in
set_option maxHeartbeats 1600000 in
theorem takeCodes_any (u v : Value) (l rb : List Nat) (N0 : Nat) (w : World) (hu : Reads .i64 w u l) (h : Reads .u8 w v rb) (hll : l.length = 256) (hb : ∀ x ∈ rb, x < 256) (hl : rb.length ≤ 1000000) (hN : N0 ≤ 8000000) :
    Calls Try.prog 44 #[u, v, .int .i64 (N0 : Int)] w fun e w' => Fr w w' (fun _ => False) ∧
      (((if rightB (l.map fun (n : Nat) => (n : Int)) = true then takeN l N0 (unpack rb) else none) = none ∧ e = .returned (.tuple #[.slice none 0 0, .bool false])) ∨
      ∃ x sv, (if rightB (l.map fun (n : Nat) => (n : Int)) = true then takeN l N0 (unpack rb) else none) = some x ∧ e = .returned (.tuple #[sv, .bool true]) ∧ Own w' sv x) := by
  have Hu : Hid (Reads .i64 w u l) := hu
  have Hr : Hid (Reads .u8 w v rb) := h
  have Hll : Hid _ := hll
  have Hb : Hid _ := hb
  have Hl : Hid (rb.length ≤ 1000000) := hl
  clear hu h hll hb hl
  cases hR : rightB (l.map fun (n : Nat) => (n : Int)) with
  | false =>
    have HR : Hid _ := hR
    clear hR
    rw [if_neg (by simp)]
    go_enter Try.func44, Try.ntmps44
    go_wp2_with fail
    refine (newC_no _ _ w Hu.out.z HR.out).mono ?_
    rintro e w1 ⟨rfl, hf1⟩
    go_wp2_with fail
    go_ret2
    exact ⟨hf1, .inl ⟨by first | trivial | rfl, rfl⟩⟩
  | true =>
    have HR : Hid (rightB (l.map fun (n : Nat) => (n : Int)) = true) := hR
    clear hR
    rw [if_pos rfl]
    obtain ⟨TN, hTN⟩ : ∃ TN, TN = takeN l N0 (unpack rb) := ⟨_, rfl⟩
    rw [← hTN]
    have HTN : Hid _ := hTN
    clear hTN
    go_enter Try.func44, Try.ntmps44
    go_wp2_with fail
    refine (newC_yes _ _ w Hu.out.z HR.out).mono ?_
    rintro e w1 ⟨t, F, rfl, ht, hf1, hF⟩
    have Ht1 : Hid (Tab w1 t (l.map fun (n : Nat) => (n : Int)) F) := ht
    have Hf1 : Hid (Fr w w1 (fun _ => False)) := hf1
    clear ht hf1 hF
    go_wp2_with fail
    refine (newReader_any v rb w1 (Hr.out.keep Hf1.out).rds (by have := Hl.out; omega) (getD_lt (by omega) Hb.out)).mono ?_
    rintro e w2 ⟨q, sv, rfl, hr2, hf2, hn2⟩
    have Ht2 : Hid (Tab w2 t (l.map fun (n : Nat) => (n : Int)) F) := Ht1.out.frame hf2 (fun _ _ h => h)
    have HFq : Hid (∀ k, F k → ¬ foot q sv k) := fun k hk h2 => by have := Ht1.out.lt k hk; have := hn2 k h2; omega
    have Hqw : Hid (w.heap.size ≤ q) := by have := Hf1.out.size; have := hn2 q (.inl rfl); show _ ≤ _; omega
    have HFlt : Hid (∀ k, F k → k ≠ q) := fun k hk e => by have := Ht1.out.lt k hk; have := hn2 q (.inl rfl); omega
    have Hf2 : Hid (Fr w w2 (fun _ => False)) := Hf1.out.none hf2
    have Hr2 : Hid (Rd 124 w2 q sv rb 0) := hr2
    have HF2 : Hid (∀ k, F k → k < w2.heap.size) := Ht2.out.lt
    have Hq2 : Hid (q < w2.heap.size) := lt_of_block hr2.1
    clear hr2 hf2 hn2 Hf1 Ht1
    obtain ⟨i0, hi0, hz0, hz1, hz2⟩ := info_parts Try.info5
    go_wp2_with (at_make; refine wpList_make_own _ rfl _ _ 22 rfl 0 5 i0 _ 1 Try.underlying22 hi0 hz0 hz1 _ _ _ N0 rfl rfl (by simp) ?b1 ?b2 (Nat.zero_le _) ?_)
    case b1 => rw [hz2]; omega
    case b2 => unfold maxLen; omega
    intro wm hown hgrow
    have hfm : Fr w2 wm (fun _ => False) := (Fr.refl w2 _).grown hgrow (fun k hk => by cases hk)
    obtain ⟨g, hg⟩ : ∃ g, g = w2.heap.size := ⟨_, rfl⟩
    rw [← hg] at hown ⊢
    have Hown : Hid (Own wm (.slice (some ⟨g, 0, none⟩) 0 N0) []) := hown
    have Hfm : Hid (Fr w wm (fun _ => False)) := Hf2.out.none hfm
    have Hfm2 : Hid (Fr w2 wm (fun _ => False)) := hfm
    have Hg2 : Hid (w2.heap.size ≤ g) := by show _ ≤ _; omega
    have Htm : Hid (Tab wm t (l.map fun (n : Nat) => (n : Int)) F) := Ht2.out.frame hfm (fun _ _ h => h)
    have Hrm : Hid (Rd 124 wm q sv rb 0) := Hr2.out.frame hfm (fun _ _ h => h)
    clear hown hgrow hi0 hz0 hz1 hz2 hfm hg
    go_wp2_with fail
    go_loopg [11, 26] N0 (fun g' O I wi => ∃ (i pos : Nat) (xs : List Nat), g' = N0 - i ∧ i ≤ N0 ∧ I = .int .i64 (i : Int) ∧ xs.length = i ∧ Own wi O xs ∧ (takeN l (N0 - i) ((unpack rb).drop pos)).map (xs ++ ·) = TN ∧ Rd 124 wi q sv rb pos ∧ (∀ k, O.ownBlock = some k → w2.heap.size ≤ k) ∧ Fr w2 wi (fun k => k = q))
    case atStart => exact ⟨0, 0, [], rfl, by omega, rfl, rfl, Hown.out, by rw [HTN.out]; simp, Hrm.out, fun k hk => by simp [Value.ownBlock] at hk; rw [← hk]; exact Hg2.out, Hfm2.out.mono (fun _ _ h => h.elim)⟩
    case round =>
      obtain ⟨i, pos, xs, hg', hi, rfl, hxl, ho, htk, hrd, hno, hf⟩ := hrel
      have Hg' : Hid _ := hg'
      have Hxl : Hid _ := hxl
      have Ho : Hid (Own wr u11 xs) := ho
      have Htk : Hid _ := htk
      have Hrdr : Hid (Rd 124 wr q sv rb pos) := hrd
      have Hno : Hid _ := hno
      have Hf : Hid (Fr w2 wr (fun k => k = q)) := hf
      clear hg' hxl ho htk hrd hno hf
      by_cases hlt : i < N0
      · have hi1 : (i : Int) < (N0 : Int) := by omega
        obtain ⟨m, hm⟩ : ∃ m, N0 - i = m + 1 := ⟨N0 - i - 1, by omega⟩
        have Hm : Hid (N0 - (i + 1) = m) := by show _ = _; omega
        have Htk2 : Hid ((takeN l (m + 1) ((unpack rb).drop pos)).map (xs ++ ·) = TN) := by rw [← hm]; exact Htk.out
        rw [takeN] at Htk2
        clear hm Htk
        go_wp2_with fail
        refine (takeC_any t q sv rb pos _ F wr (Ht2.out.frame Hf.out (fun k hk e => HFlt.out k hk e)) HR.out Hrdr.out HFq.out).mono ?_
        rw [natsH]
        rintro e w6 ⟨rfl, hr6, hf6⟩
        have Hf6 : Hid (Fr w2 w6 (fun k => k = q)) := Hf.out.trans hf6 (fun _ _ h => h)
        have ho6 : Own w6 u11 xs := Ho.out.frame hf6 (fun k hk h2 => by have := Hno.out k hk; have := Hq2.out; omega)
        clear hf6
        cases hS : takeSym l ((unpack rb).drop pos) with
        | none =>
          rw [hS] at Htk2
          have Hnone : Hid (TN = none) := by show _ = _; rw [← Htk2.out]; rfl
          have HfZ : Hid (Fr w w6 (fun _ => False)) := Hf2.out.newer Hf6.out (fun k hk => by rw [hk]; exact Hqw.out)
          rw [show tkS l ((unpack rb).drop pos) = 0 by unfold tkS; rw [hS]; rfl, show tkB l ((unpack rb).drop pos) = false by unfold tkB; rw [hS]; rfl]
          clear hr6 ho6 hS
          go_wp2_with fail
          go_ret2
          exact ⟨HfZ.out, .inl ⟨Hnone.out, rfl⟩⟩
        | some p =>
          obtain ⟨s, k⟩ := p
          rw [hS] at Htk2
          have hs256 : s < 256 := by have := takeSym_lt hS; rw [Hll.out] at this; exact this
          rw [show tkN l ((unpack rb).drop pos) = k by unfold tkN; rw [hS]; rfl] at hr6
          rw [show tkS l ((unpack rb).drop pos) = s by unfold tkS; rw [hS]; rfl, show tkB l ((unpack rb).drop pos) = true by unfold tkB; rw [hS]; rfl]
          have Htk3 : Hid ((takeN l m ((unpack rb).drop (pos + k))).map ((xs ++ [s]) ++ ·) = TN) := by
            show _ = _
            have h1 := Htk2.out
            simp only [Option.map_map] at h1
            rw [List.drop_drop] at h1
            rw [← h1]
            congr 1
            funext y
            simp
          obtain ⟨v7, w7, hrun7, ho7, hf7, hm7⟩ := app_byte w6 u11 xs s (s : Int) rfl ho6 (by rw [Hxl.out]; omega)
          have Hr7 : Hid (Rd 124 w7 q sv rb (pos + k)) := hr6.frame' hf7 (fun h2 => by have := Hno.out q h2; have := Hq2.out; omega) (fun h0 k hk h2 => by have := Hno.out k h2; have := rds_ltH Hr2.out.2.1 h0 k hk; omega)
          have Ho7 : Hid (Own w7 v7 (xs ++ [s])) := ho7
          have Hn7 : Hid (∀ k, v7.ownBlock = some k → w2.heap.size ≤ k) := fun k hk => by
            rcases hm7 k hk with h2 | h2
            · exact Hno.out k h2
            · have := Hf6.out.size; omega
          have Hf7 : Hid (Fr w2 w7 (fun k => k = q)) := Hf6.out.newer hf7 Hno.out
          have wu : IntKind.u8.wrap (s : Int) = (s : Int) := by rw [IntKind.wrap_u8]; omega
          have wu2 : (s : Int) % 256 = (s : Int) := by omega
          clear hr6 ho6 ho7 hf7 hm7 hS Htk2
          go_wp2_with (at_builtin; refine wpList_append_run rfl (.tmp 36) (.tmp 39) 22 rfl rfl rfl hrun7 ?_)
          go_roundg (N0 - (i + 1))
          case rel => exact ⟨i + 1, pos + k, xs ++ [s], rfl, by omega, by go_num, by rw [List.length_append, Hxl.out]; rfl, Ho7.out, by rw [Hm.out]; exact Htk3.out, Hr7.out, Hn7.out, Hf7.out⟩
          case measure => rw [Hg'.out]; omega
      · have hi1 : ¬ (i : Int) < (N0 : Int) := by omega
        have Hraw3 : Hid (TN = some xs) := by
          show _ = _
          have h1 := Htk.out
          rw [show N0 - i = 0 by omega] at h1
          simp only [takeN, Option.map_some, List.append_nil] at h1
          exact h1.symm
        have HfX : Hid (Fr w wr (fun _ => False)) := Hf2.out.newer Hf.out (fun k hk => by rw [hk]; exact Hqw.out)
        go_wp2_with fail
        go_ret2
        refine ⟨HfX.out, .inr ?_⟩
        exact ⟨xs, Hraw3.out, _, rfl, Ho.out⟩

end Go.Proofs.Ytclfbdfgmeliaaa
