/-
  Texts of ours, joined: HTakeL HTakeC HTakeP HText HHelp.
-/
import Derived.Test.YtclfbdfgmeliaaaJ5
import Derived.Test.YtclfbdfgmeliaaaJ6
import Derived.Test.YtclfbdfgmeliaaaJ2
import Derived.Test.YtclfbdfgmeliaaaJ3

/-
  The contract of huff's takeLengths: the lengths that stand at the beginning of bytes.
-/
namespace Go.Proofs.Ytclfbdfgmeliaaa
open Go.RowKit

theorem parse_full (m : Nat) (bs : List Nat) (f : Nat → Nat) : parseL (m + 1) bs 256 f = none := by
  rw [parseL]
  split
  · rfl
  · rw [if_pos (.inr (by omega))]
theorem took_less (bs : List Nat) (a b : Nat) (hab : a ≤ b) : ((took bs a).2.2 ≠ 0 ∧ ((took bs b).2.2 ≠ 0 ∨ a < (took bs b).1)) ∨ (took bs a = took bs b ∧ (took bs b).2.2 = 0 ∧ (took bs b).1 ≤ a) := by
  unfold took
  by_cases h : (lenFrom 0 bs).2 ≠ 0
  · rw [if_pos h, if_pos h]
    exact .inl ⟨h, .inl h⟩
  · rw [if_neg h, if_neg h]
    by_cases h1 : a < val bs (lenFrom 0 bs).1
    · rw [if_pos h1]
      refine .inl ⟨by simp, ?_⟩
      by_cases h2 : b < val bs (lenFrom 0 bs).1
      · rw [if_pos h2]; exact .inl (by simp)
      · rw [if_neg h2]; exact .inr h1
    · rw [if_neg h1, if_neg (by omega)]
      exact .inr ⟨rfl, rfl, by simp only; omega⟩
theorem parse_step (m : Nat) (bs : List Nat) (nx : Nat) (f : Nat → Nat) (h : nx ≤ 255) : parseL (m + 1) bs nx f =
    if (took bs (255 - nx)).2.2 ≠ 0 then none
    else if (took (bs.drop (took bs (255 - nx)).2.1) 15).2.2 ≠ 0 then none
    else parseL m ((bs.drop (took bs (255 - nx)).2.1).drop (took (bs.drop (took bs (255 - nx)).2.1) 15).2.1) (nx + (took bs (255 - nx)).1 + 1) (fun t => if t = nx + (took bs (255 - nx)).1 then (took (bs.drop (took bs (255 - nx)).2.1) 15).1 else f t) := by
  rw [parseL]
  rcases took_less bs (255 - nx) 255 (by omega) with ⟨h1, h2⟩ | ⟨h1, h2, h3⟩
  · rw [if_pos h1]
    rcases h2 with h2 | h2
    · rw [if_pos h2]
    · by_cases h4 : (took bs 255).2.2 ≠ 0
      · rw [if_pos h4]
      · rw [if_neg h4, if_pos (.inr (by omega))]
  · rw [h1]
    simp only [ne_eq, h2, not_true_eq_false, if_false]
    by_cases h4 : (took (bs.drop (took bs 255).2.1) 15).2.2 ≠ 0
    · rw [if_pos (.inl h4), if_pos h4]
    · rw [if_neg (by intro h5; rcases h5 with h5 | h5; exact h4 h5; omega), if_neg h4]

set_option maxRecDepth 4000 in
set_option maxHeartbeats 1600000 in
theorem takeLengths_any (v : Value) (bs : List Nat) (w : World) (h : Reads .u8 w v bs) (hb : ∀ x ∈ bs, x < 256) (hl : bs.length ≤ 1000000) :
    Calls Try.prog 43 #[v] w fun e w' => Fr w w' (fun _ => False) ∧ ((parsed bs = none ∧ e = .returned (.tuple #[.slice none 0 0, .slice none 0 0, .bool false])) ∨
      ∃ l r sv rv, parsed bs = some (l, r) ∧ e = .returned (.tuple #[sv, rv, .bool true]) ∧ Reads .i64 w' sv l ∧ (∀ k, sv.ownBlock = some k → w.heap.size ≤ k) ∧ Reads .u8 w rv r ∧ r.length ≤ bs.length ∧ ∀ x ∈ r, x < 256) := by
  obtain ⟨a0, c0, rfl, hc0, -⟩ := id h
  rw [length_row] at h hc0 ⊢
  obtain ⟨n, hn⟩ : ∃ n, n = bs.length := ⟨_, rfl⟩
  rw [← hn] at h hl hc0 ⊢
  have Hr : Hid (Reads .u8 w (.slice a0 n c0) bs) := h
  have Hn : Hid _ := hn
  have Hb : Hid _ := hb
  clear h hn hb
  have Hp : Hid (parsed bs = if (took bs 256).2.2 ≠ 0 then none else (parseL (took bs 256).1 (bs.drop (took bs 256).2.1) 0 (fun _ => 0)).map fun r => (listF r.1, r.2)) := rfl
  have hcall : ∀ x, Reads .u8 x (.slice a0 n c0) bs → _ := fun x hx => vtake_any (.slice a0 n c0) bs 256 x hx Hb.out (by rw [← Hn.out]; omega) (by omega)
  have htl := took_len bs 256
  have htm := took_most bs 256
  rcases hT : took bs 256 with ⟨N0, k0, e0⟩
  rw [hT] at Hp htl htm
  rw [← Hn.out] at htl
  simp only [hT] at hcall
  dsimp only at htl htm
  have Hcall : Hid _ := hcall
  clear hcall hT
  go_enter Try.func43, Try.ntmps43
  go_wp2_with fail
  refine (Hcall.out w Hr.out).mono ?_
  rintro e w1 ⟨rfl, hw1⟩
  obtain rfl : w = w1 := hw1.symm
  by_cases he0 : e0 = 0
  · subst he0
    have Hp2 : Hid (parsed bs = (parseL N0 (bs.drop k0) 0 (fun _ => 0)).map fun r => (listF r.1, r.2)) := by show _ = _; rw [Hp.out]; simp
    obtain ⟨R, hR⟩ : ∃ R, R = parseL N0 (bs.drop k0) 0 (fun _ => 0) := ⟨_, rfl⟩
    rw [← hR] at Hp2
    have HR : Hid _ := hR
    have hk0i : (k0 : Int) ≤ (n : Int) := by omega
    have hdr := reads_drop Hr.out k0 htl.1
    obtain ⟨A1, hA1⟩ : ∃ A, (if c0 = k0 then a0 else Option.map (fun x => x.add k0) a0) = A := ⟨_, rfl⟩
    rw [hA1] at hdr
    have Hdr : Hid (Reads .u8 w (.slice A1 (n - k0) (c0 - k0)) (bs.drop k0)) := hdr
    have Hdl : Hid ((bs.drop k0).length ≤ n) := by show _ ≤ _; rw [List.length_drop, ← Hn.out]; omega
    clear hR Hp Hcall hdr
    obtain ⟨i0, hi0, hz0, hz1, hz2⟩ := info_parts infoIntC
    go_wp2_with (at_make; refine wpList_make_full _ rfl _ _ 28 rfl 0 3 i0 (.int .i64 0) 1 Try.underlying28 hi0 hz0 hz1 _ _ _ _ 256 rfl rfl rfl rfl ?b1 ?b2 (Nat.zero_le _) ?_)
    case b1 => rw [hz2]; omega
    case b2 => unfold maxLen; omega
    intro wm hown hgrow
    rw [zeros_fnRow] at hown
    have hfm : Fr w wm (fun _ => False) := (Fr.refl w _).grown hgrow (fun k hk => by cases hk)
    obtain ⟨g, hg⟩ : ∃ g, g = w.heap.size := ⟨_, rfl⟩
    rw [← hg] at hown ⊢
    have Hgw : Hid (w.heap.size ≤ g) := by show _ ≤ _; omega
    have Hown : Hid (OwnC wm (.slice (some ⟨g, 0, none⟩) 256 256) (fnRow 256 (fun _ => 0))) := by
      unfold OwnC
      rw [fnRow_length]
      exact hown
    have Hfm : Hid (Fr w wm (fun _ => False)) := hfm
    clear hgrow hfm hown hi0 hz0 hz1 hz2 hg
    go_wp2_with fail
    clear hA1
    go_loopg [0, 9, 29] N0 (fun g' B S I wr => ∃ (i nx : Nat) (cs : List Nat) (f : Nat → Nat), g' = N0 - i ∧ i ≤ N0 ∧ I = .int .u64 (i : Int) ∧ S = .int .i64 (nx : Int) ∧ nx ≤ 256 ∧ Reads .u8 w B cs ∧ cs.length ≤ n ∧ (∀ x ∈ cs, x < 256) ∧ parseL (N0 - i) cs nx f = R ∧ OwnC wr (.slice (some ⟨g, 0, none⟩) 256 256) (fnRow 256 f) ∧ Fr wm wr (fun k => k = g))
    case atStart => exact ⟨0, 0, bs.drop k0, fun _ => 0, rfl, by omega, rfl, rfl, by omega, Hdr.out, Hdl.out, mem_drop_lt Hb.out, HR.out.symm, Hown.out, Fr.refl _ _⟩
    case round =>
      obtain ⟨i, nx, cs, f, hg', hi, rfl, rfl, hnx, hrc, hcl, hcb, hpar, ho, hf⟩ := hrel
      have Hg' : Hid _ := hg'
      have Hpar : Hid (parseL (N0 - i) cs nx f = R) := hpar
      have Ho : Hid (OwnC wr (.slice (some ⟨g, 0, none⟩) 256 256) (fnRow 256 f)) := ho
      have Hf : Hid (Fr wm wr (fun k => k = g)) := hf
      obtain ⟨a1, c1, rfl, hc1, -⟩ := id hrc
      rw [length_row] at hrc hc1 ⊢
      obtain ⟨n1, hn1⟩ : ∃ n, n = cs.length := ⟨_, rfl⟩
      rw [← hn1] at hrc hc1 hcl ⊢
      have Hrc : Hid (Reads .u8 w (.slice a1 n1 c1) cs) := hrc
      have Hn1 : Hid _ := hn1
      have Hcb : Hid (∀ x ∈ cs, x < 256) := hcb
      have hfo := Hfm.out.newer Hf.out (fun k hk => by rw [hk]; exact Hgw.out)
      have Hfo : Hid (Fr w wr (fun _ => False)) := hfo
      clear hg' hpar ho hf hrc hn1 hcb hfo
      by_cases hlt : i < N0
      · obtain ⟨m, hm⟩ : ∃ m, N0 - i = m + 1 := ⟨N0 - i - 1, by omega⟩
        have hi1 : (i : Int) < (N0 : Int) := by omega
        by_cases hfull : nx = 256
        · subst hfull
          have Hnone : Hid (parsed bs = none) := by
            show _ = _
            have h1 := Hpar.out
            rw [hm, parse_full] at h1
            rw [Hp2.out, ← h1]
            rfl
          clear hm
          go_wp2_with fail
          go_ret3
          exact ⟨Hfo.out, .inl ⟨Hnone.out, rfl⟩⟩
        · have hnf : ((nx : Int) == 256) = false := by rw [beq_eq_false_iff_ne]; omega
          have Hpar1 : Hid (R = parseL (m + 1) cs nx f) := by rw [← hm]; exact Hpar.out.symm
          rw [parse_step m cs nx f (by omega)] at Hpar1
          obtain ⟨M, hM⟩ : ∃ M, M = 255 - nx := ⟨_, rfl⟩
          rw [← hM] at Hpar1
          have htl1 := took_len cs M
          have htm1 := took_most cs M
          rcases hT1 : took cs M with ⟨g1, k1, e1⟩
          rw [hT1] at htl1 htm1
          simp only [hT1] at Hpar1
          rw [← Hn1.out] at htl1
          dsimp only at htl1 htm1
          have HT1 : Hid _ := hT1
          have qM : (255 : Int) - (nx : Int) = (M : Int) := by omega
          have wM : IntKind.u64.wrap (M : Int) = (M : Int) := by rw [IntKind.wrap_u64]; omega
          have hMb : M ≤ 255 := by omega
          have hsumb : nx + g1 ≤ 255 := by omega
          clear hT1 hM
          go_wp2_with fail
          refine (vtake_any _ cs M wr (Hrc.out.keep Hfo.out) Hcb.out (by rw [← Hn1.out]; omega) (by omega)).mono ?_
          rw [HT1.out]
          rintro e w2 ⟨rfl, hw2⟩
          obtain rfl : wr = w2 := hw2.symm
          clear HT1
          by_cases he1 : e1 = 0
          · subst he1
            have hd2 := reads_drop Hrc.out k1 htl1.1
            have htl2 := took_len (cs.drop k1) 15
            have htm2 := took_most (cs.drop k1) 15
            have Hpar2 : Hid (R = if (took (cs.drop k1) 15).2.2 ≠ 0 then none else parseL m ((cs.drop k1).drop (took (cs.drop k1) 15).2.1) (nx + g1 + 1) (fun t => if t = nx + g1 then (took (cs.drop k1) 15).1 else f t)) := by
              have h1 := Hpar1.out
              rw [if_neg (by simp)] at h1
              exact h1
            rcases hT2 : took (cs.drop k1) 15 with ⟨g2, k2, e2⟩
            rw [hT2] at htl2 htm2
            simp only [hT2] at Hpar2
            rw [List.length_drop, ← Hn1.out] at htl2
            dsimp only at htl2 htm2
            have HT2 : Hid _ := hT2
            obtain ⟨A2, hA2⟩ : ∃ A, (if c1 = k1 then a1 else Option.map (fun x => x.add k1) a1) = A := ⟨_, rfl⟩
            rw [hA2] at hd2
            have Hd2 : Hid (Reads .u8 w (.slice A2 (n1 - k1) (c1 - k1)) (cs.drop k1)) := hd2
            have hk1i : (k1 : Int) ≤ (n1 : Int) := by omega
            obtain ⟨s2, hs2⟩ : ∃ s, s = nx + g1 := ⟨_, rfl⟩
            rw [← hs2] at Hpar2
            have hsum : (nx : Int) + (g1 : Int) = (s2 : Int) := by omega
            have hs2b : s2 ≤ 255 := by omega
            have wg1 : IntKind.i64.wrap (g1 : Int) = (g1 : Int) := IntWalk.i64_in _ (by omega)
            clear hd2 hT2 hs2 Hpar1
            go_wp2_with fail
            refine (vtake_any _ (cs.drop k1) 15 wr (Hd2.out.keep Hfo.out) (mem_drop_lt Hcb.out) (by rw [List.length_drop, ← Hn1.out]; omega) (by omega)).mono ?_
            rw [HT2.out]
            rintro e w3 ⟨rfl, hw3⟩
            obtain rfl : wr = w3 := hw3.symm
            clear HT2 Hd2 hA2
            by_cases he2 : e2 = 0
            · subst he2
              obtain ⟨k3, hk3⟩ : ∃ a, a = k1 + k2 := ⟨_, rfl⟩
              have hadd3 : (k1 : Int) + (k2 : Int) = (k3 : Int) := by omega
              have Hpar3 : Hid (parseL m (cs.drop k3) (s2 + 1) (fun t => if t = s2 then g2 else f t) = R) := by
                show _ = _
                have h1 := Hpar2.out
                rw [if_neg (by simp), List.drop_drop, ← hk3] at h1
                exact h1.symm
              have hk3n : k3 ≤ n1 := by omega
              have hk3i : (k3 : Int) ≤ (n1 : Int) := by omega
              have hd3 := reads_drop Hrc.out k3 hk3n
              obtain ⟨A3, hA3⟩ : ∃ A, (if c1 = k3 then a1 else Option.map (fun x => x.add k3) a1) = A := ⟨_, rfl⟩
              rw [hA3] at hd3
              have Hd3 : Hid (Reads .u8 w (.slice A3 (n1 - k3) (c1 - k3)) (cs.drop k3)) := hd3
              have Hl3 : Hid ((cs.drop k3).length ≤ n) := by show _ ≤ _; rw [List.length_drop, ← Hn1.out]; omega
              have wg2 : IntKind.i64.wrap (g2 : Int) = (g2 : Int) := IntWalk.i64_in _ (by omega)
              have hoc := Ho.out
              unfold OwnC at hoc
              rw [fnRow_length] at hoc
              have hfz := World.ownsRow.frozenAt hoc s2
              have hce : wr.cell? ⟨g, s2, none⟩ = some (.int .i64 ((f s2 : Nat) : Int)) := by
                rw [World.ownsRow.cellAt hoc s2 (by omega)]
                simp [row, fnRow, show s2 < 256 by omega]
              have Hset : Hid ((fnRow 256 f).set s2 g2 = fnRow 256 (fun t => if t = s2 then g2 else f t)) := fnRow_set 256 _ _ s2 g2 (by rw [if_pos rfl]) (fun t ht => by rw [if_neg ht])
              have Hst : Hid (OwnC (wr.setCell ⟨g, s2, none⟩ (.int .i64 (g2 : Int))) (.slice (some ⟨g, 0, none⟩) 256 256) (fnRow 256 (fun t => if t = s2 then g2 else f t))) := by
                have := (World.ownsRow.stored hoc s2 (.int .i64 (g2 : Int))).1
                unfold OwnC
                rw [fnRow_length, ← Hset.out, row_set]
                exact this
              have Hf2 : Hid (Fr wm (wr.setCell ⟨g, s2, none⟩ (.int .i64 (g2 : Int))) (fun k => k = g)) := Hf.out.setCell ⟨g, s2, none⟩ (fun _ => rfl) _
              have hs2i : (s2 : Int) < 256 := by omega
              have Hm : Hid (N0 - (i + 1) = m) := by show _ = _; omega
              generalize f s2 = old at hce
              clear hoc Hset Hpar2 Hpar hk3 hd3
              go_wp2_with fail
              go_roundg (N0 - (i + 1))
              case rel => exact ⟨i + 1, s2 + 1, cs.drop k3, _, rfl, by omega, by go_num, by go_num, by omega, Hd3.out, Hl3.out, mem_drop_lt Hcb.out, by rw [Hm.out]; exact Hpar3.out, Hst.out, Hf2.out⟩
              case measure => rw [Hg'.out]; omega
            · have hd : ((e2 : Int) != 0) = true := by simp; omega
              have hd2 : ((e2 : Int) == 0) = false := by rw [beq_eq_false_iff_ne]; omega
              have Hnone : Hid (parsed bs = none) := by
                show _ = _
                have h1 := Hpar2.out
                rw [if_pos he2] at h1
                rw [Hp2.out, h1]
                rfl
              go_wp2_with fail
              go_ret3
              exact ⟨Hfo.out, .inl ⟨Hnone.out, rfl⟩⟩
          · have hd : ((e1 : Int) != 0) = true := by simp; omega
            have hd2 : ((e1 : Int) == 0) = false := by rw [beq_eq_false_iff_ne]; omega
            have Hnone : Hid (parsed bs = none) := by
              show _ = _
              have h1 := Hpar1.out
              rw [if_pos he1] at h1
              rw [Hp2.out, h1]
              rfl
            go_wp2_with fail
            go_ret3
            exact ⟨Hfo.out, .inl ⟨Hnone.out, rfl⟩⟩
      · have hi1 : ¬ (i : Int) < (N0 : Int) := by omega
        have Hsome : Hid (parsed bs = some (listF f, cs)) := by
          show _ = _
          have h1 := Hpar.out
          rw [show N0 - i = 0 by omega] at h1
          rw [Hp2.out, ← h1]
          rfl
        go_wp2_with fail
        go_ret3
        refine ⟨Hfo.out, .inr ?_⟩
        exact ⟨_, cs, Hsome.out, _, _, rfl, holds_own Ho.out, fun k hk => by simp [Value.ownBlock] at hk; rw [← hk]; exact Hgw.out, Hrc.out, by rw [← Hn1.out]; exact hcl, Hcb.out⟩
  · have hd : ((e0 : Int) != 0) = true := by simp; omega
    have hd2 : ((e0 : Int) == 0) = false := by rw [beq_eq_false_iff_ne]; omega
    have Hnone : Hid (parsed bs = none) := by show _ = _; rw [Hp.out, if_pos (by simpa using he0)]
    go_wp2_with fail
    go_ret3
    exact ⟨Fr.refl _ _, .inl ⟨Hnone.out, rfl⟩⟩

end Go.Proofs.Ytclfbdfgmeliaaa

/-
  The contract of huff's takeCodes: the bytes whose codes stand at the beginning.
-/
namespace Go.Proofs.Ytclfbdfgmeliaaa
open Go.RowKit

set_option maxRecDepth 4000 in
set_option maxHeartbeats 1600000 in
theorem takeCodes_any (u v : Value) (l rb : List Nat) (N0 : Nat) (w : World) (hu : Reads .i64 w u l) (h : Reads .u8 w v rb) (hll : l.length = 256) (hb : ∀ x ∈ rb, x < 256) (hl : rb.length ≤ 1000000) (hN : N0 ≤ 8000000) :
    Calls Try.prog 44 #[u, v, .int .i64 (N0 : Int)] w fun e w' => Fr w w' (fun _ => False) ∧
      (((if rightB (l.map fun (n : Nat) => (n : Int)) = true then takeN l N0 (unpack rb) else none) = none ∧ e = .returned (.tuple #[.slice none 0 0, .bool false])) ∨
      ∃ x sv, (if rightB (l.map fun (n : Nat) => (n : Int)) = true then takeN l N0 (unpack rb) else none) = some x ∧ e = .returned (.tuple #[sv, .bool true]) ∧ Own w' sv x) := by
  have Hu : Hid (Reads .i64 w u l) := hu
  have Hr : Hid (Reads .u8 w v rb) := h
  have Hll : Hid _ := hll
  have Hb : Hid _ := hb
  have Hl : Hid (rb.length ≤ 1000000) := hl
  clear hu h hll hb hl
  cases hR : rightB (l.map fun (n : Nat) => (n : Int)) with
  | false =>
    have HR : Hid _ := hR
    clear hR
    rw [if_neg (by simp)]
    go_enter Try.func44, Try.ntmps44
    go_wp2_with fail
    refine (newC_no _ _ w Hu.out.z HR.out).mono ?_
    rintro e w1 ⟨rfl, hf1⟩
    go_wp2_with fail
    go_ret2
    exact ⟨hf1, .inl ⟨by first | trivial | rfl, rfl⟩⟩
  | true =>
    have HR : Hid (rightB (l.map fun (n : Nat) => (n : Int)) = true) := hR
    clear hR
    rw [if_pos rfl]
    obtain ⟨TN, hTN⟩ : ∃ TN, TN = takeN l N0 (unpack rb) := ⟨_, rfl⟩
    rw [← hTN]
    have HTN : Hid _ := hTN
    clear hTN
    go_enter Try.func44, Try.ntmps44
    go_wp2_with fail
    refine (newC_yes _ _ w Hu.out.z HR.out).mono ?_
    rintro e w1 ⟨t, F, rfl, ht, hf1, hF⟩
    have Ht1 : Hid (Tab w1 t (l.map fun (n : Nat) => (n : Int)) F) := ht
    have Hf1 : Hid (Fr w w1 (fun _ => False)) := hf1
    clear ht hf1 hF
    go_wp2_with fail
    refine (newReader_any v rb w1 (Hr.out.keep Hf1.out).rds (by have := Hl.out; omega) (getD_lt (by omega) Hb.out)).mono ?_
    rintro e w2 ⟨q, sv, rfl, hr2, hf2, hn2⟩
    have Ht2 : Hid (Tab w2 t (l.map fun (n : Nat) => (n : Int)) F) := Ht1.out.frame hf2 (fun _ _ h => h)
    have HFq : Hid (∀ k, F k → ¬ foot q sv k) := fun k hk h2 => by have := Ht1.out.lt k hk; have := hn2 k h2; omega
    have Hqw : Hid (w.heap.size ≤ q) := by have := Hf1.out.size; have := hn2 q (.inl rfl); show _ ≤ _; omega
    have HFlt : Hid (∀ k, F k → k ≠ q) := fun k hk e => by have := Ht1.out.lt k hk; have := hn2 q (.inl rfl); omega
    have Hf2 : Hid (Fr w w2 (fun _ => False)) := Hf1.out.none hf2
    have Hr2 : Hid (Rd 124 w2 q sv rb 0) := hr2
    have HF2 : Hid (∀ k, F k → k < w2.heap.size) := Ht2.out.lt
    have Hq2 : Hid (q < w2.heap.size) := lt_of_block hr2.1
    clear hr2 hf2 hn2 Hf1 Ht1
    obtain ⟨i0, hi0, hz0, hz1, hz2⟩ := info_parts Try.info5
    go_wp2_with (at_make; refine wpList_make_own _ rfl _ _ 22 rfl 0 5 i0 _ 1 Try.underlying22 hi0 hz0 hz1 _ _ _ N0 rfl rfl (by simp) ?b1 ?b2 (Nat.zero_le _) ?_)
    case b1 => rw [hz2]; omega
    case b2 => unfold maxLen; omega
    intro wm hown hgrow
    have hfm : Fr w2 wm (fun _ => False) := (Fr.refl w2 _).grown hgrow (fun k hk => by cases hk)
    obtain ⟨g, hg⟩ : ∃ g, g = w2.heap.size := ⟨_, rfl⟩
    rw [← hg] at hown ⊢
    have Hown : Hid (Own wm (.slice (some ⟨g, 0, none⟩) 0 N0) []) := hown
    have Hfm : Hid (Fr w wm (fun _ => False)) := Hf2.out.none hfm
    have Hfm2 : Hid (Fr w2 wm (fun _ => False)) := hfm
    have Hg2 : Hid (w2.heap.size ≤ g) := by show _ ≤ _; omega
    have Htm : Hid (Tab wm t (l.map fun (n : Nat) => (n : Int)) F) := Ht2.out.frame hfm (fun _ _ h => h)
    have Hrm : Hid (Rd 124 wm q sv rb 0) := Hr2.out.frame hfm (fun _ _ h => h)
    clear hown hgrow hi0 hz0 hz1 hz2 hfm hg
    go_wp2_with fail
    go_loopg [11, 26] N0 (fun g' O I wi => ∃ (i pos : Nat) (xs : List Nat), g' = N0 - i ∧ i ≤ N0 ∧ I = .int .i64 (i : Int) ∧ xs.length = i ∧ Own wi O xs ∧ (takeN l (N0 - i) ((unpack rb).drop pos)).map (xs ++ ·) = TN ∧ Rd 124 wi q sv rb pos ∧ (∀ k, O.ownBlock = some k → w2.heap.size ≤ k) ∧ Fr w2 wi (fun k => k = q))
    case atStart => exact ⟨0, 0, [], rfl, by omega, rfl, rfl, Hown.out, by rw [HTN.out]; simp, Hrm.out, fun k hk => by simp [Value.ownBlock] at hk; rw [← hk]; exact Hg2.out, Hfm2.out.mono (fun _ _ h => h.elim)⟩
    case round =>
      obtain ⟨i, pos, xs, hg', hi, rfl, hxl, ho, htk, hrd, hno, hf⟩ := hrel
      have Hg' : Hid _ := hg'
      have Hxl : Hid _ := hxl
      have Ho : Hid (Own wr u11 xs) := ho
      have Htk : Hid _ := htk
      have Hrdr : Hid (Rd 124 wr q sv rb pos) := hrd
      have Hno : Hid _ := hno
      have Hf : Hid (Fr w2 wr (fun k => k = q)) := hf
      clear hg' hxl ho htk hrd hno hf
      by_cases hlt : i < N0
      · have hi1 : (i : Int) < (N0 : Int) := by omega
        obtain ⟨m, hm⟩ : ∃ m, N0 - i = m + 1 := ⟨N0 - i - 1, by omega⟩
        have Hm : Hid (N0 - (i + 1) = m) := by show _ = _; omega
        have Htk2 : Hid ((takeN l (m + 1) ((unpack rb).drop pos)).map (xs ++ ·) = TN) := by rw [← hm]; exact Htk.out
        rw [takeN] at Htk2
        clear hm Htk
        go_wp2_with fail
        refine (takeC_any t q sv rb pos _ F wr (Ht2.out.frame Hf.out (fun k hk e => HFlt.out k hk e)) HR.out Hrdr.out HFq.out).mono ?_
        rw [natsH]
        rintro e w6 ⟨rfl, hr6, hf6⟩
        have Hf6 : Hid (Fr w2 w6 (fun k => k = q)) := Hf.out.trans hf6 (fun _ _ h => h)
        have ho6 : Own w6 u11 xs := Ho.out.frame hf6 (fun k hk h2 => by have := Hno.out k hk; have := Hq2.out; omega)
        clear hf6
        cases hS : takeSym l ((unpack rb).drop pos) with
        | none =>
          rw [hS] at Htk2
          have Hnone : Hid (TN = none) := by show _ = _; rw [← Htk2.out]; rfl
          have HfZ : Hid (Fr w w6 (fun _ => False)) := Hf2.out.newer Hf6.out (fun k hk => by rw [hk]; exact Hqw.out)
          rw [show tkS l ((unpack rb).drop pos) = 0 by unfold tkS; rw [hS]; rfl, show tkB l ((unpack rb).drop pos) = false by unfold tkB; rw [hS]; rfl]
          clear hr6 ho6 hS
          go_wp2_with fail
          go_ret2
          exact ⟨HfZ.out, .inl ⟨Hnone.out, rfl⟩⟩
        | some p =>
          obtain ⟨s, k⟩ := p
          rw [hS] at Htk2
          have hs256 : s < 256 := by have := takeSym_lt hS; rw [Hll.out] at this; exact this
          rw [show tkN l ((unpack rb).drop pos) = k by unfold tkN; rw [hS]; rfl] at hr6
          rw [show tkS l ((unpack rb).drop pos) = s by unfold tkS; rw [hS]; rfl, show tkB l ((unpack rb).drop pos) = true by unfold tkB; rw [hS]; rfl]
          have Htk3 : Hid ((takeN l m ((unpack rb).drop (pos + k))).map ((xs ++ [s]) ++ ·) = TN) := by
            show _ = _
            have h1 := Htk2.out
            simp only [Option.map_map] at h1
            rw [List.drop_drop] at h1
            rw [← h1]
            congr 1
            funext y
            simp
          obtain ⟨v7, w7, hrun7, ho7, hf7, hm7⟩ := app_byte w6 u11 xs s (s : Int) rfl ho6 (by rw [Hxl.out]; omega)
          have Hr7 : Hid (Rd 124 w7 q sv rb (pos + k)) := hr6.frame' hf7 (fun h2 => by have := Hno.out q h2; have := Hq2.out; omega) (fun h0 k hk h2 => by have := Hno.out k h2; have := rds_ltH Hr2.out.2.1 h0 k hk; omega)
          have Ho7 : Hid (Own w7 v7 (xs ++ [s])) := ho7
          have Hn7 : Hid (∀ k, v7.ownBlock = some k → w2.heap.size ≤ k) := fun k hk => by
            rcases hm7 k hk with h2 | h2
            · exact Hno.out k h2
            · have := Hf6.out.size; omega
          have Hf7 : Hid (Fr w2 w7 (fun k => k = q)) := Hf6.out.newer hf7 Hno.out
          have wu : IntKind.u8.wrap (s : Int) = (s : Int) := by rw [IntKind.wrap_u8]; omega
          have wu2 : (s : Int) % 256 = (s : Int) := by omega
          clear hr6 ho6 ho7 hf7 hm7 hS Htk2
          go_wp2_with (at_builtin; refine wpList_append_run rfl (.tmp 36) (.tmp 39) 22 rfl rfl rfl hrun7 ?_)
          go_roundg (N0 - (i + 1))
          case rel => exact ⟨i + 1, pos + k, xs ++ [s], rfl, by omega, by go_num, by rw [List.length_append, Hxl.out]; rfl, Ho7.out, by rw [Hm.out]; exact Htk3.out, Hr7.out, Hn7.out, Hf7.out⟩
          case measure => rw [Hg'.out]; omega
      · have hi1 : ¬ (i : Int) < (N0 : Int) := by omega
        have Hraw3 : Hid (TN = some xs) := by
          show _ = _
          have h1 := Htk.out
          rw [show N0 - i = 0 by omega] at h1
          simp only [takeN, Option.map_some, List.append_nil] at h1
          exact h1.symm
        have HfX : Hid (Fr w wr (fun _ => False)) := Hf2.out.newer Hf.out (fun k hk => by rw [hk]; exact Hqw.out)
        go_wp2_with fail
        go_ret2
        refine ⟨HfX.out, .inr ?_⟩
        exact ⟨xs, Hraw3.out, _, rfl, Ho.out⟩

end Go.Proofs.Ytclfbdfgmeliaaa

/-
  The contract of huff's take: what is read, ahead of the look whether it is written so.
-/
namespace Go.Proofs.Ytclfbdfgmeliaaa
open Go.RowKit

theorem rawDec_by (bs : List Nat) (hl : bs.length ≤ 1000000) : rawDec bs = if (took bs (8 * bs.length)).2.2 ≠ 0 then none
    else if (took bs (8 * bs.length)).1 = 0 then some []
    else match parsed (bs.drop (took bs (8 * bs.length)).2.1) with
      | none => none
      | some (l, r) => if rightB (l.map fun (n : Nat) => (n : Int)) = true then takeN l (took bs (8 * bs.length)).1 (unpack r) else none := by
  unfold rawDec
  rcases took_less bs (8 * bs.length) (2 ^ 62) (by have : (2 : Nat) ^ 62 = 4611686018427387904 := by decide
                                                   omega) with ⟨h1, h2⟩ | ⟨h1, h2, h3⟩
  · rw [if_pos h1, if_pos h2]
  · rw [h1, if_neg (by simp only [ne_eq, h2, not_true_eq_false, false_or]; omega)]
    simp only [ne_eq, h2, not_true_eq_false, if_false]
    rfl

set_option maxRecDepth 4000 in
set_option maxHeartbeats 1600000 in
theorem takeP_any (v : Value) (bs : List Nat) (w : World) (h : Reads .u8 w v bs) (hb : ∀ x ∈ bs, x < 256) (hl : bs.length ≤ 100000) :
    Calls Try.prog 26 #[v] w fun e w' => Fr w w' (fun _ => False) ∧ ((rawDec bs = none ∧ e = .returned (.tuple #[.slice none 0 0, .bool false])) ∨
      ∃ x, rawDec bs = some x ∧ ∃ sv, e = .returned (.tuple #[sv, .bool true]) ∧ Own w' sv x ∧ x.length ≤ 800000) := by
  obtain ⟨a0, c0, rfl, hc0, -⟩ := id h
  rw [length_row] at h hc0 ⊢
  obtain ⟨n, hn⟩ : ∃ n, n = bs.length := ⟨_, rfl⟩
  rw [← hn] at h hc0 ⊢
  have Hr : Hid (Reads .u8 w (.slice a0 n c0) bs) := h
  have Hn : Hid _ := hn
  have Hb : Hid _ := hb
  have Hraw : Hid (rawDec bs = _) := rawDec_by bs (by omega)
  rw [← hn] at Hraw hl
  clear h hn hb
  have htl := took_len bs (8 * n)
  have htm := took_most bs (8 * n)
  rcases hT : took bs (8 * n) with ⟨N0, k0, e0⟩
  rw [hT] at htl htm
  simp only [hT] at Hraw
  rw [← Hn.out] at htl
  dsimp only at htl htm
  have HT : Hid _ := hT
  clear hT
  have w8 : IntKind.u64.wrap (8 * (n : Int)) = ((8 * n : Nat) : Int) := by rw [IntKind.wrap_u64]; omega
  have wn : IntKind.u64.wrap (n : Int) = (n : Int) := by rw [IntKind.wrap_u64]; omega
  go_enter Try.func26, Try.ntmps26
  go_wp2_with fail
  refine (vtake_any _ bs (8 * n) w Hr.out Hb.out (by rw [← Hn.out]; omega) (by omega)).mono ?_
  rw [HT.out]
  rintro e w1 ⟨rfl, hw1⟩
  obtain rfl : w = w1 := hw1.symm
  clear HT
  by_cases he0 : e0 = 0
  · subst he0
    by_cases hN0 : N0 = 0
    · subst hN0
      have Hraw2 : Hid (rawDec bs = some []) := by show _ = _; rw [Hraw.out, if_neg (by simp), if_pos rfl]
      clear Hraw
      go_wp2_with fail
      go_ret2
      exact ⟨Fr.refl _ _, .inr ⟨[], Hraw2.out, _, rfl, Own.nil w, by simp⟩⟩
    · have hNz : ((N0 : Int) == 0) = false := by rw [beq_eq_false_iff_ne]; omega
      have Hraw1 : Hid (rawDec bs = match parsed (bs.drop k0) with
          | none => none
          | some (l, r) => if rightB (l.map fun (n : Nat) => (n : Int)) = true then takeN l N0 (unpack r) else none) := by
        show _ = _
        rw [Hraw.out, if_neg (by simp), if_neg hN0]
      clear Hraw
      have hk0i : (k0 : Int) ≤ (n : Int) := by omega
      have hdr := reads_drop Hr.out k0 htl.1
      obtain ⟨A1, hA1⟩ : ∃ A, (if c0 = k0 then a0 else Option.map (fun x => x.add k0) a0) = A := ⟨_, rfl⟩
      rw [hA1] at hdr
      have Hdr : Hid (Reads .u8 w (.slice A1 (n - k0) (c0 - k0)) (bs.drop k0)) := hdr
      have wN : IntKind.i64.wrap (N0 : Int) = (N0 : Int) := IntWalk.i64_in _ (by omega)
      clear hdr
      go_wp2_with fail
      refine (takeLengths_any _ (bs.drop k0) w Hdr.out (mem_drop_lt Hb.out) (by rw [List.length_drop, ← Hn.out]; omega)).mono ?_
      rintro e w2 ⟨hf2, hcase⟩
      clear hA1 Hdr
      rcases hcase with ⟨hpn, rfl⟩ | ⟨l, r, sl, rv, hps, rfl, hrl, hnl, hrr, hrlen, hrb⟩
      · have Hnone : Hid (rawDec bs = none) := by show _ = _; rw [Hraw1.out, hpn]
        clear hpn
        go_wp2_with fail
        go_ret2
        exact ⟨hf2, .inl ⟨Hnone.out, rfl⟩⟩
      · have hll := parsed_len hps
        have Hraw2 : Hid (rawDec bs = if rightB (l.map fun (n : Nat) => (n : Int)) = true then takeN l N0 (unpack r) else none) := by show _ = _; rw [Hraw1.out, hps]
        rw [List.length_drop, ← Hn.out] at hrlen
        clear hps Hraw1 hnl
        go_wp2_with fail
        refine (takeCodes_any _ _ l r N0 w2 hrl (hrr.keep hf2) hll hrb (by omega) (by omega)).mono ?_
        rw [← Hraw2.out]
        rintro e w3 ⟨hf3, hcase⟩
        have Hf3 : Hid (Fr w w3 (fun _ => False)) := hf2.none hf3
        rcases hcase with ⟨hpn, rfl⟩ | ⟨x, sv, hx, rfl, ho⟩
        · have Hpn : Hid _ := hpn
          clear hpn
          go_wp2_with fail
          go_ret2
          exact ⟨Hf3.out, .inl ⟨Hpn.out, rfl⟩⟩
        · have Hxl : Hid (x.length ≤ 800000) := by
            have h1 := Hraw2.out
            rw [hx] at h1
            split at h1
            · have := (takeN_is N0 _ x h1.symm).1
              show _ ≤ _
              omega
            · cases h1
          have Hx : Hid _ := hx
          clear hx
          go_wp2_with fail
          go_ret2
          exact ⟨Hf3.out, .inr ⟨x, Hx.out, _, rfl, ho, Hxl.out⟩⟩
  · have hd : ((e0 : Int) != 0) = true := by simp; omega
    have hd2 : ((e0 : Int) == 0) = false := by rw [beq_eq_false_iff_ne]; omega
    have Hnone : Hid (rawDec bs = none) := by show _ = _; rw [Hraw.out, if_pos he0]
    go_wp2_with fail
    go_ret2
    exact ⟨Fr.refl _ _, .inl ⟨Hnone.out, rfl⟩⟩

end Go.Proofs.Ytclfbdfgmeliaaa

/-
  The laws' own text of numbers: its contract.
-/
namespace Go.Proofs.Ytclfbdfgmeliaaa
open Go.RowKit

/-- The byte that a number stands for, and how often. -/
def tb (x k : Nat) : Nat := [97, 98, x, x / 16, 0, 255].getD ((x + k) % 6) 0
def tn (x k : Nat) : Nat := x % 8 / (k % 3 + 1) + 1
def textOf (ls : List Nat) (k : Nat) : List Nat := ls.flatMap fun x => List.replicate (tn x k) (tb x k)

theorem tb_lt (x k : Nat) (h : x < 256) : tb x k < 256 := by
  unfold tb
  have : (x + k) % 6 < 6 := Nat.mod_lt _ (by omega)
  match (x + k) % 6, this with
  | 0, _ => simp
  | 1, _ => simp
  | 2, _ => simpa using h
  | 3, _ => simp; omega
  | 4, _ => simp
  | 5, _ => simp
theorem tn_le (x k : Nat) : tn x k ≤ 8 := by
  unfold tn
  have h1 : x % 8 / (k % 3 + 1) ≤ x % 8 := Nat.div_le_self _ _
  omega
theorem text_lt (ls : List Nat) (k : Nat) (h : ∀ x ∈ ls, x < 256) : ∀ y ∈ textOf ls k, y < 256 := fun y hy => by
  obtain ⟨x, hx, hy⟩ := List.mem_flatMap.1 hy
  have := List.eq_of_mem_replicate hy
  rw [this]
  exact tb_lt x k (h x hx)
theorem text_len (ls : List Nat) (k : Nat) : (textOf ls k).length ≤ 8 * ls.length := by
  induction ls with
  | nil => simp [textOf]
  | cons x ls ih =>
    have := tn_le x k
    unfold textOf at ih ⊢
    rw [List.flatMap_cons, List.length_append, List.length_replicate, List.length_cons]
    omega
theorem text_step (ls : List Nat) (k i : Nat) (h : i < ls.length) : textOf (ls.take (i + 1)) k = textOf (ls.take i) k ++ List.replicate (tn (ls.getD i 0) k) (tb (ls.getD i 0) k) := by
  unfold textOf
  rw [take_step h, List.flatMap_append]
  simp

set_option maxRecDepth 4000 in
set_option maxHeartbeats 1600000 in
theorem text_any (v : Value) (ls : List Nat) (k : Nat) (w : World) (h : Reads .u8 w v ls) (hb : ∀ x ∈ ls, x < 256) (hk : k < 256) (hl : ls.length ≤ 1000) :
    Calls Try.prog 9 #[v, .int .u8 (k : Int)] w fun e w' => ∃ sv, e = .returned sv ∧ Own w' sv (textOf ls k) ∧ Fr w w' (fun _ => False) ∧ (∀ k, sv.ownBlock = some k → w.heap.size ≤ k) := by
  obtain ⟨a0, c0, rfl, hc0, -⟩ := id h
  rw [length_row] at h hc0 ⊢
  obtain ⟨n, hn⟩ : ∃ n, n = ls.length := ⟨_, rfl⟩
  rw [← hn] at h hl hc0 ⊢
  have Hr : Hid (Reads .u8 w (.slice a0 n c0) ls) := h
  have Hn : Hid _ := hn
  have Hb : Hid _ := hb
  clear h hn hb
  go_enter Try.func9, Try.ntmps9
  go_wp2_with fail
  go_loopg [5, 6] n (fun g B I wr => ∃ i : Nat, g = n - i ∧ i ≤ n ∧ I = .int .i64 (i : Int) ∧ Own wr B (textOf (ls.take i) k) ∧ Fr w wr (fun _ => False) ∧ (∀ k, B.ownBlock = some k → w.heap.size ≤ k))
  case atStart => exact ⟨0, rfl, by omega, rfl, Own.nil _, Fr.refl _ _, fun k hk => by simp [Value.ownBlock] at hk⟩
  case round =>
    obtain ⟨i, hg, hi, rfl, ho, hf, hnw⟩ := hrel
    have Hg : Hid _ := hg
    have Ho : Hid (Own wr u5 (textOf (ls.take i) k)) := ho
    have Hf : Hid (Fr w wr (fun _ => False)) := hf
    have Hnw : Hid _ := hnw
    clear hg ho hf hnw
    by_cases hlt : i < n
    · obtain ⟨bb, ob, rfl, hbb, cx⟩ := Hr.out.at Hn.out i hlt
      obtain ⟨x, hx⟩ : ∃ x, x = ls.getD i 0 := ⟨_, rfl⟩
      have hx256 : x < 256 := by rw [hx]; exact Hb.out _ (getD_mem (by rw [← Hn.out]; exact hlt))
      have Hstep : Hid (textOf (ls.take (i + 1)) k = textOf (ls.take i) k ++ List.replicate (tn x k) (tb x k)) := by rw [hx]; exact text_step ls k i (by rw [← Hn.out]; exact hlt)
      rw [← hx] at cx
      have Hcx : Hid (∀ z, Fr w z (fun _ => False) → z.cell? ⟨bb, ob + i, none⟩ = some (.int .u8 (x : Int))) := fun z hz => by
        rw [World.cell?_of_block (w := w) (hz.block bb hbb (fun h => h))]
        exact cx
      have cx1 := Hcx.out wr Hf.out
      have hlen := text_len (ls.take i) k
      rw [List.length_take] at hlen
      obtain ⟨x8, hx8⟩ : ∃ y, y = x % 8 := ⟨_, rfl⟩
      obtain ⟨k3, hk3⟩ : ∃ y, y = k % 3 + 1 := ⟨_, rfl⟩
      obtain ⟨q, hq⟩ : ∃ y, y = x8 / k3 := ⟨_, rfl⟩
      obtain ⟨N, hN⟩ : ∃ y, y = tn x k := ⟨_, rfl⟩
      have hNq : N = q + 1 := by rw [hN, hq, hx8, hk3]; rfl
      have hN8 : N ≤ 8 := by rw [hN]; exact tn_le x k
      have r1 : (x : Int).tmod 8 = (x8 : Int) := by rw [Int.tmod_eq_emod_of_nonneg (by omega)]; omega
      have r2 : (k : Int).tmod 3 = (k3 : Int) - 1 := by rw [Int.tmod_eq_emod_of_nonneg (by omega)]; omega
      have r1b : (x : Int) % 8 = (x8 : Int) := by omega
      have r2b : (k : Int) % 3 = (k3 : Int) - 1 := by omega
      have r3 : (k3 : Int) - 1 + 1 = (k3 : Int) := by omega
      have hk3b : 0 < k3 ∧ k3 ≤ 3 := by omega
      have r4 : ((k3 : Int) == 0) = false := by rw [beq_eq_false_iff_ne]; omega
      have r5 : (x8 : Int).tdiv (k3 : Int) = (q : Int) := by rw [Int.tdiv_eq_ediv_of_nonneg (by omega), hq]; simp
      have r6 : (q : Int) + 1 = (N : Int) := by omega
      have hi1 : (i : Int) < (n : Int) := by omega
      rw [← hN] at Hstep
      have hx8b : x8 < 8 := by omega
      have hqb : q < 8 := by omega
      obtain ⟨x16, hx16⟩ : ∃ y, y = x / 16 := ⟨_, rfl⟩
      obtain ⟨m, hm⟩ : ∃ y, y = (x + k) % 6 := ⟨_, rfl⟩
      obtain ⟨y, hy⟩ : ∃ y, y = tb x k := ⟨_, rfl⟩
      have r7 : (x : Int).tdiv 16 = (x16 : Int) := by rw [Int.tdiv_eq_ediv_of_nonneg (by omega)]; omega
      have r7b : (x : Int) / 16 = (x16 : Int) := by omega
      have r8 : ((x : Int) + (k : Int)).tmod 6 = (m : Int) := by rw [Int.tmod_eq_emod_of_nonneg (by omega)]; omega
      have r8b : ((x : Int) + (k : Int)) % 6 = (m : Int) := by omega
      have hm6 : m < 6 := by omega
      have q1 : IntKind.u8.wrap (x16 : Int) = (x16 : Int) := by rw [IntKind.wrap_u8]; omega
      have q2 : IntKind.i64.wrap (x : Int) = (x : Int) := IntWalk.i64_in _ (by omega)
      have q3 : IntKind.i64.wrap (k : Int) = (k : Int) := IntWalk.i64_in _ (by omega)
      have q4 : IntKind.i64.wrap ((x : Int) + (k : Int)) = (x : Int) + (k : Int) := IntWalk.i64_in _ (by omega)
      have q5 : IntKind.i64.wrap (m : Int) = (m : Int) := IntWalk.i64_in _ (by omega)
      have hm6i : (m : Int) < 6 := by omega
      have hx16b : x16 < 16 := by omega
      have Hy : Hid ([97, 98, x, x16, 0, 255].getD m 0 = y) := by show _ = _; rw [hy, hm, hx16]; rfl
      rw [← hy] at Hstep
      have hyb : y < 256 := by rw [hy]; exact tb_lt x k hx256
      obtain ⟨T0, hT0⟩ : ∃ y, y = textOf (ls.take i) k := ⟨_, rfl⟩
      rw [← hT0] at Hstep Ho hlen
      have hT0b : T0.length ≤ 8000 := by omega
      clear hx hx8 hk3 hq hNq cx hN hx16 hm hy hT0 hlen
      go_wp2_with fail
      go_loopg [5, 8] N (fun g B J w2 => ∃ j : Nat, g = N - j ∧ j ≤ N ∧ J = .int .i64 (j : Int) ∧ Own w2 B (T0 ++ List.replicate j y) ∧ Fr w w2 (fun _ => False) ∧ (∀ k, B.ownBlock = some k → w.heap.size ≤ k))
      case atStart => exact ⟨0, rfl, by omega, rfl, by simpa using Ho.out, Hf.out, Hnw.out⟩
      case round =>
        clear cx1 Ho Hf Hnw
        obtain ⟨j, hg2, hj, rfl, ho2, hf2, hnw2⟩ := hrel
        have Hg2 : Hid _ := hg2
        have Ho2 : Hid (Own wr u5 (T0 ++ List.replicate j y)) := ho2
        have Hf2 : Hid (Fr w wr (fun _ => False)) := hf2
        have Hnw2 : Hid (∀ k, u5.ownBlock = some k → w.heap.size ≤ k) := hnw2
        clear hg2 ho2 hf2 hnw2
        by_cases hjt : j < N
        · have hj1 : (j : Int) < (N : Int) := by omega
          have kx : ∀ z, Fr wr.drew z (fun k => u5.ownBlock = some k) → z.cell? ⟨bb, ob + i, none⟩ = some (.int .u8 (x : Int)) := fun z hz => Hcx.out z (Hf2.out.drew.newer hz Hnw2.out)
          have hlB : (T0 ++ List.replicate j y).length ≤ 9000 := by rw [List.length_append, List.length_replicate]; omega
          obtain ⟨wA, hwA⟩ : ∃ wA, wA = wr.drew.alloc (.cells #[.int .u8 97, .int .u8 98, .int .u8 (x : Int), .int .u8 (x16 : Int), .int .u8 0, .int .u8 255] 5) := ⟨_, rfl⟩
          have hfA : Fr wr.drew wA (fun k => u5.ownBlock = some k) := by rw [hwA]; exact (Fr.refl _ _).alloc _
          have hfA' : Fr wr wA (fun _ => False) := by rw [hwA]; exact ((Fr.refl wr (fun _ => False)).drew).alloc _
          have hoA : Own wA u5 (T0 ++ List.replicate j y) := Ho2.out.frame hfA' (fun _ _ h => h)
          have kc : ∀ z, Fr wA z (fun k => u5.ownBlock = some k) → z.cell? ⟨wr.heap.size, m, none⟩ = some (.int .u8 (y : Int)) := fun z hz => by
            have h1 : Reads .u8 wA (.slice (some ⟨wr.heap.size, 0, none⟩) 6 6) [97, 98, x, x16, 0, 255] := by rw [hwA]; exact holds_lit wr.drew 5 [.int .u8 97, .int .u8 98, .int .u8 (x : Int), .int .u8 (x16 : Int), .int .u8 0, .int .u8 255] (by simp)
            have h2 := h1.frame hz (fun k hk h3 => by
              simp [Value.ownBlock] at hk
              have := Ho2.out.lt k h3
              omega)
            obtain ⟨b, off, e, -, hc⟩ := h2.at rfl m hm6
            simp only [Option.some.injEq, Addr.mk.injEq] at e
            rw [Hy.out, ← e.1, ← e.2.1, Nat.zero_add] at hc
            exact hc
          obtain ⟨v7, w7, hrun7, ho7, hf7c, hm7c, -⟩ := app_bytes (wA.alloc (.cells #[.int .u8 (y : Int)] 5)) u5 (.slice (some ⟨wA.heap.size, 0, none⟩) 1 1) _ [y] (hoA.alloc _) (holds_lit wA 5 [.int .u8 (y : Int)] (by simp)) (by simp; omega)
          have hf7 : Fr wA w7 (fun k => u5.ownBlock = some k) := ((Fr.refl wA _).alloc _).trans hf7c (fun _ _ h => h)
          have hm7 : Moved wA u5 v7 := hm7c.mono' (by simp)
          have Ho7 : Hid (Own w7 v7 (T0 ++ List.replicate (j + 1) y)) := by rw [List.replicate_succ', ← List.append_assoc]; exact ho7
          have Hf7 : Hid (Fr w w7 (fun _ => False)) := (Hf2.out.none hfA').newer hf7 Hnw2.out
          have Hn7 : Hid (∀ k, v7.ownBlock = some k → w.heap.size ≤ k) := fun k hk => by
            rcases hm7 k hk with h2 | h2
            · exact Hnw2.out k h2
            · have := Hf2.out.size; have := hfA'.size; omega
          have HfB : Hid (Fr wA w7 (fun k => u5.ownBlock = some k)) := hf7
          have HfA : Hid (Fr wr.drew wA (fun k => u5.ownBlock = some k)) := hfA
          have HfC : Hid (Fr (wA.alloc (.cells #[.int .u8 (y : Int)] 5)) w7 (fun k => u5.ownBlock = some k)) := hf7c
          clear ho7 hf7 hm7 hf7c hm7c hfA hfA' hoA
          have HwA : Hid (wA = (wr.alloc (.cells #[.int .u8 97, .int .u8 98, .int .u8 (x : Int), .int .u8 (x16 : Int), .int .u8 0, .int .u8 255] 5)).drew) := hwA
          clear hwA
          go_wp2
          refine wp_region_tree (fun k => u5.ownBlock = some k) (.take 0 (.take 1 (.take 2 (.take 3 (.take 4 (.take 5 (.take 6 (.take 7 (.take 8 (.take 9 (.take 11 (.take 12 (.take 13 (.take 14 (.take 15 (.take 16 (.take 17 (.take 18 (.take 19 (.one 10 (.take 20 (.take 21 (.one 22 (.one 23 (.take 24 .nil))))))))))))))))))))))))) (by kernel_rfl) (by kernel_rfl) (by decide) (by kernel_rfl) ?_
          repeat (refine wpT_take (v := ?_) rfl rfl (fun x hx => ?_) ?_; rotate_left; (focus (go_simp; with_reducible rfl)); simp only [Act.put, List.setIfInBounds_toArray, List.set_cons_zero, List.set_cons_succ])
          refine wpT_one rfl rfl (fun K hK => ?_)
          go_simp
          rw [← HwA.out]
          refine hK _ _ HfA.out ?_
          clear hK K
          repeat (refine wpT_take (v := ?_) rfl rfl (fun x hx => ?_) ?_; rotate_left; (focus (go_simp; with_reducible rfl)); simp only [Act.put, List.setIfInBounds_toArray, List.set_cons_zero, List.set_cons_succ])
          refine wpT_one rfl rfl (fun K hK => ?_)
          go_simp
          refine hK _ _ ((Fr.refl _ _).alloc _) ?_
          clear hK K
          refine wpT_one rfl rfl (fun K hK => ?_)
          refine op_append_run (.tmp 32) (.tmp 54) 22 rfl rfl rfl hrun7 ?_
          refine hK _ _ HfC.out ?_
          clear hK K hrun7
          simp only [Act.put, List.setIfInBounds_toArray, List.set_cons_zero, List.set_cons_succ]
          repeat (refine wpT_take (v := ?_) rfl rfl (fun x hx => ?_) ?_; rotate_left; (focus (go_simp; with_reducible rfl)); simp only [Act.put, List.setIfInBounds_toArray, List.set_cons_zero, List.set_cons_succ])
          unfold wpT
          clear kx kc
          go_wp2_with fail
          go_roundg (N - (j + 1))
          case rel => exact ⟨j + 1, rfl, by omega, by go_num, Ho7.out, Hf7.out, Hn7.out⟩
          case measure => rw [Hg2.out]; omega
        · have hj1 : ¬ (j : Int) < (N : Int) := by omega
          have HoN : Hid (Own wr u5 (textOf (ls.take (i + 1)) k)) := by
            rw [Hstep.out, show N = j by omega]
            exact Ho2.out
          go_wp2_with fail
          go_roundg (n - (i + 1))
          case rel => exact ⟨i + 1, rfl, by omega, by go_num, HoN.out, Hf2.out, Hnw2.out⟩
          case measure => rw [Hg.out]; omega
    · have hi1 : ¬ (i : Int) < (n : Int) := by omega
      have hti : ls.take i = ls := List.take_of_length_le (by rw [← Hn.out]; omega)
      rw [hti] at Ho
      clear hti
      go_wp2_with fail
      go_ret
      exact ⟨_, rfl, Ho.out, Hf.out, Hnw.out⟩

end Go.Proofs.Ytclfbdfgmeliaaa

/-
  Small helps for the laws of bytes in fewer bits.
-/
namespace Go.Proofs.Ytclfbdfgmeliaaa
open Go.RowKit

theorem HC.readY (M : HC) {v : Value} {bs x : List Nat} {w : World} (h : Reads .u8 w v bs) (hb : ∀ x ∈ bs, x < 256) (hl : bs.length ≤ 100000) (hx : hread bs = some x) :
    Calls Try.prog 15 #[v] w fun e w' => ∃ sv, e = .returned (.tuple #[sv, .int .i64 0]) ∧ Reads .u8 w' sv x ∧ Fr w w' (fun _ => False) := by
  refine (M.read v bs w h hb hl).mono ?_
  rintro e w' ⟨hf, ⟨h1, -⟩ | ⟨y, hy, sv, rfl, hr⟩⟩
  · rw [hx] at h1; cases h1
  · rw [hx] at hy
    simp only [Option.some.injEq] at hy
    subst hy
    exact ⟨sv, rfl, hr, hf⟩
theorem HC.readN (M : HC) {v : Value} {bs : List Nat} {w : World} (h : Reads .u8 w v bs) (hb : ∀ x ∈ bs, x < 256) (hl : bs.length ≤ 100000) (hx : hread bs = none) :
    Calls Try.prog 15 #[v] w fun e w' => e = .returned (.tuple #[.slice none 0 0, .int .i64 21]) ∧ Fr w w' (fun _ => False) := by
  refine (M.read v bs w h hb hl).mono ?_
  rintro e w' ⟨hf, ⟨-, rfl⟩ | ⟨y, hy, -⟩⟩
  · exact ⟨rfl, hf⟩
  · rw [hx] at hy; cases hy
theorem hu8 (n : Int) (h : (Lit.int .u8 n).wf = true) : 0 ≤ n ∧ n < (256 : Nat) := by have := bounds_u8 h; omega
theorem hu16 (n : Int) (h : (Lit.int .u16 n).wf = true) : 0 ≤ n ∧ n < (65536 : Nat) := by have := bounds_u16 h; omega
theorem hput_le (b : List Nat) (hl : b.length ≤ 10000) : (hput b).length ≤ 30000 := by
  have h1 := enc_le b.length (by omega)
  by_cases h0 : b = []
  · unfold hput
    rw [if_pos h0, List.append_nil]
    omega
  · rw [hput_len b h0]
    have h2 := rowsTo_small (lensB b) (lnB_15 b) 256 (Nat.le_refl _)
    have h3 := enc_le (someTo (lensB b) 256) (by have := someTo_le (lensB b) 256; omega)
    have h4 := bitsOf_le (lensB b) b (lnB_15 b)
    rw [bitsOf_len] at h4
    have h5 : (headOf (lensB b)).length ≤ 1000 := by
      unfold headOf
      rw [List.length_append]
      omega
    omega
theorem le62 {n : Nat} (h : n ≤ 100000) : n ≤ 2 ^ 62 := Nat.le_trans h (by decide)
theorem below_of {w w' : World} (h : Fr w w' (fun _ => False)) : Below w.heap.size w w' := h.below (Nat.le_refl _) (fun _ h => h.elim)
theorem mem_of_getD {xs : List Nat} {m : Nat} (h : ∀ j, xs.getD j 0 < m) : ∀ x ∈ xs, x < m := fun x hx => by
  obtain ⟨j, hj⟩ := List.getElem?_of_mem hx
  have := h j
  rwa [List.getD_eq_getElem?_getD, hj] at this

end Go.Proofs.Ytclfbdfgmeliaaa
