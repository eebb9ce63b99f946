/-
  The contract of huff's takeLengths: the lengths that stand at the beginning of bytes.
-/
import Derived.Test.YtclfbdfgmeliaaaHRLen
import Derived.Test.YtclfbdfgmeliaaaVTake
namespace Go.Proofs.Ytclfbdfgmeliaaa
open Go.RowKit

theorem parse_full (m : Nat) (bs : List Nat) (f : Nat → Nat) : parseL (m + 1) bs 256 f = none := by
  rw [parseL]
  split
  · rfl
  · rw [if_pos (.inr (by omega))]
theorem took_less (bs : List Nat) (a b : Nat) (hab : a ≤ b) : ((took bs a).2.2 ≠ 0 ∧ ((took bs b).2.2 ≠ 0 ∨ a < (took bs b).1)) ∨ (took bs a = took bs b ∧ (took bs b).2.2 = 0 ∧ (took bs b).1 ≤ a) := by
  unfold took
  by_cases h : (lenFrom 0 bs).2 ≠ 0
  · rw [if_pos h, if_pos h]
    exact .inl ⟨h, .inl h⟩
  · rw [if_neg h, if_neg h]
    by_cases h1 : a < val bs (lenFrom 0 bs).1
    · rw [if_pos h1]
      refine .inl ⟨by simp, ?_⟩
      by_cases h2 : b < val bs (lenFrom 0 bs).1
      · rw [if_pos h2]; exact .inl (by simp)
      · rw [if_neg h2]; exact .inr h1
    · rw [if_neg h1, if_neg (by omega)]
      exact .inr ⟨rfl, rfl, by simp only; omega⟩
theorem parse_step (m : Nat) (bs : List Nat) (nx : Nat) (f : Nat → Nat) (h : nx ≤ 255) : parseL (m + 1) bs nx f =
    if (took bs (255 - nx)).2.2 ≠ 0 then none
    else if (took (bs.drop (took bs (255 - nx)).2.1) 15).2.2 ≠ 0 then none
    else parseL m ((bs.drop (took bs (255 - nx)).2.1).drop (took (bs.drop (took bs (255 - nx)).2.1) 15).2.1) (nx + (took bs (255 - nx)).1 + 1) (fun t => if t = nx + (took bs (255 - nx)).1 then (took (bs.drop (took bs (255 - nx)).2.1) 15).1 else f t) := by
  rw [parseL]
  rcases took_less bs (255 - nx) 255 (by omega) with ⟨h1, h2⟩ | ⟨h1, h2, h3⟩
  · rw [if_pos h1]
    rcases h2 with h2 | h2
    · rw [if_pos h2]
    · by_cases h4 : (took bs 255).2.2 ≠ 0
      · rw [if_pos h4]
      · rw [if_neg h4, if_pos (.inr (by omega))]
  · rw [h1]
    simp only [ne_eq, h2, not_true_eq_false, if_false]
    by_cases h4 : (took (bs.drop (took bs 255).2.1) 15).2.2 ≠ 0
    · rw [if_pos (.inl h4), if_pos h4]
    · rw [if_neg (by intro h5; rcases h5 with h5 | h5; exact h4 h5; omega), if_neg h4]

set_option maxRecDepth 4000 in
set_option maxHeartbeats 1600000 in
theorem takeLengths_any (v : Value) (bs : List Nat) (w : World) (h : Reads .u8 w v bs) (hb : ∀ x ∈ bs, x < 256) (hl : bs.length ≤ 1000000) :
    Calls Try.prog 43 #[v] w fun e w' => Fr w w' (fun _ => False) ∧ ((parsed bs = none ∧ e = .returned (.tuple #[.slice none 0 0, .slice none 0 0, .bool false])) ∨
      ∃ l r sv rv, parsed bs = some (l, r) ∧ e = .returned (.tuple #[sv, rv, .bool true]) ∧ Reads .i64 w' sv l ∧ (∀ k, sv.ownBlock = some k → w.heap.size ≤ k) ∧ Reads .u8 w rv r ∧ r.length ≤ bs.length ∧ ∀ x ∈ r, x < 256) := by
  obtain ⟨a0, c0, rfl, hc0, -⟩ := id h
  rw [length_row] at h hc0 ⊢
  obtain ⟨n, hn⟩ : ∃ n, n = bs.length := ⟨_, rfl⟩
  rw [← hn] at h hl hc0 ⊢
  have Hr : Hid (Reads .u8 w (.slice a0 n c0) bs) := h
  have Hn : Hid _ := hn
  have Hb : Hid _ := hb
  clear h hn hb
  have Hp : Hid (parsed bs = if (took bs 256).2.2 ≠ 0 then none else (parseL (took bs 256).1 (bs.drop (took bs 256).2.1) 0 (fun _ => 0)).map fun r => (listF r.1, r.2)) := rfl
  have hcall : ∀ x, Reads .u8 x (.slice a0 n c0) bs → _ := fun x hx => vtake_any (.slice a0 n c0) bs 256 x hx Hb.out (by rw [← Hn.out]; omega) (by omega)
  have htl := took_len bs 256
  have htm := took_most bs 256
  rcases hT : took bs 256 with ⟨N0, k0, e0⟩
  rw [hT] at Hp htl htm
  rw [← Hn.out] at htl
  simp only [hT] at hcall
  dsimp only at htl htm
  have Hcall : Hid _ := hcall
  clear hcall hT
  go_enter Try.func43, Try.ntmps43
  go_wp2_with fail
  refine (Hcall.out w Hr.out).mono ?_
  rintro e w1 ⟨rfl, hw1⟩
  obtain rfl : w = w1 := hw1.symm
  by_cases he0 : e0 = 0
  · subst he0
    have Hp2 : Hid (parsed bs = (parseL N0 (bs.drop k0) 0 (fun _ => 0)).map fun r => (listF r.1, r.2)) := by show _ = _; rw [Hp.out]; simp
    obtain ⟨R, hR⟩ : ∃ R, R = parseL N0 (bs.drop k0) 0 (fun _ => 0) := ⟨_, rfl⟩
    rw [← hR] at Hp2
    have HR : Hid _ := hR
    have hk0i : (k0 : Int) ≤ (n : Int) := by omega
    have hdr := reads_drop Hr.out k0 htl.1
    obtain ⟨A1, hA1⟩ : ∃ A, (if c0 = k0 then a0 else Option.map (fun x => x.add k0) a0) = A := ⟨_, rfl⟩
    rw [hA1] at hdr
    have Hdr : Hid (Reads .u8 w (.slice A1 (n - k0) (c0 - k0)) (bs.drop k0)) := hdr
    have Hdl : Hid ((bs.drop k0).length ≤ n) := by show _ ≤ _; rw [List.length_drop, ← Hn.out]; omega
    clear hR Hp Hcall hdr
    obtain ⟨i0, hi0, hz0, hz1, hz2⟩ := info_parts infoIntC
    go_wp2_with (at_make; refine wpList_make_full _ rfl _ _ 28 rfl 0 3 i0 (.int .i64 0) 1 Try.underlying28 hi0 hz0 hz1 _ _ _ _ 256 rfl rfl rfl rfl ?b1 ?b2 (Nat.zero_le _) ?_)
    case b1 => rw [hz2]; omega
    case b2 => unfold maxLen; omega
    intro wm hown hgrow
    rw [zeros_fnRow] at hown
    have hfm : Fr w wm (fun _ => False) := (Fr.refl w _).grown hgrow (fun k hk => by cases hk)
    obtain ⟨g, hg⟩ : ∃ g, g = w.heap.size := ⟨_, rfl⟩
    rw [← hg] at hown ⊢
    have Hgw : Hid (w.heap.size ≤ g) := by show _ ≤ _; omega
    have Hown : Hid (OwnC wm (.slice (some ⟨g, 0, none⟩) 256 256) (fnRow 256 (fun _ => 0))) := by
      unfold OwnC
      rw [fnRow_length]
      exact hown
    have Hfm : Hid (Fr w wm (fun _ => False)) := hfm
    clear hgrow hfm hown hi0 hz0 hz1 hz2 hg
    go_wp2_with fail
    clear hA1
    go_loopg [0, 9, 29] N0 (fun g' B S I wr => ∃ (i nx : Nat) (cs : List Nat) (f : Nat → Nat), g' = N0 - i ∧ i ≤ N0 ∧ I = .int .u64 (i : Int) ∧ S = .int .i64 (nx : Int) ∧ nx ≤ 256 ∧ Reads .u8 w B cs ∧ cs.length ≤ n ∧ (∀ x ∈ cs, x < 256) ∧ parseL (N0 - i) cs nx f = R ∧ OwnC wr (.slice (some ⟨g, 0, none⟩) 256 256) (fnRow 256 f) ∧ Fr wm wr (fun k => k = g))
    case atStart => exact ⟨0, 0, bs.drop k0, fun _ => 0, rfl, by omega, rfl, rfl, by omega, Hdr.out, Hdl.out, mem_drop_lt Hb.out, HR.out.symm, Hown.out, Fr.refl _ _⟩
    case round =>
      obtain ⟨i, nx, cs, f, hg', hi, rfl, rfl, hnx, hrc, hcl, hcb, hpar, ho, hf⟩ := hrel
      have Hg' : Hid _ := hg'
      have Hpar : Hid (parseL (N0 - i) cs nx f = R) := hpar
      have Ho : Hid (OwnC wr (.slice (some ⟨g, 0, none⟩) 256 256) (fnRow 256 f)) := ho
      have Hf : Hid (Fr wm wr (fun k => k = g)) := hf
      obtain ⟨a1, c1, rfl, hc1, -⟩ := id hrc
      rw [length_row] at hrc hc1 ⊢
      obtain ⟨n1, hn1⟩ : ∃ n, n = cs.length := ⟨_, rfl⟩
      rw [← hn1] at hrc hc1 hcl ⊢
      have Hrc : Hid (Reads .u8 w (.slice a1 n1 c1) cs) := hrc
      have Hn1 : Hid _ := hn1
      have Hcb : Hid (∀ x ∈ cs, x < 256) := hcb
      have hfo := Hfm.out.newer Hf.out (fun k hk => by rw [hk]; exact Hgw.out)
      have Hfo : Hid (Fr w wr (fun _ => False)) := hfo
      clear hg' hpar ho hf hrc hn1 hcb hfo
      by_cases hlt : i < N0
      · obtain ⟨m, hm⟩ : ∃ m, N0 - i = m + 1 := ⟨N0 - i - 1, by omega⟩
        have hi1 : (i : Int) < (N0 : Int) := by omega
        by_cases hfull : nx = 256
        · subst hfull
          have Hnone : Hid (parsed bs = none) := by
            show _ = _
            have h1 := Hpar.out
            rw [hm, parse_full] at h1
            rw [Hp2.out, ← h1]
            rfl
          clear hm
          go_wp2_with fail
          go_ret3
          exact ⟨Hfo.out, .inl ⟨Hnone.out, rfl⟩⟩
        · have hnf : ((nx : Int) == 256) = false := by rw [beq_eq_false_iff_ne]; omega
          have Hpar1 : Hid (R = parseL (m + 1) cs nx f) := by rw [← hm]; exact Hpar.out.symm
          rw [parse_step m cs nx f (by omega)] at Hpar1
          obtain ⟨M, hM⟩ : ∃ M, M = 255 - nx := ⟨_, rfl⟩
          rw [← hM] at Hpar1
          have htl1 := took_len cs M
          have htm1 := took_most cs M
          rcases hT1 : took cs M with ⟨g1, k1, e1⟩
          rw [hT1] at htl1 htm1
          simp only [hT1] at Hpar1
          rw [← Hn1.out] at htl1
          dsimp only at htl1 htm1
          have HT1 : Hid _ := hT1
          have qM : (255 : Int) - (nx : Int) = (M : Int) := by omega
          have wM : IntKind.u64.wrap (M : Int) = (M : Int) := by rw [IntKind.wrap_u64]; omega
          have hMb : M ≤ 255 := by omega
          have hsumb : nx + g1 ≤ 255 := by omega
          clear hT1 hM
          go_wp2_with fail
          refine (vtake_any _ cs M wr (Hrc.out.keep Hfo.out) Hcb.out (by rw [← Hn1.out]; omega) (by omega)).mono ?_
          rw [HT1.out]
          rintro e w2 ⟨rfl, hw2⟩
          obtain rfl : wr = w2 := hw2.symm
          clear HT1
          by_cases he1 : e1 = 0
          · subst he1
            have hd2 := reads_drop Hrc.out k1 htl1.1
            have htl2 := took_len (cs.drop k1) 15
            have htm2 := took_most (cs.drop k1) 15
            have Hpar2 : Hid (R = if (took (cs.drop k1) 15).2.2 ≠ 0 then none else parseL m ((cs.drop k1).drop (took (cs.drop k1) 15).2.1) (nx + g1 + 1) (fun t => if t = nx + g1 then (took (cs.drop k1) 15).1 else f t)) := by
              have h1 := Hpar1.out
              rw [if_neg (by simp)] at h1
              exact h1
            rcases hT2 : took (cs.drop k1) 15 with ⟨g2, k2, e2⟩
            rw [hT2] at htl2 htm2
            simp only [hT2] at Hpar2
            rw [List.length_drop, ← Hn1.out] at htl2
            dsimp only at htl2 htm2
            have HT2 : Hid _ := hT2
            obtain ⟨A2, hA2⟩ : ∃ A, (if c1 = k1 then a1 else Option.map (fun x => x.add k1) a1) = A := ⟨_, rfl⟩
            rw [hA2] at hd2
            have Hd2 : Hid (Reads .u8 w (.slice A2 (n1 - k1) (c1 - k1)) (cs.drop k1)) := hd2
            have hk1i : (k1 : Int) ≤ (n1 : Int) := by omega
            obtain ⟨s2, hs2⟩ : ∃ s, s = nx + g1 := ⟨_, rfl⟩
            rw [← hs2] at Hpar2
            have hsum : (nx : Int) + (g1 : Int) = (s2 : Int) := by omega
            have hs2b : s2 ≤ 255 := by omega
            have wg1 : IntKind.i64.wrap (g1 : Int) = (g1 : Int) := IntWalk.i64_in _ (by omega)
            clear hd2 hT2 hs2 Hpar1
            go_wp2_with fail
            refine (vtake_any _ (cs.drop k1) 15 wr (Hd2.out.keep Hfo.out) (mem_drop_lt Hcb.out) (by rw [List.length_drop, ← Hn1.out]; omega) (by omega)).mono ?_
            rw [HT2.out]
            rintro e w3 ⟨rfl, hw3⟩
            obtain rfl : wr = w3 := hw3.symm
            clear HT2 Hd2 hA2
            by_cases he2 : e2 = 0
            · subst he2
              obtain ⟨k3, hk3⟩ : ∃ a, a = k1 + k2 := ⟨_, rfl⟩
              have hadd3 : (k1 : Int) + (k2 : Int) = (k3 : Int) := by omega
              have Hpar3 : Hid (parseL m (cs.drop k3) (s2 + 1) (fun t => if t = s2 then g2 else f t) = R) := by
                show _ = _
                have h1 := Hpar2.out
                rw [if_neg (by simp), List.drop_drop, ← hk3] at h1
                exact h1.symm
              have hk3n : k3 ≤ n1 := by omega
              have hk3i : (k3 : Int) ≤ (n1 : Int) := by omega
              have hd3 := reads_drop Hrc.out k3 hk3n
              obtain ⟨A3, hA3⟩ : ∃ A, (if c1 = k3 then a1 else Option.map (fun x => x.add k3) a1) = A := ⟨_, rfl⟩
              rw [hA3] at hd3
              have Hd3 : Hid (Reads .u8 w (.slice A3 (n1 - k3) (c1 - k3)) (cs.drop k3)) := hd3
              have Hl3 : Hid ((cs.drop k3).length ≤ n) := by show _ ≤ _; rw [List.length_drop, ← Hn1.out]; omega
              have wg2 : IntKind.i64.wrap (g2 : Int) = (g2 : Int) := IntWalk.i64_in _ (by omega)
              have hoc := Ho.out
              unfold OwnC at hoc
              rw [fnRow_length] at hoc
              have hfz := World.ownsRow.frozenAt hoc s2
              have hce : wr.cell? ⟨g, s2, none⟩ = some (.int .i64 ((f s2 : Nat) : Int)) := by
                rw [World.ownsRow.cellAt hoc s2 (by omega)]
                simp [row, fnRow, show s2 < 256 by omega]
              have Hset : Hid ((fnRow 256 f).set s2 g2 = fnRow 256 (fun t => if t = s2 then g2 else f t)) := fnRow_set 256 _ _ s2 g2 (by rw [if_pos rfl]) (fun t ht => by rw [if_neg ht])
              have Hst : Hid (OwnC (wr.setCell ⟨g, s2, none⟩ (.int .i64 (g2 : Int))) (.slice (some ⟨g, 0, none⟩) 256 256) (fnRow 256 (fun t => if t = s2 then g2 else f t))) := by
                have := (World.ownsRow.stored hoc s2 (.int .i64 (g2 : Int))).1
                unfold OwnC
                rw [fnRow_length, ← Hset.out, row_set]
                exact this
              have Hf2 : Hid (Fr wm (wr.setCell ⟨g, s2, none⟩ (.int .i64 (g2 : Int))) (fun k => k = g)) := Hf.out.setCell ⟨g, s2, none⟩ (fun _ => rfl) _
              have hs2i : (s2 : Int) < 256 := by omega
              have Hm : Hid (N0 - (i + 1) = m) := by show _ = _; omega
              generalize f s2 = old at hce
              clear hoc Hset Hpar2 Hpar hk3 hd3
              go_wp2_with fail
              go_roundg (N0 - (i + 1))
              case rel => exact ⟨i + 1, s2 + 1, cs.drop k3, _, rfl, by omega, by go_num, by go_num, by omega, Hd3.out, Hl3.out, mem_drop_lt Hcb.out, by rw [Hm.out]; exact Hpar3.out, Hst.out, Hf2.out⟩
              case measure => rw [Hg'.out]; omega
            · have hd : ((e2 : Int) != 0) = true := by simp; omega
              have hd2 : ((e2 : Int) == 0) = false := by rw [beq_eq_false_iff_ne]; omega
              have Hnone : Hid (parsed bs = none) := by
                show _ = _
                have h1 := Hpar2.out
                rw [if_pos he2] at h1
                rw [Hp2.out, h1]
                rfl
              go_wp2_with fail
              go_ret3
              exact ⟨Hfo.out, .inl ⟨Hnone.out, rfl⟩⟩
          · have hd : ((e1 : Int) != 0) = true := by simp; omega
            have hd2 : ((e1 : Int) == 0) = false := by rw [beq_eq_false_iff_ne]; omega
            have Hnone : Hid (parsed bs = none) := by
              show _ = _
              have h1 := Hpar1.out
              rw [if_pos he1] at h1
              rw [Hp2.out, h1]
              rfl
            go_wp2_with fail
            go_ret3
            exact ⟨Hfo.out, .inl ⟨Hnone.out, rfl⟩⟩
      · have hi1 : ¬ (i : Int) < (N0 : Int) := by omega
        have Hsome : Hid (parsed bs = some (listF f, cs)) := by
          show _ = _
          have h1 := Hpar.out
          rw [show N0 - i = 0 by omega] at h1
          rw [Hp2.out, ← h1]
          rfl
        go_wp2_with fail
        go_ret3
        refine ⟨Hfo.out, .inr ?_⟩
        exact ⟨_, cs, Hsome.out, _, _, rfl, holds_own Ho.out, fun k hk => by simp [Value.ownBlock] at hk; rw [← hk]; exact Hgw.out, Hrc.out, by rw [← Hn1.out]; exact hcl, Hcb.out⟩
  · have hd : ((e0 : Int) != 0) = true := by simp; omega
    have hd2 : ((e0 : Int) == 0) = false := by rw [beq_eq_false_iff_ne]; omega
    have Hnone : Hid (parsed bs = none) := by show _ = _; rw [Hp.out, if_pos (by simpa using he0)]
    go_wp2_with fail
    go_ret3
    exact ⟨Fr.refl _ _, .inl ⟨Hnone.out, rfl⟩⟩

end Go.Proofs.Ytclfbdfgmeliaaa
