/-
  The contract of the reference's lengths: those that stand at the beginning of bytes.
-/
import Derived.Test.YtclfbdfgmeliaaaHRCnt
import Derived.Test.YtclfbdfgmeliaaaVRefTake
import Derived.OwnWalk
namespace Go.Proofs.Ytclfbdfgmeliaaa
open Go.RowKit

theorem took_len (bs : List Nat) (m : Nat) : (took bs m).2.1 ≤ bs.length ∧ (took bs m).2.1 ≤ 10 := by
  unfold took
  by_cases h : (lenFrom 0 bs).2 ≠ 0
  · rw [if_pos h]; simp
  · have := lenFrom_ok bs 0 (by omega) (by simpa using h)
    rw [if_neg h]
    split
    · simp
    · simp only; omega
theorem mem_drop_lt {bs : List Nat} {n : Nat} (h : ∀ x ∈ bs, x < 256) : ∀ x ∈ bs.drop n, x < 256 := fun x hx => h x (List.mem_of_mem_drop hx)

set_option maxRecDepth 4000 in
set_option maxHeartbeats 1600000 in
theorem refHead_any (v : Value) (bs : List Nat) (w : World) (h : Reads .u8 w v bs) (hb : ∀ x ∈ bs, x < 256) (hl : bs.length ≤ 1000000) :
    Calls Try.prog 29 #[v] w fun e w' => Fr w w' (fun _ => False) ∧ ((parsed bs = none ∧ e = .returned (.tuple #[.slice none 0 0, .int .i64 0, .bool false])) ∨
      ∃ l at_ sv, parsed bs = some (l, bs.drop at_) ∧ at_ ≤ bs.length ∧ e = .returned (.tuple #[sv, .int .i64 (at_ : Int), .bool true]) ∧ Reads .i64 w' sv l ∧ (∀ k, sv.ownBlock = some k → w.heap.size ≤ k)) := by
  obtain ⟨a0, c0, rfl, hc0, -⟩ := id h
  rw [length_row] at h hc0 ⊢
  obtain ⟨n, hn⟩ : ∃ n, n = bs.length := ⟨_, rfl⟩
  rw [← hn] at h hl hc0 ⊢
  have Hr : Hid (Reads .u8 w (.slice a0 n c0) bs) := h
  have Hn : Hid _ := hn
  have Hb : Hid _ := hb
  clear h hn hb
  have Hp : Hid (parsed bs = if (took bs 256).2.2 ≠ 0 then none else (parseL (took bs 256).1 (bs.drop (took bs 256).2.1) 0 (fun _ => 0)).map fun r => (listF r.1, r.2)) := rfl
  have hcall : ∀ x, Reads .u8 x (.slice a0 n c0) bs → _ := fun x hx => vrefTake_any (.slice a0 n c0) bs 256 x hx Hb.out (by rw [← Hn.out]; omega) (by omega)
  have htl := took_len bs 256
  have htm := took_most bs 256
  rcases hT : took bs 256 with ⟨N0, k0, e0⟩
  rw [hT] at Hp htl htm
  rw [← Hn.out] at htl
  simp only [hT] at hcall
  dsimp only at htl htm
  have Hcall : Hid _ := hcall
  clear hcall hT
  go_enter Try.func29, Try.ntmps29
  go_wp2_with fail
  refine (Hcall.out w Hr.out).mono ?_
  rintro e w1 ⟨rfl, rfl⟩
  by_cases he0 : e0 = 0
  · subst he0
    have Hp2 : Hid (parsed bs = (parseL N0 (bs.drop k0) 0 (fun _ => 0)).map fun r => (listF r.1, r.2)) := by show _ = _; rw [Hp.out]; simp
    obtain ⟨R, hR⟩ : ∃ R, R = parseL N0 (bs.drop k0) 0 (fun _ => 0) := ⟨_, rfl⟩
    rw [← hR] at Hp2
    have HR : Hid _ := hR
    clear hR Hp Hcall
    obtain ⟨i0, hi0, hz0, hz1, hz2⟩ := info_parts infoIntC
    go_wp2_with (at_make; refine wpList_make_full _ rfl _ _ 28 rfl 0 3 i0 (.int .i64 0) 1 Try.underlying28 hi0 hz0 hz1 _ _ _ _ 256 rfl rfl rfl rfl ?b1 ?b2 (Nat.zero_le _) ?_)
    case b1 => rw [hz2]; omega
    case b2 => unfold maxLen; omega
    intro wm hown hgrow
    rw [zeros_fnRow] at hown
    have hfm : Fr w1 wm (fun _ => False) := (Fr.refl w1 _).grown hgrow (fun k hk => by cases hk)
    obtain ⟨g, hg⟩ : ∃ g, g = w1.heap.size := ⟨_, rfl⟩
    rw [← hg] at hown ⊢
    have Hgw : Hid (w1.heap.size ≤ g) := by show _ ≤ _; omega
    have Hkeep : Hid (∀ x, Fr wm x (fun k => k = g) → Reads .u8 x (.slice a0 n c0) bs) := fun x hx => by
      have h1 : Reads .u8 wm (.slice a0 n c0) bs := Hr.out.keep hfm
      refine h1.frame' hx (fun h0 k hk e => ?_)
      obtain ⟨b, off, e2, hb2, -⟩ := Hr.out.at Hn.out 0 (by rw [Hn.out]; exact h0)
      rw [e2] at hk
      simp [Value.ownBlock] at hk
      omega
    have Hown : Hid (OwnC wm (.slice (some ⟨g, 0, none⟩) 256 256) (fnRow 256 (fun _ => 0))) := by
      unfold OwnC
      rw [fnRow_length]
      exact hown
    have Hfm : Hid (Fr w1 wm (fun _ => False)) := hfm
    clear hgrow hfm hown hi0 hz0 hz1 hz2 hg
    go_wp2_with fail
    go_loopg [6, 9, 10] N0 (fun g' At S I wr => ∃ (i at_ nx : Nat) (f : Nat → Nat), g' = N0 - i ∧ i ≤ N0 ∧ I = .int .u64 (i : Int) ∧ At = .int .i64 (at_ : Int) ∧ at_ ≤ n ∧ S = .int .i64 ((nx : Nat) - 1 : Int) ∧ nx ≤ 256 ∧ parseL (N0 - i) (bs.drop at_) nx f = R ∧ OwnC wr (.slice (some ⟨g, 0, none⟩) 256 256) (fnRow 256 f) ∧ Fr wm wr (fun k => k = g))
    case atStart => exact ⟨0, k0, 0, fun _ => 0, rfl, by omega, rfl, rfl, htl.1, rfl, by omega, HR.out.symm, Hown.out, Fr.refl _ _⟩
    case round =>
      obtain ⟨i, at_, nx, f, hg', hi, rfl, rfl, hat, rfl, hnx, hpar, ho, hf⟩ := hrel
      have Hg' : Hid _ := hg'
      have Hpar : Hid (parseL (N0 - i) (bs.drop at_) nx f = R) := hpar
      have Ho : Hid (OwnC wr (.slice (some ⟨g, 0, none⟩) 256 256) (fnRow 256 f)) := ho
      have Hf : Hid (Fr wm wr (fun k => k = g)) := hf
      clear hg' hpar ho hf
      obtain ⟨La, hLa⟩ : ∃ La : Int, La = (nx : Int) - 1 := ⟨_, rfl⟩
      rw [← hLa]
      by_cases hlt : i < N0
      · obtain ⟨m, hm⟩ : ∃ m, N0 - i = m + 1 := ⟨N0 - i - 1, by omega⟩
        have hd1 := reads_drop (Hkeep.out _ Hf.out) at_ hat
        have htl1 := took_len (bs.drop at_) 255
        have htm1 := took_most (bs.drop at_) 255
        have Hpar1 : Hid (R = parseL (m + 1) (bs.drop at_) nx f) := by rw [← hm]; exact Hpar.out.symm
        rw [parseL] at Hpar1
        rcases hT1 : took (bs.drop at_) 255 with ⟨g1, k1, e1⟩
        rw [hT1] at htl1 htm1
        simp only [hT1] at Hpar1
        rw [List.length_drop, ← Hn.out] at htl1
        dsimp only at htl1 htm1
        have HT1 : Hid _ := hT1
        obtain ⟨A1, hA1⟩ : ∃ A, (if c0 = at_ then a0 else Option.map (fun x => x.add at_) a0) = A := ⟨_, rfl⟩
        rw [hA1] at hd1
        have Hd1 : Hid (Reads .u8 wr (.slice A1 (n - at_) (c0 - at_)) (bs.drop at_)) := hd1
        clear hd1 hT1
        have hati : (at_ : Int) ≤ (n : Int) := by omega
        have hi1 : (i : Int) < (N0 : Int) := by omega
        have hfo := Hfm.out.newer Hf.out (fun k hk => by rw [hk]; exact Hgw.out)
        have Hfo : Hid (Fr w1 wr (fun _ => False)) := hfo
        have HLa : Hid _ := hLa
        clear hfo hLa
        go_wp2_with fail
        refine (vrefTake_any _ (bs.drop at_) 255 wr Hd1.out (mem_drop_lt Hb.out) (by rw [List.length_drop, ← Hn.out]; omega) (by omega)).mono ?_
        rw [HT1.out]
        rintro e w2 ⟨rfl, hw2⟩
        obtain rfl : wr = w2 := hw2.symm
        clear HT1 Hd1 hA1
        by_cases he1 : e1 = 0
        · subst he1
          obtain ⟨at2, hat2⟩ : ∃ a, a = at_ + k1 := ⟨_, rfl⟩
          have hadd : (at_ : Int) + (k1 : Int) = (at2 : Int) := by omega
          have hat2n : at2 ≤ n := by omega
          have hd2 := reads_drop (Hkeep.out _ Hf.out) at2 hat2n
          have htl2 := took_len (bs.drop at2) 15
          have htm2 := took_most (bs.drop at2) 15
          have Hpar2 : Hid (R = if (took (bs.drop at2) 15).2.2 ≠ 0 ∨ 255 < nx + g1 then none else parseL m ((bs.drop at2).drop (took (bs.drop at2) 15).2.1) (nx + g1 + 1) (fun t => if t = nx + g1 then (took (bs.drop at2) 15).1 else f t)) := by
            have h1 := Hpar1.out
            rw [if_neg (by simp), List.drop_drop, ← hat2] at h1
            exact h1
          rcases hT2 : took (bs.drop at2) 15 with ⟨g2, k2, e2⟩
          rw [hT2] at htl2 htm2
          simp only [hT2] at Hpar2
          rw [List.length_drop, ← Hn.out] at htl2
          dsimp only at htl2 htm2
          have HT2 : Hid _ := hT2
          obtain ⟨A2, hA2⟩ : ∃ A, (if c0 = at2 then a0 else Option.map (fun x => x.add at2) a0) = A := ⟨_, rfl⟩
          rw [hA2] at hd2
          have Hd2 : Hid (Reads .u8 wr (.slice A2 (n - at2) (c0 - at2)) (bs.drop at2)) := hd2
          have hat2i : (at2 : Int) ≤ (n : Int) := by omega
          obtain ⟨s2, hs2⟩ : ∃ s, s = nx + g1 := ⟨_, rfl⟩
          rw [← hs2] at Hpar2
          have wg1 : IntKind.i64.wrap (g1 : Int) = (g1 : Int) := IntWalk.i64_in _ (by omega)
          have hsum : La + ((g1 : Int) + 1) = (s2 : Int) := by rw [HLa.out]; omega
          have hs2b : s2 ≤ 512 := by omega
          clear hd2 hT2 hat2 hs2 Hpar1
          go_wp2_with fail
          refine (vrefTake_any _ (bs.drop at2) 15 wr Hd2.out (mem_drop_lt Hb.out) (by rw [List.length_drop, ← Hn.out]; omega) (by omega)).mono ?_
          rw [HT2.out]
          rintro e w3 ⟨rfl, hw3⟩
          obtain rfl : wr = w3 := hw3.symm
          clear HT2 Hd2 hA2
          by_cases he2 : e2 = 0
          · subst he2
            by_cases hs255 : 255 < s2
            · have hd : decide ((255 : Int) < (s2 : Int)) = true := decide_eq_true (by omega)
              have Hnone : Hid (parsed bs = none) := by
                show _ = _
                have h1 := Hpar2.out
                rw [if_pos (.inr hs255)] at h1
                rw [Hp2.out, h1]
                rfl
              go_wp2_with fail
              go_ret3
              exact ⟨Hfo.out, .inl ⟨Hnone.out, rfl⟩⟩
            · have hd : decide ((255 : Int) < (s2 : Int)) = false := decide_eq_false (by omega)
              obtain ⟨at3, hat3⟩ : ∃ a, a = at2 + k2 := ⟨_, rfl⟩
              have hadd3 : (at2 : Int) + (k2 : Int) = (at3 : Int) := by omega
              have Hpar3 : Hid (parseL m (bs.drop at3) (s2 + 1) (fun t => if t = s2 then g2 else f t) = R) := by
                show _ = _
                have h1 := Hpar2.out
                rw [if_neg (by simp; omega), List.drop_drop, ← hat3] at h1
                exact h1.symm
              have hat3n : at3 ≤ n := by omega
              have wg2 : IntKind.i64.wrap (g2 : Int) = (g2 : Int) := IntWalk.i64_in _ (by omega)
              have hoc := Ho.out
              unfold OwnC at hoc
              rw [fnRow_length] at hoc
              have hfz := World.ownsRow.frozenAt hoc s2
              have hce : wr.cell? ⟨g, s2, none⟩ = some (.int .i64 ((f s2 : Nat) : Int)) := by
                rw [World.ownsRow.cellAt hoc s2 (by omega)]
                simp [row, fnRow, show s2 < 256 by omega]
              have Hset : Hid ((fnRow 256 f).set s2 g2 = fnRow 256 (fun t => if t = s2 then g2 else f t)) := fnRow_set 256 _ _ s2 g2 (by rw [if_pos rfl]) (fun t ht => by rw [if_neg ht])
              have Hst : Hid (OwnC (wr.setCell ⟨g, s2, none⟩ (.int .i64 (g2 : Int))) (.slice (some ⟨g, 0, none⟩) 256 256) (fnRow 256 (fun t => if t = s2 then g2 else f t))) := by
                have := (World.ownsRow.stored hoc s2 (.int .i64 (g2 : Int))).1
                unfold OwnC
                rw [fnRow_length, ← Hset.out, row_set]
                exact this
              have Hf2 : Hid (Fr wm (wr.setCell ⟨g, s2, none⟩ (.int .i64 (g2 : Int))) (fun k => k = g)) := Hf.out.setCell ⟨g, s2, none⟩ (fun _ => rfl) _
              have hs2i : (s2 : Int) < 256 := by omega
              have Hm : Hid (N0 - (i + 1) = m) := by show _ = _; omega
              generalize f s2 = old at hce
              clear hoc Hset hat3 Hpar2 Hpar
              go_wp2_with fail
              go_roundg (N0 - (i + 1))
              case rel => exact ⟨i + 1, at3, s2 + 1, _, rfl, by omega, by go_num, rfl, hat3n, by congr 1; omega, by omega, by rw [Hm.out]; exact Hpar3.out, Hst.out, Hf2.out⟩
              case measure => rw [Hg'.out]; omega
          · have hd : ((e2 : Int) != 0) = true := by simp; omega
            have hd2 : ((e2 : Int) == 0) = false := by rw [beq_eq_false_iff_ne]; omega
            have Hnone : Hid (parsed bs = none) := by
              show _ = _
              have h1 := Hpar2.out
              rw [if_pos (.inl he2)] at h1
              rw [Hp2.out, h1]
              rfl
            go_wp2_with fail
            go_ret3
            exact ⟨Hfo.out, .inl ⟨Hnone.out, rfl⟩⟩
        · have hd : ((e1 : Int) != 0) = true := by simp; omega
          have hd2 : ((e1 : Int) == 0) = false := by rw [beq_eq_false_iff_ne]; omega
          have Hnone : Hid (parsed bs = none) := by
            show _ = _
            have h1 := Hpar1.out
            rw [if_pos he1] at h1
            rw [Hp2.out, h1]
            rfl
          go_wp2_with fail
          go_ret3
          exact ⟨Hfo.out, .inl ⟨Hnone.out, rfl⟩⟩
      · have hi1 : ¬ (i : Int) < (N0 : Int) := by omega
        have hfo := Hfm.out.newer Hf.out (fun k hk => by rw [hk]; exact Hgw.out)
        have Hsome : Hid (parsed bs = some (listF f, bs.drop at_)) := by
          show _ = _
          have h1 := Hpar.out
          rw [show N0 - i = 0 by omega] at h1
          rw [Hp2.out, ← h1]
          rfl
        clear hLa
        go_wp2_with fail
        go_ret3
        exact ⟨hfo, .inr ⟨_, at_, Hsome.out, hat, _, rfl, holds_own Ho.out, fun k hk => by simp [Value.ownBlock] at hk; rw [← hk]; exact Hgw.out⟩⟩
  · have hd : ((e0 : Int) != 0) = true := by simp; omega
    have hd2 : ((e0 : Int) == 0) = false := by rw [beq_eq_false_iff_ne]; omega
    have Hnone : Hid (parsed bs = none) := by show _ = _; rw [Hp.out, if_pos (by simpa using he0)]
    go_wp2_with fail
    go_ret3
    exact ⟨Fr.refl _ _, .inl ⟨Hnone.out, rfl⟩⟩

end Go.Proofs.Ytclfbdfgmeliaaa
