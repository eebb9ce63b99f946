/-
  The walk of the law HuffSmall, under the condition that the program's functions answer as their contracts say.
-/
import Derived.Test.YtclfbdfgmeliaaaRows
import Derived.Test.YtclfbdfgmeliaaaJ8
namespace Go.Proofs.Ytclfbdfgmeliaaa.huffSmall
open Go.ChangeShapes Go.WideShapes Go.ChangeAt Go.RowKit

theorem zeros_row (n : Nat) : (madeCells #[Value.int .u8 0] n).toList = row .u8 (fnRow n (fun _ => 0)) := by
  rw [row_zeros]
  congr 1
  apply List.ext_getElem?
  intro i
  by_cases h : i < n
  · rw [fnRow_get n _ i h, List.getElem?_replicate, if_pos h]
  · rw [List.getElem?_eq_none (by simpa using h), List.getElem?_eq_none (by rw [fnRow_length]; omega)]

set_option maxRecDepth 4000 in
set_option maxHeartbeats 1600000 in
theorem walkM (M : HC) (a0 : Int) (a1 : Int) (a2 : Int) (w0 : (Lit.int .u16 a0).wf = true) (w1 : (Lit.int .u8 a1).wf = true) (w2 : (Lit.int .u8 a2).wf = true) (w : World) :
    Calls Try.prog 5 #[.int .u16 a0, .int .u8 a1, .int .u8 a2] w fun e w' => e = .returned (.bool true) ∧ Below w.heap.size w w' := by
  obtain ⟨n, rfl⟩ : ∃ k : Nat, a0 = (k : Int) := ⟨a0.toNat, by have := hu16 a0 w0; omega⟩
  obtain ⟨a, rfl⟩ : ∃ k : Nat, a1 = (k : Int) := ⟨a1.toNat, by have := hu8 a1 w1; omega⟩
  obtain ⟨b, rfl⟩ : ∃ k : Nat, a2 = (k : Int) := ⟨a2.toNat, by have := hu8 a2 w2; omega⟩
  have hn := (hu16 _ w0).2
  have ha := (hu8 _ w1).2
  have hb := (hu8 _ w2).2
  have hnb : n < 65536 := by omega
  have hab : a < 256 := by omega
  have hbb : b < 256 := by omega
  clear w0 w1 w2 hn ha hb
  obtain ⟨n2, hn2⟩ : ∃ y, y = n % 2000 := ⟨_, rfl⟩
  obtain ⟨k, hk⟩ : ∃ y, y = n2 + 1 := ⟨_, rfl⟩
  obtain ⟨q, hq⟩ : ∃ y, y = (k + 7) / 8 := ⟨_, rfl⟩
  have r1 : (n : Int).tmod 2000 = (n2 : Int) := by rw [Int.tmod_eq_emod_of_nonneg (by omega)]; omega
  have r1b : (n : Int) % 2000 = (n2 : Int) := by omega
  have r2 : (n2 : Int) + 1 = (k : Int) := by omega
  have r3 : (k : Int) - 1 = (n2 : Int) := by omega
  have r4 : ((k : Int) + 7).tdiv 8 = (q : Int) := by rw [Int.tdiv_eq_ediv_of_nonneg (by omega)]; omega
  have hn2k : n2 < k := by omega
  have hn2i : (n2 : Int) < (k : Int) := by omega
  have hkb : k ≤ 2000 := by omega
  have hqb : q ≤ 300 := by omega
  have Hk : Hid _ := hk
  have Hq : Hid _ := hq
  clear hn2 hk hq
  obtain ⟨i0, hi0, hz0, hz1, hz2⟩ := info_parts Try.info5
  go_enter Try.func5, Try.ntmps5
  go_wp2_with fail
  refine (known_any M w).mono ?_
  rintro e w1 ⟨rfl, hf1⟩
  have Hf1 : Hid (Fr w w1 (fun _ => False)) := hf1
  clear hf1
  go_wp2_with (at_make; refine wpList_make_full _ rfl _ _ 22 rfl 0 5 i0 (.int .u8 0) 1 Try.underlying22 hi0 hz0 hz1 _ _ _ _ k rfl rfl (by omega) (by omega) ?b1 ?b2 (Nat.zero_le _) ?_)
  case b1 => rw [hz2]; omega
  case b2 => unfold maxLen; omega
  intro wm hown hgrow
  rw [zeros_row] at hown
  have hfm : Fr w1 wm (fun _ => False) := (Fr.refl w1 _).grown hgrow (fun k hk => by cases hk)
  obtain ⟨g, hg⟩ : ∃ g, g = w1.heap.size := ⟨_, rfl⟩
  rw [← hg] at hown ⊢
  have Hgw : Hid (w.heap.size ≤ g) := by have := Hf1.out.size; show _ ≤ _; omega
  have Hown : Hid (Own wm (.slice (some ⟨g, 0, none⟩) k k) (fnRow k (fun t => if t < 0 then a else 0))) := by
    have e : fnRow k (fun t => if t < 0 then a else 0) = fnRow k (fun _ => 0) := fnRow_congr k fun t _ => by rw [if_neg (by omega)]
    rw [e]
    unfold Own
    rw [fnRow_length]
    exact hown
  have Hfm : Hid (Fr w wm (fun _ => False)) := Hf1.out.none hfm
  clear hgrow hfm hown hi0 hz0 hz1 hz2 hg Hf1
  go_wp2_with fail
  go_loopg [9] k (fun g' I wr => ∃ i : Nat, g' = k - i ∧ i ≤ k ∧ I = .int .i64 (i : Int) ∧ Own wr (.slice (some ⟨g, 0, none⟩) k k) (fnRow k (fun t => if t < i then a else 0)) ∧ Fr w wr (fun _ => False))
  case atStart => exact ⟨0, rfl, by omega, rfl, Hown.out, Hfm.out⟩
  case round =>
    obtain ⟨i, hg', hi, rfl, ho, hf⟩ := hrel
    have Hg' : Hid _ := hg'
    have Ho : Hid (Own wr (.slice (some ⟨g, 0, none⟩) k k) (fnRow k (fun t => if t < i then a else 0))) := ho
    have Hf : Hid (Fr w wr (fun _ => False)) := hf
    clear hg' ho hf
    have hoc := Ho.out
    unfold Own at hoc
    rw [fnRow_length] at hoc
    by_cases hlt : i < k
    · have hi1 : (i : Int) < (k : Int) := by omega
      have hfz := World.ownsRow.frozenAt hoc i
      have hce : wr.cell? ⟨g, i, none⟩ = some (.int .u8 0) := by
        rw [World.ownsRow.cellAt hoc i (by omega)]
        simp [row, fnRow, hlt]
      have Hst : Hid (Own (wr.setCell ⟨g, i, none⟩ (.int .u8 (a : Int))) (.slice (some ⟨g, 0, none⟩) k k) (fnRow k (fun t => if t < i + 1 then a else 0))) := by
        have := (World.ownsRow.stored hoc i (.int .u8 (a : Int))).1
        unfold Own
        rw [fnRow_length, ← fnRow_set k (fun t => if t < i then a else 0) (fun t => if t < i + 1 then a else 0) i a (by rw [if_pos (by omega)]) (fun t ht => by
          by_cases h : t < i
          · rw [if_pos h, if_pos (by omega)]
          · rw [if_neg h, if_neg (by omega)]), row_set]
        exact this
      have Hf2 : Hid (Fr w (wr.setCell ⟨g, i, none⟩ (.int .u8 (a : Int))) (fun _ => False)) := Hf.out.setCell ⟨g, i, none⟩ (fun h => by have := Hgw.out; simp at h; omega) _
      clear hoc
      go_wp2_with fail
      go_roundg (k - (i + 1))
      case rel => exact ⟨i + 1, rfl, by omega, by go_num, Hst.out, Hf2.out⟩
      case measure => rw [Hg'.out]; omega
    · have hi1 : ¬ (i : Int) < (k : Int) := by omega
      have hfz := World.ownsRow.frozenAt hoc n2
      have hce : wr.cell? ⟨g, n2, none⟩ = some (.int .u8 (a : Int)) := by
        rw [World.ownsRow.cellAt hoc n2 (by omega)]
        have h5 : n2 < i := by omega
        simp [row, fnRow, hn2k, h5]
      have Hst : Hid (Own (wr.setCell ⟨g, n2, none⟩ (.int .u8 (b : Int))) (.slice (some ⟨g, 0, none⟩) k k) (fnRow k (fun t => if t < n2 then a else b))) := by
        have := (World.ownsRow.stored hoc n2 (.int .u8 (b : Int))).1
        unfold Own
        rw [fnRow_length]
        have e : (fnRow k (fun t => if t < i then a else 0)).set n2 b = fnRow k (fun t => if t < n2 then a else b) := by
          have h1 : fnRow k (fun t => if t < i then a else 0) = fnRow k (fun t => if t < n2 then a else a) := fnRow_congr k fun t ht => by rw [if_pos (by omega), ite_self]
          rw [h1]
          have h2 : fnRow k (fun t => if t < n2 then a else b) = fnRow k (fun t => if t = n2 then b else if t < n2 then a else a) := fnRow_congr k fun t ht => by
            have := Hk.out
            by_cases h : t = n2
            · rw [if_pos h, if_neg (by omega)]
            · rw [if_neg h, if_pos (by omega), if_pos (by omega)]
          rw [h2]
          exact fnRow_set k _ _ n2 b (by rw [if_pos rfl]) (fun t ht => by rw [if_neg ht])
        rw [← e, row_set]
        exact this
      have Hf2 : Hid (Fr w (wr.setCell ⟨g, n2, none⟩ (.int .u8 (b : Int))) (fun _ => False)) := Hf.out.setCell ⟨g, n2, none⟩ (fun h => by have := Hgw.out; simp at h; omega) _
      obtain ⟨T, hT⟩ : ∃ T, T = fnRow k (fun t => if t < n2 then a else b) := ⟨_, rfl⟩
      have hTl : T.length = k := by rw [hT, fnRow_length]
      have hTab : ∀ x ∈ T, x = a ∨ x = b := fun x hx => by
        rw [hT] at hx
        obtain ⟨t, -, rfl⟩ := List.mem_map.1 hx
        split
        · exact .inl rfl
        · exact .inr rfl
      rw [← hT] at Hst
      have HTb : Hid (∀ x ∈ T, x < 256) := fun x hx => by rcases hTab x hx with h | h <;> omega
      have hsm := hput_small (b := T) (fun e => by rw [e] at hTl; simp at hTl; omega) HTb.out hTab (by omega)
      rw [hTl, ← Hq.out] at hsm
      have Hy : Hid (hread (hput T) = some T) := hread_put T HTb.out (le62 (by omega))
      have HPb : Hid (∀ x ∈ hput T, x < 256) := hput_bytes T
      have HTl : Hid (T.length = k) := hTl
      obtain ⟨P, hP⟩ : ∃ P, P = hput T := ⟨_, rfl⟩
      rw [← hP] at hsm Hy HPb
      obtain ⟨np, hnp⟩ : ∃ m, m = P.length := ⟨_, rfl⟩
      rw [← hnp] at hsm
      have Hnp : Hid _ := hnp
      have HP : Hid _ := hP
      have s1 : (np : Int) ≤ 9 + (q : Int) := by omega
      have s2 : (q : Int) < (np : Int) := by omega
      have d1 : decide ((np : Int) ≤ 9 + (q : Int)) = true := decide_eq_true s1
      have d2 : decide ((q : Int) < (np : Int)) = true := decide_eq_true s2
      have hnpb : np ≤ 400 := by omega
      clear hoc hT hTl hTab hsm hP hnp Ho Hf
      go_wp2_with fail
      refine (M.put _ T _ Hst.out.reads HTb.out (by rw [HTl.out]; omega)).mono ?_
      rw [← HP.out]
      rintro e w3 ⟨sp, rfl, hrp, hf3⟩
      have Hf3 : Hid (Fr w w3 (fun _ => False)) := Hf2.out.none hf3
      have HrT3 : Hid (Reads .u8 w3 (.slice (some ⟨g, 0, none⟩) k k) T) := Hst.out.reads.keep hf3
      obtain ⟨ap, cp, hsp, hcp, -⟩ := id hrp
      rw [length_row, ← Hnp.out] at hsp
      subst hsp
      have Hrp3 : Hid (Reads .u8 w3 (.slice ap np cp) P) := hrp
      clear hf3 hrp hcp
      go_wp2_with fail
      refine (M.readY Hrp3.out HPb.out (by rw [← Hnp.out]; omega) Hy.out).mono ?_
      rintro e w4 ⟨sx, rfl, hrx, hf4⟩
      have Hf4 : Hid (Fr w w4 (fun _ => False)) := Hf3.out.none hf4
      have hc1 := conv_reads hrx
      have hc2 := conv_reads (HrT3.out.keep hf4)
      generalize strOf T = S at hc1 hc2
      clear hrx hf4
      go_wp2
      go_ret
      exact ⟨rfl, below_of Hf4.out⟩

end Go.Proofs.Ytclfbdfgmeliaaa.huffSmall
