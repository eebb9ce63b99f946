/-
  The walk of the law MergeMany, under the condition that merge's functions answer as their contracts say.
-/
import Derived.Test.YtjjanlpkhoeejaaRows
import Derived.Test.YtjjanlpkhoeejaaMHelp
namespace Go.Proofs.Ytjjanlpkhoeejaa.mergeMany
open Go.ChangeShapes Go.WideShapes Go.ChangeAt Go.RowKit

def mx (l : List Nat) : Nat := l.foldl max 0
theorem mx_snoc (l : List Nat) (x : Nat) : mx (l ++ [x]) = max (mx l) x := by simp [mx, List.foldl_append]
theorem mx_is (l : List Nat) (b : Nat) (h : ∀ x ∈ l, x ≤ b) (h2 : b ∈ l ∨ b = 0) : mx l = b := by
  have hle : ∀ (l : List Nat) (a : Nat), a ≤ b → (∀ x ∈ l, x ≤ b) → l.foldl max a ≤ b := by
    intro l
    induction l with
    | nil => intro a ha _; exact ha
    | cons x l ih => intro a ha hl; exact ih _ (by have := hl x (by simp); omega) (fun y hy => hl y (by simp [hy]))
  have hge : ∀ (l : List Nat) (a : Nat), a ≤ l.foldl max a ∧ ∀ x ∈ l, x ≤ l.foldl max a := by
    intro l
    induction l with
    | nil => intro a; simp
    | cons x l ih =>
      intro a
      obtain ⟨h3, h4⟩ := ih (max a x)
      refine ⟨Nat.le_trans (Nat.le_max_left a x) h3, fun y hy => ?_⟩
      rcases List.mem_cons.1 hy with rfl | hy
      · exact Nat.le_trans (Nat.le_max_right a y) h3
      · exact h4 y hy
  have h5 := hle l 0 (Nat.zero_le _) h
  unfold mx
  rcases h2 with h2 | h2
  · have := (hge l 0).2 b h2; omega
  · omega
theorem ones_cnt (n s : Nat) : cnt (List.replicate n 1) s = if s < n then 1 else 0 := by
  unfold cnt
  rw [List.getD_eq_getElem?_getD, List.getElem?_replicate]
  split <;> rfl
theorem ones_there (n : Nat) : (there (List.replicate n 1)).length = n := by
  have h : ∀ j, j ≤ n → (symsTo (cnt (List.replicate n 1)) j).length = j := by
    intro j
    induction j with
    | zero => intro _; rfl
    | succ j ih =>
      intro hj
      rw [symsTo, if_neg (by rw [ones_cnt, if_pos (by omega)]; omega), (ins_perm _ j _).length_eq, List.length_cons, ih (by omega)]
  unfold there
  rw [List.length_replicate]
  exact h n (Nat.le_refl _)
/-- How long the longest is. -/
theorem ones_longest (n L v : Nat) (hL : 1 ≤ L) (h256 : n ≤ 256) (hn : n ≤ 2 ^ L) (hv : n ≤ 2 ^ v) (hu : ∀ u, u < v → 2 ^ u < n) : mx (pmLens (List.replicate n 1) L) = if n = 1 then 1 else v := by
  have hth := ones_there n
  have hlen : (pmLens (List.replicate n 1) L).length = n := by rw [len_pmLens (by rw [List.length_replicate]; exact h256) (by rw [hth]; exact hn), List.length_replicate]
  have hmem : ∀ x, x ∈ pmLens (List.replicate n 1) L ↔ ∃ s, s < n ∧ pmLen (List.replicate n 1) L s = x := fun x => by
    unfold pmLens
    rw [if_neg (by rw [List.length_replicate, hth]; omega), List.length_replicate]
    simp
  by_cases h1 : n = 1
  · rw [if_pos h1]
    have hl1 : ∀ s, s < n → pmLen (List.replicate n 1) L s = 1 := fun s hs => by
      unfold pmLen
      rw [if_pos (by rw [hth]; exact h1), if_neg (by rw [ones_cnt, if_pos hs]; omega)]
    refine mx_is _ 1 (fun x hx => ?_) (.inl ?_)
    · obtain ⟨s, hs, rfl⟩ := (hmem x).1 hx
      rw [hl1 s hs]; omega
    · exact (hmem 1).2 ⟨0, by omega, hl1 0 (by omega)⟩
  · rw [if_neg h1]
    by_cases h0 : n = 0
    · subst h0
      have hv0 : v = 0 := by
        rcases Nat.eq_zero_or_pos v with h | h
        · exact h
        · have := hu 0 h; omega
      rw [hv0]
      have : pmLens (List.replicate 0 1) L = [] := List.eq_nil_of_length_eq_zero hlen
      rw [this]; rfl
    · obtain ⟨f, rfl⟩ : ∃ f, v = f + 1 := ⟨v - 1, by
        rcases Nat.eq_zero_or_pos v with h | h
        · subst h; simp at hv; omega
        · omega⟩
      have hf := hu f (by omega)
      have hfL : f + 1 ≤ L := by
        rcases Nat.lt_or_ge L (f + 1) with h | h
        · have : 2 ^ L ≤ 2 ^ f := Nat.pow_le_pow_right (by omega) (by omega)
          omega
        · exact h
      obtain ⟨ha, s, hs, he⟩ := many_most (counts := List.replicate n 1) (L := L) (f := f) hL (fun s hs => by
        by_cases h : s < n
        · rw [ones_cnt, if_pos h]
        · rw [ones_cnt, if_neg h] at hs; exact absurd rfl hs) (by rw [hth]; omega) (by rw [hth]; exact hf) (by rw [hth]; exact hv) hfL
      have hth2 : ∀ s, s < n → s ∈ there (List.replicate n 1) := fun s hs => (there_mem _ s).2 (by rw [ones_cnt, if_pos hs]; omega)
      refine mx_is _ (f + 1) (fun x hx => ?_) (.inl ?_)
      · obtain ⟨s', hs', rfl⟩ := (hmem x).1 hx
        exact ha s' (hth2 s' hs')
      · have hsn : s < n := by
          have := (there_mem (List.replicate n 1) s).1 hs
          rw [ones_cnt] at this
          by_cases h : s < n
          · exact h
          · rw [if_neg h] at this; exact absurd rfl this
        exact (hmem _).2 ⟨s, hsn, he⟩

set_option maxRecDepth 4000 in
set_option maxHeartbeats 400000 in
theorem walkM (M : MC) (a0 : Int) (a1 : Int) (w0 : (Lit.int .u16 a0).wf = true) (w1 : (Lit.int .u8 a1).wf = true) (w : World) :
    Calls Try.prog 6 #[.int .u16 a0, .int .u8 a1] w fun e w' => e = .returned (.bool true) ∧ Below w.heap.size w w' := by
  obtain ⟨hb0, hb0'⟩ := bounds_u16 w0
  obtain ⟨hb1, hb1'⟩ := bounds_u8 w1
  obtain ⟨nn, rfl⟩ := Int.eq_ofNat_of_zero_le hb0
  obtain ⟨mm, rfl⟩ := Int.eq_ofNat_of_zero_le hb1
  obtain ⟨n, hn⟩ : ∃ n, n = nn % 300 := ⟨_, rfl⟩
  have hne : (nn : Int) % 300 = (n : Int) := by omega
  have hn300 : n < 300 := by omega
  obtain ⟨L, hL⟩ : ∃ L, L = mm % 10 + 1 := ⟨_, rfl⟩
  have hLe : (mm : Int) % 10 + 1 = (L : Int) := by omega
  have hL1 : 1 ≤ L := by omega
  have hL10 : L ≤ 10 := by omega
  clear w0 w1 hb0 hb1 hn hL
  go_enter Try.func6, Try.ntmps6
  go_wp2_with fail
  refine (known_any M w).mono ?_
  rintro e w1 ⟨rfl, hf1⟩
  obtain ⟨i0, hi0, hz0, hz1, hz2⟩ := info_parts Try.info3
  go_wp2_with (at_make; refine wpList_make_full _ rfl _ _ 22 rfl 0 3 i0 (.int .i64 0) 1 Try.underlying22 hi0 hz0 hz1 _ _ _ _ n rfl rfl rfl rfl ?b1 ?b2 (Nat.zero_le _) ?_)
  case b1 => rw [hz2]; omega
  case b2 => unfold maxLen; omega
  intro wm hown hgrow
  have hz : (madeCells #[Value.int .i64 0] n).toList = row .i64 (List.replicate n 0) := by rw [toList_madeCells_one]; simp [row]
  rw [hz] at hown
  have hfm : Fr w1 wm (fun _ => False) := (Fr.refl w1 _).grown hgrow (fun k hk => by cases hk)
  have hfwm := hf1.none hfm
  obtain ⟨g, hg⟩ : ∃ g, g = w1.heap.size := ⟨_, rfl⟩
  have Hgw : Hid (w.heap.size ≤ g) := by show _ ≤ _; have := hf1.size; omega
  rw [← hg] at hown ⊢
  have Hown : Hid (wm.ownsRow 0 3 1 (.slice (some ⟨g, 0, none⟩) n n) n (row .i64 (List.replicate 0 1 ++ List.replicate (n - 0) 0))) := hown
  clear hgrow hfm hf1 hg hown hz
  go_wp2_with fail
  go_loopg [7] n (fun gg I wr => ∃ i : Nat, gg = n - i ∧ i ≤ n ∧ I = .int .i64 (i : Int) ∧ wr.ownsRow 0 3 1 (.slice (some ⟨g, 0, none⟩) n n) n (row .i64 (List.replicate i 1 ++ List.replicate (n - i) 0)) ∧ Fr w wr (fun _ => False))
  case atStart => exact ⟨0, rfl, by omega, rfl, Hown.out, hfwm⟩
  case round =>
    clear hfwm Hown
    obtain ⟨i, hgg, hi, rfl, ho, hf⟩ := hrel
    have Hgg : Hid _ := hgg
    have Ho : Hid (wr.ownsRow 0 3 1 (.slice (some ⟨g, 0, none⟩) n n) n (row .i64 (List.replicate i 1 ++ List.replicate (n - i) 0))) := ho
    clear hgg ho
    by_cases hlt : i < n
    · have cg : ∃ z, wr.cell? ⟨g, i, none⟩ = some z := ⟨_, (World.ownsRow.cellAt Ho.out i (by omega)).trans (row_get .i64 _ _ (by simp; omega))⟩
      obtain ⟨z, cg⟩ := cg
      have fg : wr.frozen? ⟨g, i, none⟩ = false := World.ownsRow.frozenAt Ho.out i
      have Hst : Hid (List.replicate (i + 1) 1 ++ List.replicate (n - (i + 1)) 0 = (List.replicate i 1 ++ List.replicate (n - i) 0).set i 1) := by
        show _ = _
        apply List.ext_getElem (by simp; omega)
        intro j h1 h2
        simp only [List.getElem_set, List.getElem_append, List.getElem_replicate, List.length_replicate]
        by_cases hij : i = j
        · subst hij; simp
        · rw [if_neg hij]
          by_cases h3 : j < i
          · simp [h3, (by omega : j < i + 1)]
          · simp [h3]; omega
      go_wp2
      go_roundg (n - (i + 1))
      case rel =>
        obtain ⟨ho3, hg3⟩ := World.ownsRow.stored Ho.out i (.int .i64 1)
        refine ⟨i + 1, rfl, by omega, by go_num, ?_, hf.grown hg3 ?_⟩
        · rw [Hst.out, row_set]; exact ho3
        · intro k' hk' hlt'
          simp at hk'
          have := Hgw.out
          omega
      case measure => rw [Hgg.out]; omega
    · have hin : i = n := by omega
      have hr := holds_own Ho.out
      rw [hin, show n - n = 0 by omega, List.replicate_zero, List.append_nil] at hr
      have Hr : Hid (Reads .i64 wr (.slice (some ⟨g, 0, none⟩) n n) (List.replicate n 1)) := hr
      clear hin hr
      go_wp2_with fail
      have hcL := M.lens _ _ (L : Int) wr Hr.out.z (by rw [List.length_map, List.length_replicate]; omega) (fun z hz => by
        obtain ⟨c, hc, rfl⟩ := List.mem_map.1 hz
        have := List.eq_of_mem_replicate hc
        subst this
        decide) (by omega) (by omega)
      have hzc : ((List.replicate n 1).map fun (b : Nat) => (b : Int)).map clampN = List.replicate n 1 := zs_clamp _ (fun c hc => by have := List.eq_of_mem_replicate hc; omega)
      rw [hzc, show clampM (L : Int) = L by unfold clampM; omega] at hcL
      have hth := ones_there n
      have hlen : n ≤ 256 → n ≤ 2 ^ L → (pmLens (List.replicate n 1) L).length = n := fun h1 h2 => by rw [len_pmLens (by rw [List.length_replicate]; exact h1) (by rw [hth]; exact h2), List.length_replicate]
      have hnil : 256 < n ∨ 2 ^ L < n → pmLens (List.replicate n 1) L = [] := fun h => by unfold pmLens; rw [if_pos (by rw [List.length_replicate, hth]; exact h)]
      have Hlong : Hid (∀ v, n ≤ 256 → n ≤ 2 ^ L → n ≤ 2 ^ v → (∀ u, u < v → 2 ^ u < n) → mx (pmLens (List.replicate n 1) L) = if n = 1 then 1 else v) := fun v h1 h2 h3 h4 => ones_longest n L v hL1 h1 h2 h3 h4
      have hsm : n ≤ 256 → n ≤ 2 ^ L → ∀ l ∈ pmLens (List.replicate n 1) L, l ≤ L := fun h1 h2 => lens_small (by rw [List.length_replicate]; exact h1) hL1 (by rw [hth]; exact h2)
      generalize pmLens (List.replicate n 1) L = A at hcL hlen hnil Hlong hsm
      have Hlen : Hid _ := hlen
      have Hnil : Hid _ := hnil
      have Hsm : Hid _ := hsm
      refine hcL.mono ?_
      rintro e w3 ⟨sa, rfl, hra, hf3⟩
      obtain ⟨aa, ca, rfl, hca, -⟩ := id hra
      rw [length_row] at hra hca ⊢
      replace hf3 := hf.none hf3
      obtain ⟨P, hP⟩ : ∃ P, P = 2 ^ L := ⟨_, rfl⟩
      have hP1024 : P ≤ 1024 := by rw [hP]; exact Nat.le_trans (Nat.pow_le_pow_right (by omega) hL10) (by decide)
      have hPw : wrap64 ((2 : Int) ^ L) = (P : Int) := by
        have e : (2 : Int) ^ L = ((2 ^ L : Nat) : Int) := by simp
        rw [e, ← hP]
        exact wrap64_small _ (by omega) (by omega)
      have HP : Hid _ := hP
      clear hcL hzc hth hlen hnil hsm hP hf Hr
      by_cases h256 : 256 < n
      · have hA := Hnil.out (.inl h256)
        subst hA
        go_wp2
        go_ret
        exact ⟨rfl, hf3.below (Nat.le_refl _) (fun k h => h.elim)⟩
      · by_cases hbig : P < n
        · have hA := Hnil.out (.inr (by rw [← HP.out]; exact hbig))
          subst hA
          go_wp2
          go_ret
          exact ⟨rfl, hf3.below (Nat.le_refl _) (fun k h => h.elim)⟩
        · have g1 : n ≤ 256 := Nat.le_of_not_lt h256
          have g2 : n ≤ 2 ^ L := by rw [← HP.out]; exact Nat.le_of_not_lt hbig
          have hAl := Hlen.out g1 g2
          have hAs := Hsm.out g1 g2
          have HLong : Hid (∀ v, n ≤ 2 ^ v → (∀ u, u < v → 2 ^ u < n) → mx A = if n = 1 then 1 else v) := fun v h3 h4 => Hlong.out v g1 g2 h3 h4
          clear g2
          rw [hAl] at hra hca ⊢
          have Hra : Hid _ := hra
          have Hca : Hid _ := hca
          have HAl : Hid _ := hAl
          have Hf3 : Hid _ := hf3
          clear hf3 hAl HP Hgg Ho
          have d1 : ¬ (256 : Int) < (n : Int) := fun h => h256 (by exact_mod_cast h)
          have d2 : ¬ (P : Int) < (n : Int) := fun h => hbig (by exact_mod_cast h)
          have HAs : Hid _ := hAs
          clear Hlong Hlen Hnil Hsm hra hca hAs
          go_wp2_with fail
          go_loopg [10, 11] n (fun gg LG I wr => ∃ i : Nat, gg = n - i ∧ i ≤ n ∧ I = .int .i64 (i : Int) ∧ LG = .int .i64 ((mx (A.take i) : Nat) : Int) ∧ Fr w3 wr (fun _ => False))
          case atStart => exact ⟨0, rfl, by omega, rfl, rfl, Fr.refl _ _⟩
          case round =>
            clear hi hlt
            obtain ⟨j, hgg, hj, rfl, rfl, hfj⟩ := hrel
            have Hgg : Hid _ := hgg
            have Hfj : Hid _ := hfj
            clear hgg
            by_cases hlt : j < n
            · obtain ⟨_, _, e, -, hcl⟩ := Hra.out.keep hfj
              rw [length_row, HAl.out] at hcl
              obtain ⟨b, off, rfl, hcell⟩ := hcl (by omega)
              simp only [Value.slice.injEq] at e
              obtain ⟨rfl, -, rfl⟩ := e
              have cg := hcell j _ (row_get .i64 A j (by rw [HAl.out]; exact hlt))
              have Hmx : Hid (mx (A.take (j + 1)) = max (mx (A.take j)) (A.getD j 0)) := by
                show _ = _
                rw [take_step (by rw [HAl.out]; exact hlt), mx_snoc]
              generalize A.getD j 0 = x at cg Hmx
              generalize mx (A.take j) = m at Hmx
              have hj1 : (j : Int) < (n : Int) := by omega
              clear hcl hcell hfj
              by_cases hmx : m < x
              · have hmi : (m : Int) < (x : Int) := by omega
                have hmi2 : ¬ (x : Int) < (m : Int) := by omega
                have hmi3 : ¬ (x : Int) ≤ (m : Int) := by omega
                go_wp2
                go_roundg (n - (j + 1))
                case rel => exact ⟨j + 1, rfl, by omega, by go_num, by rw [Hmx.out, Nat.max_eq_right (by omega)], Hfj.out⟩
                case measure => rw [Hgg.out]; omega
              · have hmi : ¬ (m : Int) < (x : Int) := by omega
                have hmi3 : (x : Int) ≤ (m : Int) := by omega
                go_wp2
                go_roundg (n - (j + 1))
                case rel => exact ⟨j + 1, rfl, by omega, by go_num, by rw [Hmx.out, Nat.max_eq_left (by omega)], Hfj.out⟩
                case measure => rw [Hgg.out]; omega
            · have hta : A.take j = A := List.take_of_length_le (by rw [HAl.out]; omega)
              rw [hta]
              generalize mx A = m at HLong
              have Hf : Hid (Fr w wr (fun _ => False)) := Hf3.out.none hfj
              clear hfj Hfj hta
              have G1 : Hid (n ≤ 256) := g1
              clear Hf3 Hra Hca HAs HAl Hgg
              go_wp2_with fail
              go_loopg [12] 9 (fun gg V wr => ∃ v : Nat, gg = 9 - v ∧ v ≤ 8 ∧ V = .int .i64 (v : Int) ∧ (∀ u, u < v → 2 ^ u < n) ∧ Fr w wr (fun _ => False))
              case atStart => exact ⟨0, rfl, by omega, rfl, fun u hu => absurd hu (Nat.not_lt_zero _), Hf.out⟩
              case round =>
                clear Hf
                obtain ⟨v, hgg, hv, rfl, hu, hf⟩ := hrel
                have Hgg : Hid _ := hgg
                have Hu : Hid _ := hu
                have Hf : Hid _ := hf
                obtain ⟨R, hR⟩ : ∃ R, R = 2 ^ v := ⟨_, rfl⟩
                have hR512 : R ≤ 256 := by rw [hR]; exact Nat.le_trans (Nat.pow_le_pow_right (by decide) hv) (by decide)
                have hRw : wrap64 ((2 : Int) ^ v) = (R : Int) := by
                  have e : (2 : Int) ^ v = ((2 ^ v : Nat) : Int) := by simp
                  rw [e, ← hR]
                  exact wrap64_small _ (by omega) (by omega)
                have HR : Hid _ := hR
                clear hgg hu hf hR hPw
                by_cases hlt : R < n
                · have hlt1 : (R : Int) < (n : Int) := Int.ofNat_lt.2 hlt
                  have Hv8 : Hid (v + 1 ≤ 8) := by
                    show _ ≤ _
                    rcases Nat.lt_or_ge v 8 with h | h
                    · exact h
                    · have h3 : v = 8 := Nat.le_antisymm hv h
                      have h4 := HR.out
                      rw [h3] at h4
                      exact absurd (Nat.lt_of_lt_of_le hlt G1.out) (by rw [h4]; decide)
                  go_wp2
                  go_roundg (9 - (v + 1))
                  case rel => exact ⟨v + 1, rfl, Hv8.out, by go_num, fun u hu => by
                    rcases Nat.lt_or_ge u v with h | h
                    · exact Hu.out u h
                    · have h3 : u = v := Nat.le_antisymm (Nat.le_of_lt_succ hu) h
                      rw [h3, ← HR.out]; exact hlt, Hf.out⟩
                  case measure => clear hRw; rw [Hgg.out]; omega
                · have hlt1 : ¬ (R : Int) < (n : Int) := fun h => hlt (Int.ofNat_lt.1 h)
                  have hm := HLong.out v (by rw [← HR.out]; exact Nat.le_of_not_lt hlt) Hu.out
                  have Hbel : Hid (Below w.heap.size w wr) := Hf.out.below (Nat.le_refl _) (fun k h => h.elim)
                  clear HLong Hu Hf Hgg HR
                  by_cases h1 : n = 1
                  · rw [if_pos h1] at hm
                    subst hm
                    subst h1
                    go_wp2
                    go_ret
                    exact ⟨rfl, Hbel.out⟩
                  · rw [if_neg h1] at hm
                    subst hm
                    have h2 : ¬ (n : Int) = 1 := fun h => h1 (by exact_mod_cast h)
                    go_wp2
                    go_ret
                    exact ⟨rfl, Hbel.out⟩

end Go.Proofs.Ytjjanlpkhoeejaa.mergeMany
