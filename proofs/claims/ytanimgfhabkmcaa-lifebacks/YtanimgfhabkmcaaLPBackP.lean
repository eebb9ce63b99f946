/-
  The contract of life's Back.
-/
import Derived.Test.YtanimgfhabkmcaaLPBack
namespace Go.Proofs.Ytanimgfhabkmcaa
open Go.RowKit

/-- What is so of a life that may be; of one behind another. -/
def LfOk (x : Lf) : Prop := ¬ (0 ≤ x.2.2 ∧ x.2.2 ≤ x.2.1)
def LfBehind (p x : Lf) : Prop := eLess p.1 x.1 = true ∨ (p.1 = x.1 ∧ 0 ≤ p.2.2 ∧ p.2.2 < x.2.1)
theorem behind_iff {p x : Lf} : lOrd p x = false ↔ LfBehind p x := by
  unfold lOrd LfBehind
  cases eLess p.1 x.1 <;> simp [and_assoc]
theorem behind_trans {p x y : Lf} (hx : LfOk x) (h : LfBehind p x) (k : LfBehind x y) : LfBehind p y := by
  unfold LfBehind LfOk at *
  rcases h with h | ⟨h1, h2, h3⟩
  · rcases k with k | ⟨k1, -, -⟩
    · exact .inl (eLess_trans h k)
    · exact .inl (k1 ▸ h)
  · rcases k with k | ⟨k1, k2, k3⟩
    · exact .inl (h1 ▸ k)
    · exact .inr ⟨h1.trans k1, h2, by omega⟩
theorem lchk_ok (n : Nat) : ∀ (l : List Lf) (pv : Option Lf) (i : Nat), (lchkF n pv i l).2 = 0 → (∀ x ∈ l, LfOk x) ∧ l.Pairwise LfBehind ∧ (∀ p, pv = some p → LfOk p → ∀ x ∈ l, LfBehind p x)
  | [], _, _, _ => ⟨fun _ h => (by cases h), List.Pairwise.nil, fun _ _ _ _ h => (by cases h)⟩
  | x :: r, pv, i, h => by
    by_cases hw : lwrongF n pv x = 0
    · rw [lchk_fine hw] at h
      obtain ⟨h1, h2, h3⟩ := lchk_ok n r (some x) (i + 1) h
      have hx : LfOk x ∧ (pv.any fun p => lOrd p x) = false := by
        unfold lwrongF at hw
        unfold LfOk
        split at hw
        · cases hw
        · split at hw
          · cases hw
          · split at hw
            · cases hw
            · rename_i h4
              split at hw
              · cases hw
              · rename_i h5
                exact ⟨h4, by simpa using h5⟩
      have hr := h3 x rfl hx.1
      refine ⟨fun y hy => ?_, List.pairwise_cons.2 ⟨hr, h2⟩, fun p hp hpo y hy => ?_⟩
      · rcases List.mem_cons.1 hy with rfl | hy
        · exact hx.1
        · exact h1 y hy
      · have hpx : LfBehind p x := by
          have := hx.2
          rw [hp] at this
          exact behind_iff.1 (by simpa using this)
        rcases List.mem_cons.1 hy with rfl | hy
        · exact hpx
        · exact behind_trans hx.1 hpx (hr y hy)
    · rw [lchk_wrong hw] at h
      exact absurd h hw
theorem eBef_cmp {a b : Ev} (h : ¬ (a.1 = b.1 ∧ a.2.1 = b.2.1)) : Cmp eBef a b := by
  unfold Cmp
  rw [eBef_iff, eBef_iff]
  by_cases h1 : a.1 = b.1
  · have h2 : a.2.1 ≠ b.2.1 := fun h2 => h ⟨h1, h2⟩
    cases h3 : eLess a.2.1 b.2.1 with
    | true => exact .inl (.inr ⟨h1, rfl⟩)
    | false => exact .inr (.inr ⟨h1.symm, eLess_ne h3 h2⟩)
  · rcases Int.lt_or_gt_of_ne h1 with h2 | h2
    · exact .inl (.inl h2)
    · exact .inr (.inl h2)
theorem mem_lEv {x : Lf} {a : Ev} (h : a ∈ lEv x) : a.2.1 = x.1 ∧ (a.1 = x.2.1 ∨ (0 ≤ x.2.2 ∧ a.1 = x.2.2)) := by
  unfold lEv at h
  rcases List.mem_cons.1 h with rfl | h
  · exact ⟨rfl, .inl rfl⟩
  · split at h
    · rename_i h0
      simp only [List.mem_singleton] at h
      subst h
      exact ⟨rfl, .inr ⟨h0, rfl⟩⟩
    · cases h
theorem events_cmp {n : Nat} {l : List Lf} (h : (lifeCheckF n l).2 = 0) : (l.flatMap lEv).Pairwise (Cmp eBef) := by
  have h0 : (lchkF n none 0 l).2 = 0 := by
    unfold lifeCheckF at h
    split at h
    · cases h
    · exact h
  obtain ⟨h1, h2, -⟩ := lchk_ok n l none 0 h0
  rw [List.pairwise_flatMap]
  refine ⟨fun x hx => ?_, h2.imp_of_mem (fun {p x} hp hx hb a ha b hb' => eBef_cmp fun he => ?_)⟩
  · have hok := h1 x hx
    unfold LfOk at hok
    unfold lEv
    split
    · refine List.pairwise_cons.2 ⟨fun y hy => ?_, List.pairwise_singleton _ _⟩
      simp only [List.mem_singleton] at hy
      subst hy
      exact eBef_cmp fun he => by have := he.1; dsimp only at this; omega
    · exact List.pairwise_singleton _ _
  · obtain ⟨a1, a2⟩ := mem_lEv ha
    obtain ⟨b1, b2⟩ := mem_lEv hb'
    have hpo := h1 p hp
    have hxo := h1 x hx
    unfold LfOk at hpo hxo
    rcases hb with hb | ⟨hb1, hb2, hb3⟩
    · rw [← a1, ← b1, he.2, eLess_irrefl] at hb
      cases hb
    · have := he.1
      omega
/-- The only order of the events. -/
theorem back_only {n : Nat} {l : List Lf} (h : (lifeCheckF n l).2 = 0) {evs : List Ev} (hp : evs.Perm (l.flatMap lEv)) (hs : evs.Pairwise (fun a b => eBef b a = false)) : evs = backE [] l := by
  have hc := events_cmp h
  have hc2 : evs.Pairwise (Cmp eBef) := (List.Perm.pairwise_iff (fun {x y} hxy => hxy.symm) hp).2 hc
  have hs2 : evs.Pairwise (fun a b => eBef a b = true) := (hs.and hc2).imp (fun {a b} hab => by
    rcases hab.2 with h1 | h1
    · exact h1
    · rw [hab.1] at h1; cases h1)
  obtain ⟨k1, k2⟩ := all_sorted (b := eBef) (fun x y z => eBef_trans) (l.flatMap lEv) [] List.Pairwise.nil (by simpa using hc)
  rw [backE_fold]
  exact sorted_unique (fun x y => eBef_asymm) hs2 k1 (hp.trans (by simpa using k2.symm))

set_option maxRecDepth 4000 in
set_option maxHeartbeats 1600000 in
theorem back_any (n : Nat) (v : Value) (l : List Lf) (w : World) (h : RdL w v l) (hl : l.length ≤ 100000) (hfit : ∀ x ∈ l, LfFit x) : Calls Try.prog 17 #[.int .u64 (n : Int), v] w fun r w' =>
    (∃ v', r = .returned (.tuple #[histV (backF n l).1 v', .int .i64 ((backF n l).2.2 : Int)]) ∧ RdV w' v' (backF n l).2.1) ∧ Fr w w' (fun _ => False) := by
  obtain ⟨a0, c0, rfl, hc0⟩ := h.form
  obtain ⟨m, hm⟩ : ∃ m, m = l.length := ⟨_, rfl⟩
  rw [← hm] at h hl hc0 ⊢
  obtain ⟨⟨R0, R1, R2⟩, hR⟩ : ∃ R, R = backF n l := ⟨_, rfl⟩
  rw [← hR]
  have HR : Hid _ := hR
  have Hr : Hid (RdL w (.slice a0 m c0) l) := h
  have Hm : Hid _ := hm
  have Hfit : Hid _ := hfit
  have Hl : Hid (l.length ≤ 100000) := by show _ ≤ _; rw [← hm]; exact hl
  clear h hm hR hfit
  dsimp only
  go_enter Try.func17, Try.ntmps17
  go_upto_region 1 with fail
  obtain ⟨p4, hp4⟩ : ∃ p, p = w.heap.size := ⟨_, rfl⟩
  obtain ⟨w1, hw1⟩ : ∃ x, x = w.alloc (.cells #[.int .u64 0, .slice none 0 0] 25) := ⟨_, rfl⟩
  rw [← hw1, ← hp4]
  have H4 : Hid (w1.heap[p4]? = some (.cells #[.int .u64 0, .slice none 0 0] 25 (0, 0))) := by show _ = _; rw [hw1, hp4]; exact heap_alloc_new _ _
  have Hf1 : Hid (Fr w w1 (fun _ => False)) := by show Fr _ _ _; rw [hw1]; exact (Fr.refl _ _).alloc _
  have Hp4 : Hid (w.heap.size ≤ p4) := by show _ ≤ _; omega
  clear hw1 hp4
  have hck := lcheck_any n (.slice a0 m c0) l w1 (Hr.out.keep Hf1.out) (by have := Hl.out; omega) Hfit.out
  obtain ⟨⟨C1, C2⟩, hC⟩ : ∃ C, C = lifeCheckF n l := ⟨_, rfl⟩
  rw [← hC] at hck
  have HC : Hid _ := hC
  clear hC
  dsimp only at hck
  go_wp2_with fail
  refine hck.mono ?_
  rintro r x1 ⟨rfl, g⟩
  have H4b : Hid (x1.heap[p4]? = some (.cells #[.int .u64 0, .slice none 0 0] 25 (0, 0))) := g.kept H4.out (fun h => h)
  have Hx1 : Hid (Fr w x1 (fun _ => False)) := Hf1.out.none g
  clear g hck
  by_cases h0 : C2 = 0
  · subst h0
    have HCz : Hid ((lifeCheckF n l).2 = 0) := by show _ = _; rw [← HC.out]
    have HRR : Hid ((R0, R1, R2) = (n, backE [] l, 0)) := by show _ = _; rw [HR.out]; exact if_pos HCz.out
    simp only [Prod.mk.injEq] at HRR
    obtain ⟨e1, e2, e3⟩ := HRR.out
    subst e1 e3
    have HR1 : Hid (R1 = backE [] l) := e2
    clear e2 HRR
    have hto := told_any (.slice a0 m c0) l x1 (Hr.out.keep Hx1.out) (by have := Hl.out; omega)
    go_wp2_with fail
    refine hto.mono ?_
    rintro r x2 ⟨⟨v2, rfl, ho2, hn2⟩, g⟩
    obtain ⟨a2, l2, c2, rfl⟩ : ∃ a l c, v2 = .slice a l c := by obtain ⟨a, c, e, -⟩ := ho2.rd.form; exact ⟨a, _, c, e⟩
    have Ho2 : Hid (OwnV x2 (.slice a2 l2 c2) (l.flatMap lEv)) := ho2
    have Hn2 : Hid (∀ k, (Value.slice a2 l2 c2).ownBlock = some k → x1.heap.size ≤ k) := hn2
    have H4c : Hid (x2.heap[p4]? = some (.cells #[.int .u64 0, .slice none 0 0] 25 (0, 0))) := g.kept H4b.out (fun h => h)
    have Hx2 : Hid (Fr w x2 (fun _ => False)) := Hx1.out.none g
    clear g hto ho2 hn2
    go_upto_region 5 with fail
    obtain ⟨p8, hp8⟩ : ∃ p, p = x2.heap.size := ⟨_, rfl⟩
    obtain ⟨x3, hx3⟩ : ∃ x, x = x2.alloc (.cells #[.slice a2 l2 c2] 23) := ⟨_, rfl⟩
    rw [← hx3, ← hp8]
    have H8 : Hid (x3.heap[p8]? = some (.cells #[.slice a2 l2 c2] 23 (0, 0))) := by show _ = _; rw [hx3, hp8]; exact heap_alloc_new _ _
    have Hx3 : Hid (Fr x2 x3 (fun _ => False)) := by show Fr _ _ _; rw [hx3]; exact (Fr.refl _ _).alloc _
    have Hb8 : Hid ((Value.slice a2 l2 c2).ownBlock ≠ some p8) := by show _ ≠ _; intro e; have := Ho2.out.lt p8 e; omega
    have Hb4 : Hid ((Value.slice a2 l2 c2).ownBlock ≠ some p4) := by show _ ≠ _; intro e; have h1 := Hn2.out p4 e; have h2 := lt_of_block H4b.out; omega
    clear hp8 hx3
    have hso := backSort_any (.slice a2 l2 c2) (l.flatMap lEv) p8 x3 (Ho2.out.frame Hx3.out (fun _ _ h => h)) (one_cell H8.out).1 Hb8.out (by have := flat_length l; have := Hl.out; omega)
    have c8 := (one_cell H8.out).1
    go_wp2_with fail
    refine hso.mono ?_
    rintro r x4 ⟨rfl, ⟨evs, hperm, hsort, ho⟩, hf⟩
    have hev := back_only HCz.out hperm hsort
    rw [← HR1.out] at hev
    subst hev
    have Ho4 : Hid (OwnV x4 (.slice a2 l2 c2) evs) := ho
    have H8b : Hid (x4.heap[p8]? = some (.cells #[.slice a2 l2 c2] 23 (0, 0))) := hf.kept H8.out Hb8.out
    have H4d : Hid (x4.heap[p4]? = some (.cells #[.int .u64 0, .slice none 0 0] 25 (0, 0))) := hf.kept (Hx3.out.kept H4c.out (fun h => h)) Hb4.out
    have Hx4 : Hid (Fr w x4 (fun _ => False)) := (Hx2.out.none Hx3.out).newer hf (fun k hk => by have h1 := Hn2.out k hk; have h2 := Hx1.out.size; omega)
    clear hso c8 hperm hsort ho hf
    have c8 := (one_cell H8b.out).1
    obtain ⟨e0', e1'⟩ : x4.cell? ⟨p4, 0, none⟩ = some (.int .u64 0) ∧ x4.cell? ⟨p4, 1, none⟩ = some (.slice none 0 0) := ⟨two_cell0 H4d.out, two_cell1 H4d.out⟩
    have f0' : x4.frozen? ⟨p4, 0, none⟩ = false := two_free H4d.out 0
    have f1' : x4.frozen? ⟨p4, 1, none⟩ = false := two_free H4d.out 1
    have Hfin : Hid (Fr w ((x4.setCell ⟨p4, 0, none⟩ (.int .u64 (R0 : Int))).setCell ⟨p4, 1, none⟩ (.slice a2 l2 c2)) (fun _ => False)) := Hx4.out.newer ((fr_cell x4 _ _ _).trans (fr_cell _ _ _ _) (fun _ _ h => h)) (fun i hi => by have h2 := Hp4.out; omega)
    have Hof : Hid (OwnV ((x4.setCell ⟨p4, 0, none⟩ (.int .u64 (R0 : Int))).setCell ⟨p4, 1, none⟩ (.slice a2 l2 c2)) (.slice a2 l2 c2) evs) :=
      Ho4.out.frame ((fr_cell x4 _ _ _).trans (fr_cell _ _ _ _) (fun _ _ h => h)) (fun i hi h => by subst h; exact Hb4.out hi)
    have Hrow : Hid _ := two_set1 (two_set0 H4d.out (u := .int .u64 (R0 : Int))) (u := .slice a2 l2 c2)
    go_wp2
    refine bodyPost_ret (results_cell2 rfl rfl rfl (run_loadVar_row _ _ 25 _ _ (0, 0) _ Hrow.out Try.underlying25 rfl histSize)) rfl ?_
    exact ⟨⟨_, rfl, Hof.out.rd⟩, Hfin.out⟩
  · have hC0 : ((C2 : Int) == 0) = false := by rw [beq_eq_false_iff_ne]; omega
    have hC1 : ((C2 : Int) != 0) = true := by rw [bne_iff_ne]; omega
    have HRR : Hid ((R0, R1, R2) = (0, [], C2)) := by show _ = _; rw [HR.out]; unfold backF; rw [if_neg (by rw [← HC.out]; exact h0), ← HC.out]
    simp only [Prod.mk.injEq] at HRR
    obtain ⟨rfl, rfl, rfl⟩ := HRR.out
    clear HRR h0
    obtain ⟨e0', e1'⟩ : x1.cell? ⟨p4, 0, none⟩ = some (.int .u64 0) ∧ x1.cell? ⟨p4, 1, none⟩ = some (.slice none 0 0) := ⟨two_cell0 H4b.out, two_cell1 H4b.out⟩
    have f0' : x1.frozen? ⟨p4, 0, none⟩ = false := two_free H4b.out 0
    have f1' : x1.frozen? ⟨p4, 1, none⟩ = false := two_free H4b.out 1
    have Hfin : Hid (Fr w ((x1.setCell ⟨p4, 0, none⟩ (.int .u64 0)).setCell ⟨p4, 1, none⟩ (.slice none 0 0)) (fun _ => False)) := Hx1.out.newer ((fr_cell x1 _ _ _).trans (fr_cell _ _ _ _) (fun _ _ h => h)) (fun i hi => by have h2 := Hp4.out; omega)
    have Hrow : Hid _ := two_set1 (two_set0 H4b.out (u := .int .u64 0)) (u := .slice none 0 0)
    go_wp2
    refine bodyPost_ret (results_cell2 rfl rfl rfl (run_loadVar_row _ _ 25 _ _ (0, 0) _ Hrow.out Try.underlying25 rfl histSize)) rfl ?_
    exact ⟨⟨_, rfl, RdV.nil _⟩, Hfin.out⟩

end Go.Proofs.Ytanimgfhabkmcaa
