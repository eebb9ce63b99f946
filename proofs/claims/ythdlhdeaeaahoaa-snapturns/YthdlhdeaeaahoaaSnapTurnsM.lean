/-
  The walk of the law SnapTurns, under the condition that snap's functions answer as their contracts say.
-/
import Derived.Test.YthdlhdeaeaahoaaRows
import Derived.Test.YthdlhdeaeaahoaaSI
import Derived.Test.YthdlhdeaeaahoaaXGood
import Derived.Test.YthdlhdeaeaahoaaSHelp
import Derived.Test.YthdlhdeaeaahoaaJ2
import Derived.Test.YthdlhdeaeaahoaaXTime
import Derived.Test.YthdlhdeaeaahoaaEArg
namespace Go.Proofs.Ythdlhdeaeaahoaa.snapTurns
open Go.ChangeShapes Go.WideShapes Go.ChangeAt Go.RowKit

/-- Edges of a list: their slice, themselves. -/
abbrev Lg := (Option Addr × Nat × Nat) × List Eg
def encG (x : Lg) : List Value := [.slice x.1.1 x.1.2.1 x.1.2.2]
def LgOk (w : World) (x : Lg) : Prop := RdE w (.slice x.1.1 x.1.2.1 x.1.2.2) x.2 ∧ x.2.length ≤ 100 ∧ (∀ y ∈ x.2, EgFit y)
theorem LgOk.keep {w w' : World} {x : Lg} (h : LgOk w x) (f : Fr w w' (fun _ => False)) : LgOk w' x := ⟨RdE.keep h.1 f, h.2⟩
theorem grow_get : ∀ (xs : List Lg) (i : Nat) (x : Lg), xs[i]? = some x → (xs.flatMap encG)[i]? = some (.slice x.1.1 x.1.2.1 x.1.2.2)
  | [], i, x, h => by simp at h
  | y :: r, 0, x, h => by
    simp only [List.getElem?_cons_zero, Option.some.injEq] at h
    subst h
    simp [encG]
  | y :: r, i + 1, x, h => by
    simp only [List.getElem?_cons_succ] at h
    have ih := grow_get r i x h
    rw [List.flatMap_cons, List.getElem?_append_right (by simp [encG])]
    simpa [encG] using ih

set_option maxRecDepth 4000 in
set_option maxHeartbeats 6400000 in
theorem walkM (M : SI) (a0 : Option Addr) (len0 cap0 : Nat) (a1 : Int) (a2 : Option Addr) (len2 cap2 : Nat) (z2 : List Int) (a3 a4 a5 : Int) (a6 : Bool) (a7 : Int) (w : World) (w0 : IsEdges w a0 len0 cap0) (w1 : (Lit.int .u8 a1).wf = true) (w2 : IsRow .u8 w a2 len2 cap2 z2) (w3 : (Lit.int .u8 a3).wf = true) (w4 : (Lit.int .u8 a4).wf = true) (w5 : (Lit.int .u8 a5).wf = true) (w7 : (Lit.int .u32 a7).wf = true) :
    Calls Try.prog 4 #[.slice a0 len0 cap0, .int .u8 a1, .slice a2 len2 cap2, .int .u8 a3, .int .u8 a4, .int .u8 a5, .bool a6, .int .u32 a7] w fun e w' => e = .returned (.bool true) ∧ Below w.heap.size w w' := by
  obtain ⟨bs, hbl, hbb, hbr⟩ := bytes_arg w2
  have Hbs : Hid (Reads .u8 w (.slice a2 len2 cap2) bs) := hbr
  have Hbb : Hid (∀ x ∈ bs, x < 256) := hbb
  have Hbl : Hid (bs.length = len2) := hbl
  clear hbl hbb hbr
  obtain ⟨k, rfl, hk⟩ := eu8_nat w1
  have Hk : Hid (k < 256) := hk
  obtain ⟨ne, rfl, hne⟩ := eu8_nat w3
  have Hne : Hid (ne < 256) := hne
  obtain ⟨a, rfl, ha⟩ := eu8_nat w4
  have Ha : Hid (a < 256) := ha
  obtain ⟨b, rfl, hb⟩ := eu8_nat w5
  have Hb : Hid (b < 256) := hb
  obtain ⟨v, rfl, hv⟩ := u32_nat w7
  have Hv : Hid (v < 4294967296) := hv
  obtain ⟨raw, hml, hmr, hmf⟩ := w0
  have Hml : Hid _ := hml
  have Hmr : Hid (RdE w (.slice a0 len0 cap0) raw) := hmr
  have Hmf : Hid (∀ e ∈ raw, EgFit e) := hmf
  have wa1 : IntKind.u32.wrap (a : Int) = (a : Int) := by rw [IntKind.wrap_u32]; omega
  have wb1 : IntKind.u32.wrap (b : Int) = (b : Int) := by rw [IntKind.wrap_u32]; omega
  have wa2 : IntKind.i64.wrap (a : Int) = (a : Int) := IntWalk.i64_in _ (by omega)
  obtain ⟨b3, hb3⟩ : ∃ q, q = b % 3 := ⟨_, rfl⟩
  have wb31 : (b : Int).tmod 3 = (b3 : Int) := by rw [Int.tmod_eq_emod_of_nonneg (by omega)]; omega
  have wb32 : (b : Int) % 3 = (b3 : Int) := by omega
  clear w1 w2 w3 w4 w5 w7 hml hmr hmf hk hne ha hb hv hb3
  go_enter Try.func4, Try.ntmps4
  go_wp2_with fail
  refine (sknown_any M w).mono ?_
  rintro e w1 ⟨rfl, hf1⟩
  have H01 : Hid (Fr w w1 (fun _ => False)) := hf1
  have Hf1 : Hid (Fr w w1 (fun _ => False)) := hf1
  clear hf1
  by_cases hb30 : 30 < len0
  · have d1 : decide ((30 : Int) < (len0 : Int)) = true := decide_eq_true (by omega)
    have d1' : decide (30 < len0) = true := decide_eq_true hb30
    go_wp2
    go_ret
    exact ⟨rfl, ebelow Hf1.out⟩
  have db30 : decide ((30 : Int) < (len0 : Int)) = false := decide_eq_false (by omega)
  have db30' : decide (30 < len0) = false := decide_eq_false hb30
  have Hl30 : Hid (raw.length ≤ 30) := by have := Hml.out; exact (by omega : raw.length ≤ 30)
  clear hb30
  by_cases hb60 : 60 < len2
  · have d1 : decide ((60 : Int) < (len2 : Int)) = true := decide_eq_true (by omega)
    have d1' : decide (60 < len2) = true := decide_eq_true hb60
    go_wp2
    go_ret
    exact ⟨rfl, ebelow Hf1.out⟩
  have db60 : decide ((60 : Int) < (len2 : Int)) = false := decide_eq_false (by omega)
  have db60' : decide (60 < len2) = false := decide_eq_false hb60
  have Hl : Hid (bs.length ≤ 60) := by have := Hbl.out; exact (by omega : bs.length ≤ 60)
  clear hb60
  go_wp2_with fail
  refine (seatH_any k _ bs _ (Hbs.out.keep Hf1.out) Hbb.out (by have := Hl.out; omega) Hk.out).mono ?_
  rintro r w2 ⟨n, E, a2', m, c2', rfl, hm, hnv, -, hok, hr2, hmc, g⟩
  have Hn2' : Hid (2 ≤ n) := by show _ ≤ _; rw [hnv]; exact (vertF_bounds k).1
  clear hnv
  have HO : Hid (HOk n E) := hok
  have Hm : Hid (m = E.length) := hm
  have Hr2 : Hid (RdV w2 (.slice a2' m c2') E) := hr2
  have Hf2 : Hid (Fr w w2 (fun _ => False)) := Hf1.out.none g
  have H12 : Hid (Fr w1 w2 (fun _ => False)) := g
  have Hm40 : Hid (m ≤ 40) := by have := hok.len; show _ ≤ _; omega
  clear g hok hm hr2
  go_upto_region 6 with fail
  obtain ⟨ph, hph⟩ : ∃ p, p = w2.heap.size := ⟨_, rfl⟩
  obtain ⟨w3, hw3⟩ : ∃ x, x = w2.alloc (.cells #[.int .u64 (n : Int), .slice a2' m c2'] 25) := ⟨_, rfl⟩
  rw [← hw3, ← hph]
  have Qh : Hid (∀ z, Fr w3 z (fun _ => False) → z.heap[ph]? = some (.cells #[.int .u64 (n : Int), .slice a2' m c2'] 25 (0, 0))) := fun z hz => hz.kept (by rw [hw3, hph]; exact heap_alloc_new _ _) (fun h => h)
  have H23 : Hid (Fr w2 w3 (fun _ => False)) := by show Fr _ _ _; rw [hw3]; exact (Fr.refl _ _).alloc _
  have Hr3 : Hid (∀ z, Fr w3 z (fun _ => False) → RdV z (.slice a2' m c2') E) := fun z hz => Hr2.out.keep (H23.out.none hz)
  have Hw3 : Hid (Fr w w3 (fun _ => False)) := Hf2.out.none H23.out
  clear hph hw3 Hr2
  have Hraw : Hid (∀ z, Fr w3 z (fun _ => False) → RdE z (.slice a0 len0 cap0) raw) := fun z hz => RdE.keep Hmr.out (Hw3.out.none hz)
  have Hchk : Hid ((checkF n E).2 = 0) := by show _ = _; rw [HO.out.chk]
  have Hn2 : Hid (2 ≤ n) := Hn2'.out
  obtain ⟨T, hT⟩ : ∃ t, t = timeF E ne := ⟨_, rfl⟩
  have HT : Hid (T = timeF E ne) := hT
  obtain ⟨X, hX⟩ : ∃ X, X = (atF n E T).1 := ⟨_, rfl⟩
  have HX : Hid (atF n E T = (X, 0)) := by
    show _ = _
    have h1 := at_err n E T
    rw [Hchk.out] at h1
    exact Prod.ext hX.symm h1
  have HXf : Hid (∀ e ∈ X, EgFit e) := by show ∀ e ∈ X, EgFit e; rw [hX]; exact after_fit HO.out.fit
  have HXl : Hid (X.length ≤ 40) := by show _ ≤ _; rw [hX]; exact Nat.le_trans (after_length n E _) HO.out.len
  clear hT hX
  obtain ⟨x0, hx0⟩ : ∃ x, x = w3.drew := ⟨_, rfl⟩
  have G0 : Hid (Fr w3 x0 (fun _ => False)) := by show Fr _ _ _; rw [hx0]; exact (Fr.refl _ _).drew
  go_wp2_with fail
  refine wp_region_tree (fun _ => False) (.take 0 (.take 1 (.take 2 (.one 3 (.one 4 (.take 5 (.take 6 (.take 7 (.take 8 (.take 9 .nil)))))))))) (by kernel_rfl) (by kernel_rfl) (by decide) (by kernel_rfl) ?_
  rw [← hx0]
  clear hx0
  have ka : ∀ z, Fr x0 z (fun _ => False) → z.cell? ⟨ph, 0, none⟩ = some (.int .u64 (n : Int)) := fun z hz => two_cell0 (Qh.out z (G0.out.none hz))
  have kb : ∀ z, Fr x0 z (fun _ => False) → z.cell? ⟨ph, 1, none⟩ = some (.slice a2' m c2') := fun z hz => two_cell1 (Qh.out z (G0.out.none hz))
  repeat (refine wpT_take (v := ?_) rfl rfl (fun x hx => ?_) ?_; rotate_left; (focus (go_simp; with_reducible rfl)); simp only [Act.put, List.setIfInBounds_toArray, List.set_cons_zero, List.set_cons_succ])
  clear ka kb
  refine wpT_one rfl rfl (fun K hK => ?_)
  go_simp
  refine (seatTime_any n _ E ne _ (Hr3.out x0 G0.out) (by have := HO.out.len; omega) HO.out.times Hne.out).mono ?_
  rw [← HT.out]
  rintro r x1 ⟨rfl, g⟩
  refine hK _ _ g ?_
  clear hK K
  have G1 : Hid (Fr w3 x1 (fun _ => False)) := G0.out.none g
  clear g
  try simp only [Act.put, List.setIfInBounds_toArray, List.set_cons_zero, List.set_cons_succ]
  refine wpT_one rfl rfl (fun K hK => ?_)
  go_simp
  refine (refAt_any n _ E T _ (Hr3.out x1 G1.out) (by have := HO.out.len; omega) HO.out.fit).mono ?_
  rw [HX.out]
  rintro r x2 ⟨⟨vX, rfl, hvX, -⟩, g⟩
  refine hK _ _ g ?_
  clear hK K
  obtain ⟨aX, cX, rfl, hcX⟩ := hvX.form
  obtain ⟨K, hK⟩ : ∃ K, K = X.length := ⟨_, rfl⟩
  dsimp only at hvX hcX ⊢
  rw [← hK] at hvX hcX ⊢
  have HK : Hid (K = X.length) := hK
  have HrX : Hid (∀ z, Fr x2 z (fun _ => False) → RdE z (.slice aX K cX) X) := fun z hz => RdE.keep hvX hz
  have G2 : Hid (Fr w3 x2 (fun _ => False)) := G1.out.none g
  clear g hvX hK
  try simp only [Act.put, List.setIfInBounds_toArray, List.set_cons_zero, List.set_cons_succ]
  repeat (refine wpT_take (v := ?_) rfl rfl (fun x hx => ?_) ?_; rotate_left; (focus (go_simp; with_reducible rfl)); simp only [Act.put, List.setIfInBounds_toArray, List.set_cons_zero, List.set_cons_succ])
  unfold wpT
  go_upto_region 7 with fail
  obtain ⟨SE, hSE⟩ : ∃ s, s = seatEdge a b n := ⟨_, rfl⟩
  have HSE : Hid _ := hSE
  obtain ⟨ok, hok⟩ : ∃ o, o = SE.isSome := ⟨_, rfl⟩
  have Hok0 : Hid _ := hok
  clear hSE hok
  go_cut [20, 21] from 51 to 58 (fun V O wx => ∃ pE : Nat, V = .pointer (some ⟨pE, 0, none⟩) ∧ O = .bool ok ∧ x2.heap.size ≤ pE ∧ wx.heap[pE]? = some (.cells #[.int .u32 ((SE.getD (0, 0)).1 : Int), .int .u32 ((SE.getD (0, 0)).2 : Int)] 48 (0, 0)) ∧ Fr x2 wx (fun _ => False))
  case first =>
    obtain ⟨ka, kb⟩ : x2.cell? ⟨ph, 0, none⟩ = some (.int .u64 (n : Int)) ∧ x2.cell? ⟨ph, 1, none⟩ = some (.slice a2' m c2') := ⟨two_cell0 (Qh.out x2 G2.out), two_cell1 (Qh.out x2 G2.out)⟩
    go_wp2_with fail
    refine (seatEdge_any a b n _ Ha.out Hb.out Hn2.out HO.out.n32).mono ?_
    rw [← HSE.out]
    rintro r y1 ⟨rfl, g⟩
    have Y1 : Hid (Fr x2 y1 (fun _ => False)) := g
    clear g ka kb
    unfold edgeV
    have hfin : (y1.alloc (.cells #[.int .u32 ((SE.getD (0, 0)).1 : Int), .int .u32 ((SE.getD (0, 0)).2 : Int)] 48)).heap[y1.heap.size]? = some (.cells #[.int .u32 ((SE.getD (0, 0)).1 : Int), .int .u32 ((SE.getD (0, 0)).2 : Int)] 48 (0, 0)) := heap_alloc_new _ _
    have Hfin : Hid _ := hfin
    clear hfin
    go_wp2_with fail
    go_meet
    case rel => exact ⟨y1.heap.size, rfl, by rw [Hok0.out], Y1.out.size, Hfin.out, Y1.out.alloc _⟩
  case rest =>
    obtain ⟨pE, rfl, rfl, hpE, hE0, hf⟩ := hcut
    rename_i hKc
    refine hKc _ _ ?_
    clear hKc
    have HpE : Hid (x2.heap.size ≤ pE) := hpE
    have HE0 : Hid _ := hE0
    have Hfc : Hid (Fr x2 wc (fun _ => False)) := hf
    clear hpE hE0 hf
    obtain ⟨wc0, hwc0⟩ : ∃ x, x = wc := ⟨_, rfl⟩
    subst hwc0
    have HSEf : Hid (EgFit (SE.getD (0, 0))) := by
      show EgFit _
      cases hs : SE with
      | none => exact ⟨by decide, by decide⟩
      | some e =>
        have h1 := seatEdge_right (n := n) (by have := Hn2.out; omega) (by rw [← HSE.out, hs] : seatEdge a b n = some e)
        unfold eRight at h1
        have h2 := of_decide_eq_true h1
        have h3 := HO.out.n32
        exact ⟨by simp only [Option.getD_some]; omega, by simp only [Option.getD_some]; omega⟩
    refine wp_seq_k (fun K2 hK2 => ?_)
    go_cut [20] from 59 to 65 (fun V wx => V = .pointer (some ⟨pE, 0, none⟩) ∧ ∃ e : Eg, EgFit e ∧ wx.heap[pE]? = some (.cells #[.int .u32 (e.1 : Int), .int .u32 (e.2 : Int)] 48 (0, 0)) ∧ Fr x2 wx (fun _ => False))
    case first =>
      cases ok with
      | true =>
        go_wp2_with fail
        go_meet
        case rel => exact ⟨rfl, SE.getD (0, 0), HSEf.out, HE0.out, Hfc.out⟩
      | false =>
        have f0 := two_free HE0.out
        obtain ⟨c0', c1'⟩ := (⟨two_cell0 HE0.out, two_cell1 HE0.out⟩ : wc0.cell? ⟨pE, 0, none⟩ = _ ∧ wc0.cell? ⟨pE, 1, none⟩ = _)
        have hrow : ((wc0.setCell ⟨pE, 0, none⟩ (.int .u32 (a : Int))).setCell ⟨pE, 1, none⟩ (.int .u32 (b : Int))).heap[pE]? = some (.cells #[.int .u32 (a : Int), .int .u32 (b : Int)] 48 (0, 0)) := two_set1 (two_set0 HE0.out)
        have Hrow : Hid _ := hrow
        have z0 : ∀ u, (wc0.setCell ⟨pE, 0, none⟩ u).frozen? ⟨pE, 1, none⟩ = false := fun u => two_free (two_set0 HE0.out (u := u)) 1
        have z1 : ∀ u, (wc0.setCell ⟨pE, 0, none⟩ u).cell? ⟨pE, 1, none⟩ = some (.int .u32 ((SE.getD (0, 0)).2 : Int)) := fun u => two_cell1 (two_set0 HE0.out (u := u))
        have Hff : Hid (Fr x2 ((wc0.setCell ⟨pE, 0, none⟩ (.int .u32 (a : Int))).setCell ⟨pE, 1, none⟩ (.int .u32 (b : Int))) (fun _ => False)) := Hfc.out.newer ((fr_cell wc0 _ _ _).trans (fr_cell _ _ _ _) (fun _ _ h => h)) (fun k h => by have := HpE.out; omega)
        clear hrow
        go_wp2_with fail
        go_meet
        case rel => exact ⟨rfl, (a, b), ⟨by have := Ha.out; dsimp only; omega, by have := Hb.out; dsimp only; omega⟩, Hrow.out, Hff.out⟩
    case rest =>
      obtain ⟨rfl, e0, he0, hE1, hf1⟩ := hcut
      refine hK2 _ _ ?_
      clear hK2 K2
      have HE1 : Hid _ := hE1
      have Hfd : Hid (Fr x2 wc (fun _ => False)) := hf1
      have He0 : Hid (EgFit e0) := he0
      clear hE1 hf1 he0 HE0 Hfc HSEf
      obtain ⟨wd, hwd⟩ : ∃ x, x = wc := ⟨_, rfl⟩
      subst hwd
      refine wp_seq_k (fun K2 hK2 => ?_)
      go_cut [20] from 66 to 81 (fun V wx => V = .pointer (some ⟨pE, 0, none⟩) ∧ ∃ e : Eg, EgFit e ∧ wx.heap[pE]? = some (.cells #[.int .u32 (e.1 : Int), .int .u32 (e.2 : Int)] 48 (0, 0)) ∧ Fr x2 wx (fun _ => False))
      case first =>
        by_cases hK0 : K = 0
        · subst hK0
          go_wp2_with fail
          go_meet
          case rel => exact ⟨rfl, e0, He0.out, HE1.out, Hfd.out⟩
        · have dK : decide ((0 : Int) < (K : Int)) = true := decide_eq_true (by omega)
          have dK' : decide (0 < K) = true := decide_eq_true (by omega)
          by_cases hb0 : b3 = 0
          · have eb : ((b3 : Int) == 0) = true := by simp [hb0]
            have eb' : (b3 == 0) = true := by simp [hb0]
            obtain ⟨q, hq⟩ : ∃ q, q = a % K := ⟨_, rfl⟩
            have hqK : q < K := by rw [hq]; exact Nat.mod_lt _ (by omega)
            have wq1 : (a : Int).tmod (K : Int) = (q : Int) := by rw [Int.tmod_eq_emod_of_nonneg (by omega), hq]; simp
            have wq2 : (a : Int) % (K : Int) = (q : Int) := by rw [hq]; simp
            have hz0 : ¬ K = 0 := hK0
            have hqK' : (q : Int) < (K : Int) := by omega
            have hq0 : (0 : Int) ≤ (q : Int) := by omega
            obtain ⟨⟨e1, e2⟩, ha⟩ : ∃ x, X[q]? = some x := ⟨_, List.getElem?_eq_getElem (by rw [← HK.out]; exact hqK)⟩
            have Hef : Hid (EgFit (e1, e2)) := HXf.out _ (List.mem_of_getElem? ha)
            obtain ⟨bk, off, cap, e3, hbk, hca⟩ := (HrX.out x2 (Fr.refl _ _)).get q _ ha
            rw [← HK.out] at e3
            simp only [Value.slice.injEq] at e3
            obtain ⟨rfl, -, rfl⟩ := e3
            obtain ⟨k0, k1⟩ := hca wd Hfd.out
            have f0 := two_free HE1.out
            obtain ⟨c0', c1'⟩ := (⟨two_cell0 HE1.out, two_cell1 HE1.out⟩ : wd.cell? ⟨pE, 0, none⟩ = _ ∧ wd.cell? ⟨pE, 1, none⟩ = _)
            have hrow : ((wd.setCell ⟨pE, 0, none⟩ (.int .u32 (e1 : Int))).setCell ⟨pE, 1, none⟩ (.int .u32 (e2 : Int))).heap[pE]? = some (.cells #[.int .u32 (e1 : Int), .int .u32 (e2 : Int)] 48 (0, 0)) := two_set1 (two_set0 HE1.out)
            have Hrow : Hid _ := hrow
            have z0 : ∀ u, (wd.setCell ⟨pE, 0, none⟩ u).frozen? ⟨pE, 1, none⟩ = false := fun u => two_free (two_set0 HE1.out (u := u)) 1
            have z1 : ∀ u, (wd.setCell ⟨pE, 0, none⟩ u).cell? ⟨pE, 1, none⟩ = some (.int .u32 (e0.2 : Int)) := fun u => two_cell1 (two_set0 HE1.out (u := u))
            have Hff : Hid (Fr x2 ((wd.setCell ⟨pE, 0, none⟩ (.int .u32 (e1 : Int))).setCell ⟨pE, 1, none⟩ (.int .u32 (e2 : Int))) (fun _ => False)) := Hfd.out.newer ((fr_cell wd _ _ _).trans (fr_cell _ _ _ _) (fun _ _ h => h)) (fun k h => by have := HpE.out; omega)
            clear hrow hca hbk ha hq hb0
            go_wp2_with fail
            go_meet
            case rel => exact ⟨rfl, (e1, e2), Hef.out, Hrow.out, Hff.out⟩
          · have eb : ((b3 : Int) == 0) = false := by rw [beq_eq_false_iff_ne]; omega
            have eb' : (b3 == 0) = false := by rw [beq_eq_false_iff_ne]; exact hb0
            go_wp2_with fail
            go_meet
            case rel => exact ⟨rfl, e0, He0.out, HE1.out, Hfd.out⟩
      case rest =>
        obtain ⟨rfl, e, he, hE2, hf2⟩ := hcut
        refine hK2 _ _ ?_
        clear hK2 K2
        obtain ⟨e1, e2⟩ := e
        have HE2 : Hid (∀ z, Fr wc z (fun _ => False) → z.heap[pE]? = some (.cells #[.int .u32 (e1 : Int), .int .u32 (e2 : Int)] 48 (0, 0))) := fun z hz => hz.kept hE2 (fun h => h)
        have He : Hid (EgFit (e1, e2)) := he
        have Hfe : Hid (Fr x2 wc (fun _ => False)) := hf2
        clear hE2 he hf2 HE1 Hfd He0
        go_upto_region 13 with fail
        obtain ⟨pT, hpT⟩ : ∃ p, p = wc.heap.size := ⟨_, rfl⟩
        obtain ⟨x9, hx9⟩ : ∃ x, x = wc.alloc (.cells #[.slice a0 len0 cap0, .slice aX K cX] 33) := ⟨_, rfl⟩
        have hlit : HoldsN 1 (wc.alloc (.cells #[.slice a0 len0 cap0, .slice aX K cX] 33)) (.slice (some ⟨wc.heap.size, 0, none⟩) 2 2) 2 (List.flatMap encG [((a0, len0, cap0), raw), ((aX, K, cX), X)]) := holdsN_lit 1 wc 33 2 _ rfl (by omega)
        rw [← hx9, ← hpT] at hlit ⊢
        have Gc9 : Hid (Fr wc x9 (fun _ => False)) := by show Fr _ _ _; rw [hx9]; exact (Fr.refl _ _).alloc _
        have G29 : Hid (Fr x2 x9 (fun _ => False)) := Hfe.out.none Gc9.out
        have G39 : Hid (Fr w3 x9 (fun _ => False)) := G2.out.none G29.out
        have Hall : Hid (∀ x ∈ ([((a0, len0, cap0), raw), ((aX, K, cX), X)] : List Lg), LgOk x9 x) := fun x hx => by
          simp only [List.mem_cons, List.not_mem_nil, or_false] at hx
          rcases hx with rfl | rfl
          · exact ⟨Hraw.out _ G39.out, by have := Hl30.out; dsimp only; omega, Hmf.out⟩
          · exact ⟨HrX.out _ G29.out, by have := HXl.out; dsimp only; omega, HXf.out⟩
        generalize hXS : ([((a0, len0, cap0), raw), ((aX, K, cX), X)] : List Lg) = XS at hlit Hall
        have HXSl : Hid (XS.length = 2) := by show _ = _; rw [← hXS]; rfl
        have Hlit : Hid (HoldsN 1 x9 (.slice (some ⟨pT, 0, none⟩) 2 2) 2 (List.flatMap encG XS)) := hlit
        have Hx9 : Hid (Fr w x9 (fun _ => False)) := Hw3.out.none G39.out
        clear hXS hpT hx9 hlit
        go_loopg [86] 2 (fun g I wr => ∃ i : Nat, g = 2 - i ∧ i ≤ 2 ∧ I = .int .i64 (i : Int) ∧ Fr x9 wr (fun _ => False))
        case atStart => exact ⟨0, by omega, by omega, rfl, Fr.refl _ _⟩
        case round =>
          obtain ⟨i, hg, hi, rfl, hf⟩ := hrel
          have Hg : Hid _ := hg
          have Hf : Hid (Fr x9 wr (fun _ => False)) := hf
          clear hg hf
          by_cases hlt : i < 2
          · have hin : (i : Int) < 2 := by omega
            have hin' : decide (i < 2) = true := decide_eq_true hlt
            obtain ⟨⟨⟨ax, lx, cx⟩, Ex⟩, hx⟩ : ∃ x, XS[i]? = some x := ⟨_, List.getElem?_eq_getElem (by rw [HXSl.out]; exact hlt)⟩
            have Hok : Hid (LgOk wr ((ax, lx, cx), Ex)) := (Hall.out _ (List.mem_of_getElem? hx)).keep Hf.out
            have r0 := grow_get XS i _ hx
            obtain ⟨-, ao, cp, e9, -, hcl⟩ := Hlit.out.keep Hf.out
            obtain ⟨bb, off, rfl, hcell⟩ := hcl (by omega)
            simp only [Value.slice.injEq, Option.some.injEq, Addr.mk.injEq] at e9
            obtain ⟨⟨rfl, rfl, -⟩, -, -⟩ := e9
            have kt0 := hcell _ _ r0
            simp only [Nat.zero_add] at kt0
            have hi0 : (0 : Int) ≤ (i : Int) := by omega
            obtain ⟨ka, kb⟩ : wr.cell? ⟨pE, 0, none⟩ = some (.int .u32 (e1 : Int)) ∧ wr.cell? ⟨pE, 1, none⟩ = some (.int .u32 (e2 : Int)) := ⟨two_cell0 (HE2.out wr (Gc9.out.none Hf.out)), two_cell1 (HE2.out wr (Gc9.out.none Hf.out))⟩
            clear hx r0 hcl hcell
            go_upto_region 16 with fail
            clear kt0 ka kb
            obtain ⟨pN, hpN⟩ : ∃ p, p = wr.heap.size := ⟨_, rfl⟩
            obtain ⟨wb, hwb⟩ : ∃ x, x = wr.alloc (.cells #[.int .i64 0, .int .u32 (e1 : Int), .int .u32 (e2 : Int), .bool a6, .int .i64 0, .int .u32 (e1 : Int), .int .u32 (e2 : Int), .bool (!a6)] 53) := ⟨_, rfl⟩
            have hlit2 : RdV (wr.alloc (.cells #[.int .i64 0, .int .u32 (e1 : Int), .int .u32 (e2 : Int), .bool a6, .int .i64 0, .int .u32 (e1 : Int), .int .u32 (e2 : Int), .bool (!a6)] 53)) (.slice (some ⟨wr.heap.size, 0, none⟩) 2 2) [(0, (e1, e2), a6), (0, (e1, e2), !a6)] := holdsN_lit 4 wr 53 2 (vrow [(0, (e1, e2), a6), (0, (e1, e2), !a6)]) rfl (by omega)
            rw [← hwb, ← hpN] at hlit2 ⊢
            have HV : Hid (∀ z, Fr wb z (fun _ => False) → RdV z (.slice (some ⟨pN, 0, none⟩) 2 2) [(0, (e1, e2), a6), (0, (e1, e2), !a6)]) := fun z hz => hlit2.keep hz
            have Hrb : Hid (Fr wr wb (fun _ => False)) := by show Fr _ _ _; rw [hwb]; exact (Fr.refl _ _).alloc _
            have HEx : Hid (∀ z, Fr wb z (fun _ => False) → RdE z (.slice ax lx cx) Ex) := fun z hz => RdE.keep Hok.out.1 (Hrb.out.none hz)
            have HExl : Hid (Ex.length ≤ 100) := Hok.out.2.1
            have HExf : Hid (∀ x ∈ Ex, EgFit x) := Hok.out.2.2
            have Hfb : Hid (Fr x9 wb (fun _ => False)) := Hf.out.none Hrb.out
            have Hcb : Hid (Fr wc wb (fun _ => False)) := Gc9.out.none Hfb.out
            clear hwb hpN hlit2
            go_loopg [99] 2 (fun g I wr => ∃ j : Nat, g = 2 - j ∧ j ≤ 2 ∧ I = .int .i64 (j : Int) ∧ Fr wb wr (fun _ => False))
            case atStart => exact ⟨0, by omega, by omega, rfl, Fr.refl _ _⟩
            case round =>
              obtain ⟨j, hg2, hj, rfl, hf2⟩ := hrel
              have Hg2 : Hid _ := hg2
              have Hf2 : Hid (Fr wb wr (fun _ => False)) := hf2
              clear hg2 hf2
              by_cases hlj : j < 2
              · have hjn : (j : Int) < 2 := by omega
                have hjn' : decide (j < 2) = true := decide_eq_true hlj
                obtain ⟨ad, hxj⟩ : ∃ ad, ([(0, (e1, e2), a6), (0, (e1, e2), !a6)] : List Ev)[j]? = some (0, (e1, e2), ad) := by
                  have hj2 : j = 0 ∨ j = 1 := by omega
                  rcases hj2 with rfl | rfl
                  · exact ⟨a6, rfl⟩
                  · exact ⟨!a6, rfl⟩
                obtain ⟨bk, off, cap, e3, hbk, hca⟩ := (HV.out wr Hf2.out).get j _ hxj
                have e3 : Value.slice (some ⟨pN, 0, none⟩) 2 2 = .slice (some ⟨bk, off, none⟩) 2 cap := e3
                simp only [Value.slice.injEq, Option.some.injEq, Addr.mk.injEq, true_and] at e3
                obtain ⟨⟨rfl, rfl, -⟩, rfl⟩ := e3
                obtain ⟨k0, k1, k2, k3⟩ := hca wr (Fr.refl _ _)
                simp only [Nat.zero_add] at k0 k1 k2 k3
                have hj0 : (0 : Int) ≤ (j : Int) := by omega
                have Hxf : Hid (EvFit (0, (e1, e2), ad)) := ⟨⟨(by decide : (-9223372036854775808 : Int) ≤ 0), (by decide : (0 : Int) ≤ 9223372036854775807)⟩, He.out.1, He.out.2⟩
                clear hca hbk hxj
                go_upto_region 18 with fail
                obtain ⟨pY, hpY⟩ : ∃ p, p = wr.heap.size := ⟨_, rfl⟩
                obtain ⟨z1, hz1⟩ : ∃ x, x = wr.alloc (.cells #[.int .i64 0, .int .u32 (e1 : Int), .int .u32 (e2 : Int), .bool ad] 53) := ⟨_, rfl⟩
                rw [← hz1, ← hpY]
                have QY : Hid (∀ z, Fr z1 z (fun _ => False) → z.heap[pY]? = some (.cells #[.int .i64 0, .int .u32 (e1 : Int), .int .u32 (e2 : Int), .bool ad] 53 (0, 0))) := fun z hz => hz.kept (by rw [hz1, hpY]; exact heap_alloc_new _ _) (fun h => h)
                have Z1 : Hid (Fr wb z1 (fun _ => False)) := by show Fr _ _ _; rw [hz1]; exact Hf2.out.alloc _
                clear hpY hz1 k0 k1 k2 k3
                obtain ⟨TF, hTF⟩ : ∃ T, T = turnF Ex (e1, e2) ad := ⟨_, rfl⟩
                have HTF : Hid _ := hTF
                have HTl : Hid ((TF.getD []).length ≤ 200) := by
                  rw [hTF]
                  cases ht : turnF Ex (e1, e2) ad with
                  | none => show _ ≤ _; simp
                  | some l' => have h1 := turn_length ht; have h2 := HExl.out; exact (by simp only [Option.getD_some]; omega : (Option.getD (some l') []).length ≤ 200)
                clear hTF
                obtain ⟨k0, k1, k2, k3⟩ := four_cells (QY.out z1 (Fr.refl _ _))
                go_wp2_with fail
                refine (M.turn _ Ex (0, (e1, e2), ad) _ (HEx.out z1 Z1.out) (by have := HExl.out; omega) HExf.out Hxf.out).mono ?_
                rw [show turnF Ex (0, (e1, e2), ad).2.1 (0, (e1, e2), ad).2.2 = TF from HTF.out.symm]
                rintro r z2 ⟨⟨vP, rfl, hvP⟩, g⟩
                have Z12 : Hid (Fr z1 z2 (fun _ => False)) := g
                have Z2 : Hid (Fr wb z2 (fun _ => False)) := Z1.out.none g
                have HrP : Hid (∀ z, Fr z2 z (fun _ => False) → RdE z vP (TF.getD [])) := fun z hz => RdE.keep hvP hz
                clear g hvP k0 k1 k2 k3
                obtain ⟨k0, k1, k2, k3⟩ := four_cells (QY.out z2 Z12.out)
                go_wp2_with fail
                refine (refTurn_any _ Ex (0, (e1, e2), ad) _ (HEx.out z2 Z2.out) (by have := HExl.out; omega)).mono ?_
                rw [show turnF Ex (0, (e1, e2), ad).2.1 (0, (e1, e2), ad).2.2 = TF from HTF.out.symm]
                rintro r z3 ⟨⟨vQ, rfl, hvQ, -⟩, g⟩
                have Z23 : Hid (Fr z2 z3 (fun _ => False)) := g
                have Z3 : Hid (Fr wb z3 (fun _ => False)) := Z2.out.none g
                have HrQ : Hid (RdE z3 vQ (TF.getD [])) := hvQ
                have hbb : (TF.isSome != TF.isSome) = false := by simp
                clear g hvQ k0 k1 k2 k3
                go_wp2_with fail
                refine (refSameEdges_any vP vQ _ _ _ (HrP.out z3 Z23.out) HrQ.out (by have := HTl.out; omega) (by have := HTl.out; omega)).mono ?_
                rw [decide_eq_true rfl]
                rintro r z4 ⟨rfl, g⟩
                have Z4 : Hid (Fr wb z4 (fun _ => False)) := Z3.out.none g
                clear g
                go_wp2_with fail
                go_roundg (2 - (j + 1))
                case rel => exact ⟨j + 1, rfl, by omega, by go_num, Z4.out⟩
                case measure => rw [Hg2.out]; omega
              · have hjn : ¬ (j : Int) < 2 := by omega
                have hjn' : decide (j < 2) = false := decide_eq_false hlj
                obtain ⟨y0, hy0⟩ : ∃ x, x = wr.drew := ⟨_, rfl⟩
                have F0 : Hid (Fr wb y0 (fun _ => False)) := by show Fr _ _ _; rw [hy0]; exact Hf2.out.drew
                obtain ⟨HB, hHB⟩ : ∃ B, B = decide ((e1, e2) ∈ Ex) := ⟨_, rfl⟩
                have HHB : Hid _ := hHB
                obtain ⟨D1, hD1⟩ : ∃ D, D = degF Ex v := ⟨_, rfl⟩
                have HD1 : Hid _ := hD1
                obtain ⟨D2, hD2⟩ : ∃ D, D = degF Ex e1 := ⟨_, rfl⟩
                have HD2 : Hid _ := hD2
                have hbb : (HB != HB) = false := by simp
                have hd1 : ((D1 : Int) != (D1 : Int)) = false := by simp
                have hd2 : ((D2 : Int) != (D2 : Int)) = false := by simp
                clear hHB hD1 hD2
                have ka : ∀ z, Fr y0 z (fun _ => False) → z.cell? ⟨pE, 0, none⟩ = some (.int .u32 (e1 : Int)) := fun z hz => two_cell0 (HE2.out z (Hcb.out.none (F0.out.none hz)))
                have kb : ∀ z, Fr y0 z (fun _ => False) → z.cell? ⟨pE, 1, none⟩ = some (.int .u32 (e2 : Int)) := fun z hz => two_cell1 (HE2.out z (Hcb.out.none (F0.out.none hz)))
                have KA : Hid (∀ z, Fr y0 z (fun _ => False) → z.cell? ⟨pE, 0, none⟩ = some (.int .u32 (e1 : Int))) := ka
                go_wp2_with fail
                refine wp_region_tree (fun _ => False) (.take 0 (.take 1 (.take 3 (.take 4 (.one 2 (.one 5 (.take 6 (.take 7 (.take 8 (.take 9 (.take 11 (.take 12 (.one 10 (.one 13 (.take 14 (.take 15 (.take 16 (.take 17 (.take 18 (.take 19 (.take 21 (.take 22 (.take 23 (.one 20 (.one 24 (.take 25 (.take 26 .nil))))))))))))))))))))))))))) (by kernel_rfl) (by kernel_rfl) (by decide) (by kernel_rfl) ?_
                rw [← hy0]
                clear hy0
                repeat (refine wpT_take (v := ?_) rfl rfl (fun x hx => ?_) ?_; rotate_left; (focus (go_simp; with_reducible rfl)); simp only [Act.put, List.setIfInBounds_toArray, List.set_cons_zero, List.set_cons_succ])
                clear ka kb
                refine wpT_one rfl rfl (fun K hK => ?_)
                go_simp
                refine (M.has _ Ex (e1, e2) _ (HEx.out y0 F0.out) (by have := HExl.out; omega) HExf.out He.out).mono ?_
                rw [← HHB.out]
                rintro r y1 ⟨rfl, g⟩
                refine hK _ _ g ?_
                clear hK K
                have F1 : Hid (Fr y0 y1 (fun _ => False)) := g
                clear g
                try simp only [Act.put, List.setIfInBounds_toArray, List.set_cons_zero, List.set_cons_succ]
                refine wpT_one rfl rfl (fun K hK => ?_)
                go_simp
                refine (refHas_any _ Ex (e1, e2) _ (HEx.out y1 (F0.out.none F1.out)) (by have := HExl.out; omega)).mono ?_
                rw [← HHB.out]
                rintro r y2 ⟨rfl, g⟩
                refine hK _ _ g ?_
                clear hK K
                have F2 : Hid (Fr y0 y2 (fun _ => False)) := F1.out.none g
                clear g
                repeat (refine wpT_take (v := ?_) rfl rfl (fun x hx => ?_) ?_; rotate_left; (focus (go_simp; with_reducible rfl)); simp only [Act.put, List.setIfInBounds_toArray, List.set_cons_zero, List.set_cons_succ])
                refine wpT_one rfl rfl (fun K hK => ?_)
                go_simp
                refine (M.degree _ Ex v _ (HEx.out y2 (F0.out.none F2.out)) (by have := HExl.out; omega) HExf.out Hv.out).mono ?_
                rw [← HD1.out]
                rintro r y3 ⟨rfl, g⟩
                refine hK _ _ g ?_
                clear hK K
                have F3 : Hid (Fr y0 y3 (fun _ => False)) := F2.out.none g
                clear g
                try simp only [Act.put, List.setIfInBounds_toArray, List.set_cons_zero, List.set_cons_succ]
                refine wpT_one rfl rfl (fun K hK => ?_)
                go_simp
                refine (refDegree_any _ Ex v _ (HEx.out y3 (F0.out.none F3.out)) (by have := HExl.out; omega)).mono ?_
                rw [← HD1.out]
                rintro r y4 ⟨rfl, g⟩
                refine hK _ _ g ?_
                clear hK K
                have F4 : Hid (Fr y0 y4 (fun _ => False)) := F3.out.none g
                clear g
                have ka : ∀ z, Fr y4 z (fun _ => False) → z.cell? ⟨pE, 0, none⟩ = some (.int .u32 (e1 : Int)) := fun z hz => KA.out z (F4.out.none hz)
                repeat (refine wpT_take (v := ?_) rfl rfl (fun x hx => ?_) ?_; rotate_left; (focus (go_simp; with_reducible rfl)); simp only [Act.put, List.setIfInBounds_toArray, List.set_cons_zero, List.set_cons_succ])
                clear ka
                refine wpT_one rfl rfl (fun K hK => ?_)
                go_simp
                refine (M.degree _ Ex e1 _ (HEx.out y4 (F0.out.none F4.out)) (by have := HExl.out; omega) HExf.out He.out.1).mono ?_
                rw [← HD2.out]
                rintro r y5 ⟨rfl, g⟩
                refine hK _ _ g ?_
                clear hK K
                have F5 : Hid (Fr y0 y5 (fun _ => False)) := F4.out.none g
                clear g
                try simp only [Act.put, List.setIfInBounds_toArray, List.set_cons_zero, List.set_cons_succ]
                refine wpT_one rfl rfl (fun K hK => ?_)
                go_simp
                refine (refDegree_any _ Ex e1 _ (HEx.out y5 (F0.out.none F5.out)) (by have := HExl.out; omega)).mono ?_
                rw [← HD2.out]
                rintro r y6 ⟨rfl, g⟩
                refine hK _ _ g ?_
                clear hK K
                have Hfo : Hid (Fr x9 y6 (fun _ => False)) := Hfb.out.none (F0.out.none (F5.out.none g))
                clear g
                repeat (refine wpT_take (v := ?_) rfl rfl (fun x hx => ?_) ?_; rotate_left; (focus (go_simp; with_reducible rfl)); simp only [Act.put, List.setIfInBounds_toArray, List.set_cons_zero, List.set_cons_succ])
                unfold wpT
                go_wp2_with fail
                go_roundg (2 - (i + 1))
                case rel => exact ⟨i + 1, rfl, by omega, by go_num, Hfo.out⟩
                case measure => rw [Hg.out]; omega
          · have hin : ¬ (i : Int) < 2 := by omega
            have hin' : decide (i < 2) = false := decide_eq_false hlt
            have Hfo : Hid (Fr w wr (fun _ => False)) := Hx9.out.none Hf.out
            go_wp2
            go_ret
            exact ⟨rfl, ebelow Hfo.out⟩

end Go.Proofs.Ythdlhdeaeaahoaa.snapTurns
