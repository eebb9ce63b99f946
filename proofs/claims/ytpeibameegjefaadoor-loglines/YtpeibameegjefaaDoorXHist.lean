/-
  The contract of the seat's History.
-/
import Derived.Test.YtpeibameegjefaaDoorXSeat1
import Derived.Test.YtpeibameegjefaaDoorXIns
import Derived.Test.YtpeibameegjefaaDoorJ2
namespace Go.Proofs.YtpeibameegjefaaDoor
open Go.RowKit

theorem histSize : (Tryd.prog.info? 25).map (·.size) = some 2 := by kernel_rfl
theorem results_cell1 {fn : Func} {p : Tmp} {ty : TypeId} (h : fn.results = #[.cell p ty]) {tmps : Array Value} {P : Program} {w : World} {b o : Nat} {v : Value} (hp : tmps.getD p undef = .pointer (some ⟨b, o, none⟩)) (hl : (loadVar ty ⟨b, o, none⟩).run P w = .ok v w) :
    (results fn tmps).run P w = .ok v w := by
  have hp' : tmps[p]?.getD undef = .pointer (some ⟨b, o, none⟩) := by rw [← hp]; simp
  simp [results, h, asAddr, hp', hl]
theorem drop3 {l : List Nat} {i : Nat} (h : i + 2 < l.length) : l.drop i = l.getD i 0 :: l.getD (i + 1) 0 :: l.getD (i + 2) 0 :: l.drop (i + 3) := by
  have g : ∀ j, j < l.length → l.drop j = l.getD j 0 :: l.drop (j + 1) := fun j hj => by
    rw [List.drop_eq_getElem_cons hj, List.getD_eq_getElem?_getD, List.getElem?_eq_getElem hj]
    rfl
  rw [g i (by omega), g (i + 1) (by omega), g (i + 2) (by omega)]
theorem drop_at' {α : Type} {l : List α} {i : Nat} {a : α} (h : l[i]? = some a) : l.drop i = a :: l.drop (i + 1) := by
  obtain ⟨hi, he⟩ := List.getElem?_eq_some_iff.1 h
  rw [List.drop_eq_getElem_cons hi, he]
theorem times_stop {n t : Nat} {ts : List Ev} {l : List Nat} (h : ¬ (2 < l.length ∧ ts.length < 40)) : timesF n t ts l = ts := by
  match l with
  | [] => rfl
  | [_] => rfl
  | [_, _] => rfl
  | a :: b :: c :: r =>
    rw [timesF, if_neg]
    intro hh
    exact h ⟨by simp, hh⟩
theorem fr_cell (w : World) (p k : Nat) (u : Value) : Fr w (w.setCell ⟨p, k, none⟩ u) (fun j => j = p) := Fr.setCell (S := fun j => j = p) (Fr.refl _ _) ⟨p, k, none⟩ (fun _ => rfl) u
theorem four_free {w : World} {cs : Array Value} {T : TypeId} {p k : Nat} (h : w.heap[p]? = some (.cells cs T (0, 0))) : w.frozen? ⟨p, k, none⟩ = false := by simp [World.frozen?, h]
theorem four_put3 {w : World} {x0 x1 x2 x3 : Value} {T : TypeId} {p : Nat} (h : w.heap[p]? = some (.cells #[x0, x1, x2, x3] T (0, 0))) (v : Value) : (w.setCell ⟨p, 3, none⟩ v).heap[p]? = some (.cells #[x0, x1, x2, v] T (0, 0)) := by
  simp [World.setCell, Array.getElem?_modify, h]
theorem four_put0 {w : World} {x0 x1 x2 x3 : Value} {T : TypeId} {p : Nat} (h : w.heap[p]? = some (.cells #[x0, x1, x2, x3] T (0, 0))) (v : Value) : (w.setCell ⟨p, 0, none⟩ v).heap[p]? = some (.cells #[v, x1, x2, x3] T (0, 0)) := by
  simp [World.setCell, Array.getElem?_modify, h]
/-- Events lie in no block that holds a history. -/
theorem RdV.apart {w : World} {v : Value} {es : List Ev} {p : Nat} {T : TypeId} {n : Int} {a : Option Addr} {l c : Nat} (h : RdV w v es) (hp : w.heap[p]? = some (.cells #[.int .u64 n, .slice a l c] T (0, 0))) (h0 : 0 < es.length) : ∀ k, v.ownBlock = some k → ¬ k = p := by
  obtain ⟨x, hx⟩ : ∃ x, es[0]? = some x := ⟨_, List.getElem?_eq_getElem h0⟩
  obtain ⟨b, off, cap, rfl, hb, hc⟩ := h.get 0 x hx
  have h1 := (hc w (Fr.refl _ _)).1
  intro k hk he
  simp only [Value.ownBlock, Option.some.injEq] at hk
  subst hk
  subst he
  simp only [World.cell?, hp] at h1
  match off with
  | 0 => simp at h1
  | 1 => simp at h1
  | off + 2 => simp at h1

set_option maxRecDepth 4000 in
set_option maxHeartbeats 3200000 in
theorem seatHistory_any (k : Nat) (v : Value) (bs : List Nat) (w : World) (h : Reads .u8 w v bs) (hbb : ∀ x ∈ bs, x < 256) (hl : bs.length ≤ 1000) (hk : k < 256) : Calls Tryd.prog 9 #[.int .u8 (k : Int), v] w fun r w' => (∃ v', r = .returned (histV (vertF k) v') ∧ RdV w' v' (histE k bs) ∧ (∀ b, v'.ownBlock = some b → w.heap.size ≤ b)) ∧ Fr w w' (fun _ => False) := by
  obtain ⟨a0, m, c0, rfl⟩ := h.form
  have hm : m = bs.length := by
    obtain ⟨ao, cap, e, -, -⟩ := h
    simp only [Value.slice.injEq] at e
    rw [e.2.1, length_row]
  have Hr : Hid (Reads .u8 w (.slice a0 m c0) bs) := h
  have Hm : Hid _ := hm
  have Hl : Hid (bs.length ≤ 1000) := hl
  have Hbb : Hid _ := hbb
  have hm1 : m ≤ 1000 := by omega
  obtain ⟨n, hn⟩ : ∃ n, n = vertF k := ⟨_, rfl⟩
  have hnb := vertF_bounds k
  rw [← hn] at hnb
  obtain ⟨RES, hRES⟩ : ∃ R, R = histE k bs := ⟨_, rfl⟩
  rw [← hn, ← hRES]
  have Hn : Hid _ := hn
  have Hnb : Hid _ := hnb
  have HRES : Hid _ := hRES
  clear h hm hl hbb hn hRES hnb
  unfold histV
  go_enter Tryd.func9, Tryd.ntmps9
  go_wp2_with fail
  obtain ⟨p4, hp4⟩ : ∃ p, p = w.heap.size := ⟨_, rfl⟩
  rw [← hp4]
  refine (vertices_any k _).mono ?_
  rw [← Hn.out]
  rintro r x1 ⟨rfl, g⟩
  have h4 : x1.heap[p4]? = some (.cells #[.int .u64 0, .slice none 0 0] 25 (0, 0)) := g.kept (by rw [hp4]; exact heap_alloc_new _ _) (fun h => h)
  have Hx1 : Hid (Fr w x1 (fun _ => False)) := ((Fr.refl w (fun _ => False)).alloc _).none g
  have H4 : Hid _ := h4
  have Hp4 : Hid _ := hp4
  clear g h4 hp4
  go_upto_region 2 with fail
  obtain ⟨p5, hp5⟩ : ∃ p, p = x1.heap.size := ⟨_, rfl⟩
  obtain ⟨w5, hw5⟩ : ∃ x, x = x1.alloc (.cells #[.int .u64 (n : Int), .slice none 0 0] 25) := ⟨_, rfl⟩
  rw [← hw5, ← hp5]
  have Hb5 : Hid (∀ z, Fr w5 z (fun _ => False) → z.heap[p5]? = some (.cells #[.int .u64 (n : Int), .slice none 0 0] 25 (0, 0))) := fun z hz => hz.kept (by rw [hw5, hp5]; exact heap_alloc_new _ _) (fun h => h)
  have hlt45 : p4 < p5 := by rw [hp5]; exact lt_of_block H4.out
  have Hb4 : Hid (∀ z, Fr w5 z (fun k => k = p5) → z.heap[p4]? = some (.cells #[.int .u64 0, .slice none 0 0] 25 (0, 0))) := fun z hz => hz.kept (by rw [hw5]; exact blk_alloc _ H4.out) (fun h => by omega)
  have Hw5 : Hid (Fr w w5 (fun _ => False)) := by show Fr _ _ _; rw [hw5]; exact Hx1.out.alloc _
  have Hs5 : Hid (w5.heap.size = p5 + 1) := by show _ = _; rw [hw5, hp5]; simp
  have Hw4 : Hid (w.heap.size ≤ p4) := by have := Hp4.out; exact (by omega : w.heap.size ≤ p4)
  have H45 : Hid (p4 < p5) := hlt45
  have Hrl : Hid (∀ z, Fr w5 z (fun _ => False) → Reads .u8 z (.slice a0 m c0) bs) := fun z hz => Hr.out.keep (Hw5.out.none hz)
  clear hp5 hw5 hlt45 Hx1 H4 Hp4 Hr
  obtain ⟨t0, ht0⟩ : ∃ t, t = k % 3 := ⟨_, rfl⟩
  have mk : (k : Int).tmod 3 = (t0 : Int) := by rw [Int.tmod_eq_emod_of_nonneg (by omega)]; omega
  have mk' : (k : Int) % 3 = (t0 : Int) := by omega
  have wk : IntKind.i64.wrap (t0 : Int) = (t0 : Int) := IntWalk.i64_in _ (by omega)
  have ht3 : t0 ≤ 2 := by omega
  obtain ⟨TS, hTS⟩ : ∃ T, T = timesF n t0 [] bs := ⟨_, rfl⟩
  have HTS : Hid _ := hTS
  have HR2 : Hid (RES = secondF [] TS) := by show _ = _; rw [HRES.out, hTS, ht0, Hn.out]; rfl
  have Hts : Hid (TS.length ≤ 40) := by
    show _ ≤ _
    rw [hTS]
    exact (times_good n (by have := Hnb.out; omega) t0 [] bs List.Pairwise.nil (fun x hx => by cases hx) (by simp)).2.2
  clear hTS ht0 HRES
  go_wp2_with fail
  clear mk mk' wk
  go_loopg [6, 7, 8] (m + 3) (fun g T S I wr => ∃ (i t : Nat) (ts : List Ev), g = m + 3 - i ∧ i ≤ m + 2 ∧ I = .int .i64 (i : Int) ∧ T = .int .i64 (t : Int) ∧ t ≤ 2 + i * 1099511627776 ∧ RdV wr S ts ∧ ts.length ≤ 40 ∧ timesF n t ts (bs.drop i) = TS ∧ Fr w5 wr (fun _ => False))
  case atStart => exact ⟨0, t0, [], by omega, by omega, rfl, rfl, by omega, RdV.nil _, by simp, HTS.out.symm, Fr.refl _ _⟩
  case round =>
    obtain ⟨i, t, ts, hg, hi, rfl, rfl, ht, hts, htl, hst, hf⟩ := hrel
    have Hg : Hid _ := hg
    have Hts2 : Hid (RdV wr u7 ts) := hts
    have Hst : Hid _ := hst
    have Hf : Hid (Fr w5 wr (fun _ => False)) := hf
    have Ht : Hid (t ≤ 2 + i * 1099511627776) := ht
    obtain ⟨a7, c7, rfl, -⟩ := RdV.form hts
    obtain ⟨q, hq⟩ : ∃ q, q = ts.length := ⟨_, rfl⟩
    rw [← hq] at htl Hts2 ⊢
    have Hq : Hid _ := hq
    clear hg hts hst hf ht hq
    obtain ⟨B, hB⟩ : ∃ B, B = decide (i + 2 < m ∧ q < 40) := ⟨_, rfl⟩
    have HB : Hid _ := hB
    have wi2 : IntKind.i64.wrap ((i : Int) + 2) = (((i + 2 : Nat) : Int)) := by rw [IntWalk.i64_in _ (by omega)]; omega
    have wi2' : (i : Int) + 2 = (((i + 2 : Nat) : Int)) := by omega
    clear hB
    obtain ⟨i2, hi2⟩ : ∃ j, j = i + 2 := ⟨_, rfl⟩
    rw [← hi2] at wi2
    have Hi2 : Hid _ := hi2
    clear wi2'
    go_upto_region 5 with fail
    have HW : Hid (wr = wr) := rfl
    go_cut [29] from 20 to 29 (fun V wx => V = .bool B ∧ wx = wr)
    case first =>
      by_cases h1 : i2 < m
      · have d1 : (i2 : Int) < (m : Int) := by omega
        have d1' : decide (i2 < m) = true := decide_eq_true h1
        by_cases h2 : q < 40
        · have d2 : decide ((q : Int) < 40) = true := decide_eq_true (by omega)
          have d2' : decide (q < 40) = true := decide_eq_true h2
          obtain rfl : B = true := by rw [HB.out]; exact decide_eq_true ⟨by omega, h2⟩
          clear hi2 h1
          go_wp2_with fail
          go_meet
          case rel => exact ⟨rfl, rfl⟩
        · have d2 : decide ((q : Int) < 40) = false := decide_eq_false (by omega)
          have d2' : decide (q < 40) = false := decide_eq_false h2
          obtain rfl : B = false := by rw [HB.out]; exact decide_eq_false (fun h => h2 h.2)
          clear hi2 h1
          go_wp2_with fail
          go_meet
          case rel => exact ⟨rfl, rfl⟩
      · have d1 : ¬ (i2 : Int) < (m : Int) := by omega
        have d1' : decide (i2 < m) = false := decide_eq_false h1
        obtain rfl : B = false := by rw [HB.out]; exact decide_eq_false (fun h => h1 (by omega))
        clear hi2 h1
        go_wp2_with fail
        go_meet
        case rel => exact ⟨rfl, rfl⟩
    case rest =>
    obtain ⟨rfl, rfl⟩ := hcut
    rename_i hKc
    refine hKc _ _ ?_
    clear hKc HW wi2
    cases B with
    | true =>
      have hB := of_decide_eq_true HB.out.symm
      have him : i2 < m := by omega
      obtain ⟨ao', cap', e9, -, hcl⟩ := Hrl.out wc Hf.out
      obtain ⟨bb, off, rfl, hcell⟩ := hcl (by rw [length_row, ← Hm.out]; omega)
      simp only [Value.slice.injEq] at e9
      obtain ⟨rfl, -, rfl⟩ := e9
      have ka := hcell i _ (row_get .u8 bs i (by rw [← Hm.out]; omega))
      have kb := hcell (i + 1) _ (row_get .u8 bs (i + 1) (by rw [← Hm.out]; omega))
      have kc := hcell (i + 2) _ (row_get .u8 bs (i + 2) (by rw [← Hm.out]; omega))
      have la := getD_lt (by decide) Hbb.out i
      have lb := getD_lt (by decide) Hbb.out (i + 1)
      have lc := getD_lt (by decide) Hbb.out (i + 2)
      have Hst2 : Hid (timesF n t ts (bs.getD i 0 :: bs.getD (i + 1) 0 :: bs.getD (i + 2) 0 :: bs.drop (i + 3)) = TS) := by show _ = _; rw [← Hst.out, drop3 (l := bs) (i := i) (by rw [← Hm.out]; have := Hi2.out; omega)]
      generalize bs.getD i 0 = a at ka la Hst2
      generalize bs.getD (i + 1) 0 = b at kb lb Hst2
      generalize bs.getD (i + 2) 0 = c at kc lc Hst2
      obtain ⟨t2, ht2⟩ : ∃ x, x = nextT t a := ⟨_, rfl⟩
      have Hst3 : Hid (timesF n t2 (stepF n t2 ts b c) (bs.drop (i + 3)) = TS) := by
        show _ = _
        rw [← Hst2.out, timesF, if_pos (by rw [← Hq.out]; exact hB.2), ht2]
      have Ht2 : Hid (t2 ≤ 2 + (i + 3) * 1099511627776) := by
        have h1 := nextT_le t a
        have h2 := Ht.out
        rw [← ht2] at h1
        show t2 ≤ 2 + (i + 3) * 1099511627776
        omega
      have Hnt : Hid (t2 = t + a % 4 + if 240 < a then 2 ^ (a % 40) else 0) := ht2
      clear ht2 Hst Hst2 hcl hcell hB
      obtain ⟨r4, hr4⟩ : ∃ r, r = a % 4 := ⟨_, rfl⟩
      obtain ⟨t1, ht1⟩ : ∃ x, x = t + r4 := ⟨_, rfl⟩
      have ma : (a : Int).tmod 4 = (r4 : Int) := by rw [Int.tmod_eq_emod_of_nonneg (by omega)]; omega
      have ma' : (a : Int) % 4 = (r4 : Int) := by omega
      have wr4 : IntKind.i64.wrap (r4 : Int) = (r4 : Int) := IntWalk.i64_in _ (by omega)
      have htb : t ≤ 1125899906842624 := by have := Ht.out; omega
      have wt1 : IntKind.i64.wrap ((t : Int) + (r4 : Int)) = (t1 : Int) := by rw [IntWalk.i64_in _ (by omega)]; omega
      have wt1b : (t : Int) + (r4 : Int) = (t1 : Int) := by omega
      have him1 : (i : Int) < (m : Int) := by omega
      have hi0 : (0 : Int) ≤ (i : Int) := by omega
      rw [← hr4, ← ht1] at Hnt
      have Hr4 : Hid (r4 = a % 4) := hr4
      have Ht1 : Hid (t1 = t + r4) := ht1
      clear hr4 ht1 hi2
      go_upto_region 7 with fail
      have HW : Hid (wc = wc) := rfl
      go_cut [6] from 32 to 39 (fun X wx => X = .int .i64 (t1 : Int) ∧ wx = wc)
      case first =>
        clear wt1b
        go_wp2_with fail
        go_meet
        case rel => exact ⟨by first | rfl | rw [wt1] | (have e := Ht1.out; rw [e]; rfl), rfl⟩
      case rest =>
      rename_i wd _ _ _ _ _ _ _ _ _
      obtain ⟨rfl, rfl⟩ := hcut
      rename_i hKc
      refine hKc _ _ ?_
      clear hKc HW ma ma' wr4 wt1 wt1b
      refine wp_seq_k (fun K2 hK2 => ?_)
      have HW : Hid (wc = wc) := rfl
      go_cut [6] from 40 to 52 (fun X wx => X = .int .i64 (t2 : Int) ∧ wx = wc)
      case first =>
        by_cases h240 : 240 < a
        · have d1 : decide ((240 : Int) < (a : Int)) = true := decide_eq_true (by omega)
          have d1' : decide (240 < a) = true := decide_eq_true h240
          obtain ⟨y, hy⟩ : ∃ y, y = a % 40 := ⟨_, rfl⟩
          have mb : (a : Int).tmod 40 = (y : Int) := by rw [Int.tmod_eq_emod_of_nonneg (by omega)]; omega
          have mb' : (a : Int) % 40 = (y : Int) := by omega
          obtain ⟨P, hP⟩ : ∃ P, P = 2 ^ y := ⟨_, rfl⟩
          have hPb : P ≤ 549755813888 := by rw [hP]; exact Nat.pow_le_pow_right (by omega) (show y ≤ 39 by omega)
          have HP1 : Hid ((2 : Int) ^ y = (P : Int)) := by show _ = _; rw [hP]; simp
          have Hsum : Hid (t2 = t1 + P) := by have := Hnt.out; rw [if_pos h240, ← hy, ← hP] at this; exact this
          clear hP
          have t1b : t1 ≤ 1125899906842630 := by have := Ht1.out; have := Hr4.out; omega
          have hy64 : (y : Int) < 64 := by omega
          have hy0 : (0 : Int) ≤ (y : Int) := by omega
          have h240c : Hid (240 < a) := h240
          have hs1 : -9223372036854775808 ≤ (t1 : Int) + (P : Int) ∧ (t1 : Int) + (P : Int) ≤ 9223372036854775807 := by omega
          have hs2 : -9223372036854775808 ≤ (P : Int) ∧ (P : Int) ≤ 9223372036854775807 := by omega
          have hs3 : (t1 : Int) + (P : Int) = (t2 : Int) := by have := Hsum.out; omega
          have hwP : IntKind.i64.wrap (P : Int) = (P : Int) := IntWalk.i64_in _ hs2
          have hwP2 : wrap64 (P : Int) = (P : Int) := IntWalk.wrap64_in _ hs2
          have wsum : IntKind.i64.wrap ((t1 : Int) + (P : Int)) = (t2 : Int) := (IntWalk.i64_in _ hs1).trans hs3
          have wsum2 : wrap64 ((t1 : Int) + (P : Int)) = (t2 : Int) := (IntWalk.wrap64_in _ hs1).trans hs3
          clear hs1 hs2 hs3
          clear hy h240 hPb
          have hsh : wrap64 ((2 : Int) ^ y) = (P : Int) := by rw [HP1.out]; exact hwP2
          have hsh2 : IntKind.i64.wrap ((2 : Int) ^ y) = (P : Int) := by rw [HP1.out]; exact hwP
          go_wp2_with fail
          go_meet
          case rel => exact ⟨by first | rfl | rw [wsum] | rw [wsum2] | (have e := Hsum.out; rw [e]; rfl), rfl⟩
        · have d1 : decide ((240 : Int) < (a : Int)) = false := decide_eq_false (by omega)
          have d1' : decide (240 < a) = false := decide_eq_false h240
          obtain rfl : t2 = t1 := by have := Hnt.out; rw [if_neg h240] at this; exact this
          clear h240
          go_wp2_with fail
          go_meet
          case rel => exact ⟨rfl, rfl⟩
      case rest =>
      rename_i wq _ _ _ _ _ _ _ _ _ _ _ _ _
      obtain ⟨rfl, rfl⟩ := hcut
      refine hK2 _ _ ?_
      clear hK2 HW
      obtain ⟨SE, hSE⟩ : ∃ S, S = seatEdge b c n := ⟨_, rfl⟩
      have HSE : Hid _ := hSE
      obtain ⟨⟨f1, f2⟩, he⟩ : ∃ e, e = SE.getD (0, 0) := ⟨_, rfl⟩
      have He : Hid _ := he
      have Hq40 : Hid (q < 40) := by have := of_decide_eq_true HB.out.symm; exact this.2
      have Hlbc : Hid (b < 256 ∧ c < 256) := ⟨lb, lc⟩
      clear hSE he ka
      go_upto_region 10 with fail
      go_cut [9, 10] from 53 to 68 (fun X Y wx => ∃ p9 : Nat, X = .pointer (some ⟨p9, 0, none⟩) ∧ Y = .bool SE.isSome ∧ wx.heap[p9]? = some (.cells #[.int .u32 (f1 : Int), .int .u32 (f2 : Int)] 57 (0, 0)) ∧ Fr wc wx (fun _ => False))
      case first =>
        obtain ⟨i1, hi1⟩ : ∃ x, x = i + 1 := ⟨_, rfl⟩
        rw [← hi1] at kb
        rw [← Hi2.out] at kc
        have wi1 : IntKind.i64.wrap ((i : Int) + 1) = (i1 : Int) := by rw [IntWalk.i64_in _ (by omega)]; omega
        have wi2 : IntKind.i64.wrap ((i : Int) + 2) = (i2 : Int) := by have := Hi2.out; rw [IntWalk.i64_in _ (by omega)]; omega
        have hi1m : (i1 : Int) < (m : Int) := by have := Hi2.out; omega
        have hi2m : (i2 : Int) < (m : Int) := by omega
        have hi10 : (0 : Int) ≤ (i1 : Int) := by omega
        have hi20 : (0 : Int) ≤ (i2 : Int) := by omega
        have hbk : bb < wc.heap.size := World.block_lt_of_cell? _ _ kb
        have k1 : ∀ z, Fr wc.drew z (fun k => wc.heap.size ≤ k) → z.cell? ⟨bb, off + i1, none⟩ = some (.int .u8 (b : Int)) := fun z hz => by
          rw [World.cell?_of_block (w := wc) (hz.block bb hbk (fun h => by omega))]
          exact kb
        have k2 : ∀ z, Fr wc.drew z (fun k => wc.heap.size ≤ k) → z.cell? ⟨bb, off + i2, none⟩ = some (.int .u8 (c : Int)) := fun z hz => by
          rw [World.cell?_of_block (w := wc) (hz.block bb hbk (fun h => by omega))]
          exact kc
        have k3 : ∀ z, Fr wc.drew z (fun k => wc.heap.size ≤ k) → z.cell? ⟨p5, 0, none⟩ = some (.int .u64 (n : Int)) := fun z hz => two_cell0 (Hb5.out z (Hf.out.drew.none (hz.old (Nat.le_refl _))))
        obtain ⟨N, hN⟩ : ∃ N, N = wc.heap.size := ⟨_, rfl⟩
        rw [← hN] at k1 k2 k3
        have HN : Hid (wc.heap.size = N) := hN.symm
        clear kb kc hbk hN hi1
        go_wp2_with fail
        refine wp_region_tree (fun k => N ≤ k) (.take 0 (.take 1 (.take 2 (.take 3 (.take 4 (.take 5 (.take 6 (.take 7 (.take 8 (.take 9 (.take 10 (.take 11 (.two 12 (.take 13 (.take 14 (.take 15 (.one 16 (.one 17 (.take 18 .nil)))))) 16 (.one 12 (.take 13 (.take 14 (.take 15 (.one 17 (.take 18 .nil))))))))))))))))))) (by kernel_rfl) (by kernel_rfl) (by decide) (by kernel_rfl) ?_
        repeat (refine wpT_take (v := ?_) rfl rfl (fun x hx => ?_) ?_; rotate_left; (focus (go_simp; with_reducible rfl)); simp only [Act.put, List.setIfInBounds_toArray, List.set_cons_zero, List.set_cons_succ])
        clear k1 k2 k3
        refine wpT_two rfl rfl rfl rfl (fun K hK => ?_) (fun K hK => ?_)
        · go_simp
          refine (seatEdge_any b c n _ Hlbc.out.1 Hlbc.out.2 Hnb.out.1 Hnb.out.2).mono ?_
          rw [← HSE.out, ← He.out]
          unfold edgeV
          rintro r x3 ⟨rfl, g⟩
          refine hK _ _ (g.mono (fun _ _ h => h.elim)) ?_
          clear hK K
          have G3 : Hid (Fr wc.drew x3 (fun _ => False)) := g
          clear g
          repeat (refine wpT_take (v := ?_) rfl rfl (fun x hx => ?_) ?_; rotate_left; (focus (go_simp; with_reducible rfl)); simp only [Act.put, List.setIfInBounds_toArray, List.set_cons_zero, List.set_cons_succ])
          refine wpT_one rfl rfl (fun K hK => ?_)
          go_simp
          refine hK _ _ ((Fr.refl x3 _).alloc _) ?_
          clear hK K
          obtain ⟨p9, hp9⟩ : ∃ p, p = x3.heap.size := ⟨_, rfl⟩
          have hA : (x3.alloc (.cells #[.int .u32 0, .int .u32 0] 57)).heap[p9]? = some (.cells #[.int .u32 0, .int .u32 0] 57 (0, 0)) := by rw [hp9]; exact heap_alloc_new _ _
          have G4 : Hid (Fr wc.drew (x3.alloc (.cells #[.int .u32 0, .int .u32 0] 57)) (fun _ => False)) := G3.out.alloc _
          have hpN : N ≤ p9 := by have := G3.out.size; have h2 := HN.out; rw [hp9]; exact h2 ▸ this
          rw [← hp9]
          clear hp9
          generalize x3.alloc (.cells #[.int .u32 0, .int .u32 0] 57) = x4 at hA G4 ⊢
          obtain ⟨c0', c1'⟩ : x4.cell? ⟨p9, 0, none⟩ = some (.int .u32 0) ∧ x4.cell? ⟨p9, 1, none⟩ = some (.int .u32 0) := ⟨two_cell0 hA, two_cell1 hA⟩
          have f0' : x4.frozen? ⟨p9, 0, none⟩ = false := two_free hA 0
          have f1' : x4.frozen? ⟨p9, 1, none⟩ = false := two_free hA 1
          have HA : Hid _ := hA
          have HpN : Hid (N ≤ p9) := hpN
          clear hA hpN
          refine wpT_one rfl rfl (fun K hK => ?_)
          go_simp
          refine hK _ _ (((fr_cell x4 _ _ _).trans (fr_cell _ _ _ _) (fun _ _ h => h)).mono (fun j _ h => by subst h; exact HpN.out)) ?_
          clear hK K c0' c1' f0' f1'
          have hB2 := two_set1 (two_set0 HA.out (u := .int .u32 (f1 : Int))) (u := .int .u32 (f2 : Int))
          have HfB : Hid (Fr wc ((x4.setCell ⟨p9, 0, none⟩ (.int .u32 (f1 : Int))).setCell ⟨p9, 1, none⟩ (.int .u32 (f2 : Int))) (fun _ => False)) := Fr.newer ((Fr.refl wc (fun _ => False)).drew.none G4.out) ((fr_cell x4 _ _ _).trans (fr_cell _ _ _ _) (fun _ _ h => h)) (fun j h => by subst h; rw [HN.out]; exact HpN.out)
          generalize (x4.setCell ⟨p9, 0, none⟩ (.int .u32 (f1 : Int))).setCell ⟨p9, 1, none⟩ (.int .u32 (f2 : Int)) = x5 at hB2 HfB ⊢
          have HB2 : Hid _ := hB2
          clear hB2 HA
          repeat (refine wpT_take (v := ?_) rfl rfl (fun x hx => ?_) ?_; rotate_left; (focus (go_simp; with_reducible rfl)); simp only [Act.put, List.setIfInBounds_toArray, List.set_cons_zero, List.set_cons_succ])
          unfold wpT
          go_wp2_with fail
          go_meet
          case rel => exact ⟨p9, rfl, rfl, HB2.out, HfB.out⟩
        · go_simp
          refine hK _ _ ((Fr.refl wc.drew _).alloc _) ?_
          clear hK K
          obtain ⟨p9, hp9⟩ : ∃ p, p = wc.heap.size := ⟨_, rfl⟩
          have hA0 : (wc.drew.alloc (.cells #[.int .u32 0, .int .u32 0] 57)).heap[p9]? = some (.cells #[.int .u32 0, .int .u32 0] 57 (0, 0)) := by rw [hp9]; exact heap_alloc_new wc.drew _
          have G3 : Hid (Fr wc.drew (wc.drew.alloc (.cells #[.int .u32 0, .int .u32 0] 57)) (fun _ => False)) := (Fr.refl wc.drew _).alloc _
          have hpN : N ≤ p9 := by rw [hp9, HN.out]; exact Nat.le_refl _
          have HA0 : Hid _ := hA0
          rw [← hp9]
          clear hA0 hp9
          refine wpT_one rfl rfl (fun K hK => ?_)
          go_simp
          refine (seatEdge_any b c n _ Hlbc.out.1 Hlbc.out.2 Hnb.out.1 Hnb.out.2).mono ?_
          rw [← HSE.out, ← He.out]
          unfold edgeV
          rintro r x4 ⟨rfl, g⟩
          refine hK _ _ (g.mono (fun _ _ h => h.elim)) ?_
          clear hK K
          have hA : x4.heap[p9]? = some (.cells #[.int .u32 0, .int .u32 0] 57 (0, 0)) := g.kept HA0.out (fun h => h)
          have G4 : Hid (Fr wc.drew x4 (fun _ => False)) := G3.out.none g
          clear g HA0
          repeat (refine wpT_take (v := ?_) rfl rfl (fun x hx => ?_) ?_; rotate_left; (focus (go_simp; with_reducible rfl)); simp only [Act.put, List.setIfInBounds_toArray, List.set_cons_zero, List.set_cons_succ])
          obtain ⟨c0', c1'⟩ : x4.cell? ⟨p9, 0, none⟩ = some (.int .u32 0) ∧ x4.cell? ⟨p9, 1, none⟩ = some (.int .u32 0) := ⟨two_cell0 hA, two_cell1 hA⟩
          have f0' : x4.frozen? ⟨p9, 0, none⟩ = false := two_free hA 0
          have f1' : x4.frozen? ⟨p9, 1, none⟩ = false := two_free hA 1
          have HA : Hid _ := hA
          have HpN : Hid (N ≤ p9) := hpN
          clear hA hpN
          refine wpT_one rfl rfl (fun K hK => ?_)
          go_simp
          refine hK _ _ (((fr_cell x4 _ _ _).trans (fr_cell _ _ _ _) (fun _ _ h => h)).mono (fun j _ h => by subst h; exact HpN.out)) ?_
          clear hK K c0' c1' f0' f1'
          have hB2 := two_set1 (two_set0 HA.out (u := .int .u32 (f1 : Int))) (u := .int .u32 (f2 : Int))
          have HfB : Hid (Fr wc ((x4.setCell ⟨p9, 0, none⟩ (.int .u32 (f1 : Int))).setCell ⟨p9, 1, none⟩ (.int .u32 (f2 : Int))) (fun _ => False)) := Fr.newer ((Fr.refl wc (fun _ => False)).drew.none G4.out) ((fr_cell x4 _ _ _).trans (fr_cell _ _ _ _) (fun _ _ h => h)) (fun j h => by subst h; rw [HN.out]; exact HpN.out)
          generalize (x4.setCell ⟨p9, 0, none⟩ (.int .u32 (f1 : Int))).setCell ⟨p9, 1, none⟩ (.int .u32 (f2 : Int)) = x5 at hB2 HfB ⊢
          have HB2 : Hid _ := hB2
          clear hB2 HA
          repeat (refine wpT_take (v := ?_) rfl rfl (fun x hx => ?_) ?_; rotate_left; (focus (go_simp; with_reducible rfl)); simp only [Act.put, List.setIfInBounds_toArray, List.set_cons_zero, List.set_cons_succ])
          unfold wpT
          go_wp2_with fail
          go_meet
          case rel => exact ⟨p9, rfl, rfl, HB2.out, HfB.out⟩
      case rest =>
      obtain ⟨p9, rfl, rfl, hp9, hfc⟩ := hcut
      rename_i hKc
      refine hKc _ _ ?_
      clear hKc
      rename_i wp _ _ _ _ _ _ _ _ _ _ _ _ _ _ _ _ _ _ _ _ _ _ _ _ _ _ _ _ _ _ _
      have Hfd : Hid (Fr w5 wc (fun _ => False)) := Hf.out.none hfc
      have Htd : Hid (RdV wc (.slice a7 q c7) ts) := Hts2.out.keep hfc
      obtain ⟨c0', c1'⟩ : wc.cell? ⟨p9, 0, none⟩ = some (.int .u32 (f1 : Int)) ∧ wc.cell? ⟨p9, 1, none⟩ = some (.int .u32 (f2 : Int)) := ⟨two_cell0 hp9, two_cell1 hp9⟩
      clear hp9 hfc kb kc la lb lc
      cases SE with
      | none =>
        have Hst4 : Hid (timesF n t2 ts (bs.drop (i + 3)) = TS) := by
          show _ = _
          have := Hst3.out
          unfold stepF at this
          rw [← HSE.out] at this
          exact this
        have Hi3 : Hid (i + 3 ≤ m + 2) := by have := Hi2.out; exact (by omega : i + 3 ≤ m + 2)
        go_wp2_with fail
        go_roundg (m + 3 - (i + 3))
        case rel => exact ⟨i + 3, t2, ts, rfl, Hi3.out, by first | go_num | (rw [IntWalk.wrap64_in _ (by omega)]; rfl), rfl, Ht2.out, Htd.out, by rw [← Hq.out]; omega, Hst4.out, Hfd.out⟩
        case measure => rw [Hg.out]; have := Hi3.out; omega
      | some e0 =>
        obtain rfl : e0 = (f1, f2) := by rw [He.out]; rfl
        have Hst4 : Hid (timesF n t2 (insF ts ((t2 : Int), (f1, f2), false)) (bs.drop (i + 3)) = TS) := by
          show _ = _
          have := Hst3.out
          unfold stepF at this
          rw [← HSE.out] at this
          exact this
        have Hi3 : Hid (i + 3 ≤ m + 2) := by have := Hi2.out; exact (by omega : i + 3 ≤ m + 2)
        go_wp2_with fail
        refine (seatInsert_any _ ts ((t2 : Int), (f1, f2), false) _ Htd.out (by rw [← Hq.out]; omega)).mono ?_
        rintro r x6 ⟨⟨v6, rfl, hr6⟩, g⟩
        have Hr6 : Hid _ := hr6
        have Hf6 : Hid (Fr w5 x6 (fun _ => False)) := Hfd.out.none g
        have Hl6 : Hid ((insF ts ((t2 : Int), (f1, f2), false)).length ≤ 40) := by have h1 := ins_length ts ((t2 : Int), (f1, f2), false); have h2 := Hq40.out; have h3 := Hq.out; exact (by omega : (insF ts ((t2 : Int), (f1, f2), false)).length ≤ 40)
        clear hr6 g c0' c1'
        go_wp2_with fail
        go_roundg (m + 3 - (i + 3))
        case rel => exact ⟨i + 3, t2, _, rfl, Hi3.out, by first | go_num | (rw [IntWalk.wrap64_in _ (by omega)]; rfl), rfl, Ht2.out, Hr6.out, Hl6.out, Hst4.out, Hf6.out⟩
        case measure => rw [Hg.out]; have := Hi3.out; omega
    | false =>
      have hTS : TS = ts := by
        rw [← Hst.out]
        refine times_stop (fun h => of_decide_eq_false HB.out.symm ⟨?_, by rw [Hq.out]; exact h.2⟩)
        have h1 := h.1
        rw [List.length_drop, ← Hm.out] at h1
        omega
      subst hTS
      have Hts3 : Hid (RdV wc (.slice a7 q c7) TS) := Hts2.out
      have H5c : Hid (wc.heap[p5]? = some (.cells #[.int .u64 (n : Int), .slice none 0 0] 25 (0, 0))) := Hb5.out wc Hf.out
      have Hap : Hid (0 < TS.length → ∀ k, (Value.slice a7 q c7).ownBlock = some k → ¬ k = p5) := RdV.apart Hts3.out H5c.out
      have Hqt : Hid (q ≤ 40) := htl
      have H5w : Hid (p5 < wc.heap.size) := lt_of_block H5c.out
      clear hi2
      go_wp2_with fail
      go_loopg [11, 12] q (fun g N I wr => ∃ (j : Nat) (now : List Eg) (out : List Ev) (hv : Value), g = q - j ∧ j ≤ q ∧ I = .int .i64 (j : Int) ∧ RdE wr N now ∧ now.length ≤ j ∧ (∀ k, N.ownBlock = some k → p5 < k) ∧ out ++ secondF now (TS.drop j) = RES ∧ out.length = j ∧ wr.heap[p5]? = some (.cells #[.int .u64 (n : Int), hv] 25 (0, 0)) ∧ OwnV wr hv out ∧ (∀ k, hv.ownBlock = some k → wc.heap.size ≤ k) ∧ Fr wc wr (fun k => k = p5))
      case atStart => exact ⟨0, [], [], _, by omega, by omega, rfl, RdE.nil _, by simp, fun k hk => (by simp [Value.ownBlock] at hk), by simpa using HR2.out.symm, rfl, H5c.out, OwnV.nil _, fun k hk => (by simp [Value.ownBlock] at hk), Fr.refl _ _⟩
      case round =>
        obtain ⟨j, now, out, hv, hg, hj, rfl, hnow, hnl, hnn, hst, hol, hp5, hov, hvn, hf⟩ := hrel
        have Hg : Hid _ := hg
        have Hnow : Hid (RdE wr u11 now) := hnow
        have Hnl : Hid _ := hnl
        have Hnn : Hid _ := hnn
        have Hst2 : Hid _ := hst
        have Hol : Hid _ := hol
        have H5 : Hid _ := hp5
        have Hov : Hid (OwnV wr hv out) := hov
        have Hvc : Hid (∀ k, hv.ownBlock = some k → wc.heap.size ≤ k) := hvn
        have Hvn : Hid (∀ k, hv.ownBlock = some k → p5 < k) := fun k hk => by have h1 := Hvc.out k hk; have h2 := H5w.out; omega
        have Hf2 : Hid (Fr wc wr (fun k => k = p5)) := hf
        clear hg hnow hnl hnn hst hol hp5 hov hvn hf
        have Hw5r : Hid (p5 < wr.heap.size) := lt_of_block H5.out
        by_cases hlt : j < q
        · have hin : (j : Int) < (q : Int) := by omega
          have hin' : decide (j < q) = true := decide_eq_true hlt
          obtain ⟨⟨s, ⟨f1, f2⟩, ax⟩, ha⟩ : ∃ a, TS[j]? = some a := ⟨_, List.getElem?_eq_getElem (by rw [← Hq.out]; omega)⟩
          obtain ⟨bk, off, cap, e3, hbk, hca⟩ := (RdV.frame Hts3.out Hf2.out Hap.out).get j _ ha
          simp only [Value.slice.injEq] at e3
          obtain ⟨rfl, -, rfl⟩ := e3
          obtain ⟨k0, k1, k2, k3⟩ := hca wr (Fr.refl _ _)
          have hj0 : (0 : Int) ≤ (j : Int) := by omega
          obtain ⟨D, hD⟩ : ∃ D, D = decide ((f1, f2) ∈ now) := ⟨_, rfl⟩
          have HD : Hid _ := hD
          have Hst3 : Hid (out ++ ((s, (f1, f2), !D) :: secondF ((turnF now (f1, f2) (!D)).getD []) (TS.drop (j + 1))) = RES) := by
            show _ = _
            rw [← Hst2.out, drop_at' ha, secondF, hD]
          clear hca hbk ha hD Hst2
          go_wp2_with fail
          obtain ⟨p13, hp13⟩ : ∃ p, p = wr.heap.size := ⟨_, rfl⟩
          rw [← hp13]
          obtain ⟨wE, hwE⟩ : ∃ x, x = wr.alloc (.cells #[.int .i64 s, .int .u32 (f1 : Int), .int .u32 (f2 : Int), .bool ax] 61) := ⟨_, rfl⟩
          rw [← hwE]
          have HfE : Hid (Fr wr wE (fun _ => False)) := by show Fr _ _ _; rw [hwE]; exact (Fr.refl _ _).alloc _
          have H13 : Hid (wE.heap[p13]? = some (.cells #[.int .i64 s, .int .u32 (f1 : Int), .int .u32 (f2 : Int), .bool ax] 61 (0, 0))) := by show _ = _; rw [hwE, hp13]; exact heap_alloc_new _ _
          have Hp13 : Hid (wr.heap.size = p13) := hp13.symm
          clear k0 k1 k2 k3 hp13 hwE
          refine (refHas_any _ now (f1, f2) _ (Hnow.out.keep HfE.out) (by have := Hnl.out; omega)).mono ?_
          rw [← HD.out]
          rintro r x1 ⟨rfl, g⟩
          have H13b : Hid (x1.heap[p13]? = some (.cells #[.int .i64 s, .int .u32 (f1 : Int), .int .u32 (f2 : Int), .bool ax] 61 (0, 0))) := g.kept H13.out (fun h => h)
          have Hx1 : Hid (Fr wr x1 (fun _ => False)) := HfE.out.none g
          clear g
          obtain ⟨k0, k1, k2, k3⟩ := four_cells H13b.out
          have fz : x1.frozen? ⟨p13, 3, none⟩ = false := four_free H13b.out
          go_upto_region 19 with fail
          have H13c := four_put3 H13b.out (.bool (!D))
          have Hx2 : Hid (Fr wr (x1.setCell ⟨p13, 3, none⟩ (.bool (!D))) (fun _ => False)) := Fr.newer Hx1.out (fr_cell x1 _ _ _) (fun j h => by subst h; rw [← Hp13.out]; exact Nat.le_refl _)
          clear k0 k1 k2 k3 fz
          generalize x1.setCell ⟨p13, 3, none⟩ (.bool (!D)) = x2 at H13c Hx2 ⊢
          obtain ⟨k0, k1, k2, k3⟩ := four_cells H13c
          have H13d : Hid _ := H13c
          clear H13c
          obtain ⟨E, hE⟩ : ∃ E, E = !D := ⟨_, rfl⟩
          rw [← hE] at Hst3 k3 H13d ⊢
          clear hE
          go_wp2_with fail
          refine (refTurn_any _ now (s, (f1, f2), E) _ (Hnow.out.keep Hx2.out) (by have := Hnl.out; omega)).mono ?_
          rintro r x3 ⟨⟨v3, rfl, hr3, hn3⟩, g⟩
          obtain ⟨T2, hT2⟩ : ∃ T, T = turnF now (f1, f2) E := ⟨_, rfl⟩
          have HT2 : Hid _ := hT2
          have Hr3 : Hid (RdE x3 v3 (T2.getD [])) := by rw [hT2]; exact hr3
          have Hn3 : Hid (∀ k, v3.ownBlock = some k → x2.heap.size ≤ k) := hn3
          have Hst4 : Hid (out ++ ((s, (f1, f2), E) :: secondF (T2.getD []) (TS.drop (j + 1))) = RES) := by show _ = _; rw [hT2]; exact Hst3.out
          have Hx3 : Hid (Fr wr x3 (fun _ => False)) := Hx2.out.none g
          have H13e : Hid (x3.heap[p13]? = some (.cells #[.int .i64 s, .int .u32 (f1 : Int), .int .u32 (f2 : Int), .bool E] 61 (0, 0))) := g.kept H13d.out (fun h => h)
          obtain ⟨B3, hB3⟩ : ∃ B, B = (turnF now (s, (f1, f2), E).2.1 (s, (f1, f2), E).2.2).isSome := ⟨_, rfl⟩
          rw [← hB3]
          clear g hr3 hn3 hT2 Hst3 k0 k1 k2 k3 hB3
          have H5c3 : Hid (x3.heap[p5]? = some (.cells #[.int .u64 (n : Int), hv] 25 (0, 0))) := Hx3.out.kept H5.out (fun h => h)
          obtain ⟨k0, k1, k2, k3⟩ := four_cells H13e.out
          obtain ⟨c0', c1'⟩ : x3.cell? ⟨p5, 0, none⟩ = some (.int .u64 (n : Int)) ∧ x3.cell? ⟨p5, 1, none⟩ = some hv := ⟨two_cell0 H5c3.out, two_cell1 H5c3.out⟩
          obtain ⟨v4, w4, hrun4, ho4, hf4, hm4⟩ := app_event x3 hv out (s, (f1, f2), E) (Hov.out.frame Hx3.out (fun _ _ h => h)) (by rw [Hol.out]; omega)
          obtain ⟨ao4, l4, cp4, rfl⟩ : ∃ a l c, v4 = .slice a l c := by obtain ⟨a, c, e, -⟩ := ho4.rd.form; exact ⟨a, _, c, e⟩
          have hov3 := Hov.out.lt
          have H5c4 : w4.heap[p5]? = some (.cells #[.int .u64 (n : Int), hv] 25 (0, 0)) := hf4.kept (blk_alloc _ H5c3.out) (fun h => by have := Hvn.out _ h; omega)
          have hfr : w4.frozen? ⟨p5, 1, none⟩ = false := two_free H5c4 1
          obtain ⟨c0'', c1''⟩ : w4.cell? ⟨p5, 0, none⟩ = some (.int .u64 (n : Int)) ∧ w4.cell? ⟨p5, 1, none⟩ = some hv := ⟨two_cell0 H5c4, two_cell1 H5c4⟩
          have Ho4 : Hid (OwnV w4 (.slice ao4 l4 cp4) (out ++ [(s, (f1, f2), E)])) := ho4
          have Hf4 : Hid (Fr x3 w4 (fun k => hv.ownBlock = some k)) := ((Fr.refl x3 (fun k => hv.ownBlock = some k)).alloc _).trans hf4 (fun _ _ h => h)
          have Hm4 : Hid _ := hm4
          have H5d : Hid _ := H5c4
          have Hov3 : Hid _ := hov3
          clear ho4 hf4 hm4 H5c4 hov3
          go_wp2_with (at_builtin; refine wpList_append_run rfl (.tmp 98) (.tmp 100) 23 rfl rfl rfl hrun4 ?_)
          have Hfr4 : Hid (Fr wr w4 (fun k => hv.ownBlock = some k)) := (Hx3.out.mono (fun _ _ h => h.elim)).trans Hf4.out (fun _ _ h => h)
          have Hfin : Hid (Fr wc (w4.setCell ⟨p5, 1, none⟩ (.slice ao4 l4 cp4)) (fun k => k = p5)) := by
            have h1 : Fr wc w4 (fun k => k = p5) := Fr.newer Hf2.out Hfr4.out (fun i hi => Hvc.out i hi)
            exact h1.trans (fr_cell w4 _ _ _) (fun _ _ h => h)
          have H5e : Hid ((w4.setCell ⟨p5, 1, none⟩ (.slice ao4 l4 cp4)).heap[p5]? = some (.cells #[.int .u64 (n : Int), .slice ao4 l4 cp4] 25 (0, 0))) := two_set1 H5d.out
          have Ho5 : Hid (OwnV (w4.setCell ⟨p5, 1, none⟩ (.slice ao4 l4 cp4)) (.slice ao4 l4 cp4) (out ++ [(s, (f1, f2), E)])) := Ho4.out.frame (fr_cell w4 _ _ _) (fun k hk h => by
            rcases Hm4.out k hk with h2 | h2
            · have := Hvn.out k h2; omega
            · have := lt_of_block H5c3.out; omega)
          have Hvn5 : Hid (∀ k, (Value.slice ao4 l4 cp4).ownBlock = some k → wc.heap.size ≤ k) := fun k hk => by
            rcases Hm4.out k hk with h2 | h2
            · exact Hvc.out k h2
            · have h3 := Hf2.out.size; have h4 := Hx3.out.size; omega
          have Hr5 : Hid (RdE (w4.setCell ⟨p5, 1, none⟩ (.slice ao4 l4 cp4)) v3 (T2.getD [])) := by
            have hx2s := Hx2.out.size
            have h1 : RdE w4 v3 (T2.getD []) := RdE.frame Hr3.out Hf4.out (fun _ k hk h => by have h1 := Hn3.out k hk; have h2 := Hov3.out k h; omega)
            exact RdE.frame h1 (fr_cell w4 _ _ _) (fun _ k hk h => by have h1 := Hn3.out k hk; have h2 := Hw5r.out; omega)
          have Hnn5 : Hid (∀ k, v3.ownBlock = some k → p5 < k) := fun k hk => by have h1 := Hn3.out k hk; have h2 := Hw5r.out; have h3 := Hx2.out.size; omega
          have Hst5 : Hid ((out ++ [(s, (f1, f2), E)]) ++ secondF (T2.getD []) (TS.drop (j + 1)) = RES) := by show _ = _; rw [← Hst4.out]; simp
          have Hol5 : Hid ((out ++ [(s, (f1, f2), E)]).length = j + 1) := by show _ = _; rw [List.length_append, Hol.out]; rfl
          have Hnl5 : Hid ((T2.getD []).length ≤ j + 1) := by
            show _ ≤ _
            cases hT : T2 with
            | none => simp
            | some z => have h1 := turn_length (HT2.out.symm.trans hT); have h2 := Hnl.out; rw [Option.getD_some]; omega
          generalize w4.setCell ⟨p5, 1, none⟩ (.slice ao4 l4 cp4) = w9 at Hfin H5e Ho5 Hr5 ⊢
          go_wp2_with fail
          go_roundg (q - (j + 1))
          case rel => exact ⟨j + 1, T2.getD [], _, _, rfl, by omega, by go_num, Hr5.out, Hnl5.out, Hnn5.out, Hst5.out, Hol5.out, H5e.out, Ho5.out, Hvn5.out, Hfin.out⟩
          case measure => rw [Hg.out]; omega
        · have hin : ¬ (j : Int) < (q : Int) := by omega
          have hin' : decide (j < q) = false := decide_eq_false hlt
          obtain rfl : j = q := by omega
          obtain ⟨ao, cp, rfl⟩ : ∃ a c, hv = .slice a j c := by obtain ⟨a, c, e, -⟩ := Hov.out.rd.form; rw [Hol.out] at e; exact ⟨a, c, e⟩
          have Hout : Hid (out = RES) := by
            show _ = _
            have := Hst2.out
            rw [List.drop_eq_nil_of_le (by rw [← Hq.out]; exact Nat.le_refl _), secondF, List.append_nil] at this
            exact this
          have H4r : Hid (wr.heap[p4]? = some (.cells #[.int .u64 0, .slice none 0 0] 25 (0, 0))) := Hb4.out wr ((Hf.out.mono (fun _ _ h => h.elim)).trans Hf2.out (fun _ _ h => h))
          obtain ⟨c0', c1'⟩ : wr.cell? ⟨p5, 0, none⟩ = some (.int .u64 (n : Int)) ∧ wr.cell? ⟨p5, 1, none⟩ = some (.slice ao j cp) := ⟨two_cell0 H5.out, two_cell1 H5.out⟩
          obtain ⟨e0', e1'⟩ : wr.cell? ⟨p4, 0, none⟩ = some (.int .u64 0) ∧ wr.cell? ⟨p4, 1, none⟩ = some (.slice none 0 0) := ⟨two_cell0 H4r.out, two_cell1 H4r.out⟩
          have f0' : wr.frozen? ⟨p4, 0, none⟩ = false := two_free H4r.out 0
          have f1' : wr.frozen? ⟨p4, 1, none⟩ = false := two_free H4r.out 1
          have Hfin : Hid (Fr w ((wr.setCell ⟨p4, 0, none⟩ (.int .u64 (n : Int))).setCell ⟨p4, 1, none⟩ (.slice ao j cp)) (fun _ => False)) := by
            have h1 : Fr w wr (fun _ => False) := (Hw5.out.none Hf.out).newer Hf2.out (fun i hi => by have h2 := Hw4.out; have h3 := H45.out; omega)
            exact h1.newer ((fr_cell wr _ _ _).trans (fr_cell _ _ _ _) (fun _ _ h => h)) (fun i hi => by have h2 := Hw4.out; omega)
          have Hof : Hid (OwnV ((wr.setCell ⟨p4, 0, none⟩ (.int .u64 (n : Int))).setCell ⟨p4, 1, none⟩ (.slice ao j cp)) (.slice ao j cp) RES) := by
            have h1 : OwnV wr (.slice ao j cp) RES := by rw [← Hout.out]; exact Hov.out
            exact h1.frame ((fr_cell wr _ _ _).trans (fr_cell _ _ _ _) (fun _ _ h => h)) (fun i hi h => by have h2 := Hvn.out i hi; have h3 := H45.out; omega)
          have Hfresh : Hid (∀ b, (Value.slice ao j cp).ownBlock = some b → w.heap.size ≤ b) := fun b hb => by have h1 := Hvn.out b hb; have h2 := Hw4.out; have h3 := H45.out; omega
          have Hrow : Hid _ := two_set1 (two_set0 H4r.out (u := .int .u64 (n : Int))) (u := .slice ao j cp)
          go_wp2
          refine bodyPost_ret (results_cell1 rfl rfl (run_loadVar_row _ _ 25 _ _ (0, 0) _ Hrow.out Tryd.underlying25 rfl histSize)) rfl ?_
          exact ⟨⟨_, rfl, Hof.out.rd, Hfresh.out⟩, Hfin.out⟩

end Go.Proofs.YtpeibameegjefaaDoor
