/-
  The walk of the law ScanStops, under the condition that the program's scanner answers as its contracts say.
-/
import Derived.Test.YtchkojdpnbecoaaDoorRows
import Derived.Test.YtchkojdpnbecoaaDoorCKnow
import Derived.Test.YtchkojdpnbecoaaDoorCActs
import Derived.Test.YtchkojdpnbecoaaDoorESkip
namespace Go.Proofs.YtchkojdpnbecoaaDoor.scanStops
open Go.ChangeShapes Go.WideShapes Go.ChangeAt Go.RowKit

theorem pair_cells {w : World} {x0 x1 : Value} {T : TypeId} {p : Nat} (h : w.heap[p]? = some (.cells #[x0, x1] T (0, 0))) : w.cell? ⟨p, 0, none⟩ = some x0 ∧ w.cell? ⟨p, 1, none⟩ = some x1 := by
  refine ⟨?_, ?_⟩ <;> simp [World.cell?, h]
theorem scWord_stop {s u : ByteArray} {c : Sc} (he : c.err ≠ 0) : scWordOk s u c = false ∧ scWord s u c = c := by
  unfold scWordOk scWord
  rw [beq_eq_false_iff_ne.mpr he, if_neg he]
  exact ⟨rfl, rfl⟩
theorem scNum_stop {s : ByteArray} {most : Nat} {c : Sc} (he : c.err ≠ 0) : scNumVal s most c = 0 ∧ scNum s most c = c := by
  unfold scNumVal scNum
  rw [if_neg he, if_neg he]
  exact ⟨rfl, rfl⟩
theorem scFail_stop {c : Sc} (e : Nat) (he : c.err ≠ 0) : scFail c e = c := if_neg he

set_option maxRecDepth 4000 in
set_option maxHeartbeats 6400000 in
theorem walkM {K : World → Prop} {P : (Nat → Prop) → World → Value → ByteArray → Sc → Prop} (M : CI K P) (a0 : Option Addr) (len0 cap0 : Nat) (z0 : List Int) (a1 a2 a3 : Int) (a4 : Option Addr) (len4 cap4 : Nat) (w : World) (w0 : IsRow .u8 w a0 len0 cap0 z0) (w1 : (Lit.int .u8 a1).wf = true) (w2 : (Lit.int .u8 a2).wf = true) (w3 : (Lit.int .u8 a3).wf = true) (w4 : IsActs w a4 len4 cap4) (hK : K w) :
    Calls Tryd.prog 6 #[.slice a0 len0 cap0, .int .u8 a1, .int .u8 a2, .int .u8 a3, .slice a4 len4 cap4] w fun e w' => e = .returned (.bool true) ∧ Below w.heap.size w w' := by
  have HK : Hid (K w) := hK
  clear hK
  obtain ⟨bs, hbl, hbb, hbr⟩ := cbytes_arg w0
  have Hbs : Hid (Reads .u8 w (.slice a0 len0 cap0) bs) := hbr
  have Hbb : Hid (∀ x ∈ bs, x < 256) := hbb
  obtain ⟨f, hlc, hfit, hac⟩ := w4
  have Hfit : Hid _ := hfit
  have Hac : Hid _ := hac
  have b1 := bounds_u8 w1
  have b2 := bounds_u8 w2
  have b3 := bounds_u8 w3
  obtain ⟨at', rfl⟩ : ∃ n : Nat, a1 = (n : Int) := ⟨a1.toNat, by omega⟩
  obtain ⟨e', rfl⟩ : ∃ n : Nat, a2 = (n : Int) := ⟨a2.toNat, by omega⟩
  obtain ⟨f', rfl⟩ : ∃ n : Nat, a3 = (n : Int) := ⟨a3.toNat, by omega⟩
  clear w0 w1 w2 w3 hbr hbb hfit hac
  go_enter Tryd.func6, Tryd.ntmps6
  go_wp2_with fail
  refine (cknown_any M w HK.out).mono ?_
  rintro r w1 ⟨rfl, f1⟩
  have Hf1 : Hid (Fr w w1 (fun _ => False)) := f1
  clear f1
  by_cases hlen : len0 ≤ 40
  case neg =>
    have g : (40 : Int) < (len0 : Int) := by omega
    have g' : decide (40 < len0) = true := decide_eq_true (by omega)
    clear hlen
    go_wp2_with fail
    go_ret
    exact ⟨rfl, cbelow Hf1.out⟩
  have g : ¬ (40 : Int) < (len0 : Int) := by omega
  have g' : decide (40 < len0) = false := decide_eq_false (by omega)
  by_cases hlen4 : len4 ≤ 20
  case neg =>
    have g2 : (20 : Int) < (len4 : Int) := by omega
    have g2' : decide (20 < len4) = true := decide_eq_true (by omega)
    clear hlen4
    go_wp2_with fail
    go_ret
    exact ⟨rfl, cbelow Hf1.out⟩
  have g2 : ¬ (20 : Int) < (len4 : Int) := by omega
  have g2' : decide (20 < len4) = false := decide_eq_false (by omega)
  obtain ⟨S, hS⟩ : ∃ S, S = strOf bs := ⟨_, rfl⟩
  have hcv : (convert 22 9 (.slice a0 len0 cap0)).run Tryd.prog w1 = .ok (.string S) w1 := by rw [hS]; exact conv_reads (Hbs.out.keep Hf1.out)
  have hSs : S.size = len0 := by rw [hS, strOf_length]; exact hbl
  have HS : Hid (∀ i, i < len0 → chAt S i = bs.getD i 0) := by show ∀ i, _; rw [hS]; exact fun i hi => chAt_strOf bs i (by omega) Hbb.out
  have HSs : Hid (S.size = len0) := hSs
  have HSz : Hid (S.size ≤ 1000000000) := by show _ ≤ _; omega
  clear hS hSs
  go_wp2_with fail
  refine (M.new S w1 HSz.out).mono ?_
  rintro r w2 ⟨⟨v, F2, rfl, p2, n2⟩, f2⟩
  have P2 : Hid _ := p2
  have N2 : Hid (∀ k, F2 k → w.heap.size ≤ k) := fun k hk => Nat.le_trans Hf1.out.size (n2 k hk)
  have Hf2 : Hid (Fr w w2 (fun _ => False)) := Hf1.out.none f2
  clear p2 n2 f2 hcv
  obtain ⟨K, hK⟩ : ∃ K, K = at' % (len0 + 1) := ⟨_, rfl⟩
  have hKl : K ≤ len0 := by have : at' % (len0 + 1) < len0 + 1 := Nat.mod_lt _ (Nat.succ_pos _); omega
  have hw1 : IntKind.i64.wrap ((len0 : Int) + 1) = (len0 : Int) + 1 := IntWalk.i64_in _ (by omega)
  have hKe : (at' : Int) % ((len0 : Int) + 1) = (K : Int) := by rw [hK]; simp
  have hKt : (at' : Int).tmod ((len0 : Int) + 1) = (K : Int) := by rw [Int.tmod_eq_emod_of_nonneg (by omega)]; exact hKe
  have hwK : IntKind.i64.wrap (K : Int) = (K : Int) := IntWalk.i64_in _ (by omega)
  have hwa : IntKind.i64.wrap (at' : Int) = (at' : Int) := IntWalk.i64_in _ (by omega)
  have hnz : ((len0 : Int) + 1 == 0) = false := by rw [beq_eq_false_iff_ne]; omega
  have hnz2 : ¬ ((len0 : Int) + 1 = 0) := by omega
  clear hK
  go_wp2_with fail
  go_loopg [13] K (fun g I wr => ∃ (i : Nat) (c : Sc) (F : Nat → Prop), g = K - i ∧ i ≤ K ∧ I = .int .i64 (i : Int) ∧ c.pos = i ∧ c.err = 0 ∧ ScOk S c ∧ P F wr v S c ∧ (∀ k, F k → w.heap.size ≤ k) ∧ Fr w wr (fun _ => False))
  case atStart => exact ⟨0, ⟨0, 1, 1, 0⟩, F2, by omega, by omega, rfl, rfl, rfl, scNew_ok S, P2.out, N2.out, Hf2.out⟩
  case round =>
    obtain ⟨i, c, F, hg, hi, rfl, hp, he, ho, hP, hN, hf⟩ := hrel
    have Hg : Hid _ := hg
    have Hp : Hid _ := hp
    have He : Hid (c.err = 0) := he
    have Ho : Hid (ScOk S c) := ho
    have HP : Hid _ := hP
    have HN : Hid _ := hN
    have Hf : Hid (Fr w wr (fun _ => False)) := hf
    have hb : c.line ≤ 41 ∧ c.col ≤ 41 := by unfold ScOk at ho; omega
    clear hg hp he ho hP hN hf
    by_cases hlt : i < K
    · have hin : (i : Int) < (K : Int) := by omega
      have hin' : decide (i < K) = true := decide_eq_true hlt
      have hil : (i : Int) < (len0 : Int) := by omega
      have Hlt : Hid (c.pos < S.size) := by show _ < _; rw [Hp.out, HSs.out]; omega
      obtain ⟨b, hbe⟩ : ∃ b, b = bs.getD i 0 := ⟨_, rfl⟩
      have HbS : Hid (chAt S c.pos = b) := by show _ = _; rw [Hp.out, HS.out i (by omega), hbe]
      have Hb6 : Hid (b < 256) := by
        show _ < _
        rw [hbe, List.getD_eq_getElem?_getD, List.getElem?_eq_getElem (by omega : i < bs.length)]
        exact Hbb.out _ (List.getElem_mem _)
      obtain ⟨B, o, ha0, hcell⟩ : ∃ B o, a0 = some ⟨B, o, none⟩ ∧ wr.cell? ⟨B, o + i, none⟩ = some (.int .u8 (b : Int)) := by
        obtain ⟨ao, cap, hv, hlc, hc⟩ := id Hbs.out
        cases hv
        rw [length_row] at hc
        obtain ⟨B, o, rfl, hcell⟩ := hc (by omega)
        refine ⟨B, o, rfl, ?_⟩
        have h1 := hcell i _ (row_get .u8 bs i (by omega))
        rw [World.cell?_of_block (w := w) (Hf.out.block _ (World.block_lt_of_cell? _ _ h1) (fun h => h))]
        rw [h1, hbe]
      subst ha0
      clear hbe
      go_wp2_with fail
      refine (M.byte F v S b c wr HP.out Ho.out HSz.out Hb6.out).mono ?_
      rw [(scByte_hit He.out Hlt.out Hb6.out HbS.out).1, (scByte_hit He.out Hlt.out Hb6.out HbS.out).2]
      rintro r wc ⟨rfl, F', pc, fc, nc⟩
      have Hc : Hid (Fr w wc (fun _ => False)) := Hf.out.newer fc HN.out
      have Nc : Hid (∀ k, F' k → w.heap.size ≤ k) := fun k hk => (nc k hk).elim (HN.out k) (fun h => Nat.le_trans Hf.out.size h)
      have Pc : Hid _ := pc
      have Oc : Hid (ScOk S (scStep S c)) := by show ScOk _ _; have := scMove_ok S 1 c Ho.out (by have := Hlt.out; omega); exact this
      have Ep : Hid ((scStep S c).pos = i + 1) := by show _ = _; rw [scStep_pos, Hp.out]
      have Ee : Hid ((scStep S c).err = 0) := by show _ = _; unfold scStep; split <;> exact He.out
      clear fc pc nc hcell
      go_wp2_with fail
      go_roundg (K - (i + 1))
      case rel => exact ⟨i + 1, scStep S c, F', rfl, by omega, by go_num, Ep.out, Ee.out, Oc.out, Pc.out, Nc.out, Hc.out⟩
      case measure => rw [Hg.out]; omega
    · have hin : ¬ (i : Int) < (K : Int) := by omega
      have hin' : decide (i < K) = false := decide_eq_false hlt
      go_wp2_with fail
      refine (M.place F v S c wr HP.out Ho.out HSz.out).mono ?_
      unfold placeV
      rintro r wa ⟨rfl, fa⟩
      have Ha : Hid (Fr w wa (fun _ => False)) := Hf.out.none fa
      have Pa : Hid _ := M.frame HP.out fa (fun _ _ h => h)
      clear fa
      go_upto_region 13 with fail
      obtain ⟨pB, hpB⟩ : ∃ p, p = wa.heap.size := ⟨_, rfl⟩
      obtain ⟨w3, hw3⟩ : ∃ x, x = wa.alloc (.cells #[.int .i64 (c.line : Int), .int .i64 (c.col : Int)] 45) := ⟨_, rfl⟩
      have HB : Hid (w3.heap[pB]? = some (.cells #[.int .i64 (c.line : Int), .int .i64 (c.col : Int)] 45 (0, 0))) := by show _ = _; rw [hw3, hpB]; exact heap_alloc_new _ _
      have f3 : Fr wa w3 (fun _ => False) := by rw [hw3]; exact (Fr.refl _ _).alloc _
      have H3 : Hid (Fr w w3 (fun _ => False)) := Ha.out.none f3
      have P3 : Hid _ := M.frame Pa.out f3 (fun _ _ h => h)
      have B3 : Hid (∀ k, F k → k ≠ pB) := fun k hk h => by have := M.below Pa.out k hk; omega
      have Z3 : Hid (pB < w3.heap.size) := by
        show _ < _
        exact World.block_lt_of_cell? _ _ (pair_cells HB.out).1
      have D3 : Hid (w.heap.size ≤ pB) := by show _ ≤ _; rw [hpB]; exact Ha.out.size
      rw [← hw3, ← hpB]
      clear hw3 hpB f3
      have hE0 : scFail c 0 = c := by unfold scFail; rw [if_pos He.out]; cases c; dsimp only; congr 1; exact He.out.symm
      have HE0 : Hid _ := hE0
      clear hE0
      go_wp2_with fail
      refine (M.fail F v S c 0 w3 P3.out Ho.out HSz.out (by decide)).mono ?_
      rw [HE0.out]
      rintro r w4 ⟨rfl, F4, p4, f4, n4⟩
      have P4 : Hid _ := p4
      have N4 : Hid (∀ k, F4 k → w.heap.size ≤ k) := fun k hk => (n4 k hk).elim (HN.out k) (fun h => Nat.le_trans H3.out.size h)
      have B4 : Hid (∀ k, F4 k → k ≠ pB) := fun k hk => (n4 k hk).elim (B3.out k) (fun h e => by have := Z3.out; omega)
      have H4 : Hid (Fr w w4 (fun _ => False)) := H3.out.newer f4 HN.out
      have HB4 : Hid _ := f4.kept HB.out (fun h => B3.out pB h rfl)
      have Z4 : Hid (pB < w4.heap.size) := Nat.lt_of_lt_of_le Z3.out f4.size
      clear p4 n4 f4
      go_wp2_with fail
      refine (M.err F4 v S c w4 P4.out Ho.out HSz.out).mono ?_
      rw [show ((c.err : Nat) : Int) = 0 by rw [He.out]; rfl]
      rintro r w5 ⟨rfl, f5⟩
      have P5 : Hid _ := M.frame P4.out f5 (fun _ _ h => h)
      have H5 : Hid (Fr w w5 (fun _ => False)) := H4.out.none f5
      have HB5 : Hid _ := f5.kept HB4.out (fun h => h)
      have Z5 : Hid (pB < w5.heap.size) := Nat.lt_of_lt_of_le Z4.out f5.size
      clear f5
      obtain ⟨q, hq⟩ : ∃ q, q = e' % 30 := ⟨_, rfl⟩
      obtain ⟨e1, he1⟩ : ∃ e1, e1 = q + 1 := ⟨_, rfl⟩
      have hq1 : (e' : Int) % 30 = (q : Int) := by omega
      have hq2 : (e' : Int).tmod 30 = (q : Int) := by rw [Int.tmod_eq_emod_of_nonneg (by omega)]; exact hq1
      have hq3 : IntKind.u8.wrap (q : Int) = (q : Int) := IntWalk.u8_in _ (by omega)
      have hq4 : IntKind.i64.wrap (q : Int) = (q : Int) := IntWalk.i64_in _ (by omega)
      have hq5 : IntKind.i64.wrap ((q : Int) + 1) = (e1 : Int) := by rw [IntWalk.i64_in _ (by omega)]; omega
      have hf4 : IntKind.i64.wrap (f' : Int) = (f' : Int) := IntWalk.i64_in _ (by omega)
      have HE1 : Hid (e1 < 256) := by show _ < _; omega
      have HF1 : Hid (f' < 256) := by show _ < _; omega
      have hne : e1 ≠ 0 := by omega
      have HQ : Hid (q < 30) := by show _ < _; omega
      have HQ1 : Hid (e1 = q + 1) := he1
      clear hq he1
      have hE1 : scFail c e1 = { c with err := e1 } := by unfold scFail; rw [if_pos He.out]
      have HEE : Hid _ := hE1
      have Oe : Hid (ScOk S { c with err := e1 }) := Ho.out
      clear hE1
      go_wp2_with fail
      refine (M.fail F4 v S c e1 w5 P5.out Ho.out HSz.out HE1.out).mono ?_
      rw [HEE.out]
      have hne' : ({ c with err := e1 } : Sc).err ≠ 0 := hne
      have hplace : placeV { c with err := e1 } = .agg #[.int .i64 (c.line : Int), .int .i64 (c.col : Int)] := rfl
      have herr : ((({ c with err := e1 } : Sc).err : Nat) : Int) = (e1 : Int) := rfl
      generalize ({ c with err := e1 } : Sc) = d at Oe hne' hplace herr ⊢
      have Hne : Hid (d.err ≠ 0) := hne'
      have Hpl : Hid _ := hplace
      have Her : Hid _ := herr
      rintro r w6 ⟨rfl, F6, p6, f6, n6⟩
      have P6 : Hid _ := p6
      have N6 : Hid (∀ k, F6 k → w.heap.size ≤ k) := fun k hk => (n6 k hk).elim (N4.out k) (fun h => Nat.le_trans H5.out.size h)
      have B6 : Hid (∀ k, F6 k → k ≠ pB) := fun k hk => (n6 k hk).elim (B4.out k) (fun h e => by have := Z5.out; omega)
      have H6 : Hid (Fr w w6 (fun _ => False)) := H5.out.newer f6 N4.out
      have HB6 : Hid _ := f6.kept HB5.out (fun h => B4.out pB h rfl)
      have Z6 : Hid (pB < w6.heap.size) := Nat.lt_of_lt_of_le Z5.out f6.size
      clear p6 n6 f6 hne' hplace herr
      go_wp2_with fail
      refine (M.fail F6 v S d f' w6 P6.out Oe.out HSz.out HF1.out).mono ?_
      rw [scFail_stop f' Hne.out]
      rintro r w7 ⟨rfl, F7, p7, f7, n7⟩
      have P7 : Hid _ := p7
      have N7 : Hid (∀ k, F7 k → w.heap.size ≤ k) := fun k hk => (n7 k hk).elim (N6.out k) (fun h => Nat.le_trans H6.out.size h)
      have B7 : Hid (∀ k, F7 k → k ≠ pB) := fun k hk => (n7 k hk).elim (B6.out k) (fun h e => by have := Z6.out; omega)
      have H7 : Hid (Fr w w7 (fun _ => False)) := H6.out.newer f7 N6.out
      have HB7 : Hid _ := f7.kept HB6.out (fun h => B6.out pB h rfl)
      have Z7 : Hid (pB < w7.heap.size) := Nat.lt_of_lt_of_le Z6.out f7.size
      clear p7 n7 f7
      have Hrel0 : Hid _ := Hac.out
      go_wp2_with fail
      go_loopg [15] len4 (fun g I wr => ∃ (i : Nat) (F : Nat → Prop), g = len4 - i ∧ i ≤ len4 ∧ I = .int .i64 (i : Int) ∧ P F wr v S d ∧ (∀ k, F k → w.heap.size ≤ k) ∧ (∀ k, F k → k ≠ pB) ∧ Fr w wr (fun _ => False) ∧ wr.heap[pB]? = some (.cells #[.int .i64 (c.line : Int), .int .i64 (c.col : Int)] 45 (0, 0)) ∧ pB < wr.heap.size)
      case atStart => exact ⟨0, F7, by omega, by omega, rfl, P7.out, N7.out, B7.out, H7.out, HB7.out, Z7.out⟩
      case round =>
        obtain ⟨j, F, hg, hj, rfl, hP, hN, hB, hf, hBk, hZ⟩ := hrel
        have Gg : Hid _ := hg
        have Q0 : Hid (P F wr v S d) := hP
        have NQ0 : Hid (∀ k, F k → w.heap.size ≤ k) := hN
        have BQ0 : Hid (∀ k, F k → k ≠ pB) := hB
        have Hf0 : Hid (Fr w wr (fun _ => False)) := hf
        have Bk0 : Hid (wr.heap[pB]? = some (.cells #[.int .i64 (c.line : Int), .int .i64 (c.col : Int)] 45 (0, 0))) := hBk
        have Z0 : Hid (pB < wr.heap.size) := hZ
        clear hg hP hN hB hf hBk hZ
        by_cases hlj : j < len4
        · have hin : (j : Int) < (len4 : Int) := by omega
          have hin' : decide (j < len4) = true := decide_eq_true hlj
          obtain ⟨B, o, ha4, hc4⟩ := Hac.out (by omega)
          have hcj := hc4 j hlj
          have hfj := Hfit.out j hlj
          generalize hx : f j = x at hfj
          obtain ⟨xw, xm, xs⟩ := x
          have ACT : Hid (∀ z, Fr w z (fun _ => False) → z.cell? ⟨B, o + j * 3 + 1, none⟩ = some (.int .u64 (xm : Int)) ∧ z.cell? ⟨B, o + j * 3 + 2, none⟩ = some (.string xs)) := fun z hz => by
            have := acts_keep hcj hz
            rw [hx] at this
            exact this.2
          have Hxm : Hid (xm < 18446744073709551616) := hfj.2
          obtain ⟨y, hy⟩ : ∃ y, y = xm % 256 := ⟨_, rfl⟩
          have hwy : IntKind.u8.wrap (xm : Int) = (y : Int) := by rw [IntKind.wrap_u8]; omega
          have Hy : Hid (y < 256) := by show _ < _; omega
          subst ha4
          clear hc4 hcj hfj hx hy
          go_wp2_with fail
          refine (M.next F v S d wr Q0.out Oe.out HSz.out).mono ?_
          rw [scNext_stop Hne.out]
          rintro r z1 ⟨rfl, g1⟩
          have Q1 : Hid (P F z1 v S d) := M.frame Q0.out g1 (fun _ _ h => h)
          have Hf1' : Hid (Fr w z1 (fun _ => False)) := Hf0.out.none g1
          have Bk1 : Hid _ := g1.kept Bk0.out (fun h => h)
          have Z1 : Hid (pB < z1.heap.size) := Nat.lt_of_lt_of_le Z0.out g1.size
          obtain ⟨k1, -⟩ := ACT.out z1 Hf1'.out
          clear g1
          go_wp2_with fail
          refine (M.number F v S d xm z1 Q1.out Oe.out HSz.out Hxm.out (M.keep HK.out Hf1'.out)).mono ?_
          rw [(scNum_stop Hne.out).1, (scNum_stop Hne.out).2]
          rintro r z2 ⟨rfl, G2, q2, g2, m2⟩
          have Q2 : Hid (P G2 z2 v S d) := q2
          have NQ2 : Hid (∀ k, G2 k → w.heap.size ≤ k) := fun k hk => (m2 k hk).elim (NQ0.out k) (fun h => Nat.le_trans Hf1'.out.size h)
          have BQ2 : Hid (∀ k, G2 k → k ≠ pB) := fun k hk => (m2 k hk).elim (BQ0.out k) (fun h e => by have := Z1.out; omega)
          have Hf2' : Hid (Fr w z2 (fun _ => False)) := Hf1'.out.newer g2 NQ0.out
          have Bk2 : Hid _ := g2.kept Bk1.out (fun h => BQ0.out pB h rfl)
          have Z2 : Hid (pB < z2.heap.size) := Nat.lt_of_lt_of_le Z1.out g2.size
          obtain ⟨-, k2⟩ := ACT.out z2 Hf2'.out
          clear q2 g2 m2 k1
          go_wp2_with fail
          refine (M.word G2 v S xs d z2 Q2.out Oe.out HSz.out (fun h => absurd h Hne.out)).mono ?_
          rw [(scWord_stop Hne.out).1, (scWord_stop Hne.out).2]
          rintro r z3 ⟨rfl, G3, q3, g3, m3⟩
          have Q3 : Hid (P G3 z3 v S d) := q3
          have NQ3 : Hid (∀ k, G3 k → w.heap.size ≤ k) := fun k hk => (m3 k hk).elim (NQ2.out k) (fun h => Nat.le_trans Hf2'.out.size h)
          have BQ3 : Hid (∀ k, G3 k → k ≠ pB) := fun k hk => (m3 k hk).elim (BQ2.out k) (fun h e => by have := Z2.out; omega)
          have Hf3' : Hid (Fr w z3 (fun _ => False)) := Hf2'.out.newer g3 NQ2.out
          have Bk3 : Hid _ := g3.kept Bk2.out (fun h => BQ2.out pB h rfl)
          have Z3' : Hid (pB < z3.heap.size) := Nat.lt_of_lt_of_le Z2.out g3.size
          obtain ⟨k3, -⟩ := ACT.out z3 Hf3'.out
          clear q3 g3 m3 k2
          go_wp2_with fail
          refine (M.byte G3 v S y d z3 Q3.out Oe.out HSz.out Hy.out).mono ?_
          rw [(scByte_stop Hne.out).1, (scByte_stop Hne.out).2]
          rintro r z4 ⟨rfl, G4, q4, g4, m4⟩
          have Q4 : Hid (P G4 z4 v S d) := q4
          have NQ4 : Hid (∀ k, G4 k → w.heap.size ≤ k) := fun k hk => (m4 k hk).elim (NQ3.out k) (fun h => Nat.le_trans Hf3'.out.size h)
          have BQ4 : Hid (∀ k, G4 k → k ≠ pB) := fun k hk => (m4 k hk).elim (BQ3.out k) (fun h e => by have := Z3'.out; omega)
          have Hf4' : Hid (Fr w z4 (fun _ => False)) := Hf3'.out.newer g4 NQ3.out
          have Bk4 : Hid _ := g4.kept Bk3.out (fun h => BQ3.out pB h rfl)
          have Z4' : Hid (pB < z4.heap.size) := Nat.lt_of_lt_of_le Z3'.out g4.size
          clear q4 g4 m4 k3
          go_wp2_with fail
          go_roundg (len4 - (j + 1))
          case rel => exact ⟨j + 1, G4, rfl, by omega, by go_num, Q4.out, NQ4.out, BQ4.out, Hf4'.out, Bk4.out, Z4'.out⟩
          case measure => rw [Gg.out]; omega
        · have hin : ¬ (j : Int) < (len4 : Int) := by omega
          have hin' : decide (j < len4) = false := decide_eq_false hlj
          go_upto_region 24 with fail
          have Qd : Hid (P F wr.drew v S d) := M.frame Q0.out (Fr.refl wr (fun _ => False)).drew (fun _ _ h => h)
          have Hfd : Hid (Fr w wr.drew (fun _ => False)) := Hf0.out.drew
          have Bkd : Hid _ := (Fr.refl wr (fun _ => False)).drew.kept Bk0.out (fun h => h)
          refine wp_region_tree (fun _ => False) (.take 0 (.take 2 (.take 3 (.take 4 (.take 5 (.one 1 (.take 6 (.take 7 (.take 8 (.take 10 (.one 9 (.take 11 (.take 12 (.take 13 .nil)))))))))))))) (by kernel_rfl) (by kernel_rfl) (by decide) (by kernel_rfl) ?_
          iterate 5 (refine wpT_take (v := ?_) rfl rfl (fun x hx => ?_) ?_; rotate_left; (focus (go_simp; with_reducible rfl)); simp only [Act.put, List.setIfInBounds_toArray, List.set_cons_zero, List.set_cons_succ])
          refine wpT_one rfl rfl (fun K hK => ?_)
          go_simp
          refine (M.err F v S d _ Qd.out Oe.out HSz.out).mono ?_
          rw [Her.out]
          rintro r x3 ⟨rfl, g⟩
          refine hK _ _ g ?_
          clear hK K
          have Qe : Hid (P F x3 v S d) := M.frame Qd.out g (fun _ _ h => h)
          have Hfe : Hid (Fr w x3 (fun _ => False)) := Hfd.out.none g
          have Bke : Hid (x3.heap[pB]? = some (.cells #[.int .i64 (c.line : Int), .int .i64 (c.col : Int)] 45 (0, 0))) := g.kept Bkd.out (fun h => h)
          have kc0 : ∀ z, Fr x3 z (fun _ => False) → z.cell? ⟨pB, 0, none⟩ = some (.int .i64 (c.line : Int)) := fun z hz => (pair_cells (hz.kept Bke.out (fun h => h))).1
          have kc1 : ∀ z, Fr x3 z (fun _ => False) → z.cell? ⟨pB, 1, none⟩ = some (.int .i64 (c.col : Int)) := fun z hz => (pair_cells (hz.kept Bke.out (fun h => h))).2
          clear g
          iterate 4 (refine wpT_take (v := ?_) rfl rfl (fun x hx => ?_) ?_; rotate_left; (focus (go_simp; with_reducible rfl)); simp only [Act.put, List.setIfInBounds_toArray, List.set_cons_zero, List.set_cons_succ])
          refine wpT_one rfl rfl (fun K hK => ?_)
          go_simp
          refine (M.place F v S d _ Qe.out Oe.out HSz.out).mono ?_
          rw [Hpl.out]
          rintro r x4 ⟨rfl, g⟩
          refine hK _ _ g ?_
          clear hK K
          have Hff : Hid (Fr w x4 (fun _ => False)) := Hfe.out.none g
          clear g kc0 kc1
          iterate 3 (refine wpT_take (v := ?_) rfl rfl (fun x hx => ?_) ?_; rotate_left; (focus (go_simp; with_reducible rfl)); simp only [Act.put, List.setIfInBounds_toArray, List.set_cons_zero, List.set_cons_succ])
          unfold wpT
          go_wp2_with fail
          go_ret
          exact ⟨rfl, cbelow Hff.out⟩

end Go.Proofs.YtchkojdpnbecoaaDoor.scanStops
