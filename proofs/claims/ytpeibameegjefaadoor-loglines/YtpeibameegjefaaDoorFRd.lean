/-
  The contract of logfmt's read: the whole lines, up to the end or the first error.
-/
import Derived.Test.YtpeibameegjefaaDoorFTake
import Derived.Test.YtpeibameegjefaaDoorTLogP
import Derived.Test.YtpeibameegjefaaDoorFI
namespace Go.Proofs.YtpeibameegjefaaDoor
open Go.RowKit

theorem sWordLog (p : Nat) (s : ByteArray) (c : Sc) (w : World) (h : LSc w p s c) (hok : ScOk s c) (hs : s.size ≤ 1000000000) : Calls Tryd.prog 57 #[.pointer (some ⟨p, 0, none⟩), .string ⟨#[108, 111, 103]⟩] w fun r w' => r = .returned (.bool (scWordOk s (strOf logW) c)) ∧ LSc w' p s (scWord s (strOf logW) c) ∧ Fr w w' (fun k => k = p) :=
  scanWord_any p s (strOf logW) c w h hok hs
theorem sNumN (p : Nat) (s : ByteArray) (c : Sc) (w : World) (h : LSc w p s c) (hok : ScOk s c) (hs : s.size ≤ 1000000000) (hK : KVar w) : Calls Tryd.prog 59 #[.pointer (some ⟨p, 0, none⟩), .int .u64 4294967296] w fun r w' => r = .returned (.int .u64 (scNumVal s maxN c : Int)) ∧ LSc w' p s (scNum s maxN c) ∧ Fr w w' (fun k => k = p) :=
  sNum 4294967296 4294967296 rfl (by decide) p s c w h hok hs hK
theorem hd4_ok (s : ByteArray) : ScOk s (hd4 s) := by
  unfold hd4 hd2
  exact scByte_ok (scNum_ok (scByte_ok (scWord_ok (scNew_ok s) _) _) _) _

set_option maxRecDepth 4000 in
set_option maxHeartbeats 6400000 in
theorem logRead_any (p : Nat) (s : ByteArray) (w : World) (h : LSc w p s ⟨0, 1, 1, 0⟩) (hs : s.size ≤ 100000) (hK : ∀ z, Fr w z (fun k => k = p) → KVar z) : Calls Tryd.prog 36 #[.pointer (some ⟨p, 0, none⟩)] w fun r w' =>
    (∃ v', r = .returned (histV (scNumVal s maxN (hd2 s)) v') ∧ RdV w' v' (readF s (s.size + 2) [] (hd4 s)).1 ∧ ∀ k, v'.ownBlock = some k → w.heap.size ≤ k) ∧ (∀ x ∈ (readF s (s.size + 2) [] (hd4 s)).1, EvFit x) ∧ LSc w' p s (readF s (s.size + 2) [] (hd4 s)).2 ∧ Fr w w' (fun k => k = p) := by
  obtain ⟨R, hR⟩ : ∃ R, R = readF s (s.size + 2) [] (hd4 s) := ⟨_, rfl⟩
  rw [← hR]
  have hs9 : s.size ≤ 1000000000 := by omega
  have Hs9 : Hid _ := hs9
  have Hs : Hid _ := hs
  have HK : Hid (∀ z, Fr w z (fun k => k = p) → KVar z) := hK
  -- the head
  obtain ⟨c1, hc1⟩ : ∃ x, x = scWord s (strOf logW) ⟨0, 1, 1, 0⟩ := ⟨_, rfl⟩
  obtain ⟨c2, hc2⟩ : ∃ x, x = hd2 s := ⟨_, rfl⟩
  obtain ⟨n, hn⟩ : ∃ x, x = scNumVal s maxN c2 := ⟨_, rfl⟩
  obtain ⟨c3, hc3⟩ : ∃ x, x = scNum s maxN c2 := ⟨_, rfl⟩
  obtain ⟨c4, hc4⟩ : ∃ x, x = hd4 s := ⟨_, rfl⟩
  have e2 : c2 = scByte s 32 c1 := by rw [hc2, hc1]; rfl
  have e4 : c4 = scByte s 10 c3 := by rw [hc4, hc3, hc2]; rfl
  have ok0 := scNew_ok s
  have ok1 : ScOk s c1 := by rw [hc1]; exact scWord_ok ok0 _
  have ok2 : ScOk s c2 := by rw [e2]; exact scByte_ok ok1 _
  have ok3 : ScOk s c3 := by rw [hc3]; exact scNum_ok ok2 _
  have Ok4 : Hid (ScOk s c4) := by show ScOk _ _; rw [e4]; exact scByte_ok ok3 _
  rw [← hc4] at hR
  rw [← hc2, ← hn]
  have Hpar : Hid (R = readF s (s.size + 2) [] c4) := hR
  obtain ⟨O1, hO1⟩ : ∃ x, x = scWordOk s (strOf logW) ⟨0, 1, 1, 0⟩ := ⟨_, rfl⟩
  obtain ⟨O2, hO2⟩ : ∃ x, x = scByteOk s 32 c1 := ⟨_, rfl⟩
  obtain ⟨O4, hO4⟩ : ∃ x, x = scByteOk s 10 c3 := ⟨_, rfl⟩
  have k1 := fun z hz => sWordLog p s ⟨0, 1, 1, 0⟩ z hz ok0 hs9
  have k2 := fun z hz => sB 32 32 rfl p s c1 z hz ok1 hs9
  have k3 := fun z hz hk => sNumN p s c2 z hz ok2 hs9 hk
  have k4 := fun z hz => sB 10 10 rfl p s c3 z hz ok3 hs9
  rw [← hO1, ← hc1] at k1
  rw [← hO2, ← e2] at k2
  rw [← hn, ← hc3] at k3
  rw [← hO4, ← e4] at k4
  have H : Hid (LSc w p s ⟨0, 1, 1, 0⟩) := h
  clear hR hc1 hc2 hn hc3 hc4 e2 e4 hO1 hO2 hO4 ok0 ok1 ok2 ok3 h hK
  go_enter Tryd.func36, Tryd.ntmps36
  go_upto_region 1 with fail
  obtain ⟨q2, hq2⟩ : ∃ q, q = w.heap.size := ⟨_, rfl⟩
  obtain ⟨w1, hw1⟩ : ∃ x, x = w.alloc (.cells #[.int .u64 0, .slice none 0 0] 25) := ⟨_, rfl⟩
  rw [← hw1, ← hq2]
  have Hb1 : Hid (w1.heap[q2]? = some (.cells #[.int .u64 0, .slice none 0 0] 25 (0, 0))) := by show _ = _; rw [hw1, hq2]; exact heap_alloc_new _ _
  have Hf1 : Hid (Fr w w1 (fun k => k = p)) := by show Fr _ _ _; rw [hw1]; exact (Fr.refl _ _).alloc _
  have Hp2 : Hid (p < q2 ∧ w.heap.size ≤ q2) := ⟨by have := lt_of_block H.out; omega, by omega⟩
  have Hr1 : Hid (LSc w1 p s ⟨0, 1, 1, 0⟩) := by show LSc _ _ _ _; rw [hw1]; exact blk_alloc _ H.out
  clear hw1 hq2 H
  have kk := k1 w1 Hr1.out 
  clear k1
  go_wp2_with fail
  refine kk.mono ?_
  rintro r w2 ⟨rfl, r2, f2⟩
  have Hr2 : Hid (LSc w2 p s c1) := r2
  have Hb2 : Hid (w2.heap[q2]? = some (.cells #[.int .u64 0, .slice none 0 0] 25 (0, 0))) := f2.kept Hb1.out (fun h => by have := Hp2.out; omega)
  have Hf2 : Hid (Fr w w2 (fun k => k = p)) := Hf1.out.trans f2 (fun _ _ h => h)
  clear kk r2 f2
  have kk := k2 w2 Hr2.out 
  clear k2
  go_wp2_with fail
  refine kk.mono ?_
  rintro r w3 ⟨rfl, r2, f2⟩
  have Hr3 : Hid (LSc w3 p s c2) := r2
  have Hb3 : Hid (w3.heap[q2]? = some (.cells #[.int .u64 0, .slice none 0 0] 25 (0, 0))) := f2.kept Hb2.out (fun h => by have := Hp2.out; omega)
  have Hf3 : Hid (Fr w w3 (fun k => k = p)) := Hf2.out.trans f2 (fun _ _ h => h)
  clear kk r2 f2
  have kk := k3 w3 Hr3.out (HK.out _ Hf3.out)
  clear k3
  go_wp2_with fail
  refine kk.mono ?_
  rintro r w4 ⟨rfl, r2, f2⟩
  have Hr4 : Hid (LSc w4 p s c3) := r2
  have Hb4 : Hid (w4.heap[q2]? = some (.cells #[.int .u64 0, .slice none 0 0] 25 (0, 0))) := f2.kept Hb3.out (fun h => by have := Hp2.out; omega)
  have Hf4 : Hid (Fr w w4 (fun k => k = p)) := Hf3.out.trans f2 (fun _ _ h => h)
  clear kk r2 f2
  go_upto_region 4 with fail
  obtain ⟨q6, hq6⟩ : ∃ q, q = w4.heap.size := ⟨_, rfl⟩
  obtain ⟨w5, hw5⟩ : ∃ x, x = w4.alloc (.cells #[.int .u64 (n : Int), .slice none 0 0] 25) := ⟨_, rfl⟩
  rw [← hw5, ← hq6]
  have f6 : Fr w4 w5 (fun _ => False) := by rw [hw5]; exact (Fr.refl _ _).alloc _
  have Hb5 : Hid (w5.heap[q2]? = some (.cells #[.int .u64 0, .slice none 0 0] 25 (0, 0)) ∧ w5.heap[q6]? = some (.cells #[.int .u64 (n : Int), .slice none 0 0] 25 (0, 0))) := ⟨f6.kept Hb4.out (fun h => h), by rw [hw5, hq6]; exact heap_alloc_new _ _⟩
  have Hp6 : Hid (q2 < q6) := by show _ < _; have := lt_of_block Hb4.out; omega
  have Hr5 : Hid (LSc w5 p s c3) := f6.kept Hr4.out (fun h => h)
  have Hf5 : Hid (Fr w w5 (fun k => k = p)) := Hf4.out.trans f6 (fun _ _ h => h.elim)
  clear f6 hw5 hq6
  have kk := k4 w5 Hr5.out
  clear k4
  go_wp2_with fail
  refine kk.mono ?_
  rintro r w6 ⟨rfl, r2, f2⟩
  have Hr6 : Hid (LSc w6 p s c4) := r2
  have Hb6 : Hid (w6.heap[q2]? = some (.cells #[.int .u64 0, .slice none 0 0] 25 (0, 0)) ∧ w6.heap[q6]? = some (.cells #[.int .u64 (n : Int), .slice none 0 0] 25 (0, 0))) := ⟨f2.kept Hb5.out.1 (fun h => by have := Hp2.out; omega), f2.kept Hb5.out.2 (fun h => by have := Hp2.out; have := Hp6.out; omega)⟩
  have Hf6 : Hid (Fr w w6 (fun k => k = p)) := Hf5.out.trans f2 (fun _ _ h => h)
  clear kk r2 f2
  go_wp2_with fail
  go_loopg [17] (s.size + 2) (fun g U wr => ∃ (c : Sc) (evs : List Ev) (v : Value), (c.err = 0 → s.size - c.pos < g) ∧ 0 < g ∧ readF s g evs c = R ∧ LSc wr p s c ∧ ScOk s c ∧ wr.heap[q2]? = some (.cells #[.int .u64 0, .slice none 0 0] 25 (0, 0)) ∧ wr.heap[q6]? = some (.cells #[.int .u64 (n : Int), v] 25 (0, 0)) ∧ OwnV wr v evs ∧ (∀ k, v.ownBlock = some k → q6 < k) ∧ (c.err = 0 → evs.length ≤ c.pos) ∧ (∀ x ∈ evs, EvFit x) ∧ Fr w wr (fun k => k = p))
  case atStart => exact ⟨c4, [], _, fun _ => by omega, by omega, Hpar.out.symm, Hr6.out, Ok4.out, Hb6.out.1, Hb6.out.2, OwnV.nil _, fun k hk => (by simp [Value.ownBlock] at hk), fun _ => by simp, fun x hx => (by simp at hx), Hf6.out⟩
  case round =>
    obtain ⟨c, evs, v, hg, h0, hpar, hr, hok, hb2, hb6, hov, hvn, hel, hfit, hf⟩ := hrel
    obtain ⟨k, rfl⟩ : ∃ k, gk = k + 1 := ⟨gk - 1, by omega⟩
    have Hg : Hid (c.err = 0 → s.size - c.pos < k + 1) := hg
    have Hpe : Hid (readF s (k + 1) evs c = R) := hpar
    have Hr : Hid (LSc wr p s c) := hr
    have Hok : Hid (ScOk s c) := hok
    have Hb : Hid (wr.heap[q2]? = some (.cells #[.int .u64 0, .slice none 0 0] 25 (0, 0))) := hb2
    have Hbq : Hid (wr.heap[q6]? = some (.cells #[.int .u64 (n : Int), v] 25 (0, 0))) := hb6
    have Hov : Hid (OwnV wr v evs) := hov
    have Hvn : Hid (∀ k, v.ownBlock = some k → q6 < k) := hvn
    have Hel : Hid (c.err = 0 → evs.length ≤ c.pos) := hel
    have Hfit : Hid _ := hfit
    have Hf : Hid (Fr w wr (fun k => k = p)) := hf
    clear hg h0 hpar hr hok hb2 hb6 hov hvn hel hfit hf
    obtain ⟨a0, c0, hv0, -⟩ := Hov.out.rd.form
    obtain ⟨m0, hm0⟩ : ∃ m, m = evs.length := ⟨_, rfl⟩
    rw [← hm0] at hv0
    subst hv0
    clear hm0
    have kn := scanNext_any p s c wr Hr.out
    obtain ⟨NB, hNB⟩ : ∃ x, x = (scNext s c).1 := ⟨_, rfl⟩
    obtain ⟨NO, hNO⟩ : ∃ x, x = (scNext s c).2 := ⟨_, rfl⟩
    rw [← hNB, ← hNO] at kn
    have HNO : Hid _ := hNO
    clear hNB hNO
    cases NO
    · have HRR : Hid (R = (evs, c)) := by show _ = _; rw [← Hpe.out, read_stop _ HNO.out.symm]
      go_wp2_with fail
      refine kn.mono ?_
      rintro r x1 ⟨rfl, g⟩
      have Hr1 : Hid (LSc x1 p s c) := g.kept Hr.out (fun h => h)
      have Hbx : Hid (x1.heap[q2]? = some (.cells #[.int .u64 0, .slice none 0 0] 25 (0, 0)) ∧ x1.heap[q6]? = some (.cells #[.int .u64 (n : Int), .slice a0 m0 c0] 25 (0, 0))) := ⟨g.kept Hb.out (fun h => h), g.kept Hbq.out (fun h => h)⟩
      have Hox : Hid (OwnV x1 (.slice a0 m0 c0) evs) := Hov.out.frame g (fun _ _ h => h)
      have Hfx : Hid (Fr w x1 (fun k => k = p)) := Hf.out.trans g (fun _ _ h => h.elim)
      clear kn g
      obtain ⟨y0, y1⟩ : x1.cell? ⟨q6, 0, none⟩ = some (.int .u64 (n : Int)) ∧ x1.cell? ⟨q6, 1, none⟩ = some (.slice a0 m0 c0) := ⟨two_cell0 Hbx.out.2, two_cell1 Hbx.out.2⟩
      obtain ⟨z0, z1⟩ : x1.cell? ⟨q2, 0, none⟩ = some (.int .u64 0) ∧ x1.cell? ⟨q2, 1, none⟩ = some (.slice none 0 0) := ⟨two_cell0 Hbx.out.1, two_cell1 Hbx.out.1⟩
      have f20 := two_free Hbx.out.1 0
      have f21 := two_free Hbx.out.1 1
      obtain ⟨wz, hwz⟩ : ∃ x, x = (x1.setCell ⟨q2, 0, none⟩ (.int .u64 (n : Int))).setCell ⟨q2, 1, none⟩ (.slice a0 m0 c0) := ⟨_, rfl⟩
      have hfz : Fr x1 wz (fun k => k = q2) := by rw [hwz]; exact (fr_put x1 q2 _ _).trans (fr_put _ q2 _ _) (fun _ _ h => h)
      have hz2 : wz.heap[q2]? = some (.cells #[.int .u64 (n : Int), .slice a0 m0 c0] 25 (0, 0)) := by rw [hwz]; exact two_set1 (two_set0 Hbx.out.1)
      have Hfz : Hid (Fr w wz (fun k => k = p)) := Hfx.out.newer hfz (fun k hk => by have h1 := Hp2.out; omega)
      have Hoz : Hid (OwnV wz (.slice a0 m0 c0) evs) := Hox.out.frame hfz (fun k hk h => by have h1 := Hvn.out k hk; have h2 := Hp6.out; omega)
      have Hrz : Hid (LSc wz p s c) := hfz.kept Hr1.out (fun h => by have h1 := Hp2.out; omega)
      rw [hwz] at hz2
      have Ha2 : Hid _ := hz2
      clear hfz hz2
      go_wp2
      obtain rfl := HRR.out
      refine bodyPost_ret (results_cell1 rfl rfl (run_loadVar_row _ _ 25 _ _ (0, 0) _ Ha2.out Tryd.underlying25 rfl histSize)) rfl ?_
      rw [← hwz]
      exact ⟨⟨_, rfl, Hoz.out.rd, fun k hk => by have h1 := Hvn.out k hk; have h2 := Hp6.out; have h3 := Hp2.out; omega⟩, Hfit.out, Hrz.out, Hfz.out⟩
    have hin : c.err = 0 ∧ c.pos < s.size := next_in HNO.out.symm
    have Hin : Hid (c.err = 0 ∧ c.pos < s.size) := hin
    clear hin
    go_wp2_with fail
    refine kn.mono ?_
    rintro r x1 ⟨rfl, g⟩
    have Hr1 : Hid (LSc x1 p s c) := g.kept Hr.out (fun h => h)
    have Hb1' : Hid (x1.heap[q2]? = some (.cells #[.int .u64 0, .slice none 0 0] 25 (0, 0)) ∧ x1.heap[q6]? = some (.cells #[.int .u64 (n : Int), .slice a0 m0 c0] 25 (0, 0))) := ⟨g.kept Hb.out (fun h => h), g.kept Hbq.out (fun h => h)⟩
    have Hov1 : Hid (OwnV x1 (.slice a0 m0 c0) evs) := Hov.out.frame g (fun _ _ h => h)
    have Hf1' : Hid (Fr w x1 (fun k => k = p)) := Hf.out.trans g (fun _ _ h => h.elim)
    clear kn g Hr Hb Hbq Hov Hf
    obtain ⟨c', hc'⟩ : ∃ x, x = evEnd s c := ⟨_, rfl⟩
    have ke := logTake_any p s c x1 Hr1.out Hok.out Hs9.out (fun z hz => HK.out z (Hf1'.out.trans hz (fun _ _ h => h)))
    rw [← hc'] at ke
    have Hc' : Hid _ := hc'
    clear hc'
    obtain ⟨OK, hOK⟩ : ∃ x, x = decide (c'.err = 0) := ⟨_, rfl⟩
    rw [← hOK] at ke
    have HOK : Hid _ := hOK
    clear hOK
    go_wp2_with fail
    refine ke.mono ?_
    rintro r x3 ⟨⟨⟨t, ⟨u, vv⟩, ad⟩, rfl, hEf, hval⟩, r3, g⟩
    have HEf : Hid (EvFit (t, (u, vv), ad)) := hEf
    have Hval : Hid (c'.err = 0 → (t, (u, vv), ad) = evVal s c) := hval
    clear hEf hval
    unfold evV eventV
    dsimp only
    have Hr3' : Hid (LSc x3 p s c') := r3
    have Hpo : Hid (q2 ≠ p ∧ q6 ≠ p) := ⟨by have := Hp2.out; omega, by have := Hp2.out; have := Hp6.out; omega⟩
    have Hb3' : Hid (x3.heap[q2]? = some (.cells #[.int .u64 0, .slice none 0 0] 25 (0, 0)) ∧ x3.heap[q6]? = some (.cells #[.int .u64 (n : Int), .slice a0 m0 c0] 25 (0, 0))) := ⟨g.kept Hb1'.out.1 Hpo.out.1, g.kept Hb1'.out.2 Hpo.out.2⟩
    have Hov3 : Hid (OwnV x3 (.slice a0 m0 c0) evs) := Hov1.out.frame g (fun k hk h => by have h1 := Hvn.out k hk; have h2 := Hp6.out; have h3 := Hp2.out; omega)
    have Hf3' : Hid (Fr w x3 (fun k => k = p)) := Hf1'.out.trans g (fun _ _ h => h)
    clear ke r3 g Hr1 Hb1' Hov1 Hf1'
    go_upto_region 9 with fail
    obtain ⟨q10, hq10⟩ : ∃ q, q = x3.heap.size := ⟨_, rfl⟩
    obtain ⟨x4, hx4⟩ : ∃ x, x = x3.alloc (.cells #[.int .i64 t, .int .u32 (u : Int), .int .u32 (vv : Int), .bool ad] 61) := ⟨_, rfl⟩
    rw [← hx4, ← hq10]
    have g : Fr x3 x4 (fun _ => False) := by rw [hx4]; exact (Fr.refl _ _).alloc _
    have Hq10 : Hid (x4.heap[q10]? = some (.cells #[.int .i64 t, .int .u32 (u : Int), .int .u32 (vv : Int), .bool ad] 61 (0, 0))) := by show _ = _; rw [hx4, hq10]; exact heap_alloc_new _ _
    have Hr4' : Hid (LSc x4 p s c') := g.kept Hr3'.out (fun h => h)
    have Hb4' : Hid (x4.heap[q2]? = some (.cells #[.int .u64 0, .slice none 0 0] 25 (0, 0)) ∧ x4.heap[q6]? = some (.cells #[.int .u64 (n : Int), .slice a0 m0 c0] 25 (0, 0))) := ⟨g.kept Hb3'.out.1 (fun h => h), g.kept Hb3'.out.2 (fun h => h)⟩
    have Hov4 : Hid (OwnV x4 (.slice a0 m0 c0) evs) := Hov3.out.frame g (fun _ _ h => h)
    have Hf4' : Hid (Fr w x4 (fun k => k = p)) := Hf3'.out.trans g (fun _ _ h => h.elim)
    have Hok' : Hid (ScOk s c') := by show ScOk _ _; rw [Hc'.out]; exact evEnd_ok Hok.out
    clear g hq10 hx4 Hr3' Hb3' Hov3 Hf3'
    cases OK
    · have Hne : Hid (c'.err ≠ 0) := fun h => by have := HOK.out; rw [decide_eq_true h] at this; cases this
      have Hst : Hid (readF s k evs c' = R) := by
        show _ = _
        rw [← Hpe.out, read_err HNO.out.symm (by rw [← Hc'.out]; exact Hne.out) k, ← Hc'.out]
      go_wp2_with fail
      go_roundg k
      case rel => exact ⟨c', evs, _, fun h => absurd h Hne.out, by have h1 := Hg.out Hin.out.1; have h2 := Hin.out.2; omega, Hst.out, Hr4'.out, Hok'.out, Hb4'.out.1, Hb4'.out.2, Hov4.out, Hvn.out, fun h => absurd h Hne.out, Hfit.out, Hf4'.out⟩
      case measure => omega
    have he' : c'.err = 0 := of_decide_eq_true HOK.out.symm
    have He' : Hid (c'.err = 0) := he'
    clear he'
    have HE : Hid ((t, (u, vv), ad) = evVal s c) := Hval.out He'.out
    obtain ⟨i0, i1, i2, i3⟩ := four_cells Hq10.out
    obtain ⟨y0, y1⟩ : x4.cell? ⟨q6, 0, none⟩ = some (.int .u64 (n : Int)) ∧ x4.cell? ⟨q6, 1, none⟩ = some (.slice a0 m0 c0) := ⟨two_cell0 Hb4'.out.2, two_cell1 Hb4'.out.2⟩
    have hel5 : evs.length ≤ 900000 := by have h1 := Hel.out Hin.out.1; have h2 := Hin.out.2; have h3 := Hs.out; omega
    obtain ⟨v5, x5, hrun5, ho5, hf5, hm5⟩ := app_event x4 _ evs (t, (u, vv), ad) Hov4.out (by omega)
    obtain ⟨a5, c5, hv5, -⟩ := ho5.rd.form
    obtain ⟨m5, hm5'⟩ : ∃ m, m = (evs ++ [(t, (u, vv), ad)]).length := ⟨_, rfl⟩
    rw [← hm5'] at hv5
    subst hv5
    have g45 : Fr x4 x5 (fun k => (Value.slice a0 m0 c0).ownBlock = some k) := ((Fr.refl x4 (fun k => (Value.slice a0 m0 c0).ownBlock = some k)).alloc _).trans hf5 (fun _ _ h => h)
    have hap : ∀ k, (Value.slice a0 m0 c0).ownBlock = some k → k ≠ q2 ∧ k ≠ q6 ∧ k ≠ p := fun k hk => by
      have h1 := Hvn.out k hk
      have h3 := Hp6.out
      have h4 := Hp2.out
      exact ⟨by omega, by omega, by omega⟩
    have Hb5' : Hid (x5.heap[q2]? = some (.cells #[.int .u64 0, .slice none 0 0] 25 (0, 0)) ∧ x5.heap[q6]? = some (.cells #[.int .u64 (n : Int), .slice a0 m0 c0] 25 (0, 0)) ∧ LSc x5 p s c') := ⟨g45.kept Hb4'.out.1 (fun h => (hap _ h).1 rfl), g45.kept Hb4'.out.2 (fun h => (hap _ h).2.1 rfl), g45.kept Hr4'.out (fun h => (hap _ h).2.2 rfl)⟩
    have Ho5 : Hid (OwnV x5 (.slice a5 m5 c5) (evs ++ [(t, (u, vv), ad)])) := ho5
    have Hvn5 : Hid (∀ k, (Value.slice a5 m5 c5).ownBlock = some k → q6 < k) := fun k hk => by
      rcases hm5 k hk with h2 | h2
      · exact Hvn.out k h2
      · have h3 := lt_of_block Hb4'.out.2; omega
    have Hf5' : Hid (Fr w x5 (fun k => k = p)) := Hf4'.out.newer g45 (fun k hk => by have h1 := Hvn.out k hk; have h2 := Hp6.out; have h3 := Hp2.out; omega)
    clear ho5 hf5 hm5 hm5' g45 hap hel5
    have yf : x5.frozen? ⟨q6, 1, none⟩ = false := two_free Hb5'.out.2.1 1
    have y1' : x5.cell? ⟨q6, 1, none⟩ = some (.slice a0 m0 c0) := two_cell1 Hb5'.out.2.1
    obtain ⟨x6, hx6⟩ : ∃ x, x = x5.setCell ⟨q6, 1, none⟩ (.slice a5 m5 c5) := ⟨_, rfl⟩
    have g : Fr x5 x6 (fun k => k = q6) := by rw [hx6]; exact fr_put _ _ _ _
    have hq26 : q2 ≠ q6 ∧ p ≠ q6 := ⟨by have h2 := Hp6.out; omega, by have := Hp2.out; have := Hp6.out; omega⟩
    have Hb6' : Hid (x6.heap[q2]? = some (.cells #[.int .u64 0, .slice none 0 0] 25 (0, 0)) ∧ x6.heap[q6]? = some (.cells #[.int .u64 (n : Int), .slice a5 m5 c5] 25 (0, 0)) ∧ LSc x6 p s c') := ⟨g.kept Hb5'.out.1 hq26.1, by rw [hx6]; exact two_set1 Hb5'.out.2.1, g.kept Hb5'.out.2.2 hq26.2⟩
    have Ho6 : Hid (OwnV x6 (.slice a5 m5 c5) (evs ++ [(t, (u, vv), ad)])) := Ho5.out.frame g (fun k hk h => by have := Hvn5.out k hk; omega)
    have Hf6' : Hid (Fr w x6 (fun k => k = p)) := Hf5'.out.newer g (fun k hk => by have h2 := Hp6.out; have h4 := Hp2.out; omega)
    have Hfit6 : Hid (∀ x ∈ evs ++ [(t, (u, vv), ad)], EvFit x) := fun x hx => by
      rcases List.mem_append.1 hx with hx | hx
      · exact Hfit.out x hx
      · rw [List.mem_singleton] at hx; rw [hx]; exact HEf.out
    have Hst : Hid (readF s k (evs ++ [(t, (u, vv), ad)]) c' = R) := by
      show _ = _
      rw [← Hpe.out, read_step HNO.out.symm (by rw [← Hc'.out]; exact He'.out), ← HE.out, ← Hc'.out]
    have Hpos : Hid (c.pos + 1 ≤ c'.pos ∧ c'.pos ≤ s.size) := by
      obtain ⟨-, -, j1, j2⟩ := end_at Hin.out.1 (Nat.le_of_lt Hin.out.2) (by rw [← Hc'.out]; exact He'.out)
      rw [← Hc'.out] at j1 j2
      exact ⟨j1, j2⟩
    clear g hq26
    have Hx6 : Hid _ := hx6
    clear hx6
    go_wp2_with (at_builtin; refine wpList_append_run rfl (.tmp 32) (.tmp 34) 23 rfl rfl rfl hrun5 ?_)
    go_roundg k
    case rel =>
      rw [← Hx6.out]
      exact ⟨c', _, _, fun _ => by have h1 := Hg.out Hin.out.1; have h2 := Hpos.out; have h3 := Hin.out.2; omega, by have h1 := Hg.out Hin.out.1; have h2 := Hin.out.2; omega, Hst.out, Hb6'.out.2.2, Hok'.out, Hb6'.out.1, Hb6'.out.2.1, Ho6.out, Hvn5.out, fun _ => by have h1 := Hel.out Hin.out.1; have h2 := Hpos.out; rw [List.length_append, List.length_singleton]; omega, Hfit6.out, Hf6'.out⟩
    case measure => omega

end Go.Proofs.YtpeibameegjefaaDoor
