/-
  The walk of the law ScanPlays, under the condition that the program's scanner answers as its contracts say.
-/
import Derived.Test.YtchkojdpnbecoaaDoorRows
import Derived.Test.YtchkojdpnbecoaaDoorCKnow
import Derived.Test.YtchkojdpnbecoaaDoorCSome
import Derived.Test.YtchkojdpnbecoaaDoorESkip
namespace Go.Proofs.YtchkojdpnbecoaaDoor.scanPlays
open Go.ChangeShapes Go.WideShapes Go.ChangeAt Go.RowKit

theorem pair_cells {w : World} {x0 x1 : Value} {T : TypeId} {p : Nat} (h : w.heap[p]? = some (.cells #[x0, x1] T (0, 0))) : w.cell? ⟨p, 0, none⟩ = some x0 ∧ w.cell? ⟨p, 1, none⟩ = some x1 := by
  refine ⟨?_, ?_⟩ <;> simp [World.cell?, h]
theorem three_cells {w : World} {x0 x1 x2 : Value} {T : TypeId} {p : Nat} (h : w.heap[p]? = some (.cells #[x0, x1, x2] T (0, 0))) : w.cell? ⟨p, 0, none⟩ = some x0 ∧ w.cell? ⟨p, 1, none⟩ = some x1 ∧ w.cell? ⟨p, 2, none⟩ = some x2 := by
  refine ⟨?_, ?_, ?_⟩ <;> simp [World.cell?, h]

theorem chAt_lt (s : ByteArray) (i : Nat) : chAt s i < 256 := by
  unfold chAt
  exact (s[i]?.getD 0).toNat_lt
theorem most_cells (w : World) (xm E : Nat) (hx : xm < 18446744073709551616) (hE : E < 4) : ∃ mv : Nat, (w.alloc (.cells #[.int .u64 (xm : Int), .int .u64 9, .int .u64 18446744073709551615, .int .u64 4294967296] 31)).cell? ⟨w.heap.size, E, none⟩ = some (.int .u64 (mv : Int)) ∧ mv < 18446744073709551616 := by
  have h := heap_alloc_new w (.cells #[.int .u64 (xm : Int), .int .u64 9, .int .u64 18446744073709551615, .int .u64 4294967296] 31)
  unfold World.cell?
  rw [h]
  match E, hE with
  | 0, _ => exact ⟨xm, rfl, hx⟩
  | 1, _ => exact ⟨9, rfl, by decide⟩
  | 2, _ => exact ⟨18446744073709551615, rfl, by decide⟩
  | 3, _ => exact ⟨4294967296, rfl, by decide⟩

/-- The two scanners stand alike: the program's, on the blocks F, the reference's, at q; all of them newer than B. -/
structure Both (P : (Nat → Prop) → World → Value → ByteArray → Sc → Prop) (F : Nat → Prop) (w : World) (v : Value) (q B : Nat) (S : ByteArray) (c : Sc) : Prop where
  p : P F w v S c
  r : RSc w q S c
  ok : ScOk S c
  new : ∀ k, F k → B ≤ k
  apart : ¬ F q
  q : B ≤ q
theorem Both.keep {K : World → Prop} {P : (Nat → Prop) → World → Value → ByteArray → Sc → Prop} (M : CI K P) {F : Nat → Prop} {w w' : World} {v : Value} {q B : Nat} {S : ByteArray} {c : Sc} (h : Both P F w v q B S c) (f : Fr w w' (fun _ => False)) : Both P F w' v q B S c :=
  ⟨M.frame h.p f (fun _ _ h => h), f.kept h.r (fun h => h), h.ok, h.new, h.apart, h.q⟩
/-- The program's has turned. -/
theorem Both.one {K : World → Prop} {P : (Nat → Prop) → World → Value → ByteArray → Sc → Prop} (_M : CI K P) {F F' : Nat → Prop} {w w' : World} {v : Value} {q B : Nat} {S : ByteArray} {c d : Sc} (h : Both P F w v q B S c) (hp : P F' w' v S d) (f : Fr w w' F) (n : ∀ k, F' k → F k ∨ w.heap.size ≤ k) :
    P F' w' v S d ∧ RSc w' q S c ∧ (∀ k, F' k → B ≤ k) ∧ ¬ F' q := by
  have hq : q < w.heap.size := lt_of_block h.r
  have hB := h.q
  exact ⟨hp, f.kept h.r h.apart, fun _ hk => (n _ hk).elim (h.new _) (fun h' => by omega), fun hk => (n q hk).elim h.apart (fun h => by omega)⟩
/-- .. and then the reference's. -/
theorem both_two {K : World → Prop} {P : (Nat → Prop) → World → Value → ByteArray → Sc → Prop} (M : CI K P) {F : Nat → Prop} {w w' : World} {v : Value} {q B : Nat} {S : ByteArray} {c d : Sc} (h : P F w v S d ∧ RSc w q S c ∧ (∀ k, F k → B ≤ k) ∧ ¬ F q) (hr : RSc w' q S d) (f : Fr w w' (fun k => k = q)) (ho : ScOk S d) (hq : B ≤ q) :
    Both P F w' v q B S d :=
  ⟨M.frame h.1 f (fun _ hk he => h.2.2.2 (he ▸ hk)), hr, ho, h.2.2.1, h.2.2.2, hq⟩

set_option maxRecDepth 4000 in
set_option maxHeartbeats 6400000 in
theorem walkM {K : World → Prop} {P : (Nat → Prop) → World → Value → ByteArray → Sc → Prop} (M : CI K P) (m0 : ByteArray) (a1 : Option Addr) (len1 cap1 : Nat) (z1 : List Int) (a2 : Option Addr) (len2 cap2 : Nat) (w : World) (w1 : IsRow .u8 w a1 len1 cap1 z1) (w2 : IsActs w a2 len2 cap2) (hK : K w) :
    Calls Tryd.prog 3 #[.string m0, .slice a1 len1 cap1, .slice a2 len2 cap2] w fun e w' => e = .returned (.bool true) ∧ Below w.heap.size w w' := by
  have HK : Hid (K w) := hK
  clear hK
  obtain ⟨bs, hbl, hbb, hbr⟩ := cbytes_arg w1
  have Hbs : Hid (Reads .u8 w (.slice a1 len1 cap1) bs) := hbr
  have Hbb : Hid (∀ x ∈ bs, x < 256) := hbb
  have Hbl : Hid _ := hbl
  obtain ⟨f, hlc, hfit, hac⟩ := w2
  have Hfit : Hid _ := hfit
  have Hac : Hid _ := hac
  clear w1 hbr hbb hfit hac hbl
  go_enter Tryd.func3, Tryd.ntmps3
  go_wp2_with fail
  refine (cknown_any M w HK.out).mono ?_
  rintro r x1 ⟨rfl, f1⟩
  have Hf1 : Hid (Fr w x1 (fun _ => False)) := f1
  clear f1
  by_cases hlen : m0.size ≤ 60
  case neg =>
    have g : (60 : Int) < (m0.size : Int) := by omega
    have g' : decide (60 < m0.size) = true := decide_eq_true (by omega)
    clear hlen
    go_wp2_with fail
    go_ret
    exact ⟨rfl, cbelow Hf1.out⟩
  have g : ¬ (60 : Int) < (m0.size : Int) := by omega
  have g' : decide (60 < m0.size) = false := decide_eq_false (by omega)
  by_cases hlen1 : len1 ≤ 20
  case neg =>
    have g1 : (20 : Int) < (len1 : Int) := by omega
    have g1' : decide (20 < len1) = true := decide_eq_true (by omega)
    clear hlen1
    go_wp2_with fail
    go_ret
    exact ⟨rfl, cbelow Hf1.out⟩
  have g1 : ¬ (20 : Int) < (len1 : Int) := by omega
  have g1' : decide (20 < len1) = false := decide_eq_false (by omega)
  by_cases hlen2 : len2 ≤ 40
  case neg =>
    have g2 : (40 : Int) < (len2 : Int) := by omega
    have g2' : decide (40 < len2) = true := decide_eq_true (by omega)
    clear hlen2
    go_wp2_with fail
    go_ret
    exact ⟨rfl, cbelow Hf1.out⟩
  have g2 : ¬ (40 : Int) < (len2 : Int) := by omega
  have g2' : decide (40 < len2) = false := decide_eq_false (by omega)
  have hso := some_any a1 bs len1 cap1 x1 Hbl.out Hbb.out (Hbs.out.keep Hf1.out) (by omega)
  have Hm0 : Hid (m0.size ≤ 23000) := by show _ ≤ _; omega
  have Hl2 : Hid (len2 ≤ 40) := hlen2
  go_wp2_with fail
  refine hso.mono ?_
  rintro r x2 ⟨⟨s2, rfl, hs2⟩, f2⟩
  have Hf2 : Hid (Fr w x2 (fun _ => False)) := Hf1.out.none f2
  have Hs2 : Hid (s2.size ≤ 23000) := hs2
  clear f2 hso hs2 g g' g1 g1' hlen hlen1
  go_wp2_with fail
  obtain ⟨pS, hpS⟩ : ∃ p, p = x2.heap.size := ⟨_, rfl⟩
  obtain ⟨wB, hwB⟩ : ∃ x, x = x2.alloc (.cells #[.string m0, .string s2] 9) := ⟨_, rfl⟩
  rw [← hwB, ← hpS]
  have HS : Hid (∀ z, Fr wB z (fun _ => False) → ∀ i, i < 2 → ∃ S : ByteArray, z.cell? ⟨pS, i, none⟩ = some (.string S) ∧ S.size ≤ 23000) := fun z hz i hi => by
    have h1 : wB.heap[pS]? = some (.cells #[.string m0, .string s2] 9 (0, 0)) := by rw [hwB, hpS]; exact heap_alloc_new _ _
    obtain ⟨h2, h3⟩ := pair_cells (hz.kept h1 (fun h => h))
    match i, hi with
    | 0, _ => exact ⟨m0, h2, Hm0.out⟩
    | 1, _ => exact ⟨s2, h3, Hs2.out⟩
  have HfB : Hid (Fr w wB (fun _ => False)) := by show Fr _ _ _; rw [hwB]; exact Hf2.out.alloc _
  obtain ⟨B, hB⟩ : ∃ B, B = wB.heap.size := ⟨_, rfl⟩
  have HB : Hid _ := hB
  clear hpS hwB hB
  have HKB : Hid (K wB) := M.keep HK.out HfB.out
  go_loopg [38] 2 (fun g I wr => ∃ i : Nat, g = 2 - i ∧ i ≤ 2 ∧ I = .int .i64 (i : Int) ∧ Fr wB wr (fun _ => False))
  case atStart => exact ⟨0, rfl, by omega, rfl, Fr.refl _ _⟩
  case round =>
    obtain ⟨i, hg, hi, rfl, hf⟩ := hrel
    have Hg : Hid _ := hg
    have Hf : Hid (Fr wB wr (fun _ => False)) := hf
    clear hg hf
    by_cases hlt : i < 2
    · have hin : (i : Int) < 2 := by omega
      have hin' : decide (i < 2) = true := decide_eq_true hlt
      obtain ⟨S, hcs, hSs⟩ := HS.out wr Hf.out i hlt
      have HSs : Hid (S.size ≤ 1000000000) := by show _ ≤ _; omega
      obtain ⟨w0, rfl⟩ : ∃ x, x = wr := ⟨_, rfl⟩
      go_wp2_with fail
      refine (M.new S w0 HSs.out).mono ?_
      rintro r z1 ⟨⟨v, F1, rfl, p1, n1⟩, f1⟩
      obtain ⟨av, rfl⟩ := M.ptr p1
      have P1 : Hid _ := p1
      have N1 : Hid (∀ k, F1 k → B ≤ k) := fun k hk => by have h1 := n1 k hk; have h2 := Hf.out.size; have h3 := HB.out; omega
      have Hz1 : Hid (Fr wB z1 (fun _ => False)) := Hf.out.none f1
      clear p1 n1 f1 hcs
      go_wp2_with fail
      refine (refNew_any S z1).mono ?_
      rintro r z2 ⟨q, rfl, hq, r2, f2⟩
      have B2 : Hid (Both P F1 z2 (.pointer (some av)) q B S ⟨0, 1, 1, 0⟩) := ⟨M.frame P1.out f2 (fun _ _ h => h), r2, scNew_ok S, N1.out, fun h => by have h1 := M.below P1.out q h; omega, by have h2 := Hz1.out.size; have h3 := HB.out; omega⟩
      have Hz2 : Hid (Fr wB z2 (fun _ => False)) := Hz1.out.none f2
      clear r2 f2 hq
      go_wp2_with fail
      go_loopg [11] len2 (fun g I wr => ∃ (j : Nat) (c : Sc) (F : Nat → Prop), g = len2 - j ∧ j ≤ len2 ∧ I = .int .i64 (j : Int) ∧ Both P F wr (.pointer (some av)) q B S c ∧ Fr wB wr (fun _ => False))
      case atStart => exact ⟨0, _, F1, by omega, by omega, rfl, B2.out, Hz2.out⟩
      case round =>
        obtain ⟨j, c, F, hg, hj, rfl, hbo, hf⟩ := hrel
        have Gg : Hid _ := hg
        have Bo : Hid (Both P F wr (.pointer (some av)) q B S c) := hbo
        have Hf0 : Hid (Fr wB wr (fun _ => False)) := hf
        clear hg hbo hf
        by_cases hlj : j < len2
        · have hjn : (j : Int) < (len2 : Int) := by omega
          have hjn' : decide (j < len2) = true := decide_eq_true hlj
          have hj0 : (0 : Int) ≤ (j : Int) := by omega
          obtain ⟨BA, o, ha2, hc2⟩ := Hac.out (by omega)
          have hcj := acts_keep (hc2 j hlj) (HfB.out.none Hf0.out)
          have hfj := Hfit.out j hlj
          generalize f j = x at hfj hcj
          obtain ⟨xw, xm, xs⟩ := x
          dsimp only at hcj
          obtain ⟨k0, k1, k2⟩ := hcj
          have Hxw : Hid (xw < 256) := hfj.1
          have Hxm : Hid (xm < 18446744073709551616) := hfj.2
          subst ha2
          clear hc2 hfj
          go_upto_region 13 with fail
          obtain ⟨pA, hpA⟩ : ∃ p, p = wr.heap.size := ⟨_, rfl⟩
          obtain ⟨wA, hwA⟩ : ∃ x, x = wr.alloc (.cells #[.int .u8 (xw : Int), .int .u64 (xm : Int), .string xs] 33) := ⟨_, rfl⟩
          rw [← hwA, ← hpA]
          have HA : Hid (∀ z, Fr wA z (fun k => B ≤ k ∧ k ≠ pA) → z.cell? ⟨pA, 0, none⟩ = some (.int .u8 (xw : Int)) ∧ z.cell? ⟨pA, 1, none⟩ = some (.int .u64 (xm : Int)) ∧ z.cell? ⟨pA, 2, none⟩ = some (.string xs)) := fun z hz => by
            have h1 : wA.heap[pA]? = some (.cells #[.int .u8 (xw : Int), .int .u64 (xm : Int), .string xs] 33 (0, 0)) := by rw [hwA, hpA]; exact heap_alloc_new _ _
            exact three_cells (hz.kept h1 (fun h => h.2 rfl))
          have fA : Fr wr wA (fun _ => False) := by rw [hwA]; exact (Fr.refl _ _).alloc _
          have HBA : Hid (Both P F wA (.pointer (some av)) q B S c) := Bo.out.keep M fA
          have HpA : Hid (¬ F pA ∧ q ≠ pA) := ⟨fun h => by have h1 := M.below Bo.out.p pA h; omega, fun h => by have h1 := lt_of_block Bo.out.r; omega⟩
          have HfA : Hid (Fr wB wA (fun _ => False)) := Hf0.out.none fA
          clear hwA hpA fA k0 k1 k2
          obtain ⟨k0, k1, k2⟩ := HA.out wA (Fr.refl _ _)
          by_cases hxs : xs.size ≤ 20
          case neg =>
            have gx : (20 : Int) < (xs.size : Int) := by omega
            have gx' : decide (20 < xs.size) = true := decide_eq_true (by omega)
            have Hfo : Hid (Fr w wA (fun _ => False)) := HfB.out.none HfA.out
            clear hxs
            go_wp2_with fail
            go_ret
            exact ⟨rfl, cbelow Hfo.out⟩
          have gx : ¬ (20 : Int) < (xs.size : Int) := by omega
          have gx' : decide (20 < xs.size) = false := decide_eq_false (by omega)
          have Hxs : Hid (xs.size ≤ 1000000000) := by show _ ≤ _; omega
          obtain ⟨D, hD⟩ : ∃ D, D = xw % 8 := ⟨_, rfl⟩
          have hd1 : (xw : Int) % 8 = (D : Int) := by omega
          have hd2 : (xw : Int).tmod 8 = (D : Int) := by rw [Int.tmod_eq_emod_of_nonneg (by omega)]; exact hd1
          have hd3 : IntKind.u8.wrap (D : Int) = (D : Int) := IntWalk.u8_in _ (by omega)
          have hD8 : D < 8 := by omega
          have HD : Hid _ := hD
          clear hD hxs
          go_upto_region 15 with fail
          go_cut [62] from 60 to 62 (fun V wx => V = .int .u8 (D : Int) ∧ wx = wA)
          case first =>
            go_wp2_with fail
            go_meet
            case rel => exact ⟨rfl, rfl⟩
          case rest =>
          obtain ⟨rfl, rfl⟩ := hcut
          rename_i K1 hK1 K0 hKc
          refine hKc _ _ ?_
          clear hKc K0
          obtain ⟨y0, rfl⟩ : ∃ x, x = wc := ⟨_, rfl⟩
          go_cut [] from 63 to 151 (fun wx => ∃ (d : Sc) (G : Nat → Prop), Both P G wx (.pointer (some av)) q B S d ∧ Fr wB wx (fun _ => False))
          case first =>
            have hF : ∀ k, F k → B ≤ k ∧ k ≠ pA := fun k hk => ⟨HBA.out.new k hk, fun h => HpA.out.1 (h ▸ hk)⟩
            have HF : Hid _ := hF
            have hwB : ∀ k, B ≤ k → wB.heap.size ≤ k := fun k hk => by have := HB.out; omega
            have HwB : Hid _ := hwB
            clear hF hwB
            have hcase : D < 3 ∨ D = 3 ∨ (D = 4 ∨ D = 5) ∨ D = 6 ∨ D = 7 := by omega
            rcases hcase with h3 | rfl | h45 | rfl | rfl
            · -- a number
              obtain ⟨E, hE⟩ : ∃ E, E = xw / 8 % 4 := ⟨_, rfl⟩
              obtain ⟨Y, hY⟩ : ∃ Y, Y = xw / 8 := ⟨_, rfl⟩
              rw [← hY] at hE
              have e1 : (xw : Int) / 8 = (Y : Int) := by omega
              have e2 : (xw : Int).tdiv 8 = (Y : Int) := by rw [Int.tdiv_eq_ediv_of_nonneg (by omega)]; exact e1
              have e3 : IntKind.u8.wrap (Y : Int) = (Y : Int) := IntWalk.u8_in _ (by have := Hxw.out; omega)
              have e4 : (Y : Int) % 4 = (E : Int) := by omega
              have e5 : (Y : Int).tmod 4 = (E : Int) := by rw [Int.tmod_eq_emod_of_nonneg (by omega)]; exact e4
              have e6 : IntKind.u8.wrap (E : Int) = (E : Int) := IntWalk.u8_in _ (by omega)
              have e7 : (E : Int) < 4 := by omega
              have e8 : (0 : Int) ≤ (E : Int) := by omega
              obtain ⟨mv, hmc, hmv⟩ := most_cells y0 xm E Hxm.out (by omega)
              have Hmv : Hid (mv < 18446744073709551616) := hmv
              obtain ⟨k0', k1', -⟩ := HA.out (y0.alloc (.cells #[.int .u64 (xm : Int), .int .u64 9, .int .u64 18446744073709551615, .int .u64 4294967296] 31)) ((Fr.refl _ _).alloc _)
              clear hE hY hmv
              have hgoal : ∀ (dd : Nat), D = dd → dd < 3 → True := fun _ _ _ => trivial
              clear hgoal
              have hcase : D = 0 ∨ D = 1 ∨ D = 2 := by omega
              rcases hcase with rfl | rfl | rfl
              all_goals
                go_upto_region 23 with fail
                obtain ⟨y1, hy1⟩ : ∃ x, x = y0.alloc (.cells #[.int .u64 (xm : Int), .int .u64 9, .int .u64 18446744073709551615, .int .u64 4294967296] 31) := ⟨_, rfl⟩
                have f1 : Fr y0 y1 (fun _ => False) := by rw [hy1]; exact (Fr.refl _ _).alloc _
                rw [← hy1]
                have HB1 : Hid (Both P F y1 (.pointer (some av)) q B S c) := HBA.out.keep M f1
                have Hf1 : Hid (Fr wB y1 (fun _ => False)) := HfA.out.none f1
                clear f1 hy1 hmc k0 k1 k2 k0' k1'
                go_wp2_with fail
                refine (M.number F _ S c mv y1 HB1.out.p HB1.out.ok HSs.out Hmv.out (M.keep HKB.out Hf1.out)).mono ?_
                rintro r y2 ⟨rfl, F2, p2, f2, n2⟩
                have h2 := HB1.out.one M p2 f2 n2
                have H2 : Hid _ := h2
                have Hf2 : Hid (Fr wB y2 (fun _ => False)) := Hf1.out.newer f2 (fun k hk => HwB.out k (HF.out k hk).1)
                have Hn := (refNumber_any q mv S c y2 h2.2.1 HB1.out.ok HSs.out Hmv.out)
                obtain ⟨NV, hNV⟩ : ∃ x, x = scNumVal S mv c := ⟨_, rfl⟩
                rw [← hNV] at Hn ⊢
                have hnn : ((NV : Int) != (NV : Int)) = false := by simp
                have hnn' : (NV != NV) = false := by simp
                clear h2 p2 f2 n2 hNV
                go_wp2_with fail
                refine Hn.mono ?_
                rintro r y3 ⟨rfl, r3, f3⟩
                have HB3 : Hid (Both P F2 y3 (.pointer (some av)) q B S (scNum S mv c)) := both_two M H2.out r3 f3 (scNum_ok HB1.out.ok mv) HB1.out.q
                have Hf3 : Hid (Fr wB y3 (fun _ => False)) := Hf2.out.newer f3 (fun k hk => HwB.out k (by rw [hk]; exact HB1.out.q))
                clear r3 f3 Hn
                go_wp2_with fail
                go_meet
                case rel => exact ⟨_, _, HB3.out, Hf3.out⟩
            · -- a word
              go_upto_region 26 with fail
              have fd : Fr y0 y0.drew (fun _ => False) := (Fr.refl _ _).drew
              have HBd : Hid (Both P F y0.drew (.pointer (some av)) q B S c) := HBA.out.keep M fd
              have Hfd : Hid (Fr wB y0.drew (fun _ => False)) := HfA.out.none fd
              have kc : ∀ z, Fr y0.drew z (fun k => B ≤ k ∧ k ≠ pA) → z.cell? ⟨pA, 2, none⟩ = some (.string xs) := fun z hz => (HA.out z ((fd.mono (fun _ _ h => h.elim)).trans hz (fun _ _ h => h))).2.2
              clear fd k0 k1 k2
              obtain ⟨OK, hOK⟩ : ∃ x, x = scWordOk S xs c := ⟨_, rfl⟩
              have hnn : (OK != OK) = false := by simp
              refine wp_region_tree (fun k => B ≤ k ∧ k ≠ pA) (.take 0 (.take 1 (.take 2 (.take 4 (.take 5 (.take 6 (.one 3 (.one 7 (.take 8 .nil))))))))) (by kernel_rfl) (by kernel_rfl) (by decide) (by kernel_rfl) ?_
              iterate 6 (refine wpT_take (v := ?_) rfl rfl (fun x hx => ?_) ?_; rotate_left; (focus (go_simp; with_reducible rfl)); simp only [Act.put, List.setIfInBounds_toArray, List.set_cons_zero, List.set_cons_succ])
              refine wpT_one rfl rfl (fun K hK => ?_)
              go_simp
              refine (M.word F _ S xs c y0.drew HBd.out.p HBd.out.ok HSs.out (fun _ => Hxs.out)).mono ?_
              rw [← hOK]
              rintro r y2 ⟨rfl, F2, p2, f2, n2⟩
              have h2 := HBd.out.one M p2 f2 n2
              have H2 : Hid _ := h2
              have Hf2 : Hid (Fr wB y2 (fun _ => False)) := Hfd.out.newer f2 (fun k hk => HwB.out k (HF.out k hk).1)
              have Hn := (refWord_any q S xs c y2 h2.2.1 HBd.out.ok HSs.out Hxs.out)
              rw [← hOK] at Hn
              refine hK _ _ (f2.mono (fun k _ hk => HF.out k hk)) ?_
              clear hK K h2 p2 f2 n2 kc hOK
              refine wpT_one rfl rfl (fun K hK => ?_)
              go_simp
              refine Hn.mono ?_
              rintro r y3 ⟨rfl, r3, f3⟩
              have HB3 : Hid (Both P F2 y3 (.pointer (some av)) q B S (scWord S xs c)) := both_two M H2.out r3 f3 (scWord_ok HBd.out.ok xs) HBd.out.q
              have Hf3 : Hid (Fr wB y3 (fun _ => False)) := Hf2.out.newer f3 (fun k hk => HwB.out k (by rw [hk]; exact HBd.out.q))
              refine hK _ _ (f3.mono (fun k _ hk => by rw [hk]; exact ⟨HBd.out.q, HpA.out.2⟩)) ?_
              clear hK K r3 f3 Hn
              iterate 1 (refine wpT_take (v := ?_) rfl rfl (fun x hx => ?_) ?_; rotate_left; (focus (go_simp; with_reducible rfl)); simp only [Act.put, List.setIfInBounds_toArray, List.set_cons_zero, List.set_cons_succ])
              unfold wpT
              go_wp2_with fail
              go_meet
              case rel => exact ⟨_, _, HB3.out, Hf3.out⟩
            · -- what stands there
              obtain ⟨⟨NB, NO⟩, hnx⟩ : ∃ x, x = scNext S c := ⟨_, rfl⟩
              have Hnb : Hid (NB < 256) := by
                show _ < _
                have : (scNext S c).1 < 256 := by
                  unfold scNext
                  split
                  · exact chAt_lt S c.pos
                  · exact (by decide : 0 < 256)
                rw [← hnx] at this
                exact this
              have hnn : ((NB : Int) != (NB : Int)) = false := by simp
              have hnn' : (NB != NB) = false := by simp
              have hno : (NO != NO) = false := by simp
              have hn1 := fun z hz => M.next F (.pointer (some av)) S c z hz HBA.out.ok HSs.out
              have hn2 := fun z hz => refNext_any q S c z hz
              rw [← hnx] at hn1 hn2
              dsimp only at hn1 hn2
              clear hnx
              obtain ⟨BO, hBO⟩ : ∃ x, x = scByteOk S NB c := ⟨_, rfl⟩
              have hbb : (BO != BO) = false := by simp
              rcases h45 with rfl | rfl
              all_goals
                have hn1' := hn1 y0 HBA.out.p
                go_wp2_with fail
                refine hn1'.mono ?_
                rintro r y1 ⟨rfl, f1⟩
                have HB1 : Hid (Both P F y1 (.pointer (some av)) q B S c) := HBA.out.keep M f1
                have Hf1 : Hid (Fr wB y1 (fun _ => False)) := HfA.out.none f1
                have hn2' := hn2 y1 HB1.out.r
                clear f1 hn1 hn2 hn1' k0 k1 k2
                go_wp2_with fail
                refine hn2'.mono ?_
                rintro r y2 ⟨rfl, f2⟩
                have HB2 : Hid (Both P F y2 (.pointer (some av)) q B S c) := HB1.out.keep M f2
                have Hf2 : Hid (Fr wB y2 (fun _ => False)) := Hf1.out.none f2
                clear f2 hn2'
                have hb1 := M.byte F (.pointer (some av)) S NB c y2 HB2.out.p HB2.out.ok HSs.out Hnb.out
                rw [← hBO] at hb1
                go_wp2_with fail
                refine hb1.mono ?_
                rintro r y3 ⟨rfl, F3, p3, f3, n3⟩
                have h3 := HB2.out.one M p3 f3 n3
                have H3 : Hid _ := h3
                have Hf3 : Hid (Fr wB y3 (fun _ => False)) := Hf2.out.newer f3 (fun k hk => HwB.out k (HF.out k hk).1)
                have Hn := (refByte_any q NB S c y3 h3.2.1 HB2.out.ok HSs.out)
                rw [← hBO] at Hn
                clear h3 p3 f3 n3 hb1 hBO
                go_wp2_with fail
                refine Hn.mono ?_
                rintro r y4 ⟨rfl, r4, f4⟩
                have HB4 : Hid (Both P F3 y4 (.pointer (some av)) q B S (scByte S NB c)) := both_two M H3.out r4 f4 (scWord_ok HB2.out.ok _) HB2.out.q
                have Hf4 : Hid (Fr wB y4 (fun _ => False)) := Hf3.out.newer f4 (fun k hk => HwB.out k (by rw [hk]; exact HB2.out.q))
                clear r4 f4 Hn
                go_wp2_with fail
                go_meet
                case rel => exact ⟨_, _, HB4.out, Hf4.out⟩
            · -- a byte
              obtain ⟨y, hy⟩ : ∃ y, y = xm % 256 := ⟨_, rfl⟩
              have hwy : IntKind.u8.wrap (xm : Int) = (y : Int) := by rw [IntKind.wrap_u8]; omega
              have Hy : Hid (y < 256) := by show _ < _; omega
              clear hy
              go_upto_region 35 with fail
              have fd : Fr y0 y0.drew (fun _ => False) := (Fr.refl _ _).drew
              have HBd : Hid (Both P F y0.drew (.pointer (some av)) q B S c) := HBA.out.keep M fd
              have Hfd : Hid (Fr wB y0.drew (fun _ => False)) := HfA.out.none fd
              have kc : ∀ z, Fr y0.drew z (fun k => B ≤ k ∧ k ≠ pA) → z.cell? ⟨pA, 1, none⟩ = some (.int .u64 (xm : Int)) := fun z hz => (HA.out z ((fd.mono (fun _ _ h => h.elim)).trans hz (fun _ _ h => h))).2.1
              clear fd k0 k1 k2
              obtain ⟨OK, hOK⟩ : ∃ x, x = scByteOk S y c := ⟨_, rfl⟩
              have hnn : (OK != OK) = false := by simp
              refine wp_region_tree (fun k => B ≤ k ∧ k ≠ pA) (.take 0 (.take 1 (.take 2 (.take 3 (.take 5 (.take 6 (.take 7 (.take 8 (.one 4 (.one 9 (.take 10 .nil))))))))))) (by kernel_rfl) (by kernel_rfl) (by decide) (by kernel_rfl) ?_
              iterate 8 (refine wpT_take (v := ?_) rfl rfl (fun x hx => ?_) ?_; rotate_left; (focus (go_simp; with_reducible rfl)); simp only [Act.put, List.setIfInBounds_toArray, List.set_cons_zero, List.set_cons_succ])
              refine wpT_one rfl rfl (fun K hK => ?_)
              go_simp
              refine (M.byte F _ S y c y0.drew HBd.out.p HBd.out.ok HSs.out Hy.out).mono ?_
              rw [← hOK]
              rintro r y2 ⟨rfl, F2, p2, f2, n2⟩
              have h2 := HBd.out.one M p2 f2 n2
              have H2 : Hid _ := h2
              have Hf2 : Hid (Fr wB y2 (fun _ => False)) := Hfd.out.newer f2 (fun k hk => HwB.out k (HF.out k hk).1)
              have Hn := (refByte_any q y S c y2 h2.2.1 HBd.out.ok HSs.out)
              rw [← hOK] at Hn
              refine hK _ _ (f2.mono (fun k _ hk => HF.out k hk)) ?_
              clear hK K h2 p2 f2 n2 kc hOK
              refine wpT_one rfl rfl (fun K hK => ?_)
              go_simp
              refine Hn.mono ?_
              rintro r y3 ⟨rfl, r3, f3⟩
              have HB3 : Hid (Both P F2 y3 (.pointer (some av)) q B S (scByte S y c)) := both_two M H2.out r3 f3 (scWord_ok HBd.out.ok _) HBd.out.q
              have Hf3 : Hid (Fr wB y3 (fun _ => False)) := Hf2.out.newer f3 (fun k hk => HwB.out k (by rw [hk]; exact HBd.out.q))
              refine hK _ _ (f3.mono (fun k _ hk => by rw [hk]; exact ⟨HBd.out.q, HpA.out.2⟩)) ?_
              clear hK K r3 f3 Hn
              iterate 1 (refine wpT_take (v := ?_) rfl rfl (fun x hx => ?_) ?_; rotate_left; (focus (go_simp; with_reducible rfl)); simp only [Act.put, List.setIfInBounds_toArray, List.set_cons_zero, List.set_cons_succ])
              unfold wpT
              go_wp2_with fail
              go_meet
              case rel => exact ⟨_, _, HB3.out, Hf3.out⟩
            · -- an error
              by_cases h200 : 200 < xw
              · have gw : (200 : Int) < (xw : Int) := by omega
                have gw' : decide (200 < xw) = true := decide_eq_true h200
                obtain ⟨e, he⟩ : ∃ e, e = xm % 40 := ⟨_, rfl⟩
                have e1 : (xm : Int) % 40 = (e : Int) := by omega
                have e2 : (xm : Int).tmod 40 = (e : Int) := by rw [Int.tmod_eq_emod_of_nonneg (by omega)]; exact e1
                have e3 : IntKind.u64.wrap (e : Int) = (e : Int) := by rw [IntKind.wrap_u64]; omega
                have e4 : IntKind.i64.wrap (e : Int) = (e : Int) := IntWalk.i64_in _ (by omega)
                have He : Hid (e < 256) := by show _ < _; omega
                clear he h200
                go_wp2_with fail
                refine (M.fail F _ S c e y0 HBA.out.p HBA.out.ok HSs.out He.out).mono ?_
                rintro r y2 ⟨rfl, F2, p2, f2, n2⟩
                have h2 := HBA.out.one M p2 f2 n2
                have H2 : Hid _ := h2
                have Hf2 : Hid (Fr wB y2 (fun _ => False)) := HfA.out.newer f2 (fun k hk => HwB.out k (HF.out k hk).1)
                have Hn := (refFail_any q e S c y2 h2.2.1)
                obtain ⟨k0', k1', -⟩ := HA.out y2 (f2.mono (fun k _ hk => HF.out k hk))
                clear h2 p2 f2 n2 k0 k1 k2
                go_wp2_with fail
                refine Hn.mono ?_
                rintro r y3 ⟨rfl, r3, f3⟩
                have HB3 : Hid (Both P F2 y3 (.pointer (some av)) q B S (scFail c e)) := both_two M H2.out r3 f3 (scFail_ok HBA.out.ok e) HBA.out.q
                have Hf3 : Hid (Fr wB y3 (fun _ => False)) := Hf2.out.newer f3 (fun k hk => HwB.out k (by rw [hk]; exact HBA.out.q))
                clear r3 f3 Hn k0' k1'
                go_wp2_with fail
                go_meet
                case rel => exact ⟨_, _, HB3.out, Hf3.out⟩
              · have gw : ¬ (200 : Int) < (xw : Int) := by omega
                have gw' : decide (200 < xw) = false := decide_eq_false h200
                clear h200
                go_wp2_with fail
                go_meet
                case rel => exact ⟨_, _, HBA.out, HfA.out⟩
          case rest =>
            obtain ⟨d, G, hbo, hfo⟩ := hcut
            have HBc : Hid (Both P G wc (.pointer (some av)) q B S d) := hbo
            have Hfc : Hid (Fr wB wc (fun _ => False)) := hfo
            refine hK1 _ _ ?_
            clear hK1 hbo hfo k0 k1 k2
            obtain ⟨y4, rfl⟩ : ∃ x, x = wc := ⟨_, rfl⟩
            go_upto_region 37 with fail
            have fd : Fr y4 y4.drew (fun _ => False) := (Fr.refl _ _).drew
            have HBd : Hid (Both P G y4.drew (.pointer (some av)) q B S d) := HBc.out.keep M fd
            have Hfd : Hid (Fr wB y4.drew (fun _ => False)) := Hfc.out.none fd
            clear fd
            obtain ⟨L, C, E, hL, hC, hE⟩ : ∃ L C E : Nat, L = d.line ∧ C = d.col ∧ E = d.err := ⟨_, _, _, rfl, rfl, rfl⟩
            have c2 : ∀ z, Fr y4.drew z (fun _ => False) → z.cell? ⟨q, 2, none⟩ = some (.int .i64 (L : Int)) := fun z hz => by rw [hL]; exact (five_cells (hz.kept HBd.out.r (fun h => h))).2.2.1
            have c3 : ∀ z, Fr y4.drew z (fun _ => False) → z.cell? ⟨q, 3, none⟩ = some (.int .i64 (C : Int)) := fun z hz => by rw [hC]; exact (five_cells (hz.kept HBd.out.r (fun h => h))).2.2.2.1
            have c4 : ∀ z, Fr y4.drew z (fun _ => False) → z.cell? ⟨q, 4, none⟩ = some (.int .i64 (E : Int)) := fun z hz => by rw [hE]; exact (five_cells (hz.kept HBd.out.r (fun h => h))).2.2.2.2
            have her := M.err G (.pointer (some av)) S d y4.drew HBd.out.p HBd.out.ok HSs.out
            rw [← hE] at her
            have hpl := fun z hz => M.place G (.pointer (some av)) S d z hz HBd.out.ok HSs.out
            have hpv : placeV d = .agg #[.int .i64 (L : Int), .int .i64 (C : Int)] := by rw [hL, hC]; rfl
            rw [hpv] at hpl
            have n1 : ((E : Int) != (E : Int)) = false := by simp
            have n2 : (E != E) = false := by simp
            clear hL hC hE hpv
            refine wp_region_tree (fun _ => False) (.take 0 (.take 2 (.take 3 (.take 4 (.take 5 (.one 1 (.take 6 (.take 7 (.take 8 (.take 10 (.take 11 (.take 12 (.take 13 (.one 9 (.take 14 (.take 15 .nil)))))))))))))))) (by kernel_rfl) (by kernel_rfl) (by decide) (by kernel_rfl) ?_
            iterate 5 (refine wpT_take (v := ?_) rfl rfl (fun x hx => ?_) ?_; rotate_left; (focus (go_simp; with_reducible rfl)); simp only [Act.put, List.setIfInBounds_toArray, List.set_cons_zero, List.set_cons_succ])
            refine wpT_one rfl rfl (fun K hK => ?_)
            go_simp
            refine her.mono ?_
            rintro r y5 ⟨rfl, g⟩
            refine hK _ _ g ?_
            have HBe : Hid (Both P G y5 (.pointer (some av)) q B S d) := HBd.out.keep M g
            have Hfe : Hid (Fr wB y5 (fun _ => False)) := Hfd.out.none g
            have hpl1 := hpl y5 HBe.out.p
            replace c2 : ∀ z, Fr y5 z (fun _ => False) → z.cell? ⟨q, 2, none⟩ = some (.int .i64 (L : Int)) := fun z hz => c2 z (g.none hz)
            replace c3 : ∀ z, Fr y5 z (fun _ => False) → z.cell? ⟨q, 3, none⟩ = some (.int .i64 (C : Int)) := fun z hz => c3 z (g.none hz)
            clear hK K her hpl g c4
            iterate 7 (refine wpT_take (v := ?_) rfl rfl (fun x hx => ?_) ?_; rotate_left; (focus (go_simp; with_reducible rfl)); simp only [Act.put, List.setIfInBounds_toArray, List.set_cons_zero, List.set_cons_succ])
            refine wpT_one rfl rfl (fun K hK => ?_)
            go_simp
            refine hpl1.mono ?_
            rintro r y6 ⟨rfl, g⟩
            refine hK _ _ g ?_
            have HBg : Hid (Both P G y6 (.pointer (some av)) q B S d) := HBe.out.keep M g
            have Hfg : Hid (Fr wB y6 (fun _ => False)) := Hfe.out.none g
            clear hK K hpl1 g c2 c3
            iterate 2 (refine wpT_take (v := ?_) rfl rfl (fun x hx => ?_) ?_; rotate_left; (focus (go_simp; with_reducible rfl)); simp only [Act.put, List.setIfInBounds_toArray, List.set_cons_zero, List.set_cons_succ])
            unfold wpT
            go_wp2_with fail
            go_roundg (len2 - (j + 1))
            case rel => exact ⟨j + 1, d, G, rfl, by omega, by go_num, HBg.out, Hfg.out⟩
            case measure => rw [Gg.out]; omega
        · have hjn : ¬ (j : Int) < (len2 : Int) := by omega
          have hjn' : decide (j < len2) = false := decide_eq_false hlj
          go_wp2_with fail
          go_roundg (2 - (i + 1))
          case rel => exact ⟨i + 1, rfl, by omega, by go_num, Hf0.out⟩
          case measure => rw [Hg.out]; omega
    · have hin : ¬ (i : Int) < 2 := by omega
      have hin' : decide (i < 2) = false := decide_eq_false hlt
      have Hfo : Hid (Fr w wr (fun _ => False)) := HfB.out.none Hf.out
      go_wp2_with fail
      go_ret
      exact ⟨rfl, cbelow Hfo.out⟩

end Go.Proofs.YtchkojdpnbecoaaDoor.scanPlays
