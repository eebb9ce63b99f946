/-
  The walk of the law ScanPlaces, under the condition that the program's scanner answers as its contracts say.
-/
import Derived.Test.YtchkojdpnbecoaaDoorRows
import Derived.Test.YtchkojdpnbecoaaDoorCKnow
import Derived.Test.YtchkojdpnbecoaaDoorCHelp
namespace Go.Proofs.YtchkojdpnbecoaaDoor.scanPlaces
open Go.ChangeShapes Go.WideShapes Go.ChangeAt Go.RowKit

set_option maxRecDepth 4000 in
set_option maxHeartbeats 3200000 in
theorem walkM {K : World → Prop} {P : (Nat → Prop) → World → Value → ByteArray → Sc → Prop} (M : CI K P) (a0 : Option Addr) (len0 cap0 : Nat) (z0 : List Int) (w : World) (w0 : IsRow .u8 w a0 len0 cap0 z0) (hK : K w) :
    Calls Tryd.prog 5 #[.slice a0 len0 cap0] w fun e w' => e = .returned (.bool true) ∧ Below w.heap.size w w' := by
  have HK : Hid (K w) := hK
  clear hK
  obtain ⟨bs, hbl, hbb, hbr⟩ := cbytes_arg w0
  have Hbs : Hid (Reads .u8 w (.slice a0 len0 cap0) bs) := hbr
  have Hbb : Hid (∀ x ∈ bs, x < 256) := hbb
  clear w0 hbr hbb
  go_enter Tryd.func5, Tryd.ntmps5
  go_wp2_with fail
  refine (cknown_any M w HK.out).mono ?_
  rintro r w1 ⟨rfl, f1⟩
  have Hf1 : Hid (Fr w w1 (fun _ => False)) := f1
  clear f1
  by_cases hlen : len0 ≤ 60
  case neg =>
    have g : (60 : Int) < (len0 : Int) := by omega
    have g' : decide (60 < len0) = true := decide_eq_true (by omega)
    clear hlen
    go_wp2_with fail
    go_ret
    exact ⟨rfl, cbelow Hf1.out⟩
  have g : ¬ (60 : Int) < (len0 : Int) := by omega
  have g' : decide (60 < len0) = false := decide_eq_false (by omega)
  obtain ⟨S, hS⟩ : ∃ S, S = strOf bs := ⟨_, rfl⟩
  have hcv : (convert 22 9 (.slice a0 len0 cap0)).run Tryd.prog w1 = .ok (.string S) w1 := by rw [hS]; exact conv_reads (Hbs.out.keep Hf1.out)
  have hSs : S.size = len0 := by rw [hS, strOf_length]; exact hbl
  have HS : Hid (∀ i, i < len0 → chAt S i = bs.getD i 0) := by show ∀ i, _; rw [hS]; exact fun i hi => chAt_strOf bs i (by omega) Hbb.out
  have HSs : Hid (S.size = len0) := hSs
  clear hS hSs
  go_wp2_with fail
  refine (M.new S w1 (by rw [HSs.out]; omega)).mono ?_
  rintro r w2 ⟨⟨v, F2, rfl, p2, n2⟩, f2⟩
  have P2 : Hid _ := p2
  have N2 : Hid (∀ k, F2 k → w.heap.size ≤ k) := fun k hk => Nat.le_trans Hf1.out.size (n2 k hk)
  have Hf2 : Hid (Fr w w2 (fun _ => False)) := Hf1.out.none f2
  clear p2 n2 f2 hcv
  go_wp2_with fail
  go_loopg [4, 5, 6] len0 (fun g L C I wr => ∃ (i : Nat) (c : Sc) (F : Nat → Prop), g = len0 - i ∧ i ≤ len0 ∧ I = .int .i64 (i : Int) ∧ L = .int .i64 (c.line : Int) ∧ C = .int .i64 (c.col : Int) ∧ c.pos = i ∧ c.err = 0 ∧ ScOk S c ∧ P F wr v S c ∧ (∀ k, F k → w.heap.size ≤ k) ∧ Fr w wr (fun _ => False))
  case atStart => exact ⟨0, ⟨0, 1, 1, 0⟩, F2, by omega, by omega, rfl, rfl, rfl, rfl, rfl, scNew_ok S, P2.out, N2.out, Hf2.out⟩
  case round =>
    obtain ⟨i, c, F, hg, hi, rfl, rfl, rfl, hp, he, ho, hP, hN, hf⟩ := hrel
    have Hg : Hid _ := hg
    have Hp : Hid _ := hp
    have He : Hid _ := he
    have Ho : Hid _ := ho
    have HP : Hid _ := hP
    have HN : Hid _ := hN
    have Hf : Hid (Fr w wr (fun _ => False)) := hf
    have hb : c.line ≤ 61 ∧ c.col ≤ 61 := by unfold ScOk at ho; omega
    have hSz : S.size ≤ 1000000000 := by rw [HSs.out]; omega
    have HSz : Hid _ := hSz
    clear hg hp he ho hP hN hf hSz
    by_cases hlt : i < len0
    · have hin : (i : Int) < (len0 : Int) := by omega
      have hin' : decide (i < len0) = true := decide_eq_true hlt
      have Hlt : Hid (c.pos < S.size) := by show _ < _; rw [Hp.out, HSs.out]; exact hlt
      obtain ⟨b, hbe⟩ : ∃ b, b = bs.getD i 0 := ⟨_, rfl⟩
      have HbS : Hid (chAt S c.pos = b) := by show _ = _; rw [Hp.out, HS.out i hlt, hbe]
      have Hb6 : Hid (b < 256) := by
        show _ < _
        rw [hbe, List.getD_eq_getElem?_getD, List.getElem?_eq_getElem (by omega : i < bs.length)]
        exact Hbb.out _ (List.getElem_mem _)
      obtain ⟨B, o, ha0, hcell⟩ : ∃ B o, a0 = some ⟨B, o, none⟩ ∧ ∀ z, Fr w z (fun _ => False) → z.cell? ⟨B, o + i, none⟩ = some (.int .u8 (b : Int)) := by
        obtain ⟨ao, cap, hv, hlc, hc⟩ := id Hbs.out
        cases hv
        rw [length_row] at hc
        obtain ⟨B, o, rfl, hcell⟩ := hc (by omega)
        refine ⟨B, o, rfl, fun z hz => ?_⟩
        have h1 := hcell i _ (row_get .u8 bs i (by omega))
        rw [World.cell?_of_block (w := w) (hz.block _ (World.block_lt_of_cell? _ _ h1) (fun h => h))]
        rw [h1, hbe]
      subst ha0
      have Hcell : Hid _ := hcell
      clear hcell hbe
      go_wp2_with fail
      refine (M.next F v S c wr HP.out Ho.out HSz.out).mono ?_
      rw [scNext_in He.out Hlt.out, HbS.out]
      rintro r wa ⟨rfl, fa⟩
      have Ha : Hid (Fr w wa (fun _ => False)) := Hf.out.none fa
      have Pa : Hid _ := M.frame HP.out fa (fun _ _ h => h)
      have ka := Hcell.out wa Ha.out
      clear fa
      go_wp2_with fail
      refine (M.place F v S c wa Pa.out Ho.out HSz.out).mono ?_
      unfold placeV
      rintro r wb ⟨rfl, fb⟩
      have Hb : Hid (Fr w wb (fun _ => False)) := Ha.out.none fb
      have Pb : Hid _ := M.frame Pa.out fb (fun _ _ h => h)
      have kb := Hcell.out wb Hb.out
      clear fb ka
      go_wp2_with fail
      refine (M.byte F v S b c wb Pb.out Ho.out HSz.out Hb6.out).mono ?_
      rw [(scByte_hit He.out Hlt.out Hb6.out HbS.out).1, (scByte_hit He.out Hlt.out Hb6.out HbS.out).2]
      rintro r wc ⟨rfl, F', pc, fc, nc⟩
      have Hc : Hid (Fr w wc (fun _ => False)) := Hb.out.newer fc HN.out
      have Nc : Hid (∀ k, F' k → w.heap.size ≤ k) := fun k hk => (nc k hk).elim (HN.out k) (fun h => Nat.le_trans Hb.out.size h)
      have Pc : Hid _ := pc
      have kc := Hcell.out wc Hc.out
      have Oc : Hid (ScOk S (scStep S c)) := by show ScOk _ _; have := scMove_ok S 1 c Ho.out (by have := Hlt.out; omega); exact this
      have Ep : Hid ((scStep S c).pos = i + 1) := by show _ = _; rw [scStep_pos, Hp.out]
      clear fc pc nc kb
      by_cases h10 : b = 10
      · have Hst : Hid (scStep S c = { c with pos := c.pos + 1, line := c.line + 1, col := 1 }) := by show _ = _; unfold scStep; rw [if_pos (by rw [HbS.out]; exact h10)]
        subst h10
        go_wp2_with fail
        go_roundg (len0 - (i + 1))
        case rel => exact ⟨i + 1, scStep S c, F', rfl, by omega, by go_num, by rw [Hst.out]; go_num, by rw [Hst.out]; rfl, Ep.out, by rw [Hst.out]; exact He.out, Oc.out, Pc.out, Nc.out, Hc.out⟩
        case measure => rw [Hg.out]; omega
      · have Hst : Hid (scStep S c = { c with pos := c.pos + 1, col := c.col + 1 }) := by show _ = _; unfold scStep; rw [if_neg (by rw [HbS.out]; exact h10)]
        have hb1 : ((b : Int) == 10) = false := by rw [beq_eq_false_iff_ne]; omega
        have hb2 : (b == 10) = false := by rw [beq_eq_false_iff_ne]; exact h10
        go_wp2_with fail
        go_roundg (len0 - (i + 1))
        case rel => exact ⟨i + 1, scStep S c, F', rfl, by omega, by go_num, by rw [Hst.out], by rw [Hst.out]; go_num, Ep.out, by rw [Hst.out]; exact He.out, Oc.out, Pc.out, Nc.out, Hc.out⟩
        case measure => rw [Hg.out]; omega
    · have hin : ¬ (i : Int) < (len0 : Int) := by omega
      have hin' : decide (i < len0) = false := decide_eq_false hlt
      have Hge : Hid (S.size ≤ c.pos) := by show _ ≤ _; rw [Hp.out, HSs.out]; omega
      go_wp2_with fail
      refine (M.next F v S c wr HP.out Ho.out HSz.out).mono ?_
      rw [scNext_end Hge.out]
      rintro r wa ⟨rfl, fa⟩
      have Ha : Hid (Fr w wa (fun _ => False)) := Hf.out.none fa
      have Pa : Hid _ := M.frame HP.out fa (fun _ _ h => h)
      clear fa
      go_wp2_with fail
      refine (M.byte F v S 120 c wa Pa.out Ho.out HSz.out (by decide)).mono ?_
      rw [(scByte_end He.out Hge.out).1, (scByte_end He.out Hge.out).2]
      rintro r wb ⟨rfl, F', pb, fb, nb⟩
      have Hb : Hid (Fr w wb (fun _ => False)) := Ha.out.newer fb HN.out
      have Pb : Hid _ := pb
      have Ob : Hid (ScOk S { c with err := 20 }) := Ho.out
      clear fb pb nb
      go_wp2_with fail
      refine (M.err F' v S _ wb Pb.out Ob.out HSz.out).mono ?_
      rw [show ((({ c with err := 20 } : Sc).err : Nat) : Int) = 20 from rfl]
      rintro r wc ⟨rfl, fc⟩
      have Hc : Hid (Fr w wc (fun _ => False)) := Hb.out.none fc
      have Pc : Hid _ := M.frame Pb.out fc (fun _ _ h => h)
      clear fc
      go_wp2_with fail
      refine (M.place F' v S _ wc Pc.out Ob.out HSz.out).mono ?_
      rw [show placeV { c with err := 20 } = .agg #[.int .i64 (c.line : Int), .int .i64 (c.col : Int)] from rfl]
      rintro r wd ⟨rfl, fd⟩
      have Hd : Hid (Fr w wd (fun _ => False)) := Hc.out.none fd
      clear fd
      go_wp2_with fail
      go_ret
      exact ⟨rfl, cbelow Hd.out⟩

end Go.Proofs.YtchkojdpnbecoaaDoor.scanPlaces
