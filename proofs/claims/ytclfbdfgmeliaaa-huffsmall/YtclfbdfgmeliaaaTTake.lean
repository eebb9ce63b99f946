/-
  The contract of code's Take.
-/
import Derived.Test.YtclfbdfgmeliaaaTPut
namespace Go.Proofs.Ytclfbdfgmeliaaa
open Go.RowKit

theorem Rd.copyT {T : TypeId} {w w' : World} {p q : Nat} {sv : Value} {bs : List Nat} {i : Nat} {S : Nat → Prop} (h : Rd T w p sv bs i) (f : Fr w w' S) (hs : ∀ k, k < w.heap.size → ¬ S k) (hq : w.heap.size ≤ q)
    (hb : w'.heap[q]? = some (.cells #[sv, .int .i64 (i : Int)] T (0, 0))) : Rd T w' q sv bs i := by
  obtain ⟨hp, hr, hi, hl, hsm, hne⟩ := h
  have hlt : 0 < bs.length → ∀ k, sv.ownBlock = some k → k < w.heap.size := by
    intro h0 k hk
    obtain ⟨ao, cap, rfl, hc⟩ := hr
    obtain ⟨b, off, rfl, hcell⟩ := hc h0
    simp [Value.ownBlock] at hk
    subst hk
    exact World.block_lt_of_cell? _ _ (hcell 0 _ (row_get .u8 bs 0 h0))
  refine ⟨hb, hr.frame' f (fun h0 k hk => hs k (hlt h0 k hk)), hi, hl, hsm, fun h0 e => ?_⟩
  have := hlt h0 _ e
  omega
theorem or_i64 (v d : Nat) (hv : v < 32768) (hd : d ≤ 1) : Go.bits .or .i64 ((v : Int) * 2) (d : Int) = ((2 * v + d : Nat) : Int) := by
  rw [show (v : Int) * 2 = ((2 * v : Nat) : Int) by omega]
  show IntKind.i64.wrap ((BitVec.ofInt 64 ((2 * v : Nat) : Int) ||| BitVec.ofInt 64 (d : Int)).toNat : Int) = _
  rw [BitVec.toNat_or, ofInt_u64 _ (by omega), ofInt_u64 _ (by omega), nat_join1 _ _ (by omega) (by omega), IntWalk.i64_in _ (by omega)]
theorem seek_miss {l : List Nat} {bits : List Bool} {n f : Nat} (hb : n ≤ bits.length) (h : findSym l n (num (bits.take n)) = none) : seekSym l bits n (f + 1) = seekSym l bits (n + 1) f := by
  rw [seekSym, if_neg (by omega), h]
theorem seek_hit {l : List Nat} {bits : List Bool} {n f s : Nat} (hb : n ≤ bits.length) (h : findSym l n (num (bits.take n)) = some s) : seekSym l bits n (f + 1) = some (s, n) := by
  rw [seekSym, if_neg (by omega), h]
theorem seek_short {l : List Nat} {bits : List Bool} {n f : Nat} (hb : bits.length < n) : seekSym l bits n (f + 1) = none := by
  rw [seekSym, if_pos hb]

set_option maxRecDepth 4000 in
set_option maxHeartbeats 800000 in
theorem takeC_any (p q : Nat) (sv : Value) (bs : List Nat) (i : Nat) (zs : List Int) (F : Nat → Prop) (w : World) (ht : Tab w p zs F) (hr : rightB zs = true) (h : Rd 124 w q sv bs i) (hap : ∀ k, F k → ¬ foot q sv k) :
    Calls Try.prog 64 #[.pointer (some ⟨p, 0, none⟩), .pointer (some ⟨q, 0, none⟩)] w fun e w' => e = .returned (.tuple #[.int .i64 (tkS (nats zs) ((unpack bs).drop i) : Nat), .bool (tkB (nats zs) ((unpack bs).drop i))]) ∧
      Rd 124 w' q sv bs (i + tkN (nats zs) ((unpack bs).drop i)) ∧ Fr w w' (fun k => k = q) := by
  obtain ⟨rfl, f, hb, hok⟩ := ht
  have hpq : p ≠ q := fun e => hap p rfl (.inl e)
  have hR := right_nats hr
  obtain ⟨l, hl⟩ : ∃ l, l = nats zs := ⟨_, rfl⟩
  rw [← hl] at hR hok ⊢
  obtain ⟨ao, le, cap, rfl⟩ : ∃ ao le cap, sv = .slice ao le cap := by
    obtain ⟨_, ⟨ao, cap, e, _⟩, _⟩ := h
    exact ⟨_, _, _, e⟩
  have c0 := two_cell0 h.1
  have c1 := two_cell1 h.1
  have hql := lt_of_block h.1
  have hib : i ≤ 8 * bs.length := h.2.2.1
  have hbl : bs.length ≤ 100000000000 := h.2.2.2.1
  have hq : Rd 124 (w.alloc (.cells #[.slice ao le cap, .int .i64 (i : Int)] 124)) w.heap.size (.slice ao le cap) bs i :=
    h.copyT ((Fr.refl w (fun _ => False)).alloc _) (fun _ _ h => h) (Nat.le_refl _) (heap_alloc_new w _)
  have hf0 : Fr w (w.alloc (.cells #[.slice ao le cap, .int .i64 (i : Int)] 124)) (fun _ => False) := (Fr.refl w (fun _ => False)).alloc _
  obtain ⟨bits, hbits⟩ : ∃ bits, bits = (unpack bs).drop i := ⟨_, rfl⟩
  rw [← hbits]
  have Hbits : Hid _ := hbits
  have Hbl : Hid (bits.length = 8 * bs.length - i) := by show _ = _; rw [hbits, List.length_drop, length_unpack]
  have HR : Hid _ := hR
  have Hok : Hid _ := hok
  have Hb : Hid (Blk w p 107 800 f) := hb
  have Hh : Hid (Rd 124 w q (.slice ao le cap) bs i) := h
  clear hR hok hb hl hr hap hbits h
  go_enter Try.func64, Try.ntmps64
  go_wp2_with fail
  generalize w.alloc (.cells #[.slice ao le cap, .int .i64 (i : Int)] 124) = wa at *
  obtain ⟨a, ha⟩ : ∃ a, a = w.heap.size := ⟨_, rfl⟩
  rw [← ha] at hq hql ⊢
  have Ha : Hid (a = w.heap.size) := ha
  have Hq : Hid (Rd 124 wa a (.slice ao le cap) bs i) := hq
  have Hf0 : Hid (Fr w wa (fun _ => False)) := hf0
  clear ha c0 c1 hq hf0
  go_loopg [7, 8, 9] 15 (fun g V P J wr => ∃ (j v pl : Nat), g = 16 - j ∧ 1 ≤ j ∧ j ≤ 16 ∧ J = .int .i64 (j : Int) ∧ V = .int .i64 (v : Int) ∧ P = .int .i64 (pl : Int) ∧ v = num (bits.take (j - 1)) ∧ pl = placeF (cntOf l) j ∧ firstF (cntOf l) j ≤ 2 * v ∧ j - 1 ≤ bits.length ∧ seekSym l bits j (16 - j) = takeSym l bits ∧ Rd 124 wr a (.slice ao le cap) bs (i + (j - 1)) ∧ Fr w wr (fun _ => False))
  case atStart => exact ⟨1, 0, 0, rfl, by omega, by omega, rfl, rfl, rfl, by simp [num, numFrom], rfl, by simp [firstF, cntOf, cntTo], by omega, rfl, Hq.out, Hf0.out⟩
  case round =>
    obtain ⟨j, v, pl, hg, hj1, hj16, rfl, rfl, rfl, hv, hpl, hfv, hjb, hsk, hrd, hf⟩ := hrel
    have Hg : Hid _ := hg
    have Hv : Hid _ := hv
    have Hpl : Hid _ := hpl
    have Hsk : Hid _ := hsk
    have Hfv : Hid _ := hfv
    have Hrd : Hid (Rd 124 wr a (.slice ao le cap) bs (i + (j - 1))) := hrd
    have Hf : Hid (Fr w wr (fun _ => False)) := hf
    have hvb : v < 32768 := by
      have h1 := num_lt (bits.take (j - 1))
      rw [← hv, List.length_take] at h1
      refine Nat.lt_of_lt_of_le h1 (Nat.le_trans (Nat.pow_le_pow_right (by omega) (by omega : min (j - 1) bits.length ≤ 15)) (by decide))
    have Hsm : Hid (∀ n, n < 16 → cntOf l n ≤ 256) := fun n _ => cntOf_le l HR.out.most n
    have hplb : pl ≤ 4096 := by
      have := placeF_small (cntOf l) Hsm.out j hj16
      omega
    clear hg hv hpl hsk hfv hrd hf
    have Hnone : Hid (∀ w1, Fr w w1 (fun _ => False) → takeSym l bits = none → tkS l bits = 0 ∧ tkB l bits = false ∧ Rd 124 w1 q (.slice ao le cap) bs (i + tkN l bits) ∧ Fr w w1 (fun k => k = q)) := fun w1 hf1 hn => by
      have e : tkN l bits = 0 := by unfold tkN; rw [hn]; rfl
      refine ⟨by unfold tkS; rw [hn]; rfl, by unfold tkB; rw [hn]; rfl, ?_, hf1.mono (fun _ _ h => h.elim)⟩
      rw [e, Nat.add_zero]
      exact Hh.out.frame hf1 (fun _ _ h => h)
    by_cases hj : j ≤ 15
    · have hj2 : (j : Int) ≤ 15 := by omega
      go_wp2_with fail
      have hw1 : wide 1 = 1 := by decide
      by_cases hlt : i + (j - 1) < 8 * bs.length
      · refine (take_yes a _ bs (i + (j - 1)) 1 wr Hrd.out (by rw [hw1]; omega)).mono ?_
        rintro e w1 ⟨rfl, hr1, hf1⟩
        rw [hw1] at hr1 ⊢
        have hV : num (((unpack bs).drop (i + (j - 1))).take 1) = (bitAt bs (i + (j - 1))).toNat := took_one bs _ _ (get_unpack bs _ hlt)
        rw [hV]
        have hbt : bits[j - 1]? = some (bitAt bs (i + (j - 1))) := by rw [Hbits.out, List.getElem?_drop, get_unpack bs _ hlt]
        have hnx := num_next bits (j - 1) _ hbt
        rw [show j - 1 + 1 = j by omega, ← Hv.out] at hnx
        obtain ⟨d, hd⟩ : ∃ d, d = (bitAt bs (i + (j - 1))).toNat := ⟨_, rfl⟩
        have hd1 : d ≤ 1 := by rw [hd]; cases bitAt bs (i + (j - 1)) <;> decide
        rw [← hd] at hnx ⊢
        clear hd hV hbt
        have hf1' := Hf.out.newer1 hf1 (by rw [Ha.out]; omega)
        have hor := or_i64 v d hvb hd1
        obtain ⟨c, hc⟩ : ∃ c, c = 2 * v + d := ⟨_, rfl⟩
        rw [← hc] at hor hnx
        obtain ⟨k, hk⟩ : ∃ k, k = i + j := ⟨_, rfl⟩
        rw [show i + (j - 1) + 1 = k by omega] at hr1
        have hfv := Hfv.out
        have hfb := firstF_small (cntOf l) Hsm.out j hj16
        have hcb := Hsm.out j (by omega)
        have Hb1 : Hid (Blk w1 p 107 800 f) := Hb.out.frame hf1' (fun h => h)
        have cf := Hb1.out.cell (784 + j) (by omega)
        have cn := Hb1.out.cell (768 + j) (by omega)
        rw [Hok.out.fst j (by omega)] at cf
        rw [Hok.out.cnt j (by omega)] at cn
        have hjl : j ≤ bits.length := by rw [Hbl.out]; omega
        have Hnx : Hid (num (bits.take j) = c) := hnx
        have Hfind : Hid (∀ x, x < cntOf l j → ∃ s, 0 < ln l s ∧ ln l s = j ∧ rk l s = placeF (cntOf l) j + x ∧ findSym l j (firstF (cntOf l) j + x) = some s) := fun x hx => find_some HR.out.ln (by omega) hx
        have Hmiss : Hid (firstF (cntOf l) j + cntOf l j ≤ c → findSym l j c = none) := fun hx => find_none HR.out.ln (by omega) hx
        have Hpn : Hid (placeF (cntOf l) (j + 1) = placeF (cntOf l) j + cntOf l j) := rfl
        have Hfn : Hid (firstF (cntOf l) (j + 1) = (firstF (cntOf l) j + cntOf l j) * 2) := rfl
        rw [← Hpl.out] at Hfind Hpn
        obtain ⟨fs, hfs⟩ : ∃ fs, fs = firstF (cntOf l) j := ⟨_, rfl⟩
        obtain ⟨cm, hcm⟩ : ∃ cm, cm = cntOf l j := ⟨_, rfl⟩
        rw [← hfs] at hfv hfb cf Hfind Hmiss Hfn
        rw [← hcm] at hcb cn Hfind Hmiss Hpn Hfn
        obtain ⟨x, hx⟩ : ∃ x, x = c - fs := ⟨_, rfl⟩
        have hs1 : (c : Int) - (fs : Int) = (x : Int) := by omega
        have hj3 : (j : Int) < 16 := by omega
        have Hc : Hid (c = fs + x) := by show _ = _; omega
        have hxb : x ≤ 65536 := by omega
        have hcb2 : c ≤ 65536 := by omega
        have Hk : Hid (k = i + j) := hk
        have Hr1 : Hid (Rd 124 w1 a (.slice ao le cap) bs k) := hr1
        have Hf1 : Hid (Fr w w1 (fun _ => False)) := hf1'
        have Hc2 : Hid (c = 2 * v + d) := hc
        clear hnx hfv hfs hcm hx hk hr1 hf1' hf1 hc
        by_cases hxc : x < cm
        · obtain ⟨s, hs0, hsj, hsr, hsf⟩ := Hfind.out x hxc
          have hm256 := rk_lt hs0
          have hmo := HR.out.most
          rw [hsr] at hm256
          obtain ⟨m, hm⟩ : ∃ m, m = pl + x := ⟨_, rfl⟩
          rw [← hm] at hm256 hsr
          have hadd : (pl : Int) + (x : Int) = (m : Int) := by omega
          have co : ∀ u v', ((w1.setCell ⟨q, 0, none⟩ u).setCell ⟨q, 1, none⟩ v').cell? ⟨p, 512 + m, none⟩ = some (.int .i64 (s : Int)) := fun u v' => by
            have hfr : Fr w1 ((w1.setCell ⟨q, 0, none⟩ u).setCell ⟨q, 1, none⟩ v') (fun k => k = q) := Fr.setCell (S := fun k => k = q) (Fr.setCell (S := fun k => k = q) (Fr.refl w1 _) ⟨q, 0, none⟩ (fun _ => rfl) u) ⟨q, 1, none⟩ (fun _ => rfl) v'
            have := (Hb1.out.frame hfr (fun h => hpq h)).cell (512 + m) (by omega)
            have e : f (512 + m) = s := by rw [← hsr]; exact Hok.out.ord s hs0
            rw [e] at this
            exact this
          have hm1 : (m : Int) < 256 := by omega
          have Htk : Hid (takeSym l bits = some (s, j)) := by
            show _ = _
            rw [← Hsk.out, show 16 - j = (15 - j) + 1 by omega]
            exact seek_hit hjl (by rw [Hnx.out, Hc.out]; exact hsf)
          clear hs0 hsj hsr hsf hm
          have c0 := two_cell0 Hr1.out.1
          have c1 := two_cell1 Hr1.out.1
          have hp2 : w1.heap[q]? = some (.cells #[.slice ao le cap, .int .i64 (i : Int)] 124 (0, 0)) := Hf1.out.kept Hh.out.1 (fun h => h)
          have Hp2 : Hid _ := hp2
          have d0 := two_cell0 hp2
          have d1 := two_cell1 hp2
          have f0 := two_free hp2 0
          have f1 := two_free hp2 1
          clear hp2
          go_wp2_with fail
          go_ret2
          have hfr : Fr w ((w1.setCell ⟨q, 0, none⟩ (.slice ao le cap)).setCell ⟨q, 1, none⟩ (.int .i64 (k : Int))) (fun k => k = q) :=
            Fr.setCell (S := fun k => k = q) (Fr.setCell (S := fun k => k = q) (Hf1.out.mono (fun _ _ h => h.elim)) ⟨q, 0, none⟩ (fun _ => rfl) _) ⟨q, 1, none⟩ (fun _ => rfl) _
          have eS : tkS l bits = s := by unfold tkS; rw [Htk.out]; rfl
          have eB : tkB l bits = true := by unfold tkB; rw [Htk.out]; rfl
          have eN : tkN l bits = j := by unfold tkN; rw [Htk.out]; rfl
          refine ⟨by rw [eS, eB]; rfl, ⟨?_, ?_⟩, hfr⟩
          · rw [eN, ← Hk.out]
            exact two_set1 (two_set0 Hp2.out)
          · obtain ⟨hb, hr, hi, hl, hs, hsp⟩ := Hh.out
            refine ⟨hr.frame' hfr (fun h0 k hk e => hsp h0 (by rw [hk, e])), ?_, hl, hs, hsp⟩
            rw [eN]
            omega
        · have hxc2 : ¬ (x : Int) < (cm : Int) := by omega
          have Hm : Hid (findSym l j c = none) := Hmiss.out (by rw [Hc.out]; omega)
          have Hsk2 : Hid (seekSym l bits (j + 1) (16 - (j + 1)) = takeSym l bits) := by
            show _ = _
            rw [← Hsk.out, show 16 - j = (16 - (j + 1)) + 1 by omega]
            exact (seek_miss hjl (by rw [Hnx.out]; exact Hm.out)).symm
          have hpb : pl + cm ≤ 8192 := by omega
          go_wp2_with fail
          go_roundg (16 - (j + 1))
          case rel => exact ⟨j + 1, c, pl + cm, rfl, by omega, by omega, by go_num, rfl, by go_num, by rw [show j + 1 - 1 = j by omega]; exact Hnx.out.symm, Hpn.out.symm, by rw [Hfn.out, Hc.out]; omega, by omega, Hsk2.out, by rw [show i + (j + 1 - 1) = k by rw [Hk.out]; omega]; exact Hr1.out, Hf1.out⟩
          case measure => rw [Hg.out]; omega
      · refine (take_nofr a _ bs (i + (j - 1)) 1 wr Hrd.out (by rw [hw1]; omega)).mono ?_
        rintro e w1 ⟨rfl, hr1, hf1⟩
        have hf1' := Hf.out.none hf1
        obtain ⟨e1, e2, hrr, hff⟩ := Hnone.out w1 hf1' (by
          rw [← Hsk.out, show 16 - j = (15 - j) + 1 by omega]
          exact seek_short (by rw [Hbl.out]; omega))
        have E1 : Hid _ := e1
        have E2 : Hid _ := e2
        have Hrr : Hid (Rd 124 w1 q (.slice ao le cap) bs (i + tkN l bits)) := hrr
        have Hff : Hid _ := hff
        clear e1 e2 hrr hff hr1 hf1 hf1'
        go_wp2_with fail
        go_ret2
        exact ⟨by rw [E1.out, E2.out]; rfl, Hrr.out, Hff.out⟩
    · obtain rfl : j = 16 := by omega
      obtain ⟨e1, e2, hrr, hff⟩ := Hnone.out wr Hf.out (by rw [← Hsk.out]; rfl)
      have E1 : Hid _ := e1
      have E2 : Hid _ := e2
      have Hrr : Hid (Rd 124 wr q (.slice ao le cap) bs (i + tkN l bits)) := hrr
      have Hff : Hid _ := hff
      clear e1 e2 hrr hff
      go_wp2_with fail
      go_ret2
      exact ⟨by rw [E1.out, E2.out]; rfl, Hrr.out, Hff.out⟩

end Go.Proofs.Ytclfbdfgmeliaaa
