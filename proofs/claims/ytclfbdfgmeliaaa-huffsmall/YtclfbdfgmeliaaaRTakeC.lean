/-
  The contract of the reference's TakeCode.
-/
import Derived.Test.YtclfbdfgmeliaaaRCodes
import Derived.Test.YtclfbdfgmeliaaaBRefRead
import Derived.Test.YtclfbdfgmeliaaaBStr
namespace Go.Proofs.Ytclfbdfgmeliaaa
open Go.RowKit

/-- What is taken: the symbol, whether there is one, how many bits. -/
def tkS (l : List Nat) (bits : List Bool) : Nat := ((takeSym l bits).map (·.1)).getD 0
def tkB (l : List Nat) (bits : List Bool) : Bool := (takeSym l bits).isSome
def tkN (l : List Nat) (bits : List Bool) : Nat := ((takeSym l bits).map (·.2)).getD 0

theorem num_next (l : List Bool) (k : Nat) (b : Bool) (h : l[k]? = some b) : num (l.take (k + 1)) = 2 * num (l.take k) + b.toNat := by
  rw [List.take_add_one, h]
  exact num_snoc _ _
theorem took_one (bs : List Nat) (i : Nat) (b : Bool) (h : (unpack bs)[i]? = some b) : num (((unpack bs).drop i).take 1) = b.toNat := by
  have e : ((unpack bs).drop i)[0]? = some b := by rw [List.getElem?_drop]; simpa using h
  rw [num_next _ 0 b e]
  simp [num, numFrom]

set_option maxRecDepth 4000 in
set_option maxHeartbeats 800000 in
theorem refTakeCode_any (p : Nat) (sv : Value) (bs : List Nat) (i : Nat) (vl vc : Value) (zs : List Int) (w : World) (h : Rd 63 w p sv bs i) (hz : ReadsZ w vl zs) (hin : inZ zs = true) (hlen : zs.length ≤ 256) (hc : Reads .i64 w vc (fnRow zs.length (codeOf (nats zs)))) (hlp : ∀ k, vl.ownBlock = some k → k ≠ p) (hcp : ∀ k, vc.ownBlock = some k → k ≠ p) :
    Calls Try.prog 31 #[.pointer (some ⟨p, 0, none⟩), vl, vc] w fun e w' => e = .returned (.tuple #[.int .i64 (tkS (nats zs) ((unpack bs).drop i) : Nat), .bool (tkB (nats zs) ((unpack bs).drop i))]) ∧
      Rd 63 w' p sv bs (i + tkN (nats zs) ((unpack bs).drop i)) ∧ Fr w w' (fun k => k = p) := by
  have hback := nats_back hin
  obtain ⟨l, hl⟩ : ∃ l, l = nats zs := ⟨_, rfl⟩
  rw [← hl] at hback hc ⊢
  have hln : l.length = zs.length := by rw [hl, nats_length]
  have h15 : ∀ s, ln l s ≤ 15 := fun s => by
    unfold ln
    rw [List.getD_eq_getElem?_getD]
    cases hs : l[s]? with
    | none => simp
    | some n =>
      have hm := List.mem_of_getElem? hs
      rw [hl] at hm
      obtain ⟨z, hz, rfl⟩ := List.mem_map.1 hm
      have := List.all_eq_true.1 hin z hz
      simp at this
      simp
      omega
  obtain ⟨a0, c0, rfl, hc0⟩ := hz.form
  obtain ⟨a1, c1, rfl, hc1, -⟩ := id hc
  rw [length_row, fnRow_length] at hc hc1 hcp ⊢
  obtain ⟨n, hn⟩ : ∃ n, n = zs.length := ⟨_, rfl⟩
  rw [← hn] at hz hlen hc hc0 hc1 hln hlp hcp ⊢
  have Hget : Hid (∀ s, s < n → zs[s]? = some ((ln l s : Nat) : Int)) := fun s hs => by
    rw [← hback, List.getElem?_map]
    unfold ln
    rw [List.getD_eq_getElem?_getD, List.getElem?_eq_getElem (by omega)]
    rfl
  have Hz : Hid (∀ x, Fr w x (fun k => k = p) → ∀ s, s < n → ∃ b off, a0 = some ⟨b, off, none⟩ ∧ x.cell? ⟨b, off + s, none⟩ = some (.int .i64 ((ln l s : Nat) : Int))) := fun x hx s hs => by
    obtain ⟨b', off', cp', e', hb', k'⟩ := ReadsZ.get (Holds.frame hz hx (fun k hk => hlp k hk)) s _ (Hget.out s hs)
    simp only [Value.slice.injEq] at e'
    exact ⟨b', off', e'.1, k' x (Fr.refl _ _)⟩
  have Hc : Hid (∀ x, Fr w x (fun k => k = p) → ∀ s, s < n → ∃ b off, a1 = some ⟨b, off, none⟩ ∧ x.cell? ⟨b, off + s, none⟩ = some (.int .i64 ((codeOf l s : Nat) : Int))) := fun x hx s hs => by
    obtain ⟨a', c', e, -, k⟩ := hc.frame hx (fun k hk => hcp k hk)
    simp only [Value.slice.injEq] at e
    obtain ⟨b, off, e2, k⟩ := k (by rw [length_row, fnRow_length]; omega)
    refine ⟨b, off, by rw [e.1, e2], ?_⟩
    have h1 := k s _ (row_get .i64 _ s (by rw [fnRow_length]; exact hs))
    rw [List.getD_eq_getElem?_getD, fnRow_get n _ s hs] at h1
    exact h1
  have H15 : Hid _ := h15
  have Hln : Hid _ := hln
  have Hr : Hid (Rd 63 w p sv bs i) := h
  have hib : i ≤ 8 * bs.length := h.2.2.1
  have hbl : bs.length ≤ 100000000000 := h.2.2.2.1
  obtain ⟨bits, hbits⟩ : ∃ bits, bits = (unpack bs).drop i := ⟨_, rfl⟩
  rw [← hbits]
  have Hbits : Hid _ := hbits
  have Hbl : Hid (bits.length = 8 * bs.length - i) := by show _ = _; rw [hbits, List.length_drop, length_unpack]
  clear hback hl hz hin hc hlp hcp h15 hln h hbits hn
  have hat := two_cell1 Hr.out.1
  go_enter Try.func31, Try.ntmps31
  go_wp2_with fail
  go_loopg [9, 10] 15 (fun g V J wr => ∃ (j v : Nat), g = 16 - j ∧ 1 ≤ j ∧ j ≤ 16 ∧ J = .int .i64 (j : Int) ∧ V = .int .i64 (v : Int) ∧ v = num (bits.take (j - 1)) ∧ j - 1 ≤ bits.length ∧ seekSym l bits j (16 - j) = takeSym l bits ∧ Rd 63 wr p sv bs (i + (j - 1)) ∧ Fr w wr (fun k => k = p))
  case atStart => exact ⟨1, 0, rfl, by omega, by omega, rfl, rfl, by simp [num, numFrom], by omega, rfl, Hr.out, Fr.refl _ _⟩
  case round =>
    obtain ⟨j, v, hg, hj1, hj16, rfl, rfl, hv, hjb, hsk, hrd, hf⟩ := hrel
    have Hg : Hid _ := hg
    have Hv : Hid _ := hv
    have Hsk : Hid _ := hsk
    have Hrd : Hid (Rd 63 wr p sv bs (i + (j - 1))) := hrd
    have Hf : Hid _ := hf
    have hvb : v < 32768 := by
      have h1 := num_lt (bits.take (j - 1))
      rw [← hv, List.length_take] at h1
      refine Nat.lt_of_lt_of_le h1 (Nat.le_trans (Nat.pow_le_pow_right (by omega) (by omega : min (j - 1) bits.length ≤ 15)) (by decide))
    clear hg hv hsk hrd hf
    have Hback : Hid (∀ w1, Rd 63 w1 p sv bs (i + (j - 1)) → Fr w w1 (fun k => k = p) → takeSym l bits = none → tkS l bits = 0 ∧ tkB l bits = false ∧ Rd 63 (w1.setCell ⟨p, 1, none⟩ (.int .i64 (i : Int))) p sv bs (i + tkN l bits) ∧ Fr w (w1.setCell ⟨p, 1, none⟩ (.int .i64 (i : Int))) (fun k => k = p)) := fun w1 hr1 hf1 hn => by
      have e : tkN l bits = 0 := by unfold tkN; rw [hn]; rfl
      refine ⟨by unfold tkS; rw [hn]; rfl, by unfold tkB; rw [hn]; rfl, ?_, hf1.setCell ⟨p, 1, none⟩ (fun _ => rfl) _⟩
      rw [e, Nat.add_zero]
      obtain ⟨hp, hr, _, hl, hsm, hne⟩ := hr1
      exact ⟨two_set1 hp, hr.frame' (Fr.setCell (S := fun k => k = p) (Fr.refl w1 _) ⟨p, 1, none⟩ (fun _ => rfl) _) (fun h0 k hk e => hne h0 (by rw [hk, e])), hib, hl, hsm, hne⟩
    by_cases hj : j ≤ 15
    · have hj2 : (j : Int) ≤ 15 := by omega
      go_wp2_with fail
      refine (refTake_all p sv bs (i + (j - 1)) 1 wr Hrd.out).mono ?_
      rintro e w1 ⟨rfl, hr1, hf1⟩
      have hf1' := Hf.out.trans hf1 (fun _ _ h => h)
      have hw1 : wide 1 = 1 := by decide
      by_cases hlt : i + (j - 1) < 8 * bs.length
      · rw [show tookB bs (i + (j - 1)) 1 = true by unfold tookB; rw [hw1]; exact decide_eq_true (by omega)]
        have hV : tookV bs (i + (j - 1)) 1 = (bitAt bs (i + (j - 1))).toNat := by
          unfold tookV
          rw [hw1, if_pos (by omega)]
          exact took_one bs _ _ (get_unpack bs _ hlt)
        have hI : tookI bs (i + (j - 1)) 1 = i + (j - 1) + 1 := by unfold tookI; rw [hw1, if_pos (by omega)]
        rw [hV]
        rw [hI] at hr1
        have hbt : bits[j - 1]? = some (bitAt bs (i + (j - 1))) := by rw [Hbits.out, List.getElem?_drop, get_unpack bs _ hlt]
        have hv2 := num_next bits (j - 1) _ hbt
        rw [← Hv.out, show j - 1 + 1 = j by omega] at hv2
        obtain ⟨c, hc⟩ : ∃ c, c = (bitAt bs (i + (j - 1))).toNat := ⟨_, rfl⟩
        have hc1 : c ≤ 1 := by rw [hc]; cases bitAt bs (i + (j - 1)) <;> decide
        rw [← hc] at hv2 ⊢
        have Hr1 : Hid (Rd 63 w1 p sv bs (i + j)) := by rw [show i + j = i + (j - 1) + 1 by omega]; exact hr1
        have Hf1 : Hid _ := hf1'
        obtain ⟨u, hu⟩ : ∃ u, u = 2 * v + c := ⟨_, rfl⟩
        have Hu : Hid (u = num (bits.take j)) := by show _ = _; rw [hu]; exact hv2.symm
        have hub : u < 65536 := by omega
        have wc1 : IntKind.i64.wrap (c : Int) = (c : Int) := IntWalk.i64_in _ (by omega)
        have wv2 : IntKind.i64.wrap (2 * (v : Int)) = 2 * (v : Int) := IntWalk.i64_in _ (by omega)
        have wu : IntKind.i64.wrap (2 * (v : Int) + (c : Int)) = (u : Int) := by rw [IntWalk.i64_in _ (by omega)]; omega
        have Hlj : Hid (j ≤ bits.length) := by show _ ≤ _; rw [Hbl.out]; omega
        have Hstep : Hid (seekSym l bits j (16 - j) = match findSym l j u with
            | some s => some (s, j)
            | none => seekSym l bits (j + 1) (16 - (j + 1))) := by
          show _ = _
          rw [show 16 - j = 16 - (j + 1) + 1 by omega, seekSym, if_neg (by have := Hlj.out; omega), ← Hu.out]
          cases findSym l j u <;> rfl
        clear hr1 hf1 hf1' hV hI hbt hv2 hc hw1
        go_wp2_with fail
        have hue : 2 * (v : Int) + (c : Int) = (u : Int) := by omega
        rw [hue]
        clear wc1 wv2 wu hu hue
        go_loopg [13] n (fun g S wi => ∃ s : Nat, g = n - s ∧ s ≤ n ∧ S = .int .i64 (s : Int) ∧ ((List.range s).find? fun s => ln l s == j && codeOf l s == u) = none ∧ wi = w1)
        case atStart => exact ⟨0, rfl, by omega, rfl, rfl, rfl⟩
        case round =>
          obtain ⟨s, hgs, hs, rfl, hno, rfl⟩ := hrel
          have Hgs : Hid _ := hgs
          have Hno : Hid _ := hno
          clear hgs hno
          by_cases hsn : s < n
          · obtain ⟨b0, o0, rfl, cl⟩ := Hz.out _ Hf1.out s hsn
            obtain ⟨b1, o1, rfl, cc⟩ := Hc.out _ Hf1.out s hsn
            obtain ⟨y, hy⟩ : ∃ y, y = ln l s := ⟨_, rfl⟩
            obtain ⟨d, hd⟩ : ∃ d, d = codeOf l s := ⟨_, rfl⟩
            rw [← hy] at cl
            rw [← hd] at cc
            have Hy : Hid _ := hy
            have Hd : Hid _ := hd
            have hs1 : (s : Int) < (n : Int) := by omega
            have Hno2 : Hid ((y == j && d == u) = false → ((List.range (s + 1)).find? fun s => ln l s == j && codeOf l s == u) = none) := fun e => by
              rw [List.range_succ, List.find?_append, Hno.out]
              simp [← Hy.out, ← Hd.out, e]
            clear hy hd
            by_cases hyj : y = j
            · subst hyj
              by_cases hdu : d = u
              · subst hdu
                have hfs := findSym_is H15.out (n := y) (v := d) (s := s) (by omega) Hy.out.symm Hd.out.symm
                have htk : takeSym l bits = some (s, y) := by rw [← Hsk.out, Hstep.out, hfs]
                have Hres : Hid (tkS l bits = s ∧ tkB l bits = true ∧ tkN l bits = y) := by
                  show _ ∧ _ ∧ _
                  unfold tkS tkB tkN
                  rw [htk]
                  exact ⟨rfl, rfl, rfl⟩
                clear hfs htk
                go_wp2_with fail
                go_ret2
                obtain ⟨e1, e2, e3⟩ := Hres.out
                rw [e1, e2, e3]
                exact ⟨rfl, Hr1.out, Hf1.out⟩
              · have hdu2 : ((d : Int) == (u : Int)) = false := by rw [beq_eq_false_iff_ne]; omega
                have Hno3 := Hno2.out (by simp [hdu])
                have Hno4 : Hid _ := Hno3
                clear Hno3
                go_wp2_with fail
                go_roundg (n - (s + 1))
                case rel => exact ⟨s + 1, rfl, by omega, by go_num, Hno4.out, rfl⟩
                case measure => rw [Hgs.out]; omega
            · have hyj2 : ((y : Int) == (j : Int)) = false := by rw [beq_eq_false_iff_ne]; omega
              have Hno3 := Hno2.out (by simp [hyj])
              have Hno4 : Hid _ := Hno3
              clear Hno3
              go_wp2_with fail
              go_roundg (n - (s + 1))
              case rel => exact ⟨s + 1, rfl, by omega, by go_num, Hno4.out, rfl⟩
              case measure => rw [Hgs.out]; omega
          · have hse : s = n := by omega
            have hs1 : ¬ (s : Int) < (n : Int) := by omega
            have hfs : findSym l j u = none := by unfold findSym; rw [Hln.out, ← hse]; exact Hno.out
            have Hsk2 : Hid (seekSym l bits (j + 1) (16 - (j + 1)) = takeSym l bits) := by
              have := Hstep.out
              rw [hfs, Hsk.out] at this
              exact this.symm
            clear hfs hse
            go_wp2_with fail
            go_roundg (16 - (j + 1))
            case rel => exact ⟨j + 1, u, rfl, by omega, by omega, by go_num, rfl, by rw [Nat.add_sub_cancel]; exact Hu.out, by rw [Nat.add_sub_cancel]; exact Hlj.out, Hsk2.out, by rw [Nat.add_sub_cancel]; exact Hr1.out, Hf1.out⟩
            case measure => rw [Hg.out]; omega
      · have hno : takeSym l bits = none := by
          rw [← Hsk.out, show 16 - j = 16 - (j + 1) + 1 by omega, seekSym, if_pos (by rw [Hbl.out]; omega)]
        rw [show tookB bs (i + (j - 1)) 1 = false by unfold tookB; rw [hw1]; exact decide_eq_false (by omega)]
        have hI : tookI bs (i + (j - 1)) 1 = i + (j - 1) := by unfold tookI; rw [hw1, if_neg (by omega)]
        rw [hI] at hr1
        have Hend : Hid _ := Hback.out w1 hr1 hf1' hno
        have hfz : w1.frozen? ⟨p, 1, none⟩ = false := two_free hr1.1 1
        have hcz := two_cell1 hr1.1
        clear hr1 hf1 hf1' hno hI hw1
        go_wp2_with fail
        go_ret2
        obtain ⟨e1, e2, e3, e4⟩ := Hend.out
        rw [e1, e2]
        exact ⟨rfl, e3, e4⟩
    · obtain rfl : j = 16 := by omega
      have hno : takeSym l bits = none := by rw [← Hsk.out]; rfl
      have Hend : Hid _ := Hback.out wr Hrd.out Hf.out hno
      have hfz : wr.frozen? ⟨p, 1, none⟩ = false := two_free Hrd.out.1 1
      have hcz := two_cell1 Hrd.out.1
      clear hno
      go_wp2_with fail
      go_ret2
      obtain ⟨e1, e2, e3, e4⟩ := Hend.out
      rw [e1, e2]
      exact ⟨rfl, e3, e4⟩

end Go.Proofs.Ytclfbdfgmeliaaa
