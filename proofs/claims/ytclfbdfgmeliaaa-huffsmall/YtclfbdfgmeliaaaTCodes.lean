/-
  The contract of code.Codes.
-/
import Derived.Test.YtclfbdfgmeliaaaTFirsts
import Derived.Test.YtclfbdfgmeliaaaTRight
namespace Go.Proofs.Ytclfbdfgmeliaaa
open Go.RowKit

theorem cntOf_le (l : List Nat) (h : l.length ≤ 256) (n : Nat) : cntOf l n ≤ 256 := Nat.le_trans (cntTo_le l _ n) h

set_option maxRecDepth 4000 in
set_option maxHeartbeats 800000 in
theorem codesC_any (v : Value) (zs : List Int) (w : World) (h : ReadsZ w v zs) :
    Calls Try.prog 57 #[v] w fun e w' => ∃ sv, e = .returned sv ∧ Reads .i64 w' sv (codesZ zs) ∧ Fr w w' (fun _ => False) ∧ (∀ k, sv.ownBlock = some k → w.heap.size ≤ k) := by
  obtain ⟨a0, c0, rfl, hc0⟩ := h.form
  have Hz : Hid (ReadsZ w (.slice a0 zs.length c0) zs) := h
  obtain ⟨n, hn⟩ : ∃ n, n = zs.length := ⟨_, rfl⟩
  rw [← hn] at Hz hc0 ⊢
  have Hn : Hid _ := hn
  clear h hn
  go_enter Try.func57, Try.ntmps57
  go_wp2_with fail
  refine (rightC_any _ zs _ Hz.out).mono ?_
  rintro e w0 ⟨rfl, rfl⟩
  cases hr : rightB zs with
  | false =>
    have He : Hid (codesZ zs = []) := by show _ = _; unfold codesZ; rw [hr]; rfl
    go_wp2_with fail
    go_ret
    refine ⟨_, rfl, ?_, Fr.refl _ _, fun k hk => by simp [Value.ownBlock] at hk⟩
    rw [He.out]
    exact holds_own (World.ownsRow_nil w0 0 0 1)
  | true =>
    have Hcz : Hid (codesZ zs = fnRow n (codeOf (nats zs))) := by show _ = _; unfold codesZ; rw [if_pos hr, Hn.out]; rfl
    have hin := rightB_in hr
    have hn256 : n ≤ 256 := by rw [Hn.out]; exact rightB_len hr
    have Hin : Hid _ := hin
    have Hget : Hid _ := get_nats hin
    have H15 : Hid _ := nats_15 hin
    have Hln : Hid ((nats zs).length = n) := by show _ = _; rw [nats_length, ← Hn.out]
    have Hcl : Hid (∀ s, codeOf (nats zs) s < 32768) := fun s => by
      have hR := right_nats hr
      rcases Nat.eq_zero_or_pos (ln (nats zs) s) with h0 | h0
      · unfold codeOf; rw [if_pos h0]; decide
      · exact Nat.lt_of_lt_of_le (code_lt hR.ln hR.kraft h0) (Nat.le_trans (Nat.pow_le_pow_right (by omega) (hR.ln s)) (by decide))
    clear hr hin
    go_wp2_with fail
    refine (tallyC_any _ zs _ Hz.out Hin.out (by rw [← Hn.out]; exact hn256)).mono ?_
    rintro e w1 ⟨rfl, hf1⟩
    go_wp2_with fail
    refine (firstsC_any (cntOf (nats zs)) w1 (fun m _ => cntOf_le _ (by rw [Hln.out]; exact hn256) m)).mono ?_
    rintro e w2 ⟨rfl, hf2⟩
    replace hf2 := hf1.none hf2
    rw [← Hn.out] at Hget
    generalize nats zs = l at Hget H15 Hln Hcl Hcz ⊢
    unfold arr
    obtain ⟨A, hA⟩ : ∃ A, A = (row .i64 (fnRow 16 (firstF (cntOf l)))).toArray := ⟨_, rfl⟩
    rw [← hA]
    have Hth : Hid ((w2.alloc (.cells Z16 102)).there w2.heap.size 0 A.size) := by
      have := Blk.there (w := w2.alloc (.cells Z16 102)) (b := w2.heap.size) (t := 102) (n := 16) (f := fun _ => 0) (heap_alloc_new w2 _) 0 16 (by omega)
      have e : A.size = 16 := by rw [hA, List.size_toArray, frow_len]
      rw [e]
      exact this
    have Hsz : Hid ((Try.prog.info? 102).map (·.size) = some A.size) := by rw [hA, List.size_toArray, frow_len]; exact sizeLen
    have Hone : Hid (A.all (·.oneCell') = true) := by show _ = true; rw [hA]; exact frow_one _ _
    have HA : Hid _ := hA
    have HB3 : Hid (Blk ((w2.alloc (.cells Z16 102)).setCells w2.heap.size 0 A.toList) w2.heap.size 102 16 (firstF (cntOf l))) := by
      rw [hA]
      exact (Blk.setRow (w := w2.alloc (.cells Z16 102)) (n := 16) (f := fun _ => 0) (heap_alloc_new w2 _) 0 16 (firstF (cntOf l))).congr fun j hj => by rw [if_pos (by omega)]; rfl
    have Hf3 : Hid (Fr w2 ((w2.alloc (.cells Z16 102)).setCells w2.heap.size 0 A.toList) (fun _ => False)) := Fr.setCells _ (fun h => by omega) _ _ ((Fr.refl w2 _).alloc _)
    clear hf1 hA
    obtain ⟨i0, hi0, hz0, hz1, hz2⟩ := info_parts infoIntC
    go_wp2_with (first | (at_make; refine wpList_make_full _ rfl _ _ 28 rfl 0 3 i0 (.int .i64 0) 1 Try.underlying28 hi0 hz0 hz1 _ _ _ _ n rfl rfl rfl rfl ?b1 ?b2 (Nat.zero_le _) ?_) | refine wpList_store_mid rfl 102 (.tmp 3) (.tmp 12) rfl w2.heap.size 0 A rfl rfl Hth.out Hsz.out Hone.out ?_)
    case b1 => rw [hz2]; omega
    case b2 => unfold maxLen; omega
    rw [z16]
    generalize (w2.alloc (.cells Z16 102)).setCells w2.heap.size 0 A.toList = w3 at HB3 Hf3 ⊢
    intro wm hown hgrow
    rw [zeros_fnRow] at hown
    have hfm : Fr w3 wm (fun _ => False) := (Fr.refl w3 _).grown hgrow (fun k hk => by cases hk)
    obtain ⟨g, hg⟩ : ∃ g, g = w3.heap.size := ⟨_, rfl⟩
    obtain ⟨b, hb⟩ : ∃ b, b = w2.heap.size := ⟨_, rfl⟩
    rw [← hg] at hown ⊢
    rw [← hb] at HB3 ⊢
    have hbl := HB3.out.lt
    have Hbg : Hid (b ≠ g) := by show _ ≠ _; omega
    have Hbw : Hid (w0.heap.size ≤ b) := by show _ ≤ _; have := hf2.size; omega
    have Hgw : Hid (w0.heap.size ≤ g) := by show _ ≤ _; have := hf2.size; have := Hf3.out.size; omega
    have Hb0 : Hid (Blk wm b 102 16 (fun m => firstF (cntOf l) m + cntTo l 0 m)) := (HB3.out.frame hfm (fun h => h)).congr fun j _ => by rw [cntTo_zero]; rfl
    have Hown : Hid (OwnC wm (.slice (some ⟨g, 0, none⟩) n n) (fnRow n (fun t => if t < 0 then codeOf l t else 0))) := by
      have e : fnRow n (fun t => if t < 0 then codeOf l t else 0) = fnRow n (fun _ => 0) := fnRow_congr n fun t _ => by rw [if_neg (by omega)]
      rw [e]
      unfold OwnC
      rw [fnRow_length]
      exact hown
    have Hf0 : Hid (Fr w0 wm (fun _ => False)) := (hf2.none Hf3.out).none hfm
    clear hown hgrow hfm hg hb hbl HB3 Hf3 hf2 Hth Hone HA Hsz hi0 hz0 hz1 hz2
    go_wp2_with fail
    go_loopg [18] n (fun g' I wr => ∃ i : Nat, g' = n - i ∧ i ≤ n ∧ I = .int .i64 (i : Int) ∧ OwnC wr (.slice (some ⟨g, 0, none⟩) n n) (fnRow n (fun t => if t < i then codeOf l t else 0)) ∧ Blk wr b 102 16 (fun m => firstF (cntOf l) m + cntTo l i m) ∧ Fr w0 wr (fun _ => False))
    case atStart => exact ⟨0, rfl, by omega, rfl, Hown.out, Hb0.out, Hf0.out⟩
    case round =>
      obtain ⟨i, hg', hi, rfl, ho, hb, hf⟩ := hrel
      have Hg' : Hid _ := hg'
      have Ho : Hid (OwnC wr (.slice (some ⟨g, 0, none⟩) n n) (fnRow n (fun t => if t < i then codeOf l t else 0))) := ho
      have Hb : Hid (Blk wr b 102 16 (fun m => firstF (cntOf l) m + cntTo l i m)) := hb
      have Hf : Hid (Fr w0 wr (fun _ => False)) := hf
      clear hg' ho hb hf
      by_cases hlt : i < n
      · obtain ⟨bx, off, cp, e, hb0, kx⟩ := (Hz.out.keep Hf.out).get i _ (Hget.out i hlt)
        simp only [Value.slice.injEq] at e
        obtain ⟨rfl, -, rfl⟩ := e
        have cx := kx _ (Fr.refl _ _)
        have hi1 : (i : Int) < (n : Int) := by omega
        clear kx hb0
        obtain ⟨y, hy⟩ : ∃ y, y = ln l i := ⟨_, rfl⟩
        have hy15 := H15.out i
        rw [← hy] at cx hy15
        have Hst : Hid (∀ m, cntTo l (i + 1) m = cntTo l i m + if y = m ∧ 0 < m then 1 else 0) := fun m => by rw [hy]; exact cntTo_step l i m (by rw [Hln.out]; exact hlt)
        have Hcode : Hid (codeOf l i = if y = 0 then 0 else firstF (cntOf l) y + cntTo l i y) := by
          show _ = _
          by_cases h0 : y = 0
          · rw [if_pos h0]; unfold codeOf; rw [← hy, if_pos h0]
          · rw [if_neg h0, hy]; exact code_cnt H15.out (by omega)
        clear hy
        by_cases hy0 : 0 < y
        · have hcl := Hcl.out i
          have hcode := Hcode.out
          rw [if_neg (by omega)] at hcode
          have cb := Hb.out.cell y (by omega)
          rw [← hcode] at cb
          have hoc := Ho.out
          unfold OwnC at hoc
          rw [fnRow_length] at hoc
          have hfz := World.ownsRow.frozenAt hoc i
          have hce : wr.cell? ⟨g, i, none⟩ = some (.int .i64 (0 : Int)) := by
            rw [World.ownsRow.cellAt hoc i (by omega)]
            simp [row, fnRow, hlt]
          have Hst2 : Hid (OwnC (wr.setCell ⟨g, i, none⟩ (.int .i64 ((codeOf l i : Nat) : Int))) (.slice (some ⟨g, 0, none⟩) n n) (fnRow n (fun t => if t < i + 1 then codeOf l t else 0))) := by
            have := (World.ownsRow.stored hoc i (.int .i64 ((codeOf l i : Nat) : Int))).1
            unfold OwnC
            rw [fnRow_length]
            have e : (fnRow n (fun t => if t < i then codeOf l t else 0)).set i (codeOf l i) = fnRow n (fun t => if t < i + 1 then codeOf l t else 0) := fnRow_set n _ _ i _ (by rw [if_pos (by omega)]) (fun t ht => by
              by_cases h2 : t < i
              · rw [if_pos h2, if_pos (by omega)]
              · rw [if_neg h2, if_neg (by omega)])
            rw [← e, row_set]
            exact this
          have Hb2 : Hid (∀ v, Blk (wr.setCell ⟨g, i, none⟩ v) b 102 16 (fun m => firstF (cntOf l) m + cntTo l i m)) := fun v => Hb.out.frame (Fr.setCell (S := fun k => k = g) (Fr.refl wr _) ⟨g, i, none⟩ (fun _ => rfl) v) Hbg.out
          have cb2 : ∀ v, (wr.setCell ⟨g, i, none⟩ v).cell? ⟨b, y, none⟩ = some (.int .i64 ((codeOf l i : Nat) : Int)) := fun v => by rw [hcode]; exact (Hb2.out v).cell y (by omega)
          have fb2 : ∀ v, (wr.setCell ⟨g, i, none⟩ v).frozen? ⟨b, y, none⟩ = false := fun v => (Hb2.out v).free y
          have Hb3 : Hid (Blk ((wr.setCell ⟨g, i, none⟩ (.int .i64 ((codeOf l i : Nat) : Int))).setCell ⟨b, y, none⟩ (.int .i64 ((codeOf l i + 1 : Nat) : Int))) b 102 16 (fun m => firstF (cntOf l) m + cntTo l (i + 1) m)) := ((Hb2.out _).set y (codeOf l i + 1)).congr fun m _ => by
            unfold upd
            rw [Hst.out m]
            by_cases hm : m = y
            · subst hm; rw [if_pos rfl, if_pos ⟨rfl, hy0⟩, hcode]; omega
            · rw [if_neg hm, if_neg (fun h => hm h.1.symm)]; rfl
          have Ho3 : Hid (OwnC ((wr.setCell ⟨g, i, none⟩ (.int .i64 ((codeOf l i : Nat) : Int))).setCell ⟨b, y, none⟩ (.int .i64 ((codeOf l i + 1 : Nat) : Int))) (.slice (some ⟨g, 0, none⟩) n n) (fnRow n (fun t => if t < i + 1 then codeOf l t else 0))) := by
            refine Fr.owns (Fr.setCell (S := fun k => k = b) (Fr.refl _ _) ⟨b, y, none⟩ (fun _ => rfl) _) Hst2.out (fun k hk => ?_)
            simp [Value.ownBlock] at hk
            subst hk
            exact fun h => Hbg.out h.symm
          have Hf3 : Hid (Fr w0 ((wr.setCell ⟨g, i, none⟩ (.int .i64 ((codeOf l i : Nat) : Int))).setCell ⟨b, y, none⟩ (.int .i64 ((codeOf l i + 1 : Nat) : Int))) (fun _ => False)) :=
            (Hf.out.setCell ⟨g, i, none⟩ (fun h => by have := Hgw.out; simp at h; omega) _).setCell ⟨b, y, none⟩ (fun h => by have := Hbw.out; simp at h; omega) _
          generalize codeOf l i = c at hcl cb cb2 Hb3 Ho3 Hf3
          have hcw : IntKind.i64.wrap ((c : Int) + 1) = ((c + 1 : Nat) : Int) := by rw [IntWalk.i64_in _ (by omega)]; omega
          have hy1 : (y : Int) < 16 := by omega
          have hy2 : (0 : Int) < (y : Int) := by omega
          clear hcode hoc Hst2
          go_wp2_with fail
          go_roundg (n - (i + 1))
          case rel => exact ⟨i + 1, rfl, by omega, by go_num, Ho3.out, Hb3.out, Hf3.out⟩
          case measure => rw [Hg'.out]; omega
        · have hy2 : ¬ (0 : Int) < (y : Int) := by omega
          have Ho2 : Hid (OwnC wr (.slice (some ⟨g, 0, none⟩) n n) (fnRow n (fun t => if t < i + 1 then codeOf l t else 0))) := by
            have e : fnRow n (fun t => if t < i then codeOf l t else 0) = fnRow n (fun t => if t < i + 1 then codeOf l t else 0) := fnRow_congr n fun t _ => by
              by_cases h2 : t < i
              · rw [if_pos h2, if_pos (by omega)]
              · rw [if_neg h2]
                by_cases h3 : t = i
                · subst h3; rw [if_pos (by omega), Hcode.out, if_pos (by omega)]
                · rw [if_neg (by omega)]
            rw [← e]
            exact Ho.out
          have Hb2 : Hid (Blk wr b 102 16 (fun m => firstF (cntOf l) m + cntTo l (i + 1) m)) := Hb.out.congr fun m _ => by rw [Hst.out m, if_neg (by omega)]; rfl
          go_wp2_with fail
          go_roundg (n - (i + 1))
          case rel => exact ⟨i + 1, rfl, by omega, by go_num, Ho2.out, Hb2.out, Hf.out⟩
          case measure => rw [Hg'.out]; omega
      · have hie : i = n := by omega
        have hi1 : ¬ (i : Int) < (n : Int) := by omega
        have Hrow : Hid (fnRow n (fun t => if t < i then codeOf l t else 0) = fnRow n (codeOf l)) := fnRow_congr n fun t ht => by rw [if_pos (by omega)]
        clear hie
        go_wp2_with fail
        go_ret
        refine ⟨_, rfl, ?_, Hf.out, fun k hk => by simp [Value.ownBlock] at hk; rw [← hk]; exact Hgw.out⟩
        rw [Hcz.out, ← Hrow.out]
        exact holds_own Ho.out

end Go.Proofs.Ytclfbdfgmeliaaa
