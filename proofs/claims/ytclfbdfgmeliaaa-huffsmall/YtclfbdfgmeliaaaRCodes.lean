/-
  The contract of the reference's Codes.
-/
import Derived.Test.YtclfbdfgmeliaaaRRight
import Derived.Test.YtclfbdfgmeliaaaFRow
namespace Go.Proofs.Ytclfbdfgmeliaaa
open Go.RowKit

theorem infoIntC : (Try.prog.info? 3).map (fun i => (i.zero, i.size, i.bytes)) = some (some (.int .i64 0), 1, 8) := by kernel_rfl
theorem zeros_fnRow (n : Nat) : (madeCells #[Value.int .i64 0] n).toList = row .i64 (fnRow n (fun _ => 0)) := by
  rw [toList_madeCells_one]
  apply List.ext_getElem?
  intro t
  simp only [row, fnRow, List.map_map, List.getElem?_map]
  by_cases ht : t < n
  · simp [ht]
  · simp [ht]

theorem fnRow_congr (n : Nat) {f f' : Nat → Nat} (h : ∀ t, t < n → f t = f' t) : fnRow n f = fnRow n f' := by
  unfold fnRow
  apply List.map_congr_left
  intro t ht
  exact h t (List.mem_range.1 ht)

/-- The codes of the symbols that are ahead. -/
def codesTo (l : List Nat) (n s t : Nat) : Nat := if Ahd l n s t then codeOf l t else 0

set_option maxRecDepth 4000 in
set_option maxHeartbeats 800000 in
theorem refCodes_any (v : Value) (zs : List Int) (w : World) (h : ReadsZ w v zs) :
    Calls Try.prog 19 #[v] w fun e w' => ∃ sv, e = .returned sv ∧ Reads .i64 w' sv (codesZ zs) ∧ Fr w w' (fun _ => False) ∧ (∀ k, sv.ownBlock = some k → w.heap.size ≤ k) := by
  obtain ⟨a0, c0, rfl, hc0⟩ := h.form
  have Hz : Hid (ReadsZ w (.slice a0 zs.length c0) zs) := h
  obtain ⟨n, hn⟩ : ∃ n, n = zs.length := ⟨_, rfl⟩
  rw [← hn] at Hz hc0 ⊢
  have Hn : Hid _ := hn
  clear h hn
  go_enter Try.func19, Try.ntmps19
  go_wp2_with fail
  refine (refRight_any _ zs _ Hz.out).mono ?_
  rintro e w1 ⟨rfl, hf1⟩
  have Hz1 : Hid (ReadsZ w1 (.slice a0 n c0) zs) := Hz.out.keep hf1
  cases hr : rightB zs with
  | false =>
    have He : Hid (codesZ zs = []) := by show _ = _; unfold codesZ; rw [hr]; rfl
    go_wp2_with fail
    go_ret
    refine ⟨_, rfl, ?_, hf1, fun k hk => by simp [Value.ownBlock] at hk⟩
    rw [He.out]
    exact holds_own (World.ownsRow_nil w1 0 0 1)
  | true =>
    have Hcz : Hid (codesZ zs = fnRow n (codeOf (nats zs))) := by show _ = _; unfold codesZ; rw [if_pos hr, Hn.out]; rfl
    have hR := right_nats hr
    have hback := nats_back (rightB_in hr)
    obtain ⟨l, hl⟩ : ∃ l, l = nats zs := ⟨_, rfl⟩
    rw [← hl] at hR Hcz hback
    have hln : l.length = n := by rw [hl, nats_length, Hn.out]
    have Hln : Hid _ := hln
    have HR : Hid _ := hR
    have Hget : Hid (∀ s, s < n → zs[s]? = some ((ln l s : Nat) : Int)) := fun s hs => by
      rw [← hback, List.getElem?_map]
      unfold ln
      rw [List.getD_eq_getElem?_getD, List.getElem?_eq_getElem (by omega)]
      rfl
    have hn256 : n ≤ 256 := by have := hR.most; omega
    clear hR hback hl hln hr
    obtain ⟨i0, hi0, hz0, hz1, hz2⟩ := info_parts infoIntC
    go_wp2_with (at_make; refine wpList_make_full _ rfl _ _ 28 rfl 0 3 i0 (.int .i64 0) 1 Try.underlying28 hi0 hz0 hz1 _ _ _ _ n rfl rfl rfl rfl ?b1 ?b2 (Nat.zero_le _) ?_)
    case b1 => rw [hz2]; omega
    case b2 => unfold maxLen; omega
    intro wm hown hgrow
    rw [zeros_fnRow] at hown
    have hfm : Fr w1 wm (fun _ => False) := (Fr.refl w1 _).grown hgrow (fun k hk => by cases hk)
    have Hgz : Hid (ReadsZ wm (.slice a0 n c0) zs) := Hz1.out.keep hfm
    obtain ⟨g, hg⟩ : ∃ g, g = w1.heap.size := ⟨_, rfl⟩
    have Hgw : Hid (w.heap.size ≤ g) := by show _ ≤ _; have := hf1.size; omega
    have hapart : ∀ k, (Value.slice a0 n c0).ownBlock = some k → 0 < n → k ≠ g := fun k hk h0 e => by
      obtain ⟨b, off, cp, e2, hb, -⟩ := Hz1.out.get 0 _ (Hget.out 0 h0)
      simp only [Value.slice.injEq] at e2
      obtain ⟨e3, -, -⟩ := e2
      rw [e3] at hk
      simp [Value.ownBlock] at hk
      omega
    have Hkeep : Hid (∀ x, Fr wm x (fun k => k = g) → ReadsZ x (.slice a0 n c0) zs) := fun x hx => Holds.frame' Hgz.out hx (fun h0 k hk => hapart k hk (by rw [zrow_length, ← Hn.out] at h0; exact h0))
    rw [← hg] at hown ⊢
    have Hown : Hid (OwnC wm (.slice (some ⟨g, 0, none⟩) n n) (fnRow n (codesTo l 1 0))) := by
      have e : fnRow n (codesTo l 1 0) = fnRow n (fun _ => 0) := by
        congr 1
        funext t
        unfold codesTo
        rw [if_neg (by unfold Ahd; omega)]
      rw [e]
      unfold OwnC
      rw [fnRow_length]
      exact hown
    have hfw := hf1.none hfm
    clear hgrow hfm hown hi0 hz0 hz1 hz2 hf1 hg hapart Hz Hz1 Hgz
    go_wp2_with fail
    go_loopg [4, 5, 6] 15 (fun g' X La I wr => ∃ (j x la : Nat), g' = 16 - j ∧ 1 ≤ j ∧ j ≤ 16 ∧ I = .int .i64 (j : Int) ∧ X = .int .i64 (x : Int) ∧ La = .int .i64 (la : Int) ∧ la < j ∧ x * 2 ^ (15 - max la 1) = ac l j 0 ∧ OwnC wr (.slice (some ⟨g, 0, none⟩) n n) (fnRow n (codesTo l j 0)) ∧ Fr wm wr (fun k => k = g))
    case atStart => exact ⟨1, 0, 0, rfl, by omega, by omega, rfl, rfl, rfl, by omega, by rw [ac_zero]; simp, Hown.out, Fr.refl _ _⟩
    case round =>
      obtain ⟨j, x, la, hg', hj1, hj16, rfl, rfl, rfl, hla, hx, ho, hf⟩ := hrel
      have Hg' : Hid _ := hg'
      have Hx : Hid _ := hx
      have Ho : Hid (OwnC wr (.slice (some ⟨g, 0, none⟩) n n) (fnRow n (codesTo l j 0))) := ho
      have Hf : Hid _ := hf
      clear hg' hx ho hf
      by_cases hj : j ≤ 15
      · have hj2 : (j : Int) ≤ 15 := by omega
        go_wp2_with fail
        go_loopg [4, 5, 7] n (fun g' X La I wi => ∃ (s x la : Nat), g' = n - s ∧ s ≤ n ∧ I = .int .i64 (s : Int) ∧ X = .int .i64 (x : Int) ∧ La = .int .i64 (la : Int) ∧ la ≤ j ∧ x * 2 ^ (15 - max la 1) = ac l j s ∧ OwnC wi (.slice (some ⟨g, 0, none⟩) n n) (fnRow n (codesTo l j s)) ∧ Fr wm wi (fun k => k = g))
        case atStart => exact ⟨0, x, la, rfl, by omega, rfl, rfl, rfl, by omega, Hx.out, Ho.out, Hf.out⟩
        case round =>
          obtain ⟨s, x, la, hgs, hs, rfl, rfl, rfl, hla, hx, ho, hf⟩ := hrel
          have Hgs : Hid _ := hgs
          have Hx : Hid _ := hx
          have Ho : Hid (OwnC wr (.slice (some ⟨g, 0, none⟩) n n) (fnRow n (codesTo l j s))) := ho
          have Hf : Hid _ := hf
          clear hgs hx ho hf
          by_cases hlt : s < n
          · obtain ⟨b, off, cp, e, hb0, kx⟩ := (Hkeep.out _ Hf.out).get s _ (Hget.out s hlt)
            simp only [Value.slice.injEq] at e
            obtain ⟨rfl, -, rfl⟩ := e
            have cx := kx _ (Fr.refl _ _)
            have hs1 : (s : Int) < (n : Int) := by omega
            clear kx hb0
            obtain ⟨y, hy⟩ : ∃ y, y = ln l s := ⟨_, rfl⟩
            rw [← hy] at cx
            have Hy : Hid _ := hy
            clear hy
            by_cases hyj : y = j
            · subst hyj
              obtain ⟨m, hm⟩ : ∃ m, m = max la 1 := ⟨_, rfl⟩
              have hmj : m ≤ y := by omega
              obtain ⟨X, hX⟩ : ∃ X, X = x * 2 ^ (y - m) := ⟨_, rfl⟩
              have hy0 : 0 < y := by omega
              have hXa : X * 2 ^ (15 - y) = ac l y s := by
                rw [hX, Nat.mul_assoc, ← Nat.pow_add, show y - m + (15 - y) = 15 - m by omega, hm]
                exact Hx.out
              have hyl : 0 < ln l s := by rw [← Hy.out]; exact hy0
              have hcode : codeOf l s = X := by
                have h1 := code_mul (l := l) (s := s) hyl
                rw [← Hy.out, ← hXa] at h1
                exact Nat.mul_right_cancel (Nat.two_pow_pos _) h1
              have hXb : X < 32768 := by
                rw [← hcode]
                refine Nat.lt_of_lt_of_le (code_lt HR.out.ln HR.out.kraft hyl) ?_
                rw [← Hy.out]
                exact Nat.le_trans (Nat.pow_le_pow_right (by omega) hj) (by decide)
              have Hac : Hid ((X + 1) * 2 ^ (15 - max y 1) = ac l y (s + 1)) := by
                show _ = _
                rw [ac_step l y s (by rw [Hln.out]; exact hlt), if_pos ⟨Hy.out.symm, hy0⟩, ← hXa, Nat.max_eq_left (by omega), Nat.succ_mul]
              have hoc := Ho.out
              unfold OwnC at hoc
              rw [fnRow_length] at hoc
              have hfz := World.ownsRow.frozenAt hoc s
              have hce : wr.cell? ⟨g, s, none⟩ = some (.int .i64 ((codesTo l y s s : Nat) : Int)) := by
                rw [World.ownsRow.cellAt hoc s (by omega)]
                simp [row, fnRow, hlt]
              have Hrow : Hid ((fnRow n (codesTo l y s)).set s X = fnRow n (codesTo l y (s + 1))) := by
                show _ = _
                refine fnRow_set n _ _ s X ?_ ?_
                · unfold codesTo
                  rw [if_pos ⟨hyl, .inr ⟨Hy.out.symm, by omega⟩⟩, hcode]
                · intro t ht
                  unfold codesTo
                  have : Ahd l y (s + 1) t ↔ Ahd l y s t := by unfold Ahd; omega
                  by_cases h2 : Ahd l y s t
                  · rw [if_pos h2, if_pos (this.2 h2)]
                  · rw [if_neg h2, if_neg (fun h3 => h2 (this.1 h3))]
              have Hst : Hid (OwnC (wr.setCell ⟨g, s, none⟩ (.int .i64 (X : Int))) (.slice (some ⟨g, 0, none⟩) n n) (fnRow n (codesTo l y (s + 1)))) := by
                have := (World.ownsRow.stored hoc s (.int .i64 (X : Int))).1
                unfold OwnC
                rw [fnRow_length, ← Hrow.out, row_set]
                exact this
              have hxw : IntKind.i64.wrap ((X : Int) + 1) = ((X + 1 : Nat) : Int) := by rw [IntWalk.i64_in _ (by omega)]; omega
              have hpc : (x : Int) * 2 ^ (y - m) = (X : Int) := by rw [hX]; simp
              have hsh : wrap64 ((x : Int) * 2 ^ (y - m)) = (X : Int) := by rw [hpc]; exact wrap64_small _ (by omega) (by omega)
              rcases Nat.eq_zero_or_pos la with hl0 | hl0
              · subst hl0
                have hm1 : m = 1 := by rw [hm]; rfl
                subst hm1
                have hy1 : (1 : Int) ≤ (y : Int) := by omega
                clear hm hX hXa hyl hcode hoc hpc Hx
                go_wp2_with fail
                go_roundg (n - (s + 1))
                case rel => exact ⟨s + 1, X + 1, y, rfl, by omega, by go_num, by first | rfl | (rw [← hxw]), rfl, Nat.le_refl _, Hac.out, Hst.out, Hf.out.setCell ⟨g, s, none⟩ (fun _ => rfl) _⟩
                case measure => rw [Hgs.out]; omega
              · have hml : m = la := by omega
                subst hml
                have hy1 : (m : Int) ≤ (y : Int) := by omega
                have hm1 : (1 : Int) ≤ (m : Int) := by omega
                have hmx : max (m : Int) 1 = (m : Int) := by omega
                clear hm hX hXa hyl hcode hoc hpc Hx
                go_wp2_with fail
                go_roundg (n - (s + 1))
                case rel => exact ⟨s + 1, X + 1, y, rfl, by omega, by go_num, by first | rfl | (rw [← hxw]), rfl, Nat.le_refl _, Hac.out, Hst.out, Hf.out.setCell ⟨g, s, none⟩ (fun _ => rfl) _⟩
                case measure => rw [Hgs.out]; omega
            · have hyj2 : ((y : Int) == (j : Int)) = false := by rw [beq_eq_false_iff_ne]; omega
              have Hac : Hid (x * 2 ^ (15 - max la 1) = ac l j (s + 1)) := by
                show _ = _
                rw [ac_step l j s (by rw [Hln.out]; exact hlt), if_neg (by rw [← Hy.out]; omega), Nat.add_zero]
                exact Hx.out
              have Hrow : Hid (fnRow n (codesTo l j s) = fnRow n (codesTo l j (s + 1))) := by
                show _ = _
                refine fnRow_congr n fun t _ => ?_
                unfold codesTo
                have : Ahd l j (s + 1) t ↔ Ahd l j s t := by
                  unfold Ahd
                  by_cases hts : t = s
                  · subst hts
                    rw [← Hy.out]
                    omega
                  · omega
                by_cases h2 : Ahd l j s t
                · rw [if_pos h2, if_pos (this.2 h2)]
                · rw [if_neg h2, if_neg (fun h3 => h2 (this.1 h3))]
              go_wp2_with fail
              go_roundg (n - (s + 1))
              case rel => exact ⟨s + 1, x, la, rfl, by omega, by go_num, rfl, rfl, hla, Hac.out, by rw [← Hrow.out]; exact Ho.out, Hf.out⟩
              case measure => rw [Hgs.out]; omega
          · have hse : s = n := by omega
            have hs1 : ¬ (s : Int) < (n : Int) := by omega
            have Hac : Hid (x * 2 ^ (15 - max la 1) = ac l (j + 1) 0) := by
              show _ = _
              rw [ac_next, Hln.out, ← hse]
              exact Hx.out
            have Hrow : Hid (fnRow n (codesTo l j s) = fnRow n (codesTo l (j + 1) 0)) := by
              show _ = _
              refine fnRow_congr n fun t ht => ?_
              unfold codesTo
              have : Ahd l (j + 1) 0 t ↔ Ahd l j s t := by unfold Ahd; omega
              by_cases h2 : Ahd l j s t
              · rw [if_pos h2, if_pos (this.2 h2)]
              · rw [if_neg h2, if_neg (fun h3 => h2 (this.1 h3))]
            have Ho2 : Hid (OwnC wr (.slice (some ⟨g, 0, none⟩) n n) (fnRow n (codesTo l (j + 1) 0))) := by rw [← Hrow.out]; exact Ho.out
            clear hse
            go_wp2_with fail
            go_roundg (16 - (j + 1))
            case rel => exact ⟨j + 1, x, la, rfl, by omega, by omega, by go_num, rfl, rfl, by omega, Hac.out, Ho2.out, Hf.out⟩
            case measure => rw [Hg'.out]; omega
      · obtain rfl : j = 16 := by omega
        have Hrow : Hid (fnRow n (codesTo l 16 0) = fnRow n (codeOf l)) := by
          show _ = _
          refine fnRow_congr n fun t ht => ?_
          unfold codesTo
          have h15 := HR.out.ln t
          by_cases h0 : 0 < ln l t
          · rw [if_pos ⟨h0, .inl (by omega)⟩]
          · rw [if_neg (by unfold Ahd; omega)]
            unfold codeOf
            rw [if_pos (by omega)]
        have hfo := hfw.newer Hf.out (fun k hk => by rw [hk]; exact Hgw.out)
        go_wp2_with fail
        go_ret
        refine ⟨_, rfl, ?_, hfo, fun k hk => by simp [Value.ownBlock] at hk; rw [← hk]; exact Hgw.out⟩
        rw [Hcz.out, ← Hrow.out]
        exact holds_own Ho.out

end Go.Proofs.Ytclfbdfgmeliaaa
