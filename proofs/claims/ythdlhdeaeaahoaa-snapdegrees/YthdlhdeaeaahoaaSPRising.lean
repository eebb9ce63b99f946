/-
  The contract of snap's rising, its walk: the edges of a set, in order.
-/
import Derived.Test.YthdlhdeaeaahoaaEKeyInv
import Derived.Test.YthdlhdeaeaahoaaSPSort
import Derived.Test.YthdlhdeaeaahoaaXGood
import Derived.Maps.RangeWalk
namespace Go.Proofs.Ythdlhdeaeaahoaa
open Go.RowKit Go.Maps Go.Sort

/-- What is so of the edges that a range over a set has laid so far. -/
structure Laid (l L : List Eg) (left : Lit → Bool) : Prop where
  nodup : L.Nodup
  fit : ∀ e ∈ L, EgFit e
  all : ∀ e, EgFit e → (e ∈ l ↔ e ∈ L ∨ left (eKey e) = true)
  apart : ∀ e ∈ L, left (eKey e) = false
theorem Laid.start {D : DataW Unit} {l : List Eg} (h : ∀ e, EgFit e → has D (eKey e) = decide (e ∈ l)) : Laid l [] (has D) :=
  ⟨List.nodup_nil, fun e he => absurd he (by simp), fun e he => by rw [h e he]; simp, fun e he => absurd he (by simp)⟩
theorem Laid.step {l L : List Eg} {left : Lit → Bool} {x : Eg} (h : Laid l L left) (hx : EgFit x) (hl : left (eKey x) = true) : Laid l (L ++ [x]) (fun z => left z && !z.sameKey (eKey x)) := by
  have hn : x ∉ L := fun hm => by rw [h.apart x hm] at hl; cases hl
  refine ⟨List.nodup_append.2 ⟨h.nodup, by simp, fun a ha b hb => ?_⟩, fun e he => ?_, fun e he => ?_, fun e he => ?_⟩
  · rw [List.mem_singleton] at hb
    subst hb
    exact fun e => hn (e ▸ ha)
  · rw [List.mem_append, List.mem_singleton] at he
    rcases he with he | rfl
    · exact h.fit e he
    · exact hx
  · rw [h.all e he, List.mem_append, List.mem_singleton]
    rw [key_other he hx]
    by_cases hex : e = x
    · subst hex
      simp [hl]
    · simp [hex]
  · rw [List.mem_append, List.mem_singleton] at he
    rcases he with he | rfl
    · rw [h.apart e he]; rfl
    · rw [key_other hx hx]; simp
theorem Laid.done {l L : List Eg} {left : Lit → Bool} (h : Laid l L left) (h0 : ∀ kl, left kl = false) (hf : ∀ e ∈ l, EgFit e) : ∀ e, e ∈ L ↔ e ∈ l := by
  intro e
  constructor
  · intro he
    exact (h.all e (h.fit e he)).2 (.inl he)
  · intro he
    rcases (h.all e (hf e he)).1 he with h1 | h1
    · exact h1
    · rw [h0] at h1; cases h1

theorem sortedE_rising {L : List Eg} (hn : L.Nodup) (hs : L.Pairwise (fun a b => eLess b a = false)) : eRising L = true := by
  refine eRising_true (fun i a b ha hb => ?_)
  have hi := (List.getElem?_eq_some_iff.1 ha)
  have hj := (List.getElem?_eq_some_iff.1 hb)
  obtain ⟨hi1, hi2⟩ := hi
  obtain ⟨hj1, hj2⟩ := hj
  have h1 := List.pairwise_iff_getElem.1 hs i (i + 1) hi1 hj1 (by omega)
  have h2 := List.pairwise_iff_getElem.1 hn i (i + 1) hi1 hj1 (by omega)
  rw [hi2, hj2] at h1 h2
  cases h : eLess a b with
  | true => rfl
  | false => exact absurd (eLess_ne h (fun e => h2 e)).symm (by rw [h1]; simp)

set_option maxRecDepth 4000 in
set_option maxHeartbeats 1600000 in
theorem risingSet_any (b n : Nat) (l : List Eg) (w : World) (h : OwnM w b n l) (hfit : ∀ e ∈ l, EgFit e) (hn : n ≤ 1000000) : Calls Try.prog 33 #[.map (some b)] w fun r w' => (∃ v' L, r = .returned v' ∧ RdE w' v' L ∧ (∀ e, e ∈ L ↔ e ∈ l) ∧ eRising L = true) ∧ Fr w w' (fun _ => False) := by
  obtain ⟨D, ho, hD⟩ := h
  have Ho : Hid (w.ownsMap Try.prog 48 unitElem b n D) := ho
  have HD : Hid _ := hD
  have Hfit : Hid _ := hfit
  have Hn : Hid _ := hn
  have Hsz : Hid (Maps.size D ≤ n) := ho.size_le
  clear ho hD hfit hn
  obtain ⟨S, hS⟩ : ∃ S, S = Maps.size D := ⟨_, rfl⟩
  rw [← hS] at Hsz
  have HS : Hid _ := hS
  clear hS
  obtain ⟨i0, hi, hz0, hz1, hz2⟩ := info_parts infoEdge
  go_enter Try.func33, Try.ntmps33
  have hlen := fun ty => Ho.out.len (P := Try.prog) Try.underlying71 ty
  rw [← HS.out] at hlen
  go_upto_region 2 with (first | (at_make; refine wpList_make_own _ rfl _ _ 33 rfl 0 48 i0 _ 2 Try.underlying33 hi hz0 hz1 _ _ _ S rfl rfl rfl (by rw [hz2]; have h1 := Hsz.out; have h2 := Hn.out; omega) (by have h1 := Hsz.out; have h2 := Hn.out; unfold maxLen; omega) (Nat.zero_le _) ?_; intro w1 hown1 hg1) | fail)
  have Hw1 : Hid (Fr w w1 (fun _ => False)) := (Fr.refl w (fun _ => False)).grown hg1 (fun k hk _ => by cases hk)
  have Ho1 : Hid (OwnE w1 (.slice (some ⟨w.heap.size, 0, none⟩) 0 S) []) := hown1
  clear hown1 hg1 hlen
  obtain ⟨B0, hB0⟩ : ∃ x, x = w.heap.size := ⟨_, rfl⟩
  obtain ⟨p, hp⟩ : ∃ p, p = w1.heap.size := ⟨_, rfl⟩
  obtain ⟨w2, hw2⟩ : ∃ x, x = w1.alloc (.cells #[.slice (some ⟨w.heap.size, 0, none⟩) 0 S] 33) := ⟨_, rfl⟩
  rw [← hw2, ← hp]
  rw [← hB0] at hw2 Ho1
  have Hp2 : Hid (w2.heap[p]? = some (.cells #[.slice (some ⟨B0, 0, none⟩) 0 S] 33 (0, 0))) := by show _ = _; rw [hw2, hp]; exact heap_alloc_new _ _
  have Hw2 : Hid (Fr w w2 (fun _ => False)) := by show Fr _ _ _; rw [hw2]; exact Hw1.out.alloc _
  have Ho2 : Hid (OwnE w2 (.slice (some ⟨B0, 0, none⟩) 0 S) []) := by show OwnE _ _ _; rw [hw2]; exact Ho1.out.alloc _
  have Hbp : Hid (B0 < p) := by show _ < _; rw [hp]; exact Ho1.out.lt _ rfl
  have Hbb : Hid (b < B0) := by show _ < _; rw [hB0]; exact Ho.out.lt
  have HB0 : Hid _ := hB0
  have HoD : Hid (w2.ownsMap Try.prog 48 unitElem b n D) := by
    obtain ⟨es, clock, hb, r⟩ := Ho.out
    exact ⟨es, clock, Hw2.out.kept hb (fun h => h), r⟩
  clear hw2 hp hB0 Ho1
  go_wp2_with (first | (at_range; refine wpList_range_own _ rfl _ 71 rfl 48 84 mLaw Try.underlying71 unitElem b n D rfl HoD.out ?_; intro w3 hrg3 hg3 hs3) | fail)
  go_frame
  obtain ⟨r, hr⟩ : ∃ r, r = w2.heap.size := ⟨_, rfl⟩
  rw [← hr] at hrg3
  rw [← hr]
  rw [← HS.out] at hrg3
  have h23 : Fr w2 w3 (fun _ => False) := (Fr.refl w2 (fun _ => False)).grown hg3 (fun k hk _ => by cases hk)
  have Hrg3 : Hid (w3.ranges Try.prog 48 unitElem b r n D (Maps.has D) S) := hrg3
  have Hp3 : Hid (w3.heap[p]? = some (.cells #[.slice (some ⟨B0, 0, none⟩) 0 S] 33 (0, 0))) := h23.kept Hp2.out (fun h => h)
  have Hw3 : Hid (Fr w w3 (fun _ => False)) := Hw2.out.none h23
  have Ho3 : Hid (OwnE w3 (.slice (some ⟨B0, 0, none⟩) 0 S) []) := Ho2.out.frame h23 (fun _ _ h => h)
  have Hpr : Hid (p < r) := by show _ < _; rw [hr]; exact lt_of_block Hp2.out
  clear h23 hrg3 hg3 hs3 hr
  go_loopg [4] S (fun g q wr => ∃ (left : Lit → Bool) (cnt : Nat) (L : List Eg) (v : Value), g = cnt ∧ wr.ranges Try.prog 48 unitElem b r n D left cnt ∧ Laid l L left ∧ L.length + cnt ≤ S ∧ wr.heap[p]? = some (.cells #[v] 33 (0, 0)) ∧ OwnE wr v L ∧ (∀ k, v.ownBlock = some k → B0 ≤ k ∧ k ≠ p ∧ k ≠ r) ∧ Fr w wr (fun _ => False))
  case atStart => exact ⟨_, S, [], _, rfl, Hrg3.out, Laid.start HD.out, by simp, Hp3.out, Ho3.out, fun k hk => (by simp only [Value.ownBlock, Option.some.injEq] at hk; subst hk; have h1 := Hbp.out; have h2 := Hpr.out; omega), Hw3.out⟩
  case round =>
    obtain ⟨left, cnt, L, v, hg, hrg, hld, hlc, hpv, hov, hvn, hf⟩ := hrel
    have Hg : Hid _ := hg
    have Hld : Hid (Laid l L left) := hld
    have Hlc : Hid _ := hlc
    have Hpv : Hid (wr.heap[p]? = some (.cells #[v] 33 (0, 0))) := hpv
    have Hov : Hid (OwnE wr v L) := hov
    have Hvn : Hid _ := hvn
    have Hf : Hid (Fr w wr (fun _ => False)) := hf
    have Hrg : Hid (wr.ranges Try.prog 48 unitElem b r n D left cnt) := hrg
    clear hg hrg hld hlc hpv hov hvn hf
    go_wp2_with (first | (at_next; refine wpList_next_ranges _ rfl _ rfl 48 mLaw unitElem edgeV (fun _ : Unit => .agg #[]) (fun key kl hkey => by obtain ⟨e, -, he, -⟩ := eKey_inv hkey; exact ⟨e, he⟩) (fun v y hv => ⟨(), (unitElem_inv hv).1⟩) b r n D left cnt rfl Hrg.out ?_ ?_) | fail)
    case refine_2 =>
      intro e1 e2 kl y1 y2 wn cnt1 hkey hlk hR hat hrg1 hlt hg1 hs1 hen
      obtain ⟨hfx, rfl⟩ := eKey_at hkey
      have Hld1 : Hid (Laid l (L ++ [(e1, e2)]) (fun z => left z && !z.sameKey (eKey (e1, e2)))) := Hld.out.step hfx hlk
      have Hlt : Hid (cnt1 < cnt) := hlt
      have hrn : Fr wr wn (fun k => k = r) := (Fr.refl wr (fun k => k = r)).grown hg1 (fun k hk _ => by simpa using hk.symm)
      have HrB : Hid (B0 ≤ r ∧ B0 ≤ p ∧ w.heap.size = B0) := ⟨by have h1 := Hbp.out; have h2 := Hpr.out; omega, by have h1 := Hbp.out; omega, HB0.out.symm⟩
      have Hfn : Hid (Fr w wn (fun _ => False)) := Hf.out.newer hrn (fun k hk => by have h1 := HrB.out; omega)
      have Hpn : Hid (wn.heap[p]? = some (.cells #[v] 33 (0, 0))) := hrn.kept Hpv.out (fun h => by have h1 := Hpr.out; omega)
      have Hon : Hid (OwnE wn v L) := Hov.out.frame hrn (fun k hk h => (Hvn.out k hk).2.2 h)
      have Hrn : Hid (wn.ranges Try.prog 48 unitElem b r n D (fun z => left z && !z.sameKey (eKey (e1, e2))) cnt1) := hrg1
      unfold edgeV at hen ⊢
      dsimp only at hen ⊢
      clear hkey hlk hR hat hrg1 hlt hg1 hs1 hrn hfx
      go_upto_region 5 with fail
      obtain ⟨pe, hpe⟩ : ∃ p, p = wn.heap.size := ⟨_, rfl⟩
      obtain ⟨wE, hwE⟩ : ∃ x, x = wn.alloc (.cells #[.int .u32 (e1 : Int), .int .u32 (e2 : Int)] 48) := ⟨_, rfl⟩
      rw [← hwE, ← hpe]
      have Hpe : Hid (wE.heap[pe]? = some (.cells #[.int .u32 (e1 : Int), .int .u32 (e2 : Int)] 48 (0, 0))) := by show _ = _; rw [hwE, hpe]; exact heap_alloc_new _ _
      have HnE : Hid (Fr wn wE (fun _ => False)) := by show Fr _ _ _; rw [hwE]; exact (Fr.refl _ _).alloc _
      have HrE : Hid (wE.ranges Try.prog 48 unitElem b r n D (fun z => left z && !z.sameKey (eKey (e1, e2))) cnt1) := by show World.ranges _ _ _ _ _ _ _ _ _ _; rw [hwE]; exact Hrn.out.alloc _
      have HpE : Hid (wE.heap[p]? = some (.cells #[v] 33 (0, 0))) := HnE.out.kept Hpn.out (fun h => h)
      have HoE : Hid (OwnE wE v L) := Hon.out.frame HnE.out (fun _ _ h => h)
      clear hpe hwE hen
      obtain ⟨a0, c0, hv0, -⟩ := HoE.out.rd.form
      obtain ⟨n0, hn0⟩ : ∃ n, n = L.length := ⟨_, rfl⟩
      rw [← hn0] at hv0
      subst hv0
      have Hn0 : Hid _ := hn0
      clear hn0
      obtain ⟨v4, w4, hrun4, ho4, hf4, hm4⟩ := app_edge wE _ L e1 e2 HoE.out (by have h1 := Hlc.out; have h2 := Hsz.out; have h3 := Hn.out; omega)
      obtain ⟨a4, c4, hv4, -⟩ := ho4.rd.form
      obtain ⟨n4, hn4⟩ : ∃ n, n = (L ++ [(e1, e2)]).length := ⟨_, rfl⟩
      rw [← hn4] at hv4
      subst hv4
      have hE4 : Fr wE w4 (fun k => (Value.slice a0 n0 c0).ownBlock = some k) := ((Fr.refl wE (fun k => (Value.slice a0 n0 c0).ownBlock = some k)).alloc _).trans hf4 (fun _ _ h => h)
      have Hp4 : Hid (w4.heap[p]? = some (.cells #[.slice a0 n0 c0] 33 (0, 0))) := hE4.kept HpE.out (fun h => (Hvn.out p h).2.1 rfl)
      have Hr4 : Hid (w4.ranges Try.prog 48 unitElem b r n D (fun z => left z && !z.sameKey (eKey (e1, e2))) cnt1) := by
        have hbw : b < w.heap.size := Ho.out.lt
        obtain ⟨es, clock, since, seen, c5, h1, h2, h3, h4, h5, rest⟩ := HrE.out
        exact ⟨es, clock, since, seen, c5, hE4.kept h1 (fun h => by have h6 := (Hvn.out b h).1; have h7 := HrB.out; omega), h2, h3, h4, hE4.kept h5 (fun h => (Hvn.out r h).2.2 rfl), rest⟩
      have Hvn4 : Hid (∀ k, (Value.slice a4 n4 c4).ownBlock = some k → B0 ≤ k ∧ k ≠ p ∧ k ≠ r) := fun k hk => by
        rcases hm4 k hk with h2 | h2
        · exact Hvn.out k h2
        · have h3 := lt_of_block HpE.out; have h4 := HrE.out.lt; have h5 := HrB.out; exact ⟨by omega, by omega, by omega⟩
      have Ho4 : Hid (OwnE w4 (.slice a4 n4 c4) (L ++ [(e1, e2)])) := ho4
      have Hf4 : Hid (Fr w w4 (fun _ => False)) := (Hfn.out.none HnE.out).newer hE4 (fun k hk => by have h1 := (Hvn.out k hk).1; have h2 := HrB.out; omega)
      have Hlc4 : Hid ((L ++ [(e1, e2)]).length + cnt1 ≤ S) := by show _ ≤ _; have h1 := Hlc.out; have h2 := Hlt.out; rw [List.length_append, List.length_singleton]; omega
      clear ho4 hf4 hm4 hE4 hn4
      obtain ⟨k0, k1⟩ : wE.cell? ⟨pe, 0, none⟩ = some (.int .u32 (e1 : Int)) ∧ wE.cell? ⟨pe, 1, none⟩ = some (.int .u32 (e2 : Int)) := ⟨two_cell0 Hpe.out, two_cell1 Hpe.out⟩
      have kp := (one_cell HpE.out).1
      have kf : w4.frozen? ⟨p, 0, none⟩ = false := (one_cell Hp4.out).2
      have kq := (one_cell Hp4.out).1
      go_wp2_with (at_builtin; refine wpList_append_run rfl (.tmp 14) (.tmp 16) 33 rfl rfl rfl hrun4 ?_)
      have h45 : Fr w4 (w4.setCell ⟨p, 0, none⟩ (.slice a4 n4 c4)) (fun j => j = p) := Fr.setCell (S := fun j => j = p) (Fr.refl _ _) ⟨p, 0, none⟩ (fun _ => rfl) _
      have Hp5 : Hid ((w4.setCell ⟨p, 0, none⟩ (.slice a4 n4 c4)).heap[p]? = some (.cells #[.slice a4 n4 c4] 33 (0, 0))) := one_set Hp4.out
      have Ho5 : Hid (OwnE (w4.setCell ⟨p, 0, none⟩ (.slice a4 n4 c4)) (.slice a4 n4 c4) (L ++ [(e1, e2)])) := Ho4.out.frame h45 (fun k hk h => (Hvn4.out k hk).2.1 h)
      have Hr5 : Hid ((w4.setCell ⟨p, 0, none⟩ (.slice a4 n4 c4)).ranges Try.prog 48 unitElem b r n D (fun z => left z && !z.sameKey (eKey (e1, e2))) cnt1) := by
        have hbw : b < w.heap.size := Ho.out.lt
        obtain ⟨es, clock, since, seen, c5, h1, h2, h3, h4, h5, rest⟩ := Hr4.out
        exact ⟨es, clock, since, seen, c5, h45.kept h1 (fun h => by have h6 := HrB.out; omega), h2, h3, h4, h45.kept h5 (fun h => by have h6 := Hpr.out; omega), rest⟩
      have Hf5 : Hid (Fr w (w4.setCell ⟨p, 0, none⟩ (.slice a4 n4 c4)) (fun _ => False)) := Hf4.out.newer h45 (fun k hk => by have h1 := HrB.out; omega)
      clear h45 hrun4
      go_roundg cnt1
      case rel => exact ⟨_, cnt1, _, _, rfl, Hr5.out, Hld1.out, Hlc4.out, Hp5.out, Ho5.out, Hvn4.out, Hf5.out⟩
      case measure => rw [Hg.out]; exact Hlt.out
    case refine_1 =>
      intro h0 hl0
      have Hmem : Hid (∀ e, e ∈ L ↔ e ∈ l) := Hld.out.done hl0 Hfit.out
      clear h0 hl0
      obtain ⟨a0, c0, hv0, -⟩ := Hov.out.rd.form
      obtain ⟨n0, hn0⟩ : ∃ n, n = L.length := ⟨_, rfl⟩
      rw [← hn0] at hv0
      subst hv0
      clear hn0
      have hso := riseSort_any (.slice a0 n0 c0) L p wr Hov.out (one_cell Hpv.out).1 (fun h => (Hvn.out p h).2.1 rfl) (by have h1 := Hlc.out; have h2 := Hsz.out; have h3 := Hn.out; omega)
      have kp := (one_cell Hpv.out).1
      go_wp2_with fail
      refine hso.mono ?_
      rintro e x4 ⟨rfl, ⟨L', hperm, hsort, ho⟩, hf⟩
      have Hp4 : Hid (x4.heap[p]? = some (.cells #[.slice a0 n0 c0] 33 (0, 0))) := hf.kept Hpv.out (fun h => (Hvn.out p h).2.1 rfl)
      have Ho4 : Hid (OwnE x4 (.slice a0 n0 c0) L') := ho
      have Hm4 : Hid (∀ e, e ∈ L' ↔ e ∈ l) := fun e => (hperm.mem_iff).trans (Hmem.out e)
      have Hr4 : Hid (eRising L' = true) := sortedE_rising (hperm.nodup_iff.2 Hld.out.nodup) hsort
      have Hf4 : Hid (Fr w x4 (fun _ => False)) := Hf.out.newer hf (fun k hk => by have h1 := (Hvn.out k hk).1; have h2 := HB0.out; omega)
      clear hso kp hperm hsort ho hf
      have kp := (one_cell Hp4.out).1
      go_wp2_with fail
      go_ret
      exact ⟨⟨_, _, rfl, Ho4.out.rd, Hm4.out, Hr4.out⟩, Hf4.out⟩

end Go.Proofs.Ythdlhdeaeaahoaa
