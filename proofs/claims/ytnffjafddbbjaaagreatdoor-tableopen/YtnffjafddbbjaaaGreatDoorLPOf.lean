/-
  The contract of life's Of; life's functions answer as the statements ask.
-/
import Derived.Test.YtnffjafddbbjaaaGreatDoorLPOfS
import Derived.Test.YtnffjafddbbjaaaGreatDoorLPBackP
namespace Go.Proofs.YtnffjafddbbjaaaGreatDoor
open Go.RowKit Go.Sort Go.Lib

/-- The library's sort in Of. -/
theorem ofSort_any (v : Value) (L : List Lf) (box : Nat) (w : World) (h : OwnL w v L) (hb : w.cell? ⟨box, 0, none⟩ = some v) (hbo : v.ownBlock ≠ some box) (hl : L.length ≤ 1000000) :
    Calls Tryz.prog 55 #[.iface 51 v, .func (.func 56) #[] #[.pointer (some ⟨box, 0, none⟩)]] w fun e w' => e = .returned (.tuple #[]) ∧ (∃ L' : List Lf, L'.Perm L ∧ L'.Pairwise (fun a b => lLess b a = false) ∧ OwnL w' v L') ∧ Fr w w' (fun j => v.ownBlock = some j) := by
  obtain ⟨i0, ie, hT⟩ := slLf
  by_cases h2 : 2 ≤ L.length
  · obtain ⟨b, cap, rfl⟩ : ∃ b cap, v = .slice (some ⟨b, 0, none⟩) L.length cap := by
      rcases h.2 with ⟨rfl, h0⟩ | ⟨b, cap, cur, rfl, -⟩
      · omega
      · exact ⟨b, cap, rfl⟩
    have hbb : box ≠ b := fun e => hbo (by rw [e]; rfl)
    obtain ⟨sb, hsb⟩ : ∃ sb, sb = #[.slice (some ⟨b, 0, none⟩) L.length cap, typeHandle Tryz.prog 82] := ⟨_, rfl⟩
    have hown : (ofC b cap L.length box sb).own w L.toArray := ⟨by simp [ofC], h⟩
    have hG := gSlice_any (ofC b cap L.length box sb) hT encL_len (show 0 < 4 by decide) encL_one lLess_swo (by show L.length ≤ _; omega) hsb (fun args W => run_callFunc_extern Tryz.func109 (by kernel_rfl) (by kernel_rfl) (by kernel_rfl) (e := Extern.ReflectliteSwapper.swap false) (by kernel_rfl) args W)
      (enters_of Tryz.func56 (by kernel_rfl) rfl) w L.toArray hown h2
      (fun R hp => Any.sort_Slice_of_pdq sortSl 51 82 i0 ie hT.hi hT.hd hT.hpk hT.hie 25 hT.hke _ L.length cap (by omega) 109 (by rw [hT.k9 _ h2]; kernel_rfl) (.func 56) #[] #[.pointer (some ⟨box, 0, none⟩)] w R hp) (fun z d hz i j hi hj => by
        have hds : d.size = L.length := hz.1.1
        have hrd : RdL z (.slice (some ⟨b, 0, none⟩) L.length cap) d.toList := by
          have h3 : OwnL z (.slice (some ⟨b, 0, none⟩) L.length cap) d.toList := by
            unfold OwnL
            rw [show d.toList.length = L.length by simpa using hds]
            exact hz.1.2
          exact h3.rd
        have hi' : i < d.size := by rw [hds]; exact hi
        have hj' : j < d.size := by rw [hds]; exact hj
        have hbl := World.block_lt_of_cell? _ _ hb
        have hbz : z.cell? ⟨box, 0, none⟩ = some (.slice (some ⟨b, 0, none⟩) L.length cap) := (World.cell?_of_block (w := w) (hz.2.block box hbl hbb)).trans hb
        exact ofLess_any b cap L.length box d.toList i j d[i]! d[j]! z hbz hrd (by simpa using hds) (by rw [getElem!_pos d i hi', Array.getElem?_toList, Array.getElem?_eq_getElem hi']) (by rw [getElem!_pos d j hj', Array.getElem?_toList, Array.getElem?_eq_getElem hj']))
    refine Calls.mono hG ?_
    rintro e w' ⟨rfl, d', hp, hs, ho, hf⟩
    have hsz : d'.size = L.length := ho.1
    have hlen : d'.toList.length = L.length := by simpa using hsz
    refine ⟨rfl, ⟨d'.toList, by simpa using hp, hs, ?_⟩, hf.mono (fun j _ hj => by rw [hj]; rfl)⟩
    unfold OwnL
    rw [hlen]
    exact ho.2
  · obtain ⟨a, c, rfl, -⟩ := h.rd.form
    have hG := Any.sort_Slice_tiny (P := Tryz.prog) sortSl 51 82 i0 ie hT.hi hT.hd hT.hpk hT.hie 25 hT.hke a L.length c (by omega) (if L.length = 0 then 101 else 102) (by
      rw [hT.k1 _ h2]
      rcases Nat.eq_zero_or_pos L.length with h0 | h0
      · rw [h0]; kernel_rfl
      · obtain h1 : L.length = 1 := by omega
        rw [h1]; kernel_rfl) (.func 56) #[] #[.pointer (some ⟨box, 0, none⟩)] w
    refine Calls.mono hG ?_
    clear hG
    rintro e w' ⟨rfl, os, rfl⟩
    refine ⟨rfl, ⟨L, .refl _, ?_, h.frame (fr_grow w os (fun _ => False)) (fun _ _ h => h)⟩, fr_grow w os _⟩
    match L, h2 with
    | [], _ => exact List.Pairwise.nil
    | [x], _ => exact List.pairwise_singleton _ _
    | _ :: _ :: _, h2 => exact absurd (by simp) h2

/-- The only order of the lives. -/
theorem of_only {evs : List Ev} (hs : Srt evs) {L : List Lf} (hp : L.Perm (addsL evs)) (hso : L.Pairwise (fun a b => lLess b a = false)) : L = livesE [] evs := by
  have hc : L.Pairwise (Cmp lLess) := (List.Perm.pairwise_iff (fun {x y} hxy => hxy.symm) hp).2 (adds_cmp hs)
  refine lives_only hs ((hso.and hc).imp (fun {a b} hab => ?_)) hp
  rcases hab.2 with h1 | h1
  · exact h1
  · rw [hab.1] at h1; cases h1

set_option maxRecDepth 4000 in
set_option maxHeartbeats 1600000 in
theorem livesOf_any (n : Nat) (v : Value) (evs : List Ev) (w : World) (h : RdV w v evs) (hn : n < 18446744073709551616) (hl : evs.length ≤ 100000) (hfit : ∀ x ∈ evs, EvFit x) : Calls Tryz.prog 26 #[histV n v] w fun r w' =>
    (∃ v', r = .returned (.tuple #[v', .int .i64 ((livesF n evs).2 : Int)]) ∧ RdL w' v' (livesF n evs).1) ∧ Fr w w' (fun _ => False) := by
  have hck := fun z hz => check_any n v evs z hz hn (by omega) hfit
  obtain ⟨a0, c0, rfl, hc0⟩ := h.form
  obtain ⟨m, hm⟩ : ∃ m, m = evs.length := ⟨_, rfl⟩
  rw [← hm] at h hl hc0 hck ⊢
  obtain ⟨⟨R1, R2⟩, hR⟩ : ∃ R, R = livesF n evs := ⟨_, rfl⟩
  rw [← hR]
  have HR : Hid _ := hR
  have Hr : Hid (RdV w (.slice a0 m c0) evs) := h
  have Hm : Hid _ := hm
  have Hfit : Hid _ := hfit
  have Hl : Hid (evs.length ≤ 100000) := by show _ ≤ _; rw [← hm]; exact hl
  have Hh : Hid (histV n (.slice a0 m c0) = .agg #[.int .u64 (n : Int), .slice a0 m c0]) := rfl
  clear h hm hR hfit
  dsimp only
  rw [Hh.out] at hck ⊢
  obtain ⟨⟨C1, C2⟩, hC⟩ : ∃ C, C = checkF n evs := ⟨_, rfl⟩
  rw [← hC] at hck
  have HC : Hid _ := hC
  clear hC
  dsimp only at hck
  go_enter Tryz.func26, Tryz.ntmps26
  go_upto_region 1 with fail
  obtain ⟨p, hp⟩ : ∃ p, p = w.heap.size := ⟨_, rfl⟩
  obtain ⟨w1, hw1⟩ : ∃ x, x = w.alloc (.cells #[.int .u64 (n : Int), .slice a0 m c0] 25) := ⟨_, rfl⟩
  rw [← hw1, ← hp]
  have Hp : Hid (w1.heap[p]? = some (.cells #[.int .u64 (n : Int), .slice a0 m c0] 25 (0, 0))) := by show _ = _; rw [hw1, hp]; exact heap_alloc_new _ _
  have Hf1 : Hid (Fr w w1 (fun _ => False)) := by show Fr _ _ _; rw [hw1]; exact (Fr.refl _ _).alloc _
  clear hw1 hp
  obtain ⟨ca, cb⟩ : w1.cell? ⟨p, 0, none⟩ = some (.int .u64 (n : Int)) ∧ w1.cell? ⟨p, 1, none⟩ = some (.slice a0 m c0) := ⟨two_cell0 Hp.out, two_cell1 Hp.out⟩
  have hck1 := hck w1 (Hr.out.keep Hf1.out)
  clear hck
  go_wp2_with fail
  refine hck1.mono ?_
  rintro r x1 ⟨rfl, g⟩
  have Hp1 : Hid (x1.heap[p]? = some (.cells #[.int .u64 (n : Int), .slice a0 m c0] 25 (0, 0))) := g.kept Hp.out (fun h => h)
  have Hx1 : Hid (Fr w x1 (fun _ => False)) := Hf1.out.none g
  clear g hck1 ca cb
  by_cases h0 : C2 = 0
  · subst h0
    have HCz : Hid ((checkF n evs).2 = 0) := by show _ = _; rw [← HC.out]
    have HRR : Hid ((R1, R2) = (livesE [] evs, 0)) := by show _ = _; rw [HR.out]; exact if_pos HCz.out
    simp only [Prod.mk.injEq] at HRR
    obtain ⟨e1, e2⟩ := HRR.out
    subst e2
    have HR1 : Hid (R1 = livesE [] evs) := e1
    clear e1 HRR
    obtain ⟨-, -, hgd, hsr⟩ := good_check HCz.out
    have Hsr : Hid (Srt evs) := hsr
    have hlv := lived_any n (.slice a0 m c0) evs x1 (Hr.out.keep Hx1.out) hgd (by have := Hl.out; omega) Hfit.out
    clear hgd hsr
    obtain ⟨ca, cb⟩ : x1.cell? ⟨p, 0, none⟩ = some (.int .u64 (n : Int)) ∧ x1.cell? ⟨p, 1, none⟩ = some (.slice a0 m c0) := ⟨two_cell0 Hp1.out, two_cell1 Hp1.out⟩
    go_wp2_with fail
    refine hlv.mono ?_
    rintro r x2 ⟨⟨v2, rfl, ho2, hn2⟩, g⟩
    obtain ⟨a2, l2, c2, rfl⟩ : ∃ a l c, v2 = .slice a l c := by obtain ⟨a, c, e, -⟩ := ho2.rd.form; exact ⟨a, _, c, e⟩
    have Ho2 : Hid (OwnL x2 (.slice a2 l2 c2) (addsL evs)) := ho2
    have Hn2 : Hid (∀ k, (Value.slice a2 l2 c2).ownBlock = some k → x1.heap.size ≤ k) := hn2
    have Hx2 : Hid (Fr w x2 (fun _ => False)) := Hx1.out.none g
    clear g hlv ho2 hn2 ca cb
    go_upto_region 5 with fail
    obtain ⟨p8, hp8⟩ : ∃ p, p = x2.heap.size := ⟨_, rfl⟩
    obtain ⟨x3, hx3⟩ : ∃ x, x = x2.alloc (.cells #[.slice a2 l2 c2] 51) := ⟨_, rfl⟩
    rw [← hx3, ← hp8]
    have H8 : Hid (x3.heap[p8]? = some (.cells #[.slice a2 l2 c2] 51 (0, 0))) := by show _ = _; rw [hx3, hp8]; exact heap_alloc_new _ _
    have Hx3 : Hid (Fr x2 x3 (fun _ => False)) := by show Fr _ _ _; rw [hx3]; exact (Fr.refl _ _).alloc _
    have Hb8 : Hid ((Value.slice a2 l2 c2).ownBlock ≠ some p8) := by show _ ≠ _; intro e; have := Ho2.out.lt p8 e; omega
    clear hp8 hx3
    have hso := ofSort_any (.slice a2 l2 c2) (addsL evs) p8 x3 (Ho2.out.frame Hx3.out (fun _ _ h => h)) (one_cell H8.out).1 Hb8.out (by
      have h1 : (addsL evs).length ≤ evs.length := by rw [adds_count]; exact List.countP_le_length
      have := Hl.out
      omega)
    have c8 := (one_cell H8.out).1
    go_wp2_with fail
    refine hso.mono ?_
    rintro r x4 ⟨rfl, ⟨L, hperm, hsort, ho⟩, hf⟩
    have hev := of_only Hsr.out hperm hsort
    rw [← HR1.out] at hev
    subst hev
    have Ho4 : Hid (OwnL x4 (.slice a2 l2 c2) L) := ho
    have H8b : Hid (x4.heap[p8]? = some (.cells #[.slice a2 l2 c2] 51 (0, 0))) := hf.kept H8.out Hb8.out
    have Hx4 : Hid (Fr w x4 (fun _ => False)) := (Hx2.out.none Hx3.out).newer hf (fun k hk => by have h1 := Hn2.out k hk; have h2 := Hx1.out.size; omega)
    clear hso c8 hperm hsort ho hf
    have c8 := (one_cell H8b.out).1
    go_wp2_with fail
    go_ret2
    exact ⟨⟨_, rfl, Ho4.out.rd⟩, Hx4.out⟩
  · have hC0 : ((C2 : Int) == 0) = false := by rw [beq_eq_false_iff_ne]; omega
    have hC1 : ((C2 : Int) != 0) = true := by rw [bne_iff_ne]; omega
    have HRR : Hid ((R1, R2) = ([], C2)) := by show _ = _; rw [HR.out]; unfold livesF; rw [if_neg (by rw [← HC.out]; exact h0), ← HC.out]
    simp only [Prod.mk.injEq] at HRR
    obtain ⟨rfl, rfl⟩ := HRR.out
    clear HRR h0
    go_wp2
    go_ret2
    exact ⟨⟨_, rfl, RdL.nil _⟩, Hx1.out⟩

end Go.Proofs.YtnffjafddbbjaaaGreatDoor
