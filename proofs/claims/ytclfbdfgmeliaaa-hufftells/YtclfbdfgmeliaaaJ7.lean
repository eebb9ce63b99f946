/-
  Texts of ours, joined: MItems MNums MPack MMerged MLists MTally.
-/
import Derived.Test.YtclfbdfgmeliaaaRows
import Derived.Test.YtclfbdfgmeliaaaJ3
import Derived.Test.YtclfbdfgmeliaaaJ2
import Derived.WalkLawsBesides
import Derived.Deep.LoopGhost

/-
  The program's items: a count and a symbol each.
-/
namespace Go.Proofs.Ytclfbdfgmeliaaa
open Go.RowKit

theorem Try.info77 : (Try.prog.info? 77).map (fun i => (i.zero, i.size, i.bytes)) = some (some (.agg #[.int .i64 0, .int .i64 0]), 2, 16) := by kernel_rfl

def enc2 (x : Int × Int) : List Value := [.int .i64 x.1, .int .i64 x.2]
def xrow (xs : List (Int × Int)) : List Value := xs.flatMap enc2
def RdX (w : World) (v : Value) (xs : List (Int × Int)) : Prop := HoldsN 2 w v xs.length (xrow xs)
def OwnX (w : World) (v : Value) (xs : List (Int × Int)) : Prop := w.ownsRow 0 77 2 v xs.length (xrow xs)

theorem xrow_length (xs : List (Int × Int)) : (xrow xs).length = xs.length * 2 := by
  induction xs with
  | nil => rfl
  | cons p ps ih => simp [xrow, enc2] at ih ⊢; omega
theorem xrow_append (a b : List (Int × Int)) : xrow (a ++ b) = xrow a ++ xrow b := by simp [xrow]
theorem xrow_take : ∀ (ps : List (Int × Int)) (n : Nat), (xrow ps).take (n * 2) = xrow (ps.take n)
  | [], n => by simp [xrow]
  | p :: ps, 0 => by simp [xrow]
  | p :: ps, n + 1 => by
    have := xrow_take ps n
    simp only [xrow, List.flatMap_cons, List.take_succ_cons] at this ⊢
    rw [Nat.succ_mul, List.take_append, List.take_of_length_le (by simp [enc2])]
    simp [this, enc2]
theorem xrow_drop : ∀ (ps : List (Int × Int)) (n : Nat), (xrow ps).drop (n * 2) = xrow (ps.drop n)
  | [], n => by simp [xrow]
  | p :: ps, 0 => by simp [xrow]
  | p :: ps, n + 1 => by
    have := xrow_drop ps n
    simp only [xrow, List.flatMap_cons, List.drop_succ_cons] at this ⊢
    rw [Nat.succ_mul, List.drop_append, List.drop_eq_nil_of_le (by simp [enc2])]
    simp [this, enc2]
theorem xrow_get (ps : List (Int × Int)) (i : Nat) (p : Int × Int) (h : ps[i]? = some p) : (xrow ps)[i * 2]? = some (.int .i64 p.1) ∧ (xrow ps)[i * 2 + 1]? = some (.int .i64 p.2) := by
  have hd := xrow_drop ps i
  have hi : i < ps.length := (List.getElem?_eq_some_iff.1 h).1
  have e : ps.drop i = p :: ps.drop (i + 1) := by
    rw [List.drop_eq_getElem_cons hi]
    rw [List.getElem?_eq_getElem hi] at h
    simp only [Option.some.injEq] at h
    rw [h]
  rw [e] at hd
  have h0 : ((xrow ps).drop (i * 2))[0]? = some (.int .i64 p.1) := by rw [hd]; rfl
  have h1 : ((xrow ps).drop (i * 2))[1]? = some (.int .i64 p.2) := by rw [hd]; rfl
  rw [List.getElem?_drop] at h0 h1
  exact ⟨h0, h1⟩
theorem xrow_one (ps : List (Int × Int)) : ∀ u ∈ xrow ps, u.oneCell' = true := by
  intro u hu
  simp only [xrow, List.mem_flatMap] at hu
  obtain ⟨p, hp, hu⟩ := hu
  simp [enc2] at hu
  rcases hu with rfl | rfl <;> rfl
theorem RdX.keep {w w' : World} {v : Value} {ps : List (Int × Int)} (h : RdX w v ps) (f : Fr w w' (fun _ => False)) : RdX w' v ps := HoldsN.keep h f
theorem RdX.frame {w w' : World} {v : Value} {ps : List (Int × Int)} {S : Nat → Prop} (h : RdX w v ps) (f : Fr w w' S) (hs : 0 < ps.length → ∀ k, v.ownBlock = some k → ¬ S k) : RdX w' v ps := HoldsN.frame h f hs
theorem OwnX.rd {w : World} {v : Value} {ps : List (Int × Int)} (h : OwnX w v ps) : RdX w v ps := holdsN_own h
theorem OwnX.nil (w : World) : OwnX w (.slice none 0 0) [] := World.ownsRow_nil _ _ _ _
theorem OwnX.lt {w : World} {v : Value} {ps : List (Int × Int)} (h : OwnX w v ps) : ∀ k, v.ownBlock = some k → k < w.heap.size := fun k hk => (World.ownsRow.lt h k hk).2
theorem OwnX.frame {w w' : World} {v : Value} {ps : List (Int × Int)} {S : Nat → Prop} (h : OwnX w v ps) (f : Fr w w' S) (hs : ∀ k, v.ownBlock = some k → ¬ S k) : OwnX w' v ps := f.owns h hs
theorem OwnX.keep {w w' : World} {v : Value} {ps : List (Int × Int)} (h : OwnX w v ps) (f : Fr w w' (fun _ => False)) : OwnX w' v ps := f.owns h (fun _ _ h => h)
theorem RdX.form {w : World} {v : Value} {ps : List (Int × Int)} (h : RdX w v ps) : ∃ ao cap, v = .slice ao ps.length cap ∧ ps.length ≤ cap := by
  obtain ⟨-, ao, cap, h1, h2, -⟩ := h
  exact ⟨ao, cap, h1, h2⟩
/-- Items are old. -/
theorem RdX.lt {w : World} {v : Value} {ps : List (Int × Int)} (h : RdX w v ps) (hp : 0 < ps.length) : ∀ k, v.ownBlock = some k → k < w.heap.size := fun k hk => by
  obtain ⟨hl, ao, cap, rfl, -, hc⟩ := h
  obtain ⟨b, off, rfl, hcell⟩ := hc hp
  simp [Value.ownBlock] at hk
  subst hk
  have : 0 < (xrow ps).length := by omega
  exact World.block_lt_of_cell? _ _ (hcell 0 _ (List.getElem?_eq_getElem this))
theorem RdX.get {w : World} {v : Value} {ps : List (Int × Int)} (h : RdX w v ps) (i : Nat) (p : Int × Int) (hi : ps[i]? = some p) :
    ∃ b off cap, v = .slice (some ⟨b, off, none⟩) ps.length cap ∧ b < w.heap.size ∧ ∀ x, Fr w x (fun _ => False) → x.cell? ⟨b, off + i * 2, none⟩ = some (.int .i64 p.1) ∧ x.cell? ⟨b, off + i * 2 + 1, none⟩ = some (.int .i64 p.2) := by
  obtain ⟨-, ao, cap, rfl, h2, hc⟩ := h
  have hil := (List.getElem?_eq_some_iff.1 hi).1
  obtain ⟨b, off, rfl, hcell⟩ := hc (by omega)
  obtain ⟨h3, h4⟩ := xrow_get ps i p hi
  have c3 := hcell _ _ h3
  have c4 := hcell _ _ h4
  have hb := World.block_lt_of_cell? _ _ c3
  refine ⟨b, off, cap, rfl, hb, fun x hx => ?_⟩
  exact ⟨(World.cell?_of_block (w := w) (hx.block b hb (fun h => h))).trans c3, (World.cell?_of_block (w := w) (hx.block b hb (fun h => h))).trans (by rw [Nat.add_assoc]; exact c4)⟩

/-- append onto items that the call owns, of items that can be read. -/
theorem app_x (w : World) (v u : Value) (ps qs : List (Int × Int)) (h : OwnX w v ps) (hu : RdX w u qs) (hb : ps.length + qs.length ≤ 100000000000) :
    ∃ v' w', (Builtin.append_ #[74, 74] 74 #[v, u]).run Try.prog w = .ok v' w' ∧ OwnX w' v' (ps ++ qs) ∧ Fr w w' (fun k => v.ownBlock = some k) ∧ Moved w v v' := by
  obtain ⟨i0, hi, hz0, hz1, hz2⟩ := info_parts Try.info77
  obtain ⟨v', w', h1, h2, h3, h4⟩ := run_append_wide (P := Try.prog) w 74 74 77 i0 _ 2 16 Try.underlying74 hi hz0 hz1 hz2 rfl (by decide) (by decide) v _ _ h u _ _ hu (xrow_one qs) hb
  refine ⟨v', w', h1, ?_, h3, h4⟩
  unfold OwnX
  rw [List.length_append, xrow_append]; exact h2
/-- .. of one item that is written out. -/
theorem app_x_lit (w : World) (v : Value) (ps : List (Int × Int)) (x y : Int) (h : OwnX w v ps) (hb : ps.length ≤ 10000000) :
    ∃ v' w', (Builtin.append_ #[74, 74] 74 #[v, .slice (some ⟨w.heap.size, 0, none⟩) 1 1]).run Try.prog (w.alloc (.cells #[.int .i64 x, .int .i64 y] 77)) = .ok v' w' ∧ OwnX w' v' (ps ++ [(x, y)]) ∧ Fr w w' (fun k => v.ownBlock = some k) ∧ Moved w v v' := by
  have hf := (Fr.refl w (fun _ => False)).alloc (.cells #[.int .i64 x, .int .i64 y] 77)
  obtain ⟨v', w', h1, h2, h3, h4⟩ := app_x _ v _ ps [(x, y)] (h.keep hf) (holdsN_lit 2 w 77 1 (xrow [(x, y)]) (by simp [xrow, enc2]) (by omega)) (by simp; omega)
  exact ⟨v', w', h1, h2, ((Fr.refl w _).alloc _).trans h3 (fun _ _ h => h), h4.mono' (by simp)⟩
theorem RdX.drop {w : World} {ao : Option Addr} {len cap : Nat} {ps : List (Int × Int)} (h : RdX w (.slice ao len cap) ps) (hl : ps.length = len) (n : Nat) (hn : n ≤ len) : RdX w (.slice (if cap = n then ao else Option.map (fun x => x.add (n * 2)) ao) (len - n) (cap - n)) (ps.drop n) := by
  obtain ⟨h1, ao', cap', e, hlc, hc⟩ := h
  simp only [Value.slice.injEq] at e
  obtain ⟨rfl, -, rfl⟩ := e
  refine ⟨xrow_length _, _, _, by rw [List.length_drop, hl], by rw [List.length_drop]; omega, fun hp => ?_⟩
  rw [List.length_drop] at hp
  obtain ⟨b, off, rfl, hcell⟩ := hc (by omega)
  rw [if_neg (by omega)]
  refine ⟨b, off + n * 2, by simp [add_none], fun j u hj => ?_⟩
  rw [← xrow_drop, List.getElem?_drop] at hj
  rw [Nat.add_assoc]
  exact hcell _ _ hj
theorem RdX.take {w : World} {ao : Option Addr} {len cap : Nat} {ps : List (Int × Int)} (h : RdX w (.slice ao len cap) ps) (hl : ps.length = len) (n : Nat) (hn : n ≤ len) : RdX w (.slice ao n cap) (ps.take n) := by
  subst hl
  have := HoldsN.take h n hn
  unfold RdX
  rw [List.length_take, Nat.min_eq_left hn, ← xrow_take]
  exact this

end Go.Proofs.Ytclfbdfgmeliaaa

/-
  The contracts of merge's counted, Cost and Kraft.
-/
namespace Go.Proofs.Ytclfbdfgmeliaaa
open Go.RowKit

set_option maxRecDepth 4000 in
set_option maxHeartbeats 400000 in
theorem counted_any (z : Int) (w : World) : Calls Try.prog 47 #[.int .i64 z] w fun e w' => e = .returned (.int .i64 (clampN z : Nat)) ∧ w' = w := by
  obtain ⟨c, hc⟩ : ∃ c, c = clampN z := ⟨_, rfl⟩
  rw [← hc]
  have Hc : Hid ((c : Int) = min (max z 0) 1099511627776) := by show _ = _; rw [hc]; unfold clampN; omega
  clear hc
  by_cases h0 : z < 0
  · have He : Hid ((c : Int) = 0) := by show _ = _; rw [Hc.out]; omega
    go_enter Try.func47, Try.ntmps47
    go_wp2
    go_ret
    exact ⟨by rw [He.out]; rfl, rfl⟩
  · by_cases h1 : 1099511627776 < z
    · have He : Hid ((c : Int) = 1099511627776) := by show _ = _; rw [Hc.out]; omega
      go_enter Try.func47, Try.ntmps47
      go_wp2
      go_ret
      exact ⟨by rw [He.out]; rfl, rfl⟩
    · have He : Hid ((c : Int) = z) := by show _ = _; rw [Hc.out]; omega
      go_enter Try.func47, Try.ntmps47
      go_wp2
      go_ret
      exact ⟨by rw [He.out]; rfl, rfl⟩

end Go.Proofs.Ytclfbdfgmeliaaa

/-
  The contract of merge's packages.
-/
namespace Go.Proofs.Ytclfbdfgmeliaaa
open Go.RowKit

/-- A list of packages as items that can be read. -/
def RdL (wt : Nat → Nat) (w : World) (v : Value) (ls : List (List Nat)) : Prop := RdX w v (ls.map (itm wt))
def OwnL (wt : Nat → Nat) (w : World) (v : Value) (ls : List (List Nat)) : Prop := OwnX w v (ls.map (itm wt))

theorem pk_step {ls : List (List Nat)} {i : Nat} {a b : List Nat} (ha : ls[i]? = some a) (hb : ls[i + 1]? = some b) : pk (ls.drop i) = (a ++ b) :: pk (ls.drop (i + 2)) := by
  obtain ⟨h1, rfl⟩ := List.getElem?_eq_some_iff.1 ha
  obtain ⟨h2, rfl⟩ := List.getElem?_eq_some_iff.1 hb
  rw [List.drop_eq_getElem_cons h1, List.drop_eq_getElem_cons h2, pk]
theorem pk_end {ls : List (List Nat)} {i : Nat} (h : ls.length ≤ i + 1) : pk (ls.drop i) = [] := by
  have hl : (ls.drop i).length ≤ 1 := by rw [List.length_drop]; omega
  match hh : ls.drop i with
  | [] => rfl
  | [_] => rfl
  | _ :: _ :: _ => rw [hh] at hl; simp at hl

set_option maxRecDepth 4000 in
set_option maxHeartbeats 800000 in
theorem packages_any (wt : Nat → Nat) (v : Value) (ls : List (List Nat)) (w : World) (h : RdL wt w v ls) (hl : ls.length ≤ 1000) (hW : ∀ y ∈ ls, W wt y ≤ 4611686018427387903) (hne : ∀ y ∈ ls, y ≠ []) :
    Calls Try.prog 53 #[v] w fun e w' => ∃ sv, e = .returned sv ∧ OwnL wt w' sv (pk ls) ∧ Fr w w' (fun _ => False) := by
  obtain ⟨a0, c0, rfl, hc0⟩ := RdX.form h
  rw [List.length_map] at hc0 h ⊢
  have Hz : Hid (RdL wt w (.slice a0 ls.length c0) ls) := h
  obtain ⟨n, hn⟩ : ∃ n, n = ls.length := ⟨_, rfl⟩
  rw [← hn] at Hz hc0 hl ⊢
  have Hn : Hid _ := hn
  have HW : Hid _ := hW
  have Hne : Hid _ := hne
  clear h hn hW hne
  go_enter Try.func53, Try.ntmps53
  go_wp2_with fail
  go_loopg [3, 4] n (fun g S I wr => ∃ (i k : Nat) (rs : List (List Nat)), g = n - i ∧ i ≤ n ∧ k = i + 1 ∧ I = .int .i64 (k : Int) ∧ OwnL wt wr S rs ∧ rs.length ≤ i ∧ rs ++ pk (ls.drop i) = pk ls ∧ Fr w wr (fun _ => False) ∧ (∀ k, S.ownBlock = some k → w.heap.size ≤ k))
  case atStart => exact ⟨0, 1, [], by omega, by omega, rfl, rfl, OwnX.nil _, by simp, by simp, Fr.refl _ _, fun k hk => (by simp [Value.ownBlock] at hk)⟩
  case round =>
    obtain ⟨i, k, rs, hg, hi, hki, rfl, ho, hrl, hst, hf, hnew⟩ := hrel
    have Hg : Hid _ := hg
    have Hst : Hid _ := hst
    have Ho : Hid (OwnL wt wr u3 rs) := ho
    have Hnew : Hid _ := hnew
    clear hg hst ho hnew
    by_cases hlt : k < n
    · obtain ⟨p0, hp0⟩ : ∃ p, ls[i]? = some p := ⟨_, List.getElem?_eq_getElem (by rw [← Hn.out]; omega)⟩
      obtain ⟨p1, hp1⟩ : ∃ p, ls[k]? = some p := ⟨_, List.getElem?_eq_getElem (by rw [← Hn.out]; omega)⟩
      obtain ⟨b, off, cp, e, hb0, kx⟩ := (RdX.keep Hz.out hf).get i (itm wt p0) (by rw [List.getElem?_map, hp0]; rfl)
      obtain ⟨b', off', cp', e', -, ky⟩ := (RdX.keep Hz.out hf).get k (itm wt p1) (by rw [List.getElem?_map, hp1]; rfl)
      have hbw : b < w.heap.size := by
        have := RdX.lt Hz.out (by rw [List.length_map, ← Hn.out]; omega) b (by simp only [Value.slice.injEq] at e; rw [e.1]; rfl)
        exact this
      simp only [Value.slice.injEq] at e e'
      obtain ⟨rfl, -, rfl⟩ := e
      obtain ⟨e', -, -⟩ := e'
      simp only [Option.some.injEq, Addr.mk.injEq, and_true] at e'
      obtain ⟨rfl, rfl⟩ := e'
      have hw0 : W wt p0 ≤ 4611686018427387903 := HW.out _ (List.mem_of_getElem? hp0)
      have hw1 : W wt p1 ≤ 4611686018427387903 := HW.out _ (List.mem_of_getElem? hp1)
      have Hit : Hid (itm wt (p0 ++ p1) = (((W wt p0 + W wt p1 : Nat) : Int), -1)) := by
        show _ = _
        unfold itm
        have h0 := List.length_pos_iff.2 (Hne.out _ (List.mem_of_getElem? hp0))
        have h1 := List.length_pos_iff.2 (Hne.out _ (List.mem_of_getElem? hp1))
        rw [symOf_pack (by simp [isP]; omega), W_append]
      have Hs2 : Hid (rs ++ [p0 ++ p1] ++ pk (ls.drop (i + 2)) = pk ls) := by
        show _ = _
        rw [← Hst.out, pk_step hp0 (by rw [← hki]; exact hp1)]
        simp
      unfold itm at kx ky
      generalize W wt p0 = x0 at hw0 Hit kx
      generalize W wt p1 = x1 at hw1 Hit ky
      have c0 := (kx wr (Fr.refl _ _)).1
      have c1 := (ky wr (Fr.refl _ _)).1
      have hkeep : ∀ (j : Nat) (u : Value), wr.cell? ⟨b, j, none⟩ = some u → ∀ x, Fr wr.drew x (fun k => u3.ownBlock = some k) → x.cell? ⟨b, j, none⟩ = some u := fun j u hu x hx => by
        rw [World.cell?_of_block (w := wr) (hx.block b hb0 (fun h => by have := Hnew.out b h; omega))]
        exact hu
      have k0 := hkeep _ _ c0
      have k1 := hkeep _ _ c1
      have hm1 : IntKind.i64.wrap ((k : Int) - 1) = (i : Int) := by rw [IntWalk.i64_in _ (by omega)]; omega
      have hsum : IntKind.i64.wrap ((x0 : Int) + (x1 : Int)) = ((x0 + x1 : Nat) : Int) := by rw [IntWalk.i64_in _ (by omega)]; omega
      have hi1 : (i : Int) < (n : Int) := by omega
      have hi2 : (k : Int) < (n : Int) := by omega
      have hi3 : i < n := by omega
      have Hki : Hid _ := hki
      clear kx ky c0 c1 hkeep hp0 hp1 hki
      go_wp2
      refine wp_region_tree (fun j => u3.ownBlock = some j) (.take 0 (.take 1 (.take 2 (.take 3 (.take 4 (.take 5 (.take 6 (.take 7 (.take 8 (.take 9 (.take 10 (.take 11 (.take 12 (.take 13 (.one 14 (.one 15 (.take 16 .nil))))))))))))))))) (by kernel_rfl) (by kernel_rfl) (by decide) (by kernel_rfl) ?_
      repeat (refine wpT_take (v := ?_) rfl rfl (fun x hx => ?_) ?_; rotate_left; (focus (go_simp; with_reducible rfl)); simp only [Act.put, List.setIfInBounds_toArray, List.set_cons_zero, List.set_cons_succ])
      refine wpT_one rfl rfl (fun K hK => ?_)
      go_simp
      refine hK _ _ (((Fr.refl wr.drew (fun _ => False)).alloc _).mono (fun _ _ h => h.elim)) ?_
      clear hK K
      have hf2 : Fr wr (wr.alloc (.cells #[.int .i64 ((x0 + x1 : Nat) : Int), .int .i64 (-1)] 77)).drew (fun _ => False) := ((Fr.refl wr (fun _ => False)).alloc _).drew
      have hu2 : RdX (wr.alloc (.cells #[.int .i64 ((x0 + x1 : Nat) : Int), .int .i64 (-1)] 77)).drew (.slice (some ⟨wr.heap.size, 0, none⟩) 1 1) [(((x0 + x1 : Nat) : Int), -1)] := RdX.keep (holdsN_lit 2 wr 77 1 (xrow [(((x0 + x1 : Nat) : Int), -1)]) (by simp [xrow, enc2]) (by omega)) (Fr.refl _ _).drew
      obtain ⟨v5, w5, hrun5, ho5, hf5, hm5⟩ := app_x _ u3 _ _ _ (OwnX.keep Ho.out hf2) hu2 (by simp; omega)
      refine wpT_one rfl rfl (fun K hK => ?_)
      refine op_append_run (.tmp 11) (.tmp 25) 74 rfl rfl rfl hrun5 ?_
      refine hK _ _ hf5 ?_
      clear hK K
      simp only [Act.put, List.setIfInBounds_toArray, List.set_cons_zero, List.set_cons_succ]
      repeat (refine wpT_take (v := ?_) rfl rfl (fun x hx => ?_) ?_; rotate_left; (focus (go_simp; with_reducible rfl)); simp only [Act.put, List.setIfInBounds_toArray, List.set_cons_zero, List.set_cons_succ])
      have hf6 : Fr w w5 (fun _ => False) := (hf.none hf2).newer hf5 (fun j hj => Hnew.out j hj)
      unfold wpT
      go_wp2
      go_roundg (n - (i + 2))
      case rel =>
        refine ⟨i + 2, k + 2, rs ++ [p0 ++ p1], rfl, by have := Hki.out; omega, by have := Hki.out; omega, by go_num, ?_, by simp; omega, Hs2.out, hf6, fun j hj => ?_⟩
        · unfold OwnL
          rw [List.map_append, List.map_singleton, Hit.out]
          exact ho5
        · rcases hm5 j hj with h | h
          · exact Hnew.out j h
          · have := (hf.none hf2).size
            omega
      case measure => rw [Hg.out]; omega
    · have Hend : Hid (rs = pk ls) := by
        show _ = _
        have := Hst.out
        rw [pk_end (by rw [← Hn.out]; omega), List.append_nil] at this
        exact this
      go_wp2
      go_ret
      exact ⟨_, rfl, by rw [← Hend.out]; exact Ho.out, hf⟩

end Go.Proofs.Ytclfbdfgmeliaaa

/-
  The contract of merge's merged.
-/
namespace Go.Proofs.Ytclfbdfgmeliaaa
open Go.RowKit

theorem mgN (wt : Nat → Nat) (c : List (List Nat)) : mg wt c [] = c := by cases c <;> simp [mg]
theorem mgC (wt : Nat → Nat) {l R : List (List Nat)} {n : Nat} {c p : List Nat} (h : l[n]? = some c) (hle : W wt c ≤ W wt p) : mg wt (l.drop n) (p :: R) = c :: mg wt (l.drop (n + 1)) (p :: R) := by
  have hn := (List.getElem?_eq_some_iff.1 h).1
  have e : l[n] = c := (List.getElem?_eq_some_iff.1 h).2
  rw [List.drop_eq_getElem_cons hn, e, mg, if_pos hle]
theorem mgP (wt : Nat → Nat) {l R : List (List Nat)} {n : Nat} {p : List Nat} (h : ∀ c, l[n]? = some c → W wt p < W wt c) : mg wt (l.drop n) (p :: R) = p :: mg wt (l.drop n) R := by
  rcases Nat.lt_or_ge n l.length with hn | hn
  · have := h _ (List.getElem?_eq_getElem hn)
    rw [List.drop_eq_getElem_cons hn, mg, if_neg (by omega)]
  · rw [List.drop_eq_nil_of_le hn]
    simp [mg]
theorem drop_at {α : Type} {l : List α} {i : Nat} {p : α} (h : l[i]? = some p) : l.drop i = p :: l.drop (i + 1) := by
  obtain ⟨h1, rfl⟩ := List.getElem?_eq_some_iff.1 h
  rw [List.drop_eq_getElem_cons h1]

set_option maxRecDepth 4000 in
set_option maxHeartbeats 800000 in
theorem merged_any (wt : Nat → Nat) (vc vm : Value) (cs ms : List (List Nat)) (w : World) (hc : RdL wt w vc cs) (hm : RdL wt w vm ms) (hcl : cs.length ≤ 1000) (hml : ms.length ≤ 1000) :
    Calls Try.prog 52 #[vc, vm] w fun e w' => ∃ sv, e = .returned sv ∧ OwnL wt w' sv (mg wt cs ms) ∧ Fr w w' (fun _ => False) := by
  obtain ⟨ac, cc, rfl, hcc⟩ := RdX.form hc
  obtain ⟨am, cm, rfl, hcm⟩ := RdX.form hm
  rw [List.length_map] at hcc hcm hc hm
  rw [List.length_map, List.length_map]
  have Hc : Hid (RdL wt w (.slice ac cs.length cc) cs) := hc
  have Hm : Hid (RdL wt w (.slice am ms.length cm) ms) := hm
  obtain ⟨nc, hnc⟩ : ∃ n, n = cs.length := ⟨_, rfl⟩
  obtain ⟨nm, hnm⟩ : ∃ n, n = ms.length := ⟨_, rfl⟩
  rw [← hnc] at Hc hcc hcl ⊢
  rw [← hnm] at Hm hcm hml ⊢
  have Hnc : Hid _ := hnc
  have Hnm : Hid _ := hnm
  clear hc hm hnc hnm
  have hsum : IntKind.i64.wrap ((nc : Int) + (nm : Int)) = ((nc + nm : Nat) : Int) := by rw [IntWalk.i64_in _ (by omega)]; omega
  go_enter Try.func52, Try.ntmps52
  obtain ⟨i0, hi0, hz0, hz1, hz2⟩ := info_parts Try.info77
  go_wp2_with (at_make; refine wpList_make_own _ rfl _ _ 74 rfl 0 77 i0 _ 2 Try.underlying74 hi0 hz0 hz1 _ _ _ (nc + nm) rfl rfl (by simp) ?b1 ?b2 (Nat.zero_le _) ?_)
  case b1 => rw [hz2]; omega
  case b2 => unfold maxLen; omega
  intro wm hown hgrow
  have hfm : Fr w wm (fun _ => False) := (Fr.refl w _).grown hgrow (fun k hk => by cases hk)
  have Hown : Hid (OwnL wt wm (.slice (some ⟨w.heap.size, 0, none⟩) 0 (nc + nm)) []) := hown
  clear hown hgrow hi0 hz0 hz1 hz2
  go_wp2_with fail
  go_loopg [5, 6, 17] nm (fun g S N I wr => ∃ (n i : Nat) (rs : List (List Nat)), g = nm - i ∧ i ≤ nm ∧ n ≤ nc ∧ N = .int .i64 (n : Int) ∧ I = .int .i64 (i : Int) ∧ OwnL wt wr S rs ∧ rs.length ≤ n + i ∧ rs ++ mg wt (cs.drop n) (ms.drop i) = mg wt cs ms ∧ Fr w wr (fun _ => False) ∧ (∀ k, S.ownBlock = some k → w.heap.size ≤ k))
  case atStart => exact ⟨0, 0, [], rfl, by omega, by omega, rfl, rfl, Hown.out, by simp, by simp, hfm, fun k hk => (by simp [Value.ownBlock] at hk; omega)⟩
  case round =>
    obtain ⟨n, i, rs, hg, hi, hn, rfl, rfl, ho, hrl, hst, hf, hnew⟩ := hrel
    have Hg : Hid _ := hg
    have Hst : Hid _ := hst
    have Ho : Hid (OwnL wt wr u5 rs) := ho
    have Hnew : Hid _ := hnew
    clear hg hst ho hnew
    by_cases hlt : i < nm
    · obtain ⟨p, hp⟩ : ∃ p, ms[i]? = some p := ⟨_, List.getElem?_eq_getElem (by rw [← Hnm.out]; omega)⟩
      obtain ⟨b, off, cp, e, hb0, kx⟩ := (RdX.keep Hm.out hf).get i (itm wt p) (by rw [List.getElem?_map, hp]; rfl)
      simp only [Value.slice.injEq] at e
      obtain ⟨rfl, -, rfl⟩ := e
      have Hst2 : Hid (rs ++ mg wt (cs.drop n) (p :: ms.drop (i + 1)) = mg wt cs ms) := by
        show _ = _
        rw [← drop_at hp]
        exact Hst.out
      obtain ⟨c0, c1⟩ := kx wr (Fr.refl _ _)
      obtain ⟨X, hX⟩ : ∃ X, X = (itm wt p).1 := ⟨_, rfl⟩
      obtain ⟨Y, hY⟩ : ∃ Y, Y = (itm wt p).2 := ⟨_, rfl⟩
      rw [← hX] at c0
      rw [← hY] at c1
      have Hit : Hid (itm wt p = (X, Y)) := by show _ = _; rw [hX, hY]
      have HX : Hid (X = ((W wt p : Nat) : Int)) := by show _ = _; rw [hX]; rfl
      have hi1 : (i : Int) < (nm : Int) := by omega
      have Hu5 : Hid (∀ k, u5.ownBlock = some k → k < wr.heap.size) := Ho.out.lt
      obtain ⟨G, hG⟩ : ∃ G, G = wr.heap.size := ⟨_, rfl⟩
      have HG : Hid _ := hG
      clear kx hX hY hp
      go_wp2_with fail
      rw [← HG.out]
      clear hG
      go_loopg [5, 6] (nc - n) (fun gg S N wi => ∃ (m : Nat) (ts : List (List Nat)), gg = nc - m ∧ m ≤ nc ∧ N = .int .i64 (m : Int) ∧ OwnL wt wi S ts ∧ ts.length ≤ m + i ∧ ts ++ mg wt (cs.drop m) (p :: ms.drop (i + 1)) = mg wt cs ms ∧ Fr w wi (fun _ => False) ∧ (∀ k, S.ownBlock = some k → w.heap.size ≤ k ∧ k ≠ G) ∧
          wi.heap[G]? = some (.cells #[.int .i64 X, .int .i64 Y] 77 (0, 0)))
      case atStart => exact ⟨n, rs, rfl, hn, rfl, OwnX.keep Ho.out ((Fr.refl wr _).alloc _), hrl, Hst2.out, hf.alloc _, fun k hk => ⟨Hnew.out k hk, by have := Hu5.out k hk; have := HG.out; omega⟩, by rw [HG.out]; exact heap_alloc_new _ _⟩
      case round =>
        clear Ho Hnew Hu5 hrl hf c0 c1 hb0 HG Hst Hst2
        obtain ⟨m, ts, hgg, hm, rfl, hoi, htl, hti, hfi, hSi, hbi⟩ := hrel
        have Hgg : Hid _ := hgg
        have Hti : Hid _ := hti
        have Hoi : Hid (OwnL wt wr u5 ts) := hoi
        have HSi : Hid _ := hSi
        have Hbi : Hid _ := hbi
        have hw : ∀ x, Fr wr.drew x (fun _ => False) → x.cell? ⟨G, 0, none⟩ = some (.int .i64 X) := fun x hx => two_cell0 (((Fr.refl wr (fun _ => False)).drew.none hx).kept hbi (fun h => h))
        clear hgg hti hoi hSi hbi
        by_cases hmc : m < nc
        · obtain ⟨pc, hpc⟩ : ∃ p, cs[m]? = some p := ⟨_, List.getElem?_eq_getElem (by rw [← Hnc.out]; exact hmc)⟩
          obtain ⟨b2, off2, cp2, e, hb2, kc⟩ := (RdX.keep Hc.out hfi).get m (itm wt pc) (by rw [List.getElem?_map, hpc]; rfl)
          simp only [Value.slice.injEq] at e
          obtain ⟨rfl, -, rfl⟩ := e
          obtain ⟨C, hC⟩ : ∃ X, X = (itm wt pc).1 := ⟨_, rfl⟩
          obtain ⟨D, hD⟩ : ∃ Y, Y = (itm wt pc).2 := ⟨_, rfl⟩
          rw [← hC, ← hD] at kc
          have Hic : Hid (itm wt pc = (C, D)) := by show _ = _; rw [hC, hD]
          have HC : Hid (C = ((W wt pc : Nat) : Int)) := by show _ = _; rw [hC]; rfl
          have Hkc : Hid _ := kc
          have kc0 : ∀ x, Fr wr.drew x (fun _ => False) → x.cell? ⟨b2, off2 + m * 2, none⟩ = some (.int .i64 C) := fun x hx => (kc x ((Fr.refl wr _).drew.none hx)).1
          have Hpc : Hid _ := hpc
          have hm1 : (m : Int) < (nc : Int) := by omega
          clear hC hD kc hpc
          by_cases hle : C ≤ X
          · have hd : decide (C ≤ X) = true := decide_eq_true hle
            go_wp2
            refine wp_region_all (fun _ => False) [.c ?_, .c ?_, .c ?_, .c ?_, .c ?_, .c ?_, .c ?_, .c ?_, .c ?_, .c ?_, .c ?_, .c ?_, .c ?_, .c ?_] (by kernel_rfl) (by kernel_rfl) rfl ?last ?walk
            case last => repeat (first | exact Lasts.nil | refine Lasts.c ?_)
            case walk =>
              repeat (first | (refine wpAll_take rfl rfl (fun x hx => ?_) ?_; (focus (go_simp; with_reducible rfl)); simp only [Act.put, List.setIfInBounds_toArray, List.set_cons_zero, List.set_cons_succ]) | (refine wpAll_pass rfl rfl ?_ ?_; (focus rfl); simp only [Act.put, List.setIfInBounds_toArray, List.set_cons_zero, List.set_cons_succ]))
              refine wpAll_nil (fun wx hfx _ => ?_)
              replace hfx := (Fr.refl wr (fun _ => False)).drew.none hfx
              obtain ⟨cx0, cx1⟩ := Hkc.out wx hfx
              obtain ⟨v5, w5, hrun5, ho5, hf5, hm5⟩ := app_x_lit wx u5 _ C D (OwnX.keep Hoi.out hfx) (by simp; omega)
              have hfwx := hfi.none hfx
              have Hro : Hid (OwnL wt w5 v5 (ts ++ [pc])) := by
                show OwnX _ _ _
                rw [List.map_append, List.map_singleton, Hic.out]
                exact ho5
              have Hfo : Hid (Fr w w5 (fun _ => False)) := hfwx.newer hf5 (fun k hk => (HSi.out k hk).1)
              have Hbo : Hid _ := hf5.kept (hfx.kept Hbi.out (fun h => h)) (fun h => (HSi.out G h).2 rfl)
              have HSo : Hid (∀ k, v5.ownBlock = some k → w.heap.size ≤ k ∧ k ≠ G) := fun k hk => by
                rcases hm5 k hk with h | h
                · exact HSi.out k h
                · have := hfwx.size
                  have := lt_of_block (hfx.kept Hbi.out (fun h => h))
                  exact ⟨by omega, by omega⟩
              have Hs3 : Hid (ts ++ [pc] ++ mg wt (cs.drop (m + 1)) (p :: ms.drop (i + 1)) = mg wt cs ms) := by
                show _ = _
                have := Hti.out
                rw [mgC wt Hpc.out (by have := HX.out; have := HC.out; omega)] at this
                rw [← this]
                simp
              clear ho5 hf5 hm5 hfx hfwx
              go_wp2_with (at_builtin; refine wpList_append_run rfl (.tmp 35) (.tmp 40) 74 rfl rfl rfl hrun5 ?_)
              go_roundg (nc - (m + 1))
              case rel => exact ⟨m + 1, ts ++ [pc], rfl, by omega, by go_num, Hro.out, by simp; omega, Hs3.out, Hfo.out, HSo.out, Hbo.out⟩
              case measure => rw [Hgg.out]; omega
          · have hd : decide (C ≤ X) = false := decide_eq_false hle
            have Hex : Hid (∀ c, cs[m]? = some c → W wt p < W wt c) := fun c hc => by
              have e := Hpc.out
              rw [hc] at e
              simp only [Option.some.injEq] at e
              subst e
              have := HX.out
              have := HC.out
              omega
            go_wp2
            refine wp_region_all (fun _ => False) [.c ?_, .c ?_, .c ?_, .c ?_, .c ?_, .c ?_, .c ?_, .c ?_, .c ?_, .c ?_, .c ?_, .c ?_, .c ?_, .c ?_] (by kernel_rfl) (by kernel_rfl) rfl ?last ?walk
            case last => repeat (first | exact Lasts.nil | refine Lasts.c ?_)
            case walk =>
              repeat (first | (refine wpAll_take rfl rfl (fun x hx => ?_) ?_; (focus (go_simp; with_reducible rfl)); simp only [Act.put, List.setIfInBounds_toArray, List.set_cons_zero, List.set_cons_succ]) | (refine wpAll_pass rfl rfl ?_ ?_; (focus rfl); simp only [Act.put, List.setIfInBounds_toArray, List.set_cons_zero, List.set_cons_succ]))
              refine wpAll_nil (fun wx hfx _ => ?_)
              replace hfx := (Fr.refl wr (fun _ => False)).drew.none hfx
              have hbx := hfx.kept Hbi.out (fun h => h)
              have hox := OwnX.keep Hoi.out hfx
              replace hfx := hfi.none hfx
              obtain ⟨v5, w5, hrun5, ho5, hf5, hm5⟩ := app_x_lit wx u5 _ X Y hox (by simp; omega)
              have Hro : Hid (OwnL wt w5 v5 (ts ++ [p])) := by
                show OwnX _ _ _
                rw [List.map_append, List.map_singleton, Hit.out]
                exact ho5
              have Hfo : Hid (Fr w w5 (fun _ => False)) := hfx.newer hf5 (fun k hk => (HSi.out k hk).1)
              have Hnw : Hid (∀ k, v5.ownBlock = some k → w.heap.size ≤ k) := fun k hk => by
                rcases hm5 k hk with h | h
                · exact (HSi.out k h).1
                · have := hfx.size; omega
              have cg0 := two_cell0 hbx
              have cg1 := two_cell1 hbx
              clear ho5 hf5 hm5 hbx hox hfx
              go_wp2_with (at_builtin; refine wpList_append_run rfl (.tmp 44) (.tmp 46) 74 rfl rfl rfl hrun5 ?_)
              go_roundg (nm - (i + 1))
              case rel =>
                refine ⟨m, i + 1, ts ++ [p], rfl, by omega, hm, rfl, by go_num, Hro.out, by simp; omega, ?_, Hfo.out, Hnw.out⟩
                have := Hti.out
                rw [mgP wt Hex.out] at this
                rw [← this]
                simp
              case measure => rw [Hg.out]; omega
        · have hm1 : ¬ (m : Int) < (nc : Int) := by omega
          have hm2 : decide ((m : Int) < (nc : Int)) = false := decide_eq_false hm1
          have Hex : Hid (∀ c, cs[m]? = some c → W wt p < W wt c) := fun c hc => by
            have := (List.getElem?_eq_some_iff.1 hc).1
            have := Hnc.out
            omega
          go_wp2
          refine wp_region_all (fun _ => False) [.c ?_, .c ?_, .c ?_, .c ?_, .c ?_, .c ?_, .c ?_, .c ?_, .c ?_, .c ?_, .c ?_, .c ?_, .c ?_, .c ?_] (by kernel_rfl) (by kernel_rfl) rfl ?last ?walk
          case last => repeat (first | exact Lasts.nil | refine Lasts.c ?_)
          case walk =>
            repeat (first | (refine wpAll_take rfl rfl (fun x hx => ?_) ?_; (focus (go_simp; with_reducible rfl)); simp only [Act.put, List.setIfInBounds_toArray, List.set_cons_zero, List.set_cons_succ]) | (refine wpAll_pass rfl rfl ?_ ?_; (focus rfl); simp only [Act.put, List.setIfInBounds_toArray, List.set_cons_zero, List.set_cons_succ]))
            refine wpAll_nil (fun wx hfx _ => ?_)
            replace hfx := (Fr.refl wr (fun _ => False)).drew.none hfx
            have hbx := hfx.kept Hbi.out (fun h => h)
            have hox := OwnX.keep Hoi.out hfx
            replace hfx := hfi.none hfx
            obtain ⟨v5, w5, hrun5, ho5, hf5, hm5⟩ := app_x_lit wx u5 _ X Y hox (by simp; omega)
            have Hro : Hid (OwnL wt w5 v5 (ts ++ [p])) := by
              show OwnX _ _ _
              rw [List.map_append, List.map_singleton, Hit.out]
              exact ho5
            have Hfo : Hid (Fr w w5 (fun _ => False)) := hfx.newer hf5 (fun k hk => (HSi.out k hk).1)
            have Hnw : Hid (∀ k, v5.ownBlock = some k → w.heap.size ≤ k) := fun k hk => by
              rcases hm5 k hk with h | h
              · exact (HSi.out k h).1
              · have := hfx.size; omega
            have cg0 := two_cell0 hbx
            have cg1 := two_cell1 hbx
            clear ho5 hf5 hm5 hbx hox hfx
            go_wp2_with (at_builtin; refine wpList_append_run rfl (.tmp 44) (.tmp 46) 74 rfl rfl rfl hrun5 ?_)
            go_roundg (nm - (i + 1))
            case rel =>
              refine ⟨m, i + 1, ts ++ [p], rfl, by omega, hm, rfl, by go_num, Hro.out, by simp; omega, ?_, Hfo.out, Hnw.out⟩
              have := Hti.out
              rw [mgP wt Hex.out] at this
              rw [← this]
              simp
            case measure => rw [Hg.out]; omega
    · have hlast : ms.drop i = [] := List.drop_eq_nil_of_le (by rw [← Hnm.out]; omega)
      have hdrop := RdX.drop (RdX.keep Hc.out hf) (by rw [List.length_map, Hnc.out]) n hn
      obtain ⟨v5, w5, hrun5, ho5, hf5, hm5⟩ := app_x wr u5 _ _ _ Ho.out hdrop (by rw [List.length_drop, List.length_map, List.length_map, ← Hnc.out]; omega)
      have Hro : Hid (OwnL wt w5 v5 (mg wt cs ms)) := by
        have := Hst.out
        rw [hlast, mgN] at this
        show OwnX _ _ _
        rw [← this, List.map_append, List.map_drop]
        exact ho5
      have Hfo : Hid (Fr w w5 (fun _ => False)) := hf.newer hf5 (fun k hk => Hnew.out k hk)
      clear hlast hdrop ho5 hf5 hm5
      go_wp2_with (at_builtin; refine wpList_append_run rfl (.tmp 49) (.tmp 52) 74 rfl rfl rfl hrun5 ?_)
      all_goals (go_ret; exact ⟨v5, rfl, Hro.out, Hfo.out⟩)

end Go.Proofs.Ytclfbdfgmeliaaa

/-
  The contract of merge's lists: the lists of package-merge.
-/
namespace Go.Proofs.Ytclfbdfgmeliaaa
open Go.RowKit

theorem Try.info74 : (Try.prog.info? 74).map (fun i => (i.zero, i.size, i.bytes)) = some (some (.slice none 0 0), 1, 24) := by kernel_rfl

/-- The first so many lists, in a slice of slices. -/
def ItsA (wt : Nat → Nat) (cs : List Nat) (w : World) (vs : List Value) : Prop := ∀ i u, vs[i]? = some u → OwnL wt w u (lv wt cs i)
def OffA (v : Value) (vs : List Value) : Prop := ∀ u ∈ vs, ∀ k, u.ownBlock = some k → v.ownBlock ≠ some k
def OwnA (wt : Nat → Nat) (cs : List Nat) (w : World) (v : Value) (vs : List Value) : Prop := w.ownsRow 0 74 1 v vs.length vs ∧ ItsA wt cs w vs ∧ OffA v vs

theorem ItsA.keep {wt : Nat → Nat} {cs : List Nat} {w w' : World} {vs : List Value} (h : ItsA wt cs w vs) (f : Fr w w' (fun _ => False)) : ItsA wt cs w' vs := fun i u hu => OwnX.keep (h i u hu) f
theorem OwnA.keep {wt : Nat → Nat} {cs : List Nat} {w w' : World} {v : Value} {vs : List Value} (h : OwnA wt cs w v vs) (f : Fr w w' (fun _ => False)) : OwnA wt cs w' v vs := ⟨f.owns h.1 (fun _ _ h => h), h.2.1.keep f, h.2.2⟩
theorem OwnA.one {wt : Nat → Nat} {cs : List Nat} {w : World} {v : Value} {vs : List Value} (h : OwnA wt cs w v vs) : ∀ u ∈ vs, u.oneCell' = true := fun u hu => by
  obtain ⟨i, hi⟩ := List.mem_iff_getElem?.1 hu
  obtain ⟨a, c, e, -⟩ := RdX.form (h.2.1 i u hi).rd
  rw [e]; rfl

theorem app_a (w : World) (v u : Value) (vs us : List Value) (h : w.ownsRow 0 74 1 v vs.length vs) (hu : Holds w u us) (h1 : ∀ x ∈ us, x.oneCell' = true) (hb : vs.length + us.length ≤ 100000000000) :
    ∃ v' w', (Builtin.append_ #[79, 79] 79 #[v, u]).run Try.prog w = .ok v' w' ∧ w'.ownsRow 0 74 1 v' (vs ++ us).length (vs ++ us) ∧ Fr w w' (fun k => v.ownBlock = some k) ∧ Moved w v v' := by
  obtain ⟨i0, hi, hz0, hz1, hz2⟩ := info_parts Try.info74
  obtain ⟨v', w', h1, h2, h3, h4, -, -⟩ := run_append_holds (P := Try.prog) w 79 79 74 i0 (.slice none 0 0) 24 Try.underlying79 hi hz0 hz1 hz2 rfl (by decide) v _ _ h u _ hu h1 hb
  refine ⟨v', w', h1, ?_, h3, h4⟩
  rw [List.length_append]
  exact h2
theorem lv_some (wt : Nat → Nat) (cs : List Nat) (k : Nat) : cs.length ≤ (lv wt cs k).length := by
  cases k with
  | zero => rw [lv, coin_length]; exact Nat.le_refl _
  | succ k => rw [lv, mg_length, coin_length]; omega

set_option maxRecDepth 4000 in
set_option maxHeartbeats 800000 in
theorem lists_any (wt : Nat → Nat) (vc : Value) (cs : List Nat) (n : Nat) (w : World) (hc : OwnL wt w vc (coin cs)) (hc1 : 1 ≤ cs.length) (hcl : cs.length ≤ 256) (hwt : ∀ s, wt s ≤ 1099511627776) (hn1 : 1 ≤ n) (hn : n ≤ 15) :
    Calls Try.prog 37 #[vc, .int .i64 (n : Int)] w fun e w' => ∃ sv vs, e = .returned sv ∧ OwnA wt cs w' sv vs ∧ vs.length = n ∧ Fr w w' (fun _ => False) := by
  obtain ⟨ac, cc, rfl, hcc⟩ := RdX.form hc.rd
  rw [List.length_map, coin_length] at hcc hc
  rw [List.length_map, coin_length]
  have Hc : Hid (OwnL wt w (.slice ac cs.length cc) (coin cs)) := hc
  obtain ⟨nc, hnc⟩ : ∃ n, n = cs.length := ⟨_, rfl⟩
  rw [← hnc] at Hc hcc hcl hc1 ⊢
  have Hnc : Hid _ := hnc
  have Hwt : Hid _ := hwt
  clear hc hnc hwt
  go_enter Try.func37, Try.ntmps37
  go_wp2_with fail
  go_loopg [5] (n - 1) (fun g S wr => ∃ (vs : List Value) (m : Nat), g = n - m ∧ 1 ≤ m ∧ m ≤ n ∧ m = vs.length ∧ OwnA wt cs wr S vs ∧ Fr w wr (fun _ => False) ∧ (∀ k, S.ownBlock = some k → w.heap.size ≤ k))
  case atStart =>
    have hlc : ∀ k, (Value.slice ac nc cc).ownBlock = some k → k < w.heap.size := OwnX.lt Hc.out
    refine ⟨[.slice ac nc cc], 1, by omega, by omega, hn1, rfl, ⟨World.ownsRow_lit (e := 74) (size := 1) (base := 0) w #[.slice ac nc cc] 1 (Nat.zero_le _) (by unfold maxLen; omega) rfl, ?_, ?_⟩, (Fr.refl w _).alloc _, fun k hk => by simp [Value.ownBlock] at hk; omega⟩
    · intro i u hu
      match i, hu with
      | 0, hu =>
        simp at hu
        subst hu
        exact OwnX.keep Hc.out ((Fr.refl w _).alloc _)
      | i + 1, hu => simp at hu
    · intro u hu k hk h2
      simp at hu
      subst hu
      have := hlc k hk
      simp [Value.ownBlock] at h2
      omega
  case round =>
    obtain ⟨vs, m, hg, hm1, hm, hmv, ho, hf, hnew⟩ := hrel
    have Hg : Hid _ := hg
    have Ho : Hid (OwnA wt cs wr u5 vs) := ho
    have Hnew : Hid _ := hnew
    have Hmv : Hid _ := hmv
    clear hg hnew
    rcases ho.1.2 with ⟨rfl, h0⟩ | ⟨g, cap, cur, rfl, hrest⟩
    · omega
    rw [← hmv] at Ho Hnew ⊢
    clear hrest
    by_cases hlt : m < n
    · obtain ⟨k, hk⟩ : ∃ k, m = k + 1 := ⟨m - 1, by omega⟩
      obtain ⟨u, hu⟩ : ∃ u, vs[k]? = some u := ⟨_, List.getElem?_eq_getElem (by omega)⟩
      have hcell : wr.cell? ⟨g, k, none⟩ = some u := by
        have := World.ownsRow.cellAt (by have := Ho.out.1; rw [← hmv] at this; exact this) k (by omega)
        rw [this, hu]
      have hru := (Ho.out.2.1 k u hu).rd
      have Hru : Hid (RdL wt wr u (lv wt cs k)) := hru
      obtain ⟨au, cu, hue, -⟩ := RdX.form hru
      subst hue
      rw [List.length_map] at hcell Hru
      obtain ⟨nl, hnl⟩ : ∃ nl, nl = (lv wt cs k).length := ⟨_, rfl⟩
      rw [← hnl] at hcell Hru
      have hk1 : IntKind.i64.wrap ((m : Int) - 1) = (k : Int) := by rw [IntWalk.i64_in _ (by omega)]; omega
      have hi1 : (k : Int) < (m : Int) := by omega
      have hi2 : k < m := by omega
      have Hk : Hid _ := hk
      have Hnl : Hid _ := hnl
      clear hu hru hk hmv hnl
      have hlong : nl ≤ 512 := by have := lv_long wt cs k; rw [← Hnl.out, ← Hnc.out] at this; omega
      have hpow : 2 ^ k ≤ 16384 := Nat.le_trans (Nat.pow_le_pow_right (by omega) (by have := Hk.out; omega : k ≤ 14)) (by decide)
      have HW : Hid (∀ y ∈ lv wt cs k, W wt y ≤ 4611686018427387903) := fun y hy => Nat.le_trans (lv_W wt cs Hwt.out k y hy) (Nat.le_trans (Nat.mul_le_mul_right _ hpow) (by decide))
      clear hpow
      go_wp2_with fail
      refine (packages_any wt _ _ _ Hru.out (by rw [← Hnl.out]; omega) HW.out (fun y hy => (lv_in wt cs k y hy).1)).mono ?_
      rintro e w1 ⟨sv1, rfl, ho1, hf1⟩
      obtain ⟨a1, c1, rfl, -⟩ := RdX.form ho1.rd
      have Ho1 : Hid (OwnL wt w1 (.slice a1 ((pk (lv wt cs k)).map (itm wt)).length c1) (pk (lv wt cs k))) := ho1
      clear ho1 hcell
      rw [List.length_map, pk_length, ← Hnl.out] at Ho1 ⊢
      go_wp2_with fail
      refine (merged_any wt _ _ (coin cs) (pk (lv wt cs k)) _ (OwnX.keep Hc.out (hf.none hf1)).rd Ho1.out.rd (by rw [coin_length, ← Hnc.out]; omega) (by rw [pk_length, ← Hnl.out]; omega)).mono ?_
      rintro e w2 ⟨sv2, rfl, ho2, hf2⟩
      obtain ⟨a2, c2, rfl, -⟩ := RdX.form ho2.rd
      have ho2' : OwnL wt w2 (.slice a2 ((mg wt (coin cs) (pk (lv wt cs k))).map (itm wt)).length c2) (lv wt cs (k + 1)) := ho2
      rw [List.length_map] at ho2' ⊢
      generalize (mg wt (coin cs) (pk (lv wt cs k))).length = n2 at ho2' ⊢
      have hf12 := hf1.none hf2
      clear ho2
      have hfa : Fr wr (w2.alloc (.cells #[.slice a2 n2 c2] 74)) (fun _ => False) := hf12.alloc _
      have hoa := Ho.out.keep hfa
      have ho3 : OwnL wt (w2.alloc (.cells #[.slice a2 n2 c2] 74)) (.slice a2 n2 c2) (lv wt cs (k + 1)) := OwnX.keep ho2' ((Fr.refl w2 _).alloc _)
      obtain ⟨v5, w5, hrun5, ho5, hf5, hm5⟩ := app_a _ _ (.slice (some ⟨w2.heap.size, 0, none⟩) 1 1) vs [.slice a2 n2 c2] hoa.1 (holds_lit w2 74 [.slice a2 n2 c2] (by simp)) (by simp [Value.oneCell']) (by simp; have := Hmv.out; omega)
      have hap := own_apart hoa.1 ho3 (by decide)
      have Hro : Hid (OwnA wt cs w5 v5 (vs ++ [.slice a2 n2 c2])) := by
        refine ⟨ho5, fun i u hu => ?_, fun u hu j hj h2 => ?_⟩
        · rcases Nat.lt_or_ge i vs.length with hi | hi
          · rw [List.getElem?_append_left hi] at hu
            exact OwnX.frame (hoa.2.1 i u hu) hf5 (fun j hj h => hoa.2.2 u (List.mem_of_getElem? hu) j hj h)
          · rw [List.getElem?_append_right hi] at hu
            have hi0 : i = k + 1 := by
              have h3 := (List.getElem?_eq_some_iff.1 hu).1
              simp at h3
              have := Hmv.out
              have := Hk.out
              omega
            subst hi0
            rw [show k + 1 - vs.length = 0 by have := Hmv.out; have := Hk.out; omega] at hu
            simp at hu
            subst hu
            exact OwnX.frame ho3 hf5 (fun j hj h => hap j hj h)
        · have hold : j < (w2.alloc (.cells #[.slice a2 n2 c2] 74)).heap.size := by
            rcases List.mem_append.1 hu with h | h
            · obtain ⟨i, hi⟩ := List.mem_iff_getElem?.1 h
              exact OwnX.lt (hoa.2.1 i u hi) j hj
            · simp at h
              subst h
              exact ho3.lt j hj
          rcases hm5 j h2 with h | h
          · rcases List.mem_append.1 hu with h3 | h3
            · exact hoa.2.2 u h3 j hj h
            · simp at h3
              subst h3
              exact hap j hj h
          · omega
      have Hfo : Hid (Fr w w5 (fun _ => False)) := (hf.none hfa).newer hf5 (fun k hk => Hnew.out k hk)
      have Hnw : Hid (∀ k, v5.ownBlock = some k → w.heap.size ≤ k) := fun k hk => by
        rcases hm5 k hk with h | h
        · exact Hnew.out k h
        · have := (hf.none hfa).size; omega
      clear hfa hoa ho3 ho5 hf5 hm5 hap ho2' hf12 hf1 hf2
      go_wp2_with (at_builtin; refine wpList_append_run rfl (.tmp 12) (.tmp 22) 79 rfl rfl rfl hrun5 ?_)
      go_roundg (n - (m + 1))
      case rel => exact ⟨_, m + 1, rfl, by omega, by omega, by simp; exact Hmv.out, Hro.out, Hfo.out, Hnw.out⟩
      case measure => rw [Hg.out]; omega
    · have hmn : m = n := by omega
      clear hmv
      go_wp2_with fail
      go_ret
      exact ⟨_, vs, rfl, Ho.out, by rw [← Hmv.out]; exact hmn, hf⟩

end Go.Proofs.Ytclfbdfgmeliaaa

/-
  The contract of merge's tally: how often each symbol is in the first items of the last list.
-/
namespace Go.Proofs.Ytclfbdfgmeliaaa
open Go.RowKit

/-- What is left to be counted. -/
def leftOf (wt : Nat → Nat) (cs : List Nat) (j t s : Nat) : Nat := if j = 0 then 0 else occ ((lv wt cs (j - 1)).take t) s
theorem left_step (wt : Nat → Nat) (cs : List Nat) (k t s : Nat) : leftOf wt cs (k + 1) t s = ((lv wt cs k).take t).count [s] + leftOf wt cs k (2 * packs ((lv wt cs k).take t)) s := by
  unfold leftOf
  rw [if_neg (by omega), show k + 1 - 1 = k by omega]
  cases k with
  | zero => rw [if_pos rfl, lv_tally0]; omega
  | succ k => rw [if_neg (by omega), (lv_tally wt cs k t s).2]; rfl

set_option maxRecDepth 4000 in
set_option maxHeartbeats 800000 in
theorem tally_any (wt : Nat → Nat) (cs : List Nat) (va : Value) (gl capl : Nat) (vs : List Value) (N n t0 : Nat) (w : World) (ha : OwnA wt cs w va vs) (hvn : vs.length = n) (hn1 : 1 ≤ n) (hn : n ≤ 15) (hl : OwnC w (.slice (some ⟨gl, 0, none⟩) N capl) (fnRow N (fun _ => 0))) (hcs : ∀ s ∈ cs, s < N) (hc1 : 1 ≤ cs.length) (hcl : cs.length ≤ 256) (ht : t0 ≤ (lv wt cs (n - 1)).length) :
    Calls Try.prog 36 #[.slice (some ⟨gl, 0, none⟩) N capl, va, .int .i64 (t0 : Int)] w fun e w' => e = .returned (.tuple #[]) ∧ OwnC w' (.slice (some ⟨gl, 0, none⟩) N capl) (fnRow N (fun s => occ ((lv wt cs (n - 1)).take t0) s)) ∧ Fr w w' (fun k => k = gl) := by
  have hgw : gl < w.heap.size := (World.ownsRow.lt hl gl rfl).2
  have hapA := own_apart hl ha.1 (by decide)
  have Hap : Hid (∀ u ∈ vs, ∀ k, u.ownBlock = some k → k ≠ gl) := fun u hu k hk e => by
    obtain ⟨i, hi⟩ := List.mem_iff_getElem?.1 hu
    exact own_apart hl (ha.2.1 i u hi) (by decide) k hk (by rw [e]; rfl)
  rcases ha.1.2 with ⟨rfl, h0⟩ | ⟨ga, capa, cura, rfl, hresta⟩
  · omega
  have hga : ga ≠ gl := fun e => hapA ga rfl (by rw [e]; rfl)
  have Ha : Hid (OwnA wt cs w (.slice (some ⟨ga, 0, none⟩) vs.length capa) vs) := ha
  rw [hvn] at Ha ⊢
  have Hl : Hid (OwnC w (.slice (some ⟨gl, 0, none⟩) N capl) (fnRow N (fun _ => 0))) := hl
  have Hvn : Hid _ := hvn
  have Hcs : Hid _ := hcs
  have Ht : Hid _ := ht
  clear ha hl hresta hvn hcs ht hapA
  go_enter Try.func36, Try.ntmps36
  have hn1' : IntKind.i64.wrap ((n : Int) - 1) = (n : Int) - 1 := IntWalk.i64_in _ (by omega)
  go_wp2_with fail
  go_loopg [2, 6] n (fun g T I wr => ∃ (j t : Nat) (z : Int) (f : Nat → Nat), g = j ∧ j ≤ n ∧ z = (j : Int) - 1 ∧ I = .int .i64 z ∧ T = .int .i64 (t : Int) ∧ OwnC wr (.slice (some ⟨gl, 0, none⟩) N capl) (fnRow N f) ∧ (∀ s, f s ≤ 1000 * (n - j)) ∧ (∀ s, f s + leftOf wt cs j t s = occ ((lv wt cs (n - 1)).take t0) s) ∧ (1 ≤ j → t ≤ (lv wt cs (j - 1)).length) ∧ Fr w wr (fun k => k = gl))
  case atStart => exact ⟨n, t0, _, fun _ => 0, rfl, by omega, rfl, rfl, rfl, Hl.out, fun s => Nat.zero_le _, fun s => by unfold leftOf; rw [if_neg (by omega)]; exact Nat.zero_add _, fun _ => Ht.out, Fr.refl _ _⟩
  case round =>
    obtain ⟨j, t, z, f, hg, hj, hz, rfl, rfl, ho, hfb, hst, htj, hf⟩ := hrel
    have Hg : Hid _ := hg
    have Ho : Hid (OwnC wr (.slice (some ⟨gl, 0, none⟩) N capl) (fnRow N f)) := ho
    have Hfb : Hid _ := hfb
    have Hst : Hid _ := hst
    have Htj : Hid _ := htj
    clear hg ho hfb hst htj
    by_cases hj0 : j = 0
    · subst hj0
      have hz0 : z = -1 := by omega
      subst hz0
      clear hz
      have Hend : Hid (fnRow N (fun s => occ ((lv wt cs (n - 1)).take t0) s) = fnRow N f) := by
        show _ = _
        congr 1
        funext s
        have := Hst.out s
        unfold leftOf at this
        rw [if_pos rfl, Nat.add_zero] at this
        exact this.symm
      go_wp2_with fail
      go_end0
      exact ⟨rfl, by rw [Hend.out]; exact Ho.out, hf⟩
    · obtain ⟨k, rfl⟩ : ∃ k, j = k + 1 := ⟨j - 1, by omega⟩
      have hzk : z = (k : Int) := by omega
      subst hzk
      clear hz hj0
      obtain ⟨u, hu⟩ : ∃ u, vs[k]? = some u := ⟨_, List.getElem?_eq_getElem (by rw [Hvn.out]; omega)⟩
      have hcell : wr.cell? ⟨ga, k, none⟩ = some u := by
        have h1 := World.ownsRow.cellAt (by have := Ha.out.1; rw [Hvn.out] at this; exact this) k (by omega)
        rw [World.cell?_of_block (w := w) (hf.block ga (World.ownsRow.lt Ha.out.1 ga rfl).2 hga), h1, hu]
      have hou := Ha.out.2.1 k u hu
      have hub := Hap.out u (List.mem_of_getElem? hu)
      replace hou := OwnX.frame hou hf (fun k hk => hub k hk)
      have htl := Htj.out (by omega)
      rw [show k + 1 - 1 = k by omega] at htl
      have hlong : (lv wt cs k).length ≤ 512 := by have := lv_long wt cs k; omega
      rcases hou.2 with ⟨rfl, h0⟩ | ⟨gu, capu, curu, hue, hrestu⟩
      · rw [List.length_map] at h0
        have := lv_some wt cs k
        omega
      · subst hue
        have hgu : gu ≠ gl := hub gu rfl
        rw [List.length_map] at hcell hou
        obtain ⟨nl, hnl⟩ : ∃ nl, nl = (lv wt cs k).length := ⟨_, rfl⟩
        rw [← hnl] at hcell hou hlong htl
        have Hou : Hid (OwnL wt wr (.slice (some ⟨gu, 0, none⟩) nl capu) (lv wt cs k)) := hou
        have hcap : nl ≤ capu := by have := hrestu.2.2.1; rw [List.length_map, ← hnl] at this; exact this
        have Hnl : Hid _ := hnl
        have hk1 : (k : Int) < (n : Int) := by omega
        have hk2 : k < n := by omega
        obtain ⟨l, hl⟩ : ∃ l, l = (lv wt cs k).take t := ⟨_, rfl⟩
        have hll : l.length = t := by rw [hl, List.length_take, ← hnl]; omega
        have Hl2 : Hid _ := hl
        have Hll : Hid _ := hll
        clear hu hou hub hrestu hnl hl hll
        go_wp2_with fail
        go_loopg [7, 24, 9] t (fun g Pk I _ wi => ∃ (q p : Nat), g = t - q ∧ q ≤ t ∧ I = .int .i64 (q : Int) ∧ Pk = .int .i64 (p : Int) ∧ p = packs (l.take q) ∧ p ≤ q ∧ OwnC wi (.slice (some ⟨gl, 0, none⟩) N capl) (fnRow N (fun s => f s + (l.take q).count [s])) ∧ OwnL wt wi (.slice (some ⟨gu, 0, none⟩) nl capu) (lv wt cs k) ∧ Fr w wi (fun k => k = gl))
        case atStart => exact ⟨0, 0, rfl, by omega, rfl, rfl, by simp [packs], by omega, by simpa using Ho.out, Hou.out, hf⟩
        case round =>
          clear Hou Ho hcell hf
          obtain ⟨q, p, hgq, hq, rfl, rfl, hp, hpq, hoi, hou, hf⟩ := hrel
          have Hgq : Hid _ := hgq
          have Hp : Hid _ := hp
          have Hoi : Hid (OwnC wr (.slice (some ⟨gl, 0, none⟩) N capl) (fnRow N (fun s => f s + (l.take q).count [s]))) := hoi
          have Hou : Hid (OwnL wt wr (.slice (some ⟨gu, 0, none⟩) nl capu) (lv wt cs k)) := hou
          clear hgq hp hoi
          by_cases hqt : q < t
          · obtain ⟨y, hy⟩ : ∃ y, l[q]? = some y := ⟨_, List.getElem?_eq_getElem (by rw [Hll.out]; exact hqt)⟩
            have hy2 : (lv wt cs k)[q]? = some y := by
              rw [Hl2.out, List.getElem?_take, if_pos hqt] at hy
              exact hy
            obtain ⟨b, off, cp, e, hb0, kx⟩ := RdX.get hou.rd q (itm wt y) (by rw [List.getElem?_map, hy2]; rfl)
            simp only [Value.slice.injEq, Option.some.injEq, Addr.mk.injEq, and_true] at e
            obtain ⟨⟨rfl, rfl⟩, -, rfl⟩ := e
            obtain ⟨c0, c1⟩ := kx wr (Fr.refl _ _)
            rw [Nat.zero_add] at c0 c1
            have hys := lv_in wt cs k y (List.mem_of_getElem? hy2)
            have htk : l.take (q + 1) = l.take q ++ [y] := by rw [List.take_add_one, hy]; rfl
            obtain ⟨X, hX⟩ : ∃ X, X = (itm wt y).1 := ⟨_, rfl⟩
            rw [← hX] at c0
            have hq1 : (q : Int) < (t : Int) := by omega
            have hql : q < nl := by omega
            have hcnt : ∀ s, (l.take q).count [s] ≤ q := fun s => Nat.le_trans List.count_le_length (by rw [List.length_take]; omega)
            by_cases hyp : isP y = true
            · have hY : (itm wt y).2 = -1 := symOf_pack hyp
              rw [hY] at c1
              have Hp2 : Hid (p + 1 = packs (l.take (q + 1))) := by
                show _ = _
                rw [htk, Hp.out]
                unfold packs
                rw [List.countP_append]
                simp [hyp]
              have Hf2 : Hid (fnRow N (fun s => f s + (l.take (q + 1)).count [s]) = fnRow N (fun s => f s + (l.take q).count [s])) := by
                show _ = _
                congr 1
                funext s
                rw [htk, List.count_append]
                have : List.count [s] [y] = 0 := by
                  rw [List.count_eq_zero]
                  intro h
                  simp at h
                  rw [← h] at hyp
                  simp [isP] at hyp
                omega
              clear hy hy2 kx hys htk hX hY hcnt hou hyp
              go_wp2_with fail
              go_roundg (t - (q + 1))
              case rel => exact ⟨q + 1, p + 1, rfl, by omega, by go_num, by go_num, Hp2.out, by omega, by rw [Hf2.out]; exact World.ownsRow.alloc Hoi.out _, OwnX.keep Hou.out ((Fr.refl wr _).alloc _), hf.alloc _⟩
              case measure => rw [Hgq.out]; omega
            · obtain ⟨s0, rfl⟩ := symOf_coin (by simpa using hyp)
              have hY : (itm wt [s0]).2 = (s0 : Int) := rfl
              rw [hY] at c1
              have hsN : s0 < N := Hcs.out s0 (hys.2.2 s0 (by simp))
              obtain ⟨x, hx⟩ : ∃ x, x = f s0 + (l.take q).count [s0] := ⟨_, rfl⟩
              have hxb : x ≤ 20000 := by
                have := hcnt s0
                have := Hfb.out s0
                omega
              have hgs : gl < wr.heap.size := (World.ownsRow.lt Hoi.out gl rfl).2
              have hfl : ∀ o, (wr.alloc o).cell? ⟨gl, s0, none⟩ = some (.int .i64 (x : Int)) ∧ (wr.alloc o).frozen? ⟨gl, s0, none⟩ = false := fun o => by
                have hoa := World.ownsRow.alloc Hoi.out o
                rw [fnRow_length] at hoa
                refine ⟨?_, World.ownsRow.frozenAt hoa s0⟩
                rw [World.ownsRow.cellAt hoa s0 (by omega), hx]
                simp [row, fnRow, hsN]
              have Hp2 : Hid (p = packs (l.take (q + 1))) := by
                show _ = _
                rw [htk, Hp.out]
                unfold packs
                rw [List.countP_append]
                simp [hyp]
              have Hf2 : Hid ((fnRow N (fun s => f s + (l.take q).count [s])).set s0 (x + 1) = fnRow N (fun s => f s + (l.take (q + 1)).count [s])) := by
                show _ = _
                refine fnRow_set N _ _ s0 _ ?_ ?_
                · rw [htk, List.count_append, hx]
                  simp
                  omega
                · intro t ht
                  rw [htk, List.count_append]
                  have : List.count [t] [[s0]] = 0 := by
                    rw [List.count_eq_zero]
                    intro h
                    simp at h
                    exact ht h
                  omega
              have Hst2 : Hid (∀ o, OwnC ((wr.setCell ⟨gl, s0, none⟩ (.int .i64 ((x : Int) + 1))).alloc o) (.slice (some ⟨gl, 0, none⟩) N capl) (fnRow N (fun s => f s + (l.take (q + 1)).count [s]))) := fun o => by
                have hoa := Hoi.out
                unfold OwnC at hoa
                rw [fnRow_length] at hoa
                have := World.ownsRow.alloc (World.ownsRow.stored hoa s0 (.int .i64 ((x : Int) + 1))).1 o
                unfold OwnC
                rw [fnRow_length, ← Hf2.out, row_set]
                exact this
              have hxw : IntKind.i64.wrap ((x : Int) + 1) = ((x + 1 : Nat) : Int) := by rw [IntWalk.i64_in _ (by omega)]; omega
              have hs1 : (s0 : Int) < (N : Int) := by omega
              have hs2 : ((s0 : Int) == -1) = false := by rw [beq_eq_false_iff_ne]; omega
              clear hy hy2 kx hys htk hX hY hcnt hou hyp hx
              have hf0 := (hfl (.cells #[.int .i64 X, .int .i64 (s0 : Int)] 77)).1
              have hf1 := (hfl (.cells #[.int .i64 X, .int .i64 (s0 : Int)] 77)).2
              clear hfl
              go_wp2_with fail
              go_roundg (t - (q + 1))
              case rel => exact ⟨q + 1, p, rfl, by omega, by go_num, rfl, Hp2.out, by omega, Hst2.out _, OwnX.frame Hou.out (((Fr.refl wr (fun k => k = gl)).setCell ⟨gl, s0, none⟩ (fun _ => rfl) _).alloc _) (fun k hk => by simp [Value.ownBlock] at hk; omega), (hf.setCell ⟨gl, s0, none⟩ (fun _ => rfl) _).alloc _⟩
              case measure => rw [Hgq.out]; omega
          · have hqe : q = t := by omega
            subst hqe
            have hlq : l.take q = l := List.take_of_length_le (by rw [Hll.out]; exact Nat.le_refl _)
            have Hp2 : Hid (p = packs l) := by have := Hp.out; rw [hlq] at this; exact this
            have Ho2 : Hid (OwnC wr (.slice (some ⟨gl, 0, none⟩) N capl) (fnRow N (fun s => f s + l.count [s]))) := by have := Hoi.out; rw [hlq] at this; exact this
            have hw2 : IntKind.i64.wrap (2 * (p : Int)) = ((2 * p : Nat) : Int) := by rw [IntWalk.i64_in _ (by omega)]; omega
            have hkw : IntKind.i64.wrap ((k : Int) - 1) = (k : Int) - 1 := IntWalk.i64_in _ (by omega)
            clear hlq hou
            go_wp2_with fail
            go_roundg k
            case rel =>
              refine ⟨k, 2 * p, (k : Int) - 1, fun s => f s + l.count [s], rfl, by omega, rfl, by first | rfl | rw [hkw], by first | rfl | rw [hw2], Ho2.out, fun s => ?_, fun s => ?_, fun hk1 => ?_, hf⟩
              · have h1 : l.count [s] ≤ 512 := Nat.le_trans List.count_le_length (by rw [Hll.out]; omega)
                have := Hfb.out s
                show f s + l.count [s] ≤ _
                omega
              · have h1 := Hst.out s
                rw [left_step, ← Hl2.out, ← Hp2.out] at h1
                show f s + l.count [s] + _ = _
                omega
              · obtain ⟨k', rfl⟩ : ∃ k', k = k' + 1 := ⟨k - 1, by omega⟩
                have := (lv_tally wt cs k' q 0).1
                rw [← Hl2.out, ← Hp2.out] at this
                exact this
            case measure => rw [Hg.out]; omega

end Go.Proofs.Ytclfbdfgmeliaaa
