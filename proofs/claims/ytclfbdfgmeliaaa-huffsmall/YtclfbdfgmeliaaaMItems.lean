/-
  The program's items: a count and a symbol each.
-/
import Derived.Test.YtclfbdfgmeliaaaRows
import Derived.Test.YtclfbdfgmeliaaaWide
import Derived.Test.YtclfbdfgmeliaaaAny
import Derived.Test.YtclfbdfgmeliaaaPTally
import Derived.Test.YtclfbdfgmeliaaaRInts
import Derived.WalkLawsBesides
import Derived.Deep.LoopGhost
namespace Go.Proofs.Ytclfbdfgmeliaaa
open Go.RowKit

theorem Try.info77 : (Try.prog.info? 77).map (fun i => (i.zero, i.size, i.bytes)) = some (some (.agg #[.int .i64 0, .int .i64 0]), 2, 16) := by kernel_rfl

def enc2 (x : Int × Int) : List Value := [.int .i64 x.1, .int .i64 x.2]
def xrow (xs : List (Int × Int)) : List Value := xs.flatMap enc2
def RdX (w : World) (v : Value) (xs : List (Int × Int)) : Prop := HoldsN 2 w v xs.length (xrow xs)
def OwnX (w : World) (v : Value) (xs : List (Int × Int)) : Prop := w.ownsRow 0 77 2 v xs.length (xrow xs)

theorem xrow_length (xs : List (Int × Int)) : (xrow xs).length = xs.length * 2 := by
  induction xs with
  | nil => rfl
  | cons p ps ih => simp [xrow, enc2] at ih ⊢; omega
theorem xrow_append (a b : List (Int × Int)) : xrow (a ++ b) = xrow a ++ xrow b := by simp [xrow]
theorem xrow_take : ∀ (ps : List (Int × Int)) (n : Nat), (xrow ps).take (n * 2) = xrow (ps.take n)
  | [], n => by simp [xrow]
  | p :: ps, 0 => by simp [xrow]
  | p :: ps, n + 1 => by
    have := xrow_take ps n
    simp only [xrow, List.flatMap_cons, List.take_succ_cons] at this ⊢
    rw [Nat.succ_mul, List.take_append, List.take_of_length_le (by simp [enc2])]
    simp [this, enc2]
theorem xrow_drop : ∀ (ps : List (Int × Int)) (n : Nat), (xrow ps).drop (n * 2) = xrow (ps.drop n)
  | [], n => by simp [xrow]
  | p :: ps, 0 => by simp [xrow]
  | p :: ps, n + 1 => by
    have := xrow_drop ps n
    simp only [xrow, List.flatMap_cons, List.drop_succ_cons] at this ⊢
    rw [Nat.succ_mul, List.drop_append, List.drop_eq_nil_of_le (by simp [enc2])]
    simp [this, enc2]
theorem xrow_get (ps : List (Int × Int)) (i : Nat) (p : Int × Int) (h : ps[i]? = some p) : (xrow ps)[i * 2]? = some (.int .i64 p.1) ∧ (xrow ps)[i * 2 + 1]? = some (.int .i64 p.2) := by
  have hd := xrow_drop ps i
  have hi : i < ps.length := (List.getElem?_eq_some_iff.1 h).1
  have e : ps.drop i = p :: ps.drop (i + 1) := by
    rw [List.drop_eq_getElem_cons hi]
    rw [List.getElem?_eq_getElem hi] at h
    simp only [Option.some.injEq] at h
    rw [h]
  rw [e] at hd
  have h0 : ((xrow ps).drop (i * 2))[0]? = some (.int .i64 p.1) := by rw [hd]; rfl
  have h1 : ((xrow ps).drop (i * 2))[1]? = some (.int .i64 p.2) := by rw [hd]; rfl
  rw [List.getElem?_drop] at h0 h1
  exact ⟨h0, h1⟩
theorem xrow_one (ps : List (Int × Int)) : ∀ u ∈ xrow ps, u.oneCell' = true := by
  intro u hu
  simp only [xrow, List.mem_flatMap] at hu
  obtain ⟨p, hp, hu⟩ := hu
  simp [enc2] at hu
  rcases hu with rfl | rfl <;> rfl
theorem RdX.keep {w w' : World} {v : Value} {ps : List (Int × Int)} (h : RdX w v ps) (f : Fr w w' (fun _ => False)) : RdX w' v ps := HoldsN.keep h f
theorem RdX.frame {w w' : World} {v : Value} {ps : List (Int × Int)} {S : Nat → Prop} (h : RdX w v ps) (f : Fr w w' S) (hs : 0 < ps.length → ∀ k, v.ownBlock = some k → ¬ S k) : RdX w' v ps := HoldsN.frame h f hs
theorem OwnX.rd {w : World} {v : Value} {ps : List (Int × Int)} (h : OwnX w v ps) : RdX w v ps := holdsN_own h
theorem OwnX.nil (w : World) : OwnX w (.slice none 0 0) [] := World.ownsRow_nil _ _ _ _
theorem OwnX.lt {w : World} {v : Value} {ps : List (Int × Int)} (h : OwnX w v ps) : ∀ k, v.ownBlock = some k → k < w.heap.size := fun k hk => (World.ownsRow.lt h k hk).2
theorem OwnX.frame {w w' : World} {v : Value} {ps : List (Int × Int)} {S : Nat → Prop} (h : OwnX w v ps) (f : Fr w w' S) (hs : ∀ k, v.ownBlock = some k → ¬ S k) : OwnX w' v ps := f.owns h hs
theorem OwnX.keep {w w' : World} {v : Value} {ps : List (Int × Int)} (h : OwnX w v ps) (f : Fr w w' (fun _ => False)) : OwnX w' v ps := f.owns h (fun _ _ h => h)
theorem RdX.form {w : World} {v : Value} {ps : List (Int × Int)} (h : RdX w v ps) : ∃ ao cap, v = .slice ao ps.length cap ∧ ps.length ≤ cap := by
  obtain ⟨-, ao, cap, h1, h2, -⟩ := h
  exact ⟨ao, cap, h1, h2⟩
/-- Items are old. -/
theorem RdX.lt {w : World} {v : Value} {ps : List (Int × Int)} (h : RdX w v ps) (hp : 0 < ps.length) : ∀ k, v.ownBlock = some k → k < w.heap.size := fun k hk => by
  obtain ⟨hl, ao, cap, rfl, -, hc⟩ := h
  obtain ⟨b, off, rfl, hcell⟩ := hc hp
  simp [Value.ownBlock] at hk
  subst hk
  have : 0 < (xrow ps).length := by omega
  exact World.block_lt_of_cell? _ _ (hcell 0 _ (List.getElem?_eq_getElem this))
theorem RdX.get {w : World} {v : Value} {ps : List (Int × Int)} (h : RdX w v ps) (i : Nat) (p : Int × Int) (hi : ps[i]? = some p) :
    ∃ b off cap, v = .slice (some ⟨b, off, none⟩) ps.length cap ∧ b < w.heap.size ∧ ∀ x, Fr w x (fun _ => False) → x.cell? ⟨b, off + i * 2, none⟩ = some (.int .i64 p.1) ∧ x.cell? ⟨b, off + i * 2 + 1, none⟩ = some (.int .i64 p.2) := by
  obtain ⟨-, ao, cap, rfl, h2, hc⟩ := h
  have hil := (List.getElem?_eq_some_iff.1 hi).1
  obtain ⟨b, off, rfl, hcell⟩ := hc (by omega)
  obtain ⟨h3, h4⟩ := xrow_get ps i p hi
  have c3 := hcell _ _ h3
  have c4 := hcell _ _ h4
  have hb := World.block_lt_of_cell? _ _ c3
  refine ⟨b, off, cap, rfl, hb, fun x hx => ?_⟩
  exact ⟨(World.cell?_of_block (w := w) (hx.block b hb (fun h => h))).trans c3, (World.cell?_of_block (w := w) (hx.block b hb (fun h => h))).trans (by rw [Nat.add_assoc]; exact c4)⟩

/-- append onto items that the call owns, of items that can be read. -/
theorem app_x (w : World) (v u : Value) (ps qs : List (Int × Int)) (h : OwnX w v ps) (hu : RdX w u qs) (hb : ps.length + qs.length ≤ 100000000000) :
    ∃ v' w', (Builtin.append_ #[74, 74] 74 #[v, u]).run Try.prog w = .ok v' w' ∧ OwnX w' v' (ps ++ qs) ∧ Fr w w' (fun k => v.ownBlock = some k) ∧ Moved w v v' := by
  obtain ⟨i0, hi, hz0, hz1, hz2⟩ := info_parts Try.info77
  obtain ⟨v', w', h1, h2, h3, h4⟩ := run_append_wide (P := Try.prog) w 74 74 77 i0 _ 2 16 Try.underlying74 hi hz0 hz1 hz2 rfl (by decide) (by decide) v _ _ h u _ _ hu (xrow_one qs) hb
  refine ⟨v', w', h1, ?_, h3, h4⟩
  unfold OwnX
  rw [List.length_append, xrow_append]; exact h2
/-- .. of one item that is written out. -/
theorem app_x_lit (w : World) (v : Value) (ps : List (Int × Int)) (x y : Int) (h : OwnX w v ps) (hb : ps.length ≤ 10000000) :
    ∃ v' w', (Builtin.append_ #[74, 74] 74 #[v, .slice (some ⟨w.heap.size, 0, none⟩) 1 1]).run Try.prog (w.alloc (.cells #[.int .i64 x, .int .i64 y] 77)) = .ok v' w' ∧ OwnX w' v' (ps ++ [(x, y)]) ∧ Fr w w' (fun k => v.ownBlock = some k) ∧ Moved w v v' := by
  have hf := (Fr.refl w (fun _ => False)).alloc (.cells #[.int .i64 x, .int .i64 y] 77)
  obtain ⟨v', w', h1, h2, h3, h4⟩ := app_x _ v _ ps [(x, y)] (h.keep hf) (holdsN_lit 2 w 77 1 (xrow [(x, y)]) (by simp [xrow, enc2]) (by omega)) (by simp; omega)
  exact ⟨v', w', h1, h2, ((Fr.refl w _).alloc _).trans h3 (fun _ _ h => h), h4.mono' (by simp)⟩
theorem RdX.drop {w : World} {ao : Option Addr} {len cap : Nat} {ps : List (Int × Int)} (h : RdX w (.slice ao len cap) ps) (hl : ps.length = len) (n : Nat) (hn : n ≤ len) : RdX w (.slice (if cap = n then ao else Option.map (fun x => x.add (n * 2)) ao) (len - n) (cap - n)) (ps.drop n) := by
  obtain ⟨h1, ao', cap', e, hlc, hc⟩ := h
  simp only [Value.slice.injEq] at e
  obtain ⟨rfl, -, rfl⟩ := e
  refine ⟨xrow_length _, _, _, by rw [List.length_drop, hl], by rw [List.length_drop]; omega, fun hp => ?_⟩
  rw [List.length_drop] at hp
  obtain ⟨b, off, rfl, hcell⟩ := hc (by omega)
  rw [if_neg (by omega)]
  refine ⟨b, off + n * 2, by simp [add_none], fun j u hj => ?_⟩
  rw [← xrow_drop, List.getElem?_drop] at hj
  rw [Nat.add_assoc]
  exact hcell _ _ hj
theorem RdX.take {w : World} {ao : Option Addr} {len cap : Nat} {ps : List (Int × Int)} (h : RdX w (.slice ao len cap) ps) (hl : ps.length = len) (n : Nat) (hn : n ≤ len) : RdX w (.slice ao n cap) (ps.take n) := by
  subst hl
  have := HoldsN.take h n hn
  unfold RdX
  rw [List.length_take, Nat.min_eq_left hn, ← xrow_take]
  exact this

end Go.Proofs.Ytclfbdfgmeliaaa
