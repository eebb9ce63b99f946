/-
  The reference's coins and packages: a count and symbols each.
-/
import Derived.Test.YtclfbdfgmeliaaaRows
import Derived.Test.YtclfbdfgmeliaaaWide
import Derived.Test.YtclfbdfgmeliaaaTree
import Derived.Test.YtclfbdfgmeliaaaPLaws
import Derived.WalkLawsBesides
import Derived.Deep.LoopGhost
namespace Go.Proofs.Ytclfbdfgmeliaaa
open Go.RowKit

theorem Try.info71 : (Try.prog.info? 71).map (fun i => (i.zero, i.size, i.bytes)) = some (some (.agg #[.int .i64 0, .slice none 0 0]), 2, 32) := by kernel_rfl
theorem Try.info3 : (Try.prog.info? 3).map (fun i => (i.zero, i.size, i.bytes)) = some (some (.int .i64 0), 1, 8) := by kernel_rfl

/-- A package in memory: its symbols, and the slice that holds them. -/
abbrev Pk := List Nat × Value
def irow (wt : Nat → Nat) (ps : List Pk) : List Value := ps.flatMap fun p => [.int .i64 ((W wt p.1 : Nat) : Int), p.2]
def Good (w : World) (ps : List Pk) : Prop := ∀ p ∈ ps, Reads .i64 w p.2 p.1
def RdI (wt : Nat → Nat) (w : World) (v : Value) (ps : List Pk) : Prop := HoldsN 2 w v ps.length (irow wt ps) ∧ Good w ps
def OwnI (wt : Nat → Nat) (w : World) (v : Value) (ps : List Pk) : Prop := w.ownsRow 0 71 2 v ps.length (irow wt ps) ∧ Good w ps

theorem irow_length (wt : Nat → Nat) (ps : List Pk) : (irow wt ps).length = ps.length * 2 := by
  induction ps with
  | nil => rfl
  | cons p ps ih => simp [irow] at ih ⊢; omega
theorem irow_append (wt : Nat → Nat) (a b : List Pk) : irow wt (a ++ b) = irow wt a ++ irow wt b := by simp [irow]
theorem irow_take (wt : Nat → Nat) : ∀ (ps : List Pk) (n : Nat), (irow wt ps).take (n * 2) = irow wt (ps.take n)
  | [], n => by simp [irow]
  | p :: ps, 0 => by simp [irow]
  | p :: ps, n + 1 => by
    have := irow_take wt ps n
    simp only [irow, List.flatMap_cons, List.take_succ_cons] at this ⊢
    rw [Nat.succ_mul, List.take_append, List.take_of_length_le (by simp)]
    simp [this]
theorem irow_drop (wt : Nat → Nat) : ∀ (ps : List Pk) (n : Nat), (irow wt ps).drop (n * 2) = irow wt (ps.drop n)
  | [], n => by simp [irow]
  | p :: ps, 0 => by simp [irow]
  | p :: ps, n + 1 => by
    have := irow_drop wt ps n
    simp only [irow, List.flatMap_cons, List.drop_succ_cons] at this ⊢
    rw [Nat.succ_mul, List.drop_append, List.drop_eq_nil_of_le (by simp)]
    simp [this]
theorem irow_get (wt : Nat → Nat) (ps : List Pk) (i : Nat) (p : Pk) (h : ps[i]? = some p) : (irow wt ps)[i * 2]? = some (.int .i64 ((W wt p.1 : Nat) : Int)) ∧ (irow wt ps)[i * 2 + 1]? = some p.2 := by
  have hd := irow_drop wt ps i
  have hi : i < ps.length := (List.getElem?_eq_some_iff.1 h).1
  have e : ps.drop i = p :: ps.drop (i + 1) := by
    rw [List.drop_eq_getElem_cons hi]
    rw [List.getElem?_eq_getElem hi] at h
    simp only [Option.some.injEq] at h
    rw [h]
  rw [e] at hd
  have h0 : ((irow wt ps).drop (i * 2))[0]? = some (.int .i64 ((W wt p.1 : Nat) : Int)) := by rw [hd]; rfl
  have h1 : ((irow wt ps).drop (i * 2))[1]? = some p.2 := by rw [hd]; rfl
  rw [List.getElem?_drop] at h0 h1
  exact ⟨h0, h1⟩
theorem irow_one {w : World} (wt : Nat → Nat) (ps : List Pk) (h : Good w ps) : ∀ u ∈ irow wt ps, u.oneCell' = true := by
  intro u hu
  simp only [irow, List.mem_flatMap] at hu
  obtain ⟨p, hp, hu⟩ := hu
  simp at hu
  rcases hu with rfl | rfl
  · rfl
  · obtain ⟨a, l, c, e⟩ := (h p hp).form
    rw [e]; rfl
theorem Good.keep {w w' : World} {ps : List Pk} (h : Good w ps) (f : Fr w w' (fun _ => False)) : Good w' ps := fun p hp => (h p hp).keep f
theorem Good.append {w : World} {a b : List Pk} (h : Good w a) (k : Good w b) : Good w (a ++ b) := fun p hp => by
  rcases List.mem_append.1 hp with hp | hp
  · exact h p hp
  · exact k p hp
theorem RdI.keep {wt : Nat → Nat} {w w' : World} {v : Value} {ps : List Pk} (h : RdI wt w v ps) (f : Fr w w' (fun _ => False)) : RdI wt w' v ps := ⟨h.1.keep f, h.2.keep f⟩
theorem OwnI.rd {wt : Nat → Nat} {w : World} {v : Value} {ps : List Pk} (h : OwnI wt w v ps) : RdI wt w v ps := ⟨holdsN_own h.1, h.2⟩
theorem OwnI.nil (wt : Nat → Nat) (w : World) : OwnI wt w (.slice none 0 0) [] := ⟨World.ownsRow_nil _ _ _ _, fun p hp => by cases hp⟩
theorem RdI.form {wt : Nat → Nat} {w : World} {v : Value} {ps : List Pk} (h : RdI wt w v ps) : ∃ ao cap, v = .slice ao ps.length cap ∧ ps.length ≤ cap := by
  obtain ⟨⟨-, ao, cap, h1, h2, -⟩, -⟩ := h
  exact ⟨ao, cap, h1, h2⟩
theorem RdI.get {wt : Nat → Nat} {w : World} {v : Value} {ps : List Pk} (h : RdI wt w v ps) (i : Nat) (p : Pk) (hi : ps[i]? = some p) :
    ∃ b off cap, v = .slice (some ⟨b, off, none⟩) ps.length cap ∧ w.cell? ⟨b, off + i * 2, none⟩ = some (.int .i64 ((W wt p.1 : Nat) : Int)) ∧ w.cell? ⟨b, off + i * 2 + 1, none⟩ = some p.2 ∧ Reads .i64 w p.2 p.1 := by
  obtain ⟨⟨-, ao, cap, rfl, h2, hc⟩, hg⟩ := h
  have hil := (List.getElem?_eq_some_iff.1 hi).1
  obtain ⟨b, off, rfl, hcell⟩ := hc (by omega)
  obtain ⟨h3, h4⟩ := irow_get wt ps i p hi
  exact ⟨b, off, cap, rfl, hcell _ _ h3, by rw [Nat.add_assoc]; exact hcell _ _ h4, hg p (List.mem_of_getElem? hi)⟩

/-- append onto packages that the call owns, of packages that can be read. -/
theorem app_items (wt : Nat → Nat) (w : World) (v u : Value) (ps qs : List Pk) (h : OwnI wt w v ps) (hu : RdI wt w u qs) (hb : ps.length + qs.length ≤ 100000000000) (hold : ∀ p ∈ ps ++ qs, ∀ k, p.2.ownBlock = some k → 0 < p.1.length → v.ownBlock ≠ some k) :
    ∃ v' w', (Builtin.append_ #[68, 68] 68 #[v, u]).run Try.prog w = .ok v' w' ∧ OwnI wt w' v' (ps ++ qs) ∧ Fr w w' (fun k => v.ownBlock = some k) ∧ Moved w v v' := by
  obtain ⟨i0, hi, hz0, hz1, hz2⟩ := info_parts Try.info71
  obtain ⟨v', w', h1, h2, h3, h4⟩ := run_append_wide (P := Try.prog) w 68 68 71 i0 _ 2 32 Try.underlying68 hi hz0 hz1 hz2 rfl (by decide) (by decide) v _ _ h.1 u _ _ hu.1 (irow_one wt qs hu.2) hb
  refine ⟨v', w', h1, ⟨?_, fun p hp => ?_⟩, h3, h4⟩
  · rw [List.length_append, irow_append]; exact h2
  · have hr := (h.2.append hu.2) p hp
    exact hr.frame' h3 (fun hl k hk => hold p hp k hk hl)

theorem OwnI.keep {wt : Nat → Nat} {w w' : World} {v : Value} {ps : List Pk} (h : OwnI wt w v ps) (f : Fr w w' (fun _ => False)) : OwnI wt w' v ps := ⟨f.owns h.1 (fun _ _ h => h), h.2.keep f⟩
theorem OwnI.lt {wt : Nat → Nat} {w : World} {v : Value} {ps : List Pk} (h : OwnI wt w v ps) : ∀ k, v.ownBlock = some k → k < w.heap.size := fun k hk => (World.ownsRow.lt h.1 k hk).2
/-- .. of one package that is written out. -/
theorem app_item_lit (wt : Nat → Nat) (w : World) (v : Value) (ps : List Pk) (s : List Nat) (y : Value) (x : Int) (hx : x = ((W wt s : Nat) : Int)) (h : OwnI wt w v ps) (hy : Reads .i64 w y s) (hb : ps.length ≤ 10000000) (hold : ∀ p ∈ ps ++ [(s, y)], ∀ k, p.2.ownBlock = some k → 0 < p.1.length → v.ownBlock ≠ some k) :
    ∃ v' w', (Builtin.append_ #[68, 68] 68 #[v, .slice (some ⟨w.heap.size, 0, none⟩) 1 1]).run Try.prog (w.alloc (.cells #[.int .i64 x, y] 71)) = .ok v' w' ∧ OwnI wt w' v' (ps ++ [(s, y)]) ∧ Fr w w' (fun k => v.ownBlock = some k) ∧ Moved w v v' := by
  subst hx
  have hf := (Fr.refl w (fun _ => False)).alloc (.cells #[.int .i64 ((W wt s : Nat) : Int), y] 71)
  obtain ⟨v', w', h1, h2, h3, h4⟩ := app_items wt _ v _ ps [(s, y)] (h.keep hf) ⟨holdsN_lit 2 w 71 1 (irow wt [(s, y)]) (by simp [irow]) (by omega), fun p hp => by simp at hp; subst hp; exact hy.keep hf⟩ (by simp; omega) hold
  exact ⟨v', w', h1, h2, ((Fr.refl w _).alloc _).trans h3 (fun _ _ h => h), h4.mono' (by simp)⟩
theorem RdI.drop {wt : Nat → Nat} {w : World} {ao : Option Addr} {len cap : Nat} {ps : List Pk} (h : RdI wt w (.slice ao len cap) ps) (hl : ps.length = len) (n : Nat) (hn : n ≤ len) : RdI wt w (.slice (if cap = n then ao else Option.map (fun x => x.add (n * 2)) ao) (len - n) (cap - n)) (ps.drop n) := by
  obtain ⟨⟨h1, ao', cap', e, hlc, hc⟩, hg⟩ := h
  simp only [Value.slice.injEq] at e
  obtain ⟨rfl, -, rfl⟩ := e
  refine ⟨⟨irow_length _ _, _, _, by rw [List.length_drop, hl], by rw [List.length_drop]; omega, fun hp => ?_⟩, fun p hp => hg p (List.mem_of_mem_drop hp)⟩
  rw [List.length_drop] at hp
  obtain ⟨b, off, rfl, hcell⟩ := hc (by omega)
  rw [if_neg (by omega)]
  refine ⟨b, off + n * 2, by simp [add_none], fun j u hj => ?_⟩
  rw [← irow_drop, List.getElem?_drop] at hj
  rw [Nat.add_assoc]
  exact hcell _ _ hj

/-- A slice of numbers that the call owns. -/
def OwnN (w : World) (v : Value) (bs : List Nat) : Prop := w.ownsRow 0 3 1 v bs.length (row .i64 bs)
theorem OwnN.nil (w : World) : OwnN w (.slice none 0 0) [] := World.ownsRow_nil _ _ _ _
theorem OwnN.reads {w : World} {v : Value} {bs : List Nat} (h : OwnN w v bs) : Reads .i64 w v bs := holds_own h
theorem OwnN.alloc {w : World} {v : Value} {bs : List Nat} (h : OwnN w v bs) (o : Obj) : OwnN (w.alloc o) v bs := World.ownsRow.alloc h o
theorem OwnN.lt {w : World} {v : Value} {bs : List Nat} (h : OwnN w v bs) : ∀ k, v.ownBlock = some k → k < w.heap.size := fun k hk => (World.ownsRow.lt h k hk).2
theorem OwnN.frame {w w' : World} {v : Value} {bs : List Nat} {S : Nat → Prop} (h : OwnN w v bs) (f : Fr w w' S) (hs : ∀ k, v.ownBlock = some k → ¬ S k) : OwnN w' v bs := f.owns h hs
theorem app_ints (w : World) (v u : Value) (bs cs : List Nat) (h : OwnN w v bs) (hu : Reads .i64 w u cs) (hb : bs.length + cs.length ≤ 100000000000) :
    ∃ v' w', (Builtin.append_ #[28, 28] 28 #[v, u]).run Try.prog w = .ok v' w' ∧ OwnN w' v' (bs ++ cs) ∧ Fr w w' (fun k => v.ownBlock = some k) ∧ Moved w v v' ∧ Reads .i64 w' v bs := by
  obtain ⟨i0, hi, hz0, hz1, hz2⟩ := info_parts Try.info3
  obtain ⟨v', w', h1, h2, h3, h4, h5, -⟩ := run_append_holds (P := Try.prog) w 28 28 3 i0 (.int .i64 0) 8 Try.underlying28 hi hz0 hz1 hz2 rfl (by decide) v _ _ h u _ hu (row_one _ _) (by rw [length_row]; exact hb)
  refine ⟨v', w', h1, ?_, h3, h4, h5⟩
  unfold OwnN
  rw [length_row] at h2
  rw [List.length_append, row_append]
  exact h2

end Go.Proofs.Ytclfbdfgmeliaaa
