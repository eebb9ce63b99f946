/-
  Slices of events, of edges: how they lie in memory; parts of them; append.
-/
import Derived.Test.YtojeaggnknnnoaaXMath
import Derived.Test.YtojeaggnknnnoaaEOwn
import Derived.Test.YtojeaggnknnnoaaERef
namespace Go.Proofs.Ytojeaggnknnnoaa
open Go.RowKit

/-- An event as a value, as cells; events in a slice; a history. -/
def evV (x : Ev) : Value := eventV x.1 x.2.1 x.2.2
def encV (x : Ev) : List Value := [.int .i64 x.1, .int .u32 (x.2.1.1 : Int), .int .u32 (x.2.1.2 : Int), .bool x.2.2]
def vrow (xs : List Ev) : List Value := xs.flatMap encV
def RdV (w : World) (v : Value) (xs : List Ev) : Prop := HoldsN 4 w v xs.length (vrow xs)
def OwnV (w : World) (v : Value) (xs : List Ev) : Prop := w.ownsRow 0 42 4 v xs.length (vrow xs)
def histV (n : Nat) (v : Value) : Value := .agg #[.int .u64 (n : Int), v]
/-- The numbers fit. -/
def EvFit (x : Ev) : Prop := (-9223372036854775808 ≤ x.1 ∧ x.1 ≤ 9223372036854775807) ∧ x.2.1.1 < 4294967296 ∧ x.2.1.2 < 4294967296
def EgFit (x : Eg) : Prop := x.1 < 4294967296 ∧ x.2 < 4294967296

theorem vrow_length (xs : List Ev) : (vrow xs).length = xs.length * 4 := by
  induction xs with
  | nil => rfl
  | cons p ps ih => simp [vrow, encV] at ih ⊢; omega
theorem vrow_append (a b : List Ev) : vrow (a ++ b) = vrow a ++ vrow b := by simp [vrow]
theorem vrow_drop : ∀ (ps : List Ev) (n : Nat), (vrow ps).drop (n * 4) = vrow (ps.drop n)
  | [], n => by simp [vrow]
  | p :: ps, 0 => by simp [vrow]
  | p :: ps, n + 1 => by
    have := vrow_drop ps n
    simp only [vrow, List.flatMap_cons, List.drop_succ_cons] at this ⊢
    rw [Nat.succ_mul, List.drop_append, List.drop_eq_nil_of_le (by simp [encV])]
    simp [this, encV]
theorem vrow_take : ∀ (ps : List Ev) (n : Nat), (vrow ps).take (n * 4) = vrow (ps.take n)
  | [], n => by simp [vrow]
  | p :: ps, 0 => by simp [vrow]
  | p :: ps, n + 1 => by
    have := vrow_take ps n
    simp only [vrow, List.flatMap_cons, List.take_succ_cons] at this ⊢
    rw [Nat.succ_mul, List.take_append, List.take_of_length_le (by simp [encV])]
    simp [this, encV]
theorem erow_take : ∀ (ps : List Eg) (n : Nat), (erow ps).take (n * 2) = erow (ps.take n)
  | [], n => by simp [erow]
  | p :: ps, 0 => by simp [erow]
  | p :: ps, n + 1 => by
    have := erow_take ps n
    simp only [erow, List.flatMap_cons, List.take_succ_cons] at this ⊢
    rw [Nat.succ_mul, List.take_append, List.take_of_length_le (by simp [encE])]
    simp [this, encE]
theorem vrow_one (ps : List Ev) : ∀ u ∈ vrow ps, u.oneCell' = true := by
  intro u hu
  simp only [vrow, List.mem_flatMap] at hu
  obtain ⟨p, hp, hu⟩ := hu
  simp [encV] at hu
  rcases hu with rfl | rfl | rfl | rfl <;> rfl
theorem vrow_get (ps : List Ev) (i : Nat) (p : Ev) (h : ps[i]? = some p) : (vrow ps)[i * 4]? = some (.int .i64 p.1) ∧ (vrow ps)[i * 4 + 1]? = some (.int .u32 (p.2.1.1 : Int)) ∧ (vrow ps)[i * 4 + 2]? = some (.int .u32 (p.2.1.2 : Int)) ∧ (vrow ps)[i * 4 + 3]? = some (.bool p.2.2) := by
  have hd := vrow_drop ps i
  have hi : i < ps.length := (List.getElem?_eq_some_iff.1 h).1
  have e : ps.drop i = p :: ps.drop (i + 1) := by
    rw [List.drop_eq_getElem_cons hi]
    rw [List.getElem?_eq_getElem hi] at h
    simp only [Option.some.injEq] at h
    rw [h]
  rw [e] at hd
  have h0 : ((vrow ps).drop (i * 4))[0]? = some (.int .i64 p.1) := by rw [hd]; rfl
  have h1 : ((vrow ps).drop (i * 4))[1]? = some (.int .u32 (p.2.1.1 : Int)) := by rw [hd]; rfl
  have h2 : ((vrow ps).drop (i * 4))[2]? = some (.int .u32 (p.2.1.2 : Int)) := by rw [hd]; rfl
  have h3 : ((vrow ps).drop (i * 4))[3]? = some (.bool p.2.2) := by rw [hd]; rfl
  rw [List.getElem?_drop] at h0 h1 h2 h3
  exact ⟨h0, h1, h2, h3⟩

theorem HoldsN.drop {size : Nat} {w : World} {ao : Option Addr} {len cap : Nat} {xs : List Value} (h : HoldsN size w (.slice ao len cap) len xs) (n : Nat) (hn : n ≤ len) : HoldsN size w (.slice (if cap = n then ao else Option.map (fun x => x.add (n * size)) ao) (len - n) (cap - n)) (len - n) (xs.drop (n * size)) := by
  obtain ⟨hl, ao', cap0, e, hlc, hc⟩ := h
  simp only [Value.slice.injEq, true_and] at e
  obtain ⟨rfl, rfl⟩ := e
  refine ⟨by rw [List.length_drop, hl, Nat.sub_mul], _, _, rfl, by omega, fun hp => ?_⟩
  obtain ⟨b, off, rfl, hcell⟩ := hc (by omega)
  rw [if_neg (by omega)]
  refine ⟨b, off + n * size, by simp [add_none], fun j u hj => ?_⟩
  rw [List.getElem?_drop] at hj
  rw [Nat.add_assoc]
  exact hcell _ _ hj

theorem RdV.keep {w w' : World} {v : Value} {ps : List Ev} (h : RdV w v ps) (f : Fr w w' (fun _ => False)) : RdV w' v ps := HoldsN.keep h f
theorem RdV.frame {w w' : World} {v : Value} {es : List Ev} {S : Nat → Prop} (h : RdV w v es) (f : Fr w w' S) (hs : 0 < es.length → ∀ k, v.ownBlock = some k → ¬ S k) : RdV w' v es := HoldsN.frame h f hs
theorem RdV.form {w : World} {v : Value} {ps : List Ev} (h : RdV w v ps) : ∃ ao cap, v = .slice ao ps.length cap ∧ ps.length ≤ cap := by
  obtain ⟨-, ao, cap, h1, h2, -⟩ := h
  exact ⟨ao, cap, h1, h2⟩
theorem RdV.get {w : World} {v : Value} {ps : List Ev} (h : RdV w v ps) (i : Nat) (p : Ev) (hi : ps[i]? = some p) :
    ∃ b off cap, v = .slice (some ⟨b, off, none⟩) ps.length cap ∧ b < w.heap.size ∧ ∀ x, Fr w x (fun k => k ≠ b) → x.cell? ⟨b, off + i * 4, none⟩ = some (.int .i64 p.1) ∧ x.cell? ⟨b, off + i * 4 + 1, none⟩ = some (.int .u32 (p.2.1.1 : Int)) ∧ x.cell? ⟨b, off + i * 4 + 2, none⟩ = some (.int .u32 (p.2.1.2 : Int)) ∧ x.cell? ⟨b, off + i * 4 + 3, none⟩ = some (.bool p.2.2) := by
  obtain ⟨-, ao, cap, rfl, h2, hc⟩ := h
  have hil := (List.getElem?_eq_some_iff.1 hi).1
  obtain ⟨b, off, rfl, hcell⟩ := hc (by omega)
  obtain ⟨g0, g1, g2, g3⟩ := vrow_get ps i p hi
  have c0 := hcell _ _ g0
  have c1 := hcell _ _ g1
  have c2 := hcell _ _ g2
  have c3 := hcell _ _ g3
  have hb := World.block_lt_of_cell? _ _ c0
  refine ⟨b, off, cap, rfl, hb, fun x hx => ?_⟩
  have hbk := hx.block b hb (fun h => h rfl)
  refine ⟨(World.cell?_of_block (w := w) hbk).trans c0, (World.cell?_of_block (w := w) hbk).trans ?_, (World.cell?_of_block (w := w) hbk).trans ?_, (World.cell?_of_block (w := w) hbk).trans ?_⟩
  · rw [Nat.add_assoc]; exact c1
  · rw [Nat.add_assoc]; exact c2
  · rw [Nat.add_assoc]; exact c3
theorem RdV.take {w : World} {ao : Option Addr} {len cap : Nat} {xs : List Ev} (h : RdV w (.slice ao len cap) xs) (hl : xs.length = len) (n : Nat) (hn : n ≤ len) : RdV w (.slice ao n cap) (xs.take n) := by
  subst hl
  have := HoldsN.take (size := 4) h n hn
  rw [vrow_take] at this
  unfold RdV
  rw [List.length_take, Nat.min_eq_left hn]
  exact this
theorem RdV.drop {w : World} {ao : Option Addr} {len cap : Nat} {xs : List Ev} (h : RdV w (.slice ao len cap) xs) (hl : xs.length = len) (n : Nat) (hn : n ≤ len) : RdV w (.slice (if cap = n then ao else Option.map (fun x => x.add (n * 4)) ao) (len - n) (cap - n)) (xs.drop n) := by
  subst hl
  have := HoldsN.drop (size := 4) h n hn
  rw [vrow_drop] at this
  unfold RdV
  rw [List.length_drop]
  exact this
theorem RdE.take {w : World} {ao : Option Addr} {len cap : Nat} {xs : List Eg} (h : RdE w (.slice ao len cap) xs) (hl : xs.length = len) (n : Nat) (hn : n ≤ len) : RdE w (.slice ao n cap) (xs.take n) := by
  subst hl
  have := HoldsN.take (size := 2) h n hn
  rw [erow_take] at this
  unfold RdE
  rw [List.length_take, Nat.min_eq_left hn]
  exact this
theorem RdE.drop {w : World} {ao : Option Addr} {len cap : Nat} {xs : List Eg} (h : RdE w (.slice ao len cap) xs) (hl : xs.length = len) (n : Nat) (hn : n ≤ len) : RdE w (.slice (if cap = n then ao else Option.map (fun x => x.add (n * 2)) ao) (len - n) (cap - n)) (xs.drop n) := by
  subst hl
  have := HoldsN.drop (size := 2) h n hn
  rw [erow_drop] at this
  unfold RdE
  rw [List.length_drop]
  exact this
/-- No edges, no events: whatever the slice of none. -/
theorem RdE.nil (w : World) : RdE w (.slice none 0 0) [] := (OwnE.nil w).rd
theorem OwnV.nil (w : World) : OwnV w (.slice none 0 0) [] := World.ownsRow_nil _ _ _ _
theorem OwnV.rd {w : World} {v : Value} {es : List Ev} (h : OwnV w v es) : RdV w v es := holdsN_own h
theorem RdV.nil (w : World) : RdV w (.slice none 0 0) [] := (OwnV.nil w).rd
theorem OwnV.lt {w : World} {v : Value} {es : List Ev} (h : OwnV w v es) : ∀ k, v.ownBlock = some k → k < w.heap.size := fun k hk => (World.ownsRow.lt h k hk).2
theorem OwnV.alloc {w : World} {v : Value} {es : List Ev} (h : OwnV w v es) (o : Obj) : OwnV (w.alloc o) v es := World.ownsRow.alloc h o
theorem OwnV.frame {w w' : World} {v : Value} {es : List Ev} {S : Nat → Prop} (h : OwnV w v es) (f : Fr w w' S) (hs : ∀ k, v.ownBlock = some k → ¬ S k) : OwnV w' v es := f.owns h hs

theorem infoEvent : (Try.prog.info? 42).map (fun i => (i.zero, i.size, i.bytes)) = some (some (.agg #[.int .i64 0, .int .u32 0, .int .u32 0, .bool false]), 4, 24) := by kernel_rfl
/-- append onto events that the call owns, of events that can be read. -/
theorem app_events (w : World) (v u : Value) (es fs : List Ev) (h : OwnV w v es) (hu : RdV w u fs) (hb : es.length + fs.length ≤ 100000000000) :
    ∃ v' w', (Builtin.append_ #[23, 23] 23 #[v, u]).run Try.prog w = .ok v' w' ∧ OwnV w' v' (es ++ fs) ∧ Fr w w' (fun k => v.ownBlock = some k) ∧ Moved w v v' := by
  obtain ⟨i0, hi, hz0, hz1, hz2⟩ := info_parts infoEvent
  obtain ⟨v', w', h1, h2, h3, h4⟩ := run_append_wide (P := Try.prog) w 23 23 42 i0 _ 4 24 Try.underlying23 hi hz0 hz1 hz2 rfl (by decide) (by decide) v _ _ h u _ _ hu (vrow_one fs) hb
  refine ⟨v', w', h1, ?_, h3, h4⟩
  unfold OwnV
  rw [List.length_append, vrow_append]
  exact h2
theorem lit_event (w : World) (x : Ev) : RdV (w.alloc (.cells #[.int .i64 x.1, .int .u32 (x.2.1.1 : Int), .int .u32 (x.2.1.2 : Int), .bool x.2.2] 42)) (.slice (some ⟨w.heap.size, 0, none⟩) 1 1) [x] :=
  holdsN_lit 4 w 42 1 (vrow [x]) (by simp [vrow, encV]) (by omega)
/-- .. of one event that is written out. -/
theorem app_event (w : World) (v : Value) (es : List Ev) (x : Ev) (h : OwnV w v es) (hb : es.length ≤ 10000000) :
    ∃ v' w', (Builtin.append_ #[23, 23] 23 #[v, .slice (some ⟨w.heap.size, 0, none⟩) 1 1]).run Try.prog (w.alloc (.cells #[.int .i64 x.1, .int .u32 (x.2.1.1 : Int), .int .u32 (x.2.1.2 : Int), .bool x.2.2] 42)) = .ok v' w' ∧ OwnV w' v' (es ++ [x]) ∧ Fr (w.alloc (.cells #[.int .i64 x.1, .int .u32 (x.2.1.1 : Int), .int .u32 (x.2.1.2 : Int), .bool x.2.2] 42)) w' (fun k => v.ownBlock = some k) ∧ Moved w v v' := by
  obtain ⟨v', w', h1, h2, h3, h4⟩ := app_events _ v _ es [x] (h.alloc _) (lit_event w x) (by simp; omega)
  exact ⟨v', w', h1, h2, h3, h4.mono' (by simp)⟩

/-- What touches only blocks that are newer touches nothing that was there. -/
theorem Fr.old {w w' : World} {N : Nat} (h : Fr w w' (fun k => N ≤ k)) (hN : w.heap.size ≤ N) : Fr w w' (fun _ => False) := h.mono (fun i hi hs => by omega)
/-- append onto none; onto what is new. -/
theorem app_edges_nil (w : World) (u : Value) (fs : List Eg) (N : Nat) (hN : N ≤ w.heap.size) (hu : RdE w u fs) (hb : fs.length ≤ 100000000000) :
    ∃ v' w', (Builtin.append_ #[55, 55] 55 #[.slice none 0 0, u]).run Try.prog w = .ok v' w' ∧ OwnE w' v' fs ∧ Fr w w' (fun k => N ≤ k) ∧ (∀ k, v'.ownBlock = some k → N ≤ k) := by
  obtain ⟨v', w', h1, h2, h3, h4⟩ := app_edges w (.slice none 0 0) u [] fs (OwnE.nil w) hu (by simpa using hb)
  refine ⟨v', w', h1, by simpa using h2, h3.mono (fun i _ hi => by simp [Value.ownBlock] at hi), fun k hk => ?_⟩
  rcases h4 k hk with h | h
  · simp [Value.ownBlock] at h
  · omega
theorem app_edges_new (w : World) (v u : Value) (es fs : List Eg) (N : Nat) (hN : N ≤ w.heap.size) (h : OwnE w v es) (hv : ∀ k, v.ownBlock = some k → N ≤ k) (hu : RdE w u fs) (hb : es.length + fs.length ≤ 100000000000) :
    ∃ v' w', (Builtin.append_ #[55, 55] 55 #[v, u]).run Try.prog w = .ok v' w' ∧ OwnE w' v' (es ++ fs) ∧ Fr w w' (fun k => N ≤ k) ∧ (∀ k, v'.ownBlock = some k → N ≤ k) := by
  obtain ⟨v', w', h1, h2, h3, h4⟩ := app_edges w v u es fs h hu hb
  refine ⟨v', w', h1, h2, h3.mono (fun i _ hi => hv i hi), fun k hk => ?_⟩
  rcases h4 k hk with h | h
  · exact hv k h
  · omega
theorem app_events_nil (w : World) (u : Value) (fs : List Ev) (N : Nat) (hN : N ≤ w.heap.size) (hu : RdV w u fs) (hb : fs.length ≤ 100000000000) :
    ∃ v' w', (Builtin.append_ #[23, 23] 23 #[.slice none 0 0, u]).run Try.prog w = .ok v' w' ∧ OwnV w' v' fs ∧ Fr w w' (fun k => N ≤ k) ∧ (∀ k, v'.ownBlock = some k → N ≤ k) := by
  obtain ⟨v', w', h1, h2, h3, h4⟩ := app_events w (.slice none 0 0) u [] fs (OwnV.nil w) hu (by simpa using hb)
  refine ⟨v', w', h1, by simpa using h2, h3.mono (fun i _ hi => by simp [Value.ownBlock] at hi), fun k hk => ?_⟩
  rcases h4 k hk with h | h
  · simp [Value.ownBlock] at h
  · omega
theorem app_events_new (w : World) (v u : Value) (es fs : List Ev) (N : Nat) (hN : N ≤ w.heap.size) (h : OwnV w v es) (hv : ∀ k, v.ownBlock = some k → N ≤ k) (hu : RdV w u fs) (hb : es.length + fs.length ≤ 100000000000) :
    ∃ v' w', (Builtin.append_ #[23, 23] 23 #[v, u]).run Try.prog w = .ok v' w' ∧ OwnV w' v' (es ++ fs) ∧ Fr w w' (fun k => N ≤ k) ∧ (∀ k, v'.ownBlock = some k → N ≤ k) := by
  obtain ⟨v', w', h1, h2, h3, h4⟩ := app_events w v u es fs h hu hb
  refine ⟨v', w', h1, h2, h3.mono (fun i _ hi => hv i hi), fun k hk => ?_⟩
  rcases h4 k hk with h | h
  · exact hv k h
  · omega
theorem lit_edge (w : World) (a b : Nat) : RdE (w.alloc (.cells #[.int .u32 (a : Int), .int .u32 (b : Int)] 40)) (.slice (some ⟨w.heap.size, 0, none⟩) 1 1) [(a, b)] :=
  holdsN_lit 2 w 40 1 (erow [(a, b)]) (by simp [erow, encE]) (by omega)
theorem four_cells {w : World} {x0 x1 x2 x3 : Value} {T : TypeId} {p : Nat} (h : w.heap[p]? = some (.cells #[x0, x1, x2, x3] T (0, 0))) : w.cell? ⟨p, 0, none⟩ = some x0 ∧ w.cell? ⟨p, 1, none⟩ = some x1 ∧ w.cell? ⟨p, 2, none⟩ = some x2 ∧ w.cell? ⟨p, 3, none⟩ = some x3 := by
  refine ⟨?_, ?_, ?_, ?_⟩ <;> simp [World.cell?, h]

end Go.Proofs.Ytojeaggnknnnoaa
