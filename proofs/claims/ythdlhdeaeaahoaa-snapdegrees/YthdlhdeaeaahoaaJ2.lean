/-
  Texts of ours, joined: Lex Tree XFind ERise ESkip XTurn XCheck XUpto XAfter XSameE XDeg.
-/
import Derived.Test.YthdlhdeaeaahoaaJ1
import Derived.Deep.RegionHeld3
import Derived.Deep.LoopGhost
import Derived.Deep.CutRange

/-
  A law for a statement whose order of evaluation Go leaves open: one order is walked, step by step; an operation that is taken early must yield its value in every world that the rest of the statement can lead to. No program is named here.
-/
namespace Go.Proofs.Ythdlhdeaeaahoaa
open Go.RowKit

section
variable {P : Program} {ops : Array Oper} {Q : Exit → Act → World → Prop} {md : Region.Mode} {T : Nat → Prop} {js : List Nat}

/-- Is 'ks' an order that can be walked for all: each of 'js' comes up alone, each other one may be taken first? -/
def schedChk (md : Region.Mode) (ops : Array Oper) (js : List Nat) : List Nat → Array Bool → Bool
  | [], listed => Region.ready md ops listed == []
  | k :: ks, listed => (if js.contains k then Region.ready md ops listed == [k] else Region.free md ops listed k && (Region.ready md ops listed).contains k) && schedChk md ops js ks (listed.setIfInBounds k true)

def wpLex (P : Program) (ops : Array Oper) (Q : Exit → Act → World → Prop) (T : Nat → Prop) (js : List Nat) : List Nat → Act → World → Prop
  | [], a, w => Q .normal a w
  | k :: ks, a, w => (js.contains k = false ∧ ∃ o v, ops[k]? = some o ∧ YieldsIf P ops (fun x => Fr w x T) o v a ∧ wpLex P ops Q T js ks (a.put o.dst v) w) ∨
      (js.contains k = true ∧ wpOp P ops (NoPanic Q) k (fun a' w' => Fr w w' T ∧ wpLex P ops Q T js ks a' w') a w)

theorem wpAnyH_mono {S S' : World → Prop} (hS : ∀ x, S' x → S x) : ∀ (fuel : Nat) (listed : Array Bool) (a : Act) (w : World), wpAnyH P md ops Q S' fuel listed a w → wpAnyH P md ops Q S fuel listed a w
  | 0, _, _, _, h => h
  | fuel + 1, _, _, _, h => ⟨h.1, fun i hi => wpOp_mono (fun a' w' h' => ⟨hS _ h'.1, wpAnyH_mono hS fuel _ a' w' h'.2⟩) (h.2 i hi)⟩

theorem wpAnyH_of_lex (hs : Region.noSelect ops = true) : ∀ (ks : List Nat) (listed : Array Bool) (a : Act) (w : World), schedChk md ops js ks listed = true → wpLex P ops Q T js ks a w →
    wpAnyH P md ops (NoPanic Q) (fun x => Fr w x T) ks.length listed a w
  | [], listed, a, w, hc, h => by
    have hr : Region.ready md ops listed = [] := by simpa [schedChk] using hc
    exact wpAnyH_done hr (NoPanic.normal h) _
  | k :: ks, listed, a, w, hc, h => by
    simp only [schedChk, Bool.and_eq_true] at hc
    obtain ⟨hc1, hc2⟩ := hc
    rcases h with ⟨hk, o, v, ho, hy, h⟩ | ⟨hk, h⟩
    · rw [hk] at hc1
      simp only [Bool.false_eq_true, if_false, Bool.and_eq_true] at hc1
      exact wpAnyH_take ho hs hc1.1 hc1.2 (fun _ _ _ h => h) hy (Fr.refl _ _) (wpAnyH_of_lex hs ks _ _ w hc2 h)
    · rw [hk] at hc1
      have hr : Region.ready md ops listed = [k] := by simpa using hc1
      refine wpAnyH_all hr (by simp) (fun i hi => ?_)
      obtain rfl : i = k := by simpa using hi
      refine wpOp_mono (fun a' w' h' => ⟨h'.1, ?_⟩) h
      exact wpAnyH_mono (fun x hx => h'.1.trans hx (fun _ _ ht => ht)) _ _ _ _ (wpAnyH_of_lex hs ks _ a' w' hc2 h'.2)

/-- The law: for a region that draws its order, of the operations l: js: those that come up alone (calls, stores); ks: the order that is walked; T: the blocks that they may touch. -/
theorem wp_region_lex {id : Nat} {a : Act} {w : World} {l : List Oper} (T : Nat → Prop) (js ks : List Nat) (hm : P.follows .mixedOrders = true) (hs : Region.noSelect l.toArray = true)
    (hl : ks.length = l.length) (hc : schedChk .any l.toArray js ks (Array.replicate l.length false) = true)
    (h : wpLex P l.toArray Q T js ks a w.drew) : (Code.region id l.toArray true).wp P Q a w := by
  refine wp_region_noPanic (wp_region_held (S := fun x => Fr w.drew x T) hm ?_)
  have := wpAnyH_of_lex (md := .any) hs ks _ a w.drew hc h
  rw [hl] at this
  simpa using this

theorem wpLex_nil {a : Act} {w : World} (h : Q .normal a w) : wpLex P ops Q T js [] a w := h

theorem wpLex_take {l : List Oper} {k : Nat} {ks : List Nat} {o : Oper} {v : Value} {a : Act} {w : World} (hk : js.contains k = false) (ho : l[k]? = some o) (hw : Region.wanted o (yielded l.toArray a.tmps) = true)
    (hy : ∀ x, Fr w x T → (execOp a.eval o).run P x = .ok (.value v) x) (h : wpLex P l.toArray Q T js ks (a.put o.dst v) w) : wpLex P l.toArray Q T js (k :: ks) a w :=
  .inl ⟨hk, o, v, by simpa using ho, .inl ⟨hw, hy⟩, h⟩

theorem wpLex_pass {l : List Oper} {k : Nat} {ks : List Nat} {o : Oper} {a : Act} {w : World} (hk : js.contains k = false) (ho : l[k]? = some o) (hw : Region.wanted o (yielded l.toArray a.tmps) = false)
    (h : wpLex P l.toArray Q T js ks (a.put o.dst undef) w) : wpLex P l.toArray Q T js (k :: ks) a w :=
  .inl ⟨hk, o, undef, by simpa using ho, .inr ⟨hw, rfl⟩, h⟩

theorem wpLex_step {l : List Oper} {k : Nat} {ks : List Nat} {o : Oper} {a : Act} {w : World} (hk : js.contains k = true) (ho : l[k]? = some o) (hw : Region.wanted o (yielded l.toArray a.tmps) = true)
    (h : ∀ K : Act → World → Prop, (∀ a' w', Fr w w' T → wpLex P l.toArray Q T js ks a' w' → K a' w') → o.wp P a w K (NoPanic Q)) : wpLex P l.toArray Q T js (k :: ks) a w := by
  have ho' : l.toArray[k]? = some o := by simpa using ho
  refine .inr ⟨hk, ?_⟩
  unfold wpOp
  simp only [ho', hw, if_true]
  exact .inl (h _ (fun a' w' h1 h2 => ⟨h1, h2⟩))

end
end Go.Proofs.Ythdlhdeaeaahoaa

/-
  A law for a statement whose order of evaluation Go leaves open, where two operations may come up at once: both ways are walked. No program is named here.
-/
namespace Go.Proofs.Ythdlhdeaeaahoaa
open Go.RowKit

/-- An order that is walked: 'take': what only reads, taken early; 'one': it comes up alone; 'two': one of two comes up. -/
inductive Sch where
  | nil
  | take (k : Nat) (s : Sch)
  | one (k : Nat) (s : Sch)
  | two (i : Nat) (s : Sch) (j : Nat) (t : Sch)

section
variable {P : Program} {ops : Array Oper} {Q : Exit → Act → World → Prop} {md : Region.Mode} {T : Nat → Prop}

def Sch.depth : Sch → Nat
  | .nil => 0
  | .take _ s => s.depth + 1
  | .one _ s => s.depth + 1
  | .two _ s _ t => max s.depth t.depth + 1
def Sch.chk (md : Region.Mode) (ops : Array Oper) : Sch → Array Bool → Bool
  | .nil, L => Region.ready md ops L == []
  | .take k s, L => (Region.free md ops L k && (Region.ready md ops L).contains k) && s.chk md ops (L.setIfInBounds k true)
  | .one k s, L => (Region.ready md ops L == [k]) && s.chk md ops (L.setIfInBounds k true)
  | .two i s j t, L => (Region.ready md ops L == [i, j]) && (s.chk md ops (L.setIfInBounds i true) && t.chk md ops (L.setIfInBounds j true))

def wpT (P : Program) (ops : Array Oper) (Q : Exit → Act → World → Prop) (T : Nat → Prop) : Sch → Act → World → Prop
  | .nil, a, w => Q .normal a w
  | .take k s, a, w => ∃ o v, ops[k]? = some o ∧ YieldsIf P ops (fun x => Fr w x T) o v a ∧ wpT P ops Q T s (a.put o.dst v) w
  | .one k s, a, w => wpOp P ops (NoPanic Q) k (fun a' w' => Fr w w' T ∧ wpT P ops Q T s a' w') a w
  | .two i s j t, a, w => wpOp P ops (NoPanic Q) i (fun a' w' => Fr w w' T ∧ wpT P ops Q T s a' w') a w ∧ wpOp P ops (NoPanic Q) j (fun a' w' => Fr w w' T ∧ wpT P ops Q T t a' w') a w

theorem wpAnyH_of_tree (hs : Region.noSelect ops = true) : ∀ (s : Sch) (fuel : Nat) (listed : Array Bool) (a : Act) (w : World), s.depth ≤ fuel → s.chk md ops listed = true → wpT P ops Q T s a w →
    wpAnyH P md ops (NoPanic Q) (fun x => Fr w x T) fuel listed a w
  | .nil, fuel, listed, a, w, _, hc, h => by
    have hr : Region.ready md ops listed = [] := by simpa [Sch.chk] using hc
    exact wpAnyH_done hr (NoPanic.normal h) _
  | .take k s, 0, _, _, _, hf, _, _ => by simp [Sch.depth] at hf
  | .take k s, fuel + 1, listed, a, w, hf, hc, h => by
    simp only [Sch.chk, Bool.and_eq_true] at hc
    obtain ⟨o, v, ho, hy, h⟩ := h
    exact wpAnyH_take ho hs hc.1.1 hc.1.2 (fun _ _ _ h => h) hy (Fr.refl _ _) (wpAnyH_of_tree hs s fuel _ _ w (by simpa [Sch.depth] using hf) hc.2 h)
  | .one k s, 0, _, _, _, hf, _, _ => by simp [Sch.depth] at hf
  | .one k s, fuel + 1, listed, a, w, hf, hc, h => by
    simp only [Sch.chk, Bool.and_eq_true] at hc
    have hr : Region.ready md ops listed = [k] := by simpa using hc.1
    refine wpAnyH_all hr (by simp) (fun i hi => ?_)
    obtain rfl : i = k := by simpa using hi
    refine wpOp_mono (fun a' w' h' => ⟨h'.1, ?_⟩) h
    exact wpAnyH_mono (fun x hx => h'.1.trans hx (fun _ _ ht => ht)) _ _ _ _ (wpAnyH_of_tree hs s fuel _ a' w' (by simpa [Sch.depth] using hf) hc.2 h'.2)
  | .two i s j t, 0, _, _, _, hf, _, _ => by simp [Sch.depth] at hf
  | .two i s j t, fuel + 1, listed, a, w, hf, hc, h => by
    simp only [Sch.chk, Bool.and_eq_true] at hc
    simp only [Sch.depth] at hf
    have hr : Region.ready md ops listed = [i, j] := by simpa using hc.1
    refine wpAnyH_all hr (by simp) (fun k hk => ?_)
    by_cases hki : k = i
    · subst hki
      refine wpOp_mono (fun a' w' h' => ⟨h'.1, ?_⟩) h.1
      exact wpAnyH_mono (fun x hx => h'.1.trans hx (fun _ _ ht => ht)) _ _ _ _ (wpAnyH_of_tree hs s fuel _ a' w' (by omega) hc.2.1 h'.2)
    · have hkj : k = j := by
        simp at hk
        rcases hk with h | h
        · exact absurd h hki
        · exact h
      subst hkj
      refine wpOp_mono (fun a' w' h' => ⟨h'.1, ?_⟩) h.2
      exact wpAnyH_mono (fun x hx => h'.1.trans hx (fun _ _ ht => ht)) _ _ _ _ (wpAnyH_of_tree hs t fuel _ a' w' (by omega) hc.2.2 h'.2)

/-- The law: of the operations l; T: the blocks that they may touch. -/
theorem wp_region_tree {id : Nat} {a : Act} {w : World} {l : List Oper} (T : Nat → Prop) (s : Sch) (hm : P.follows .mixedOrders = true) (hs : Region.noSelect l.toArray = true)
    (hl : s.depth ≤ l.length) (hc : s.chk .any l.toArray (Array.replicate l.length false) = true) (h : wpT P l.toArray Q T s a w.drew) : (Code.region id l.toArray true).wp P Q a w := by
  refine wp_region_noPanic (wp_region_held (S := fun x => Fr w.drew x T) hm ?_)
  have := wpAnyH_of_tree (md := .any) hs s l.length _ a w.drew hl hc h
  simpa using this

theorem wpT_take {l : List Oper} {k : Nat} {s : Sch} {o : Oper} {v : Value} {a : Act} {w : World} (ho : l[k]? = some o) (hw : Region.wanted o (yielded l.toArray a.tmps) = true)
    (hy : ∀ x, Fr w x T → (execOp a.eval o).run P x = .ok (.value v) x) (h : wpT P l.toArray Q T s (a.put o.dst v) w) : wpT P l.toArray Q T (.take k s) a w :=
  ⟨o, v, by simpa using ho, .inl ⟨hw, hy⟩, h⟩
theorem wpT_pass {l : List Oper} {k : Nat} {s : Sch} {o : Oper} {a : Act} {w : World} (ho : l[k]? = some o) (hw : Region.wanted o (yielded l.toArray a.tmps) = false)
    (h : wpT P l.toArray Q T s (a.put o.dst undef) w) : wpT P l.toArray Q T (.take k s) a w :=
  ⟨o, undef, by simpa using ho, .inr ⟨hw, rfl⟩, h⟩
theorem wpOp_run {l : List Oper} {k : Nat} {o : Oper} {a : Act} {w : World} {K : Act → World → Prop} (ho : l[k]? = some o) (hw : Region.wanted o (yielded l.toArray a.tmps) = true) (h : o.wp P a w K (NoPanic Q)) : wpOp P l.toArray (NoPanic Q) k K a w := by
  have ho' : l.toArray[k]? = some o := by simpa using ho
  unfold wpOp
  simp only [ho', hw, if_true]
  exact .inl h
theorem wpT_one {l : List Oper} {k : Nat} {s : Sch} {o : Oper} {a : Act} {w : World} (ho : l[k]? = some o) (hw : Region.wanted o (yielded l.toArray a.tmps) = true)
    (h : ∀ K : Act → World → Prop, (∀ a' w', Fr w w' T → wpT P l.toArray Q T s a' w' → K a' w') → o.wp P a w K (NoPanic Q)) : wpT P l.toArray Q T (.one k s) a w :=
  wpOp_run ho hw (h _ (fun _ _ h1 h2 => ⟨h1, h2⟩))
theorem wpT_two {l : List Oper} {i j : Nat} {s t : Sch} {o o' : Oper} {a : Act} {w : World} (ho : l[i]? = some o) (hw : Region.wanted o (yielded l.toArray a.tmps) = true) (ho' : l[j]? = some o') (hw' : Region.wanted o' (yielded l.toArray a.tmps) = true)
    (h : ∀ K : Act → World → Prop, (∀ a' w', Fr w w' T → wpT P l.toArray Q T s a' w' → K a' w') → o.wp P a w K (NoPanic Q))
    (h' : ∀ K : Act → World → Prop, (∀ a' w', Fr w w' T → wpT P l.toArray Q T t a' w' → K a' w') → o'.wp P a w K (NoPanic Q)) : wpT P l.toArray Q T (.two i s j t) a w :=
  ⟨wpOp_run ho hw (h _ (fun _ _ h1 h2 => ⟨h1, h2⟩)), wpOp_run ho' hw' (h' _ (fun _ _ h1 h2 => ⟨h1, h2⟩))⟩

/-- append, by its run. -/
theorem op_append_run {o : Oper} {a : Act} {w : World} {K : Act → World → Prop} (s x : Operand) (t : TypeId) (ho : o.op = .call { callee := .builtin .append, args := #[s, x], argTypes := #[t, t] }) {u v v' : Value} {w' : World} (hs : a.eval s = u) (hx : a.eval x = v)
    (hrun : (Builtin.append_ #[t, t] o.type #[u, v]).run P w = .ok v' w') (h : K (a.put o.dst v') w') : o.wp P a w K Q := by
  unfold Oper.wp execOp
  simp only [ho, resolve, invoke, builtin, Sem.run_bind, Sem.run_pure, Result.andThen_ok, List.map_toArray, List.map_cons, List.map_nil, hs, hx, hrun]
  exact h

end
end Go.Proofs.Ythdlhdeaeaahoaa

/-
  The contracts of the reference's Find and Has.
-/
namespace Go.Proofs.Ythdlhdeaeaahoaa
open Go.RowKit

/-- Where an edge stands first; -1: nowhere. -/
def findF (l : List Eg) (e : Eg) : Int := if e ∈ l then (l.idxOf e : Int) else -1
theorem idxOf_first : ∀ {l : List Eg} {e : Eg} {i : Nat}, l[i]? = some e → (∀ j x, j < i → l[j]? = some x → x ≠ e) → l.idxOf e = i
  | [], _, _, h, _ => by simp at h
  | x :: l, e, 0, h, _ => by
    simp at h
    subst h
    simp
  | x :: l, e, i + 1, h, hn => by
    have hx : x ≠ e := hn 0 x (by omega) rfl
    rw [List.idxOf_cons, show (x == e) = false by simpa using hx, cond_false, idxOf_first (i := i) (by simpa using h) (fun j y hj hy => hn (j + 1) y (by omega) (by simpa using hy))]
theorem find_at {l : List Eg} {e : Eg} {i : Nat} (h : l[i]? = some e) (hn : ∀ j x, j < i → l[j]? = some x → x ≠ e) : findF l e = (i : Int) := by
  unfold findF
  rw [if_pos (List.mem_of_getElem? h), idxOf_first h hn]
theorem find_no {l : List Eg} {e : Eg} (hn : ∀ j x, j < l.length → l[j]? = some x → x ≠ e) : findF l e = -1 := by
  unfold findF
  refine if_neg fun h => ?_
  obtain ⟨i, hi⟩ := List.getElem?_of_mem h
  exact hn i e (List.getElem?_eq_some_iff.1 hi).1 hi rfl

set_option maxRecDepth 4000 in
set_option maxHeartbeats 400000 in
theorem refFind_any (v : Value) (es : List Eg) (e : Eg) (w : World) (h : RdE w v es) (hl : es.length ≤ 1000000) : Calls Try.prog 40 #[v, edgeV e] w fun r w' => r = .returned (.int .i64 (findF es e)) ∧ Fr w w' (fun _ => False) := by
  obtain ⟨a0, c0, rfl, hc0⟩ := h.form
  obtain ⟨n, hn⟩ : ∃ n, n = es.length := ⟨_, rfl⟩
  obtain ⟨e1, e2⟩ := e
  rw [← hn] at h hl hc0 ⊢
  have Hr : Hid (RdE w (.slice a0 n c0) es) := h
  have Hn : Hid _ := hn
  clear h hn
  unfold edgeV
  dsimp only
  go_enter Try.func40, Try.ntmps40
  go_wp2_with fail
  obtain ⟨p, hp⟩ : ∃ p, p = w.heap.size := ⟨_, rfl⟩
  obtain ⟨wa, hwa⟩ : ∃ wa, wa = w.alloc (.cells #[.int .u32 (e1 : Int), .int .u32 (e2 : Int)] 48) := ⟨_, rfl⟩
  rw [← hwa, ← hp]
  have Hpb : Hid (∀ z, Fr wa z (fun _ => False) → z.heap[p]? = some (.cells #[.int .u32 (e1 : Int), .int .u32 (e2 : Int)] 48 (0, 0))) := fun z hz => hz.kept (by rw [hwa, hp]; exact heap_alloc_new _ _) (fun h => h)
  have Hwa : Hid (Fr w wa (fun _ => False)) := by show Fr _ _ _; rw [hwa]; exact (Fr.refl _ _).alloc _
  clear hp hwa
  go_loopg [5] n (fun g I wr => ∃ i : Nat, g = n - i ∧ i ≤ n ∧ I = .int .i64 (i : Int) ∧ (∀ j x, j < i → es[j]? = some x → x ≠ (e1, e2)) ∧ Fr wa wr (fun _ => False))
  case atStart => exact ⟨0, by omega, by omega, rfl, fun j x hj => by omega, Fr.refl _ _⟩
  case round =>
    obtain ⟨i, hg, hi, rfl, hle, hf⟩ := hrel
    have Hg : Hid _ := hg
    have Hle : Hid _ := hle
    have Hf : Hid (Fr wa wr (fun _ => False)) := hf
    clear hg hle hf
    by_cases hlt : i < n
    · have hin : (i : Int) < (n : Int) := by omega
      have hin' : decide (i < n) = true := decide_eq_true hlt
      obtain ⟨⟨a, b⟩, ha⟩ : ∃ a, es[i]? = some a := ⟨_, List.getElem?_eq_getElem (by rw [← Hn.out]; omega)⟩
      obtain ⟨bk, off, cap, e3, hbk, hca⟩ := (Hr.out.keep Hwa.out).get i _ ha
      simp only [Value.slice.injEq] at e3
      obtain ⟨rfl, -, rfl⟩ := e3
      have Ha : Hid _ := ha
      have ka : ∀ z, Fr wr.drew z (fun _ => False) → z.cell? ⟨bk, off + i * 2, none⟩ = some (.int .u32 (a : Int)) := fun z hz => (hca z (Hf.out.drew.none hz)).1
      have kb : ∀ z, Fr wr.drew z (fun _ => False) → z.cell? ⟨bk, off + i * 2 + 1, none⟩ = some (.int .u32 (b : Int)) := fun z hz => (hca z (Hf.out.drew.none hz)).2
      have kc : ∀ z, Fr wr.drew z (fun _ => False) → z.cell? ⟨p, 0, none⟩ = some (.int .u32 (e1 : Int)) := fun z hz => two_cell0 (Hpb.out z (Hf.out.drew.none hz))
      have kd : ∀ z, Fr wr.drew z (fun _ => False) → z.cell? ⟨p, 1, none⟩ = some (.int .u32 (e2 : Int)) := fun z hz => two_cell1 (Hpb.out z (Hf.out.drew.none hz))
      have hi0 : (0 : Int) ≤ (i : Int) := by omega
      clear hca ha hbk
      go_wp2_with fail
      refine wp_region_tree (fun _ => False) (.take 0 (.take 1 (.take 2 (.take 3 (.take 4 (.take 5 .nil)))))) (by kernel_rfl) (by kernel_rfl) (by decide) (by kernel_rfl) ?_
      repeat (refine wpT_take (v := ?_) rfl rfl (fun x hx => ?_) ?_; rotate_left; (focus (go_simp; with_reducible rfl)); simp only [Act.put, List.setIfInBounds_toArray, List.set_cons_zero, List.set_cons_succ])
      obtain ⟨D, hD⟩ : ∃ D, D = decide ((a, b) = (e1, e2)) := ⟨_, rfl⟩
      refine wpT_take (v := .bool D) rfl rfl (fun x hx => ?_) ?_
      · rw [hD]
        go_simp
        by_cases h1 : a = e1 <;> by_cases h2 : b = e2 <;> simp [h1, h2, Int.ofNat_inj]
      simp only [Act.put, List.setIfInBounds_toArray, List.set_cons_zero, List.set_cons_succ]
      clear ka kb kc kd
      have Hf2 : Hid (Fr w wr.drew (fun _ => False)) := Hwa.out.none Hf.out.drew
      have Hf3 : Hid (Fr wa wr.drew (fun _ => False)) := Hf.out.drew
      unfold wpT
      cases D with
      | true =>
        have Hres : Hid (findF es (e1, e2) = (i : Int)) := find_at (by rw [Ha.out, of_decide_eq_true hD.symm]) Hle.out
        clear hD
        go_wp2
        go_ret
        exact ⟨by rw [Hres.out]; rfl, Hf2.out⟩
      | false =>
        have Hle2 : Hid (∀ j x, j < i + 1 → es[j]? = some x → x ≠ (e1, e2)) := fun j x hj hx => by
          by_cases h : j < i
          · exact Hle.out j x h hx
          · have e : j = i := by omega
            subst e
            rw [Ha.out] at hx
            simp only [Option.some.injEq] at hx
            rw [← hx]
            exact of_decide_eq_false hD.symm
        clear hD
        go_wp2_with fail
        go_roundg (n - (i + 1))
        case rel => exact ⟨i + 1, rfl, by omega, by go_num, Hle2.out, Hf3.out⟩
        case measure => rw [Hg.out]; omega
    · have hin : ¬ (i : Int) < (n : Int) := by omega
      have hin' : decide (i < n) = false := decide_eq_false hlt
      have Hres : Hid (findF es (e1, e2) = -1) := find_no (fun j x hj hx => Hle.out j x (by rw [← Hn.out] at hj; omega) hx)
      have Hf2 : Hid (Fr w wr (fun _ => False)) := Hwa.out.none Hf.out
      go_wp2_with fail
      go_ret
      exact ⟨by rw [Hres.out]; rfl, Hf2.out⟩

theorem findF_has (l : List Eg) (e : Eg) : decide ((0 : Int) ≤ findF l e) = decide (e ∈ l) := by
  unfold findF
  by_cases h : e ∈ l
  · rw [if_pos h, decide_eq_true h]
    exact decide_eq_true (by omega)
  · rw [if_neg h, decide_eq_false h]
    rfl

set_option maxRecDepth 4000 in
set_option maxHeartbeats 400000 in
theorem refHas_any (v : Value) (es : List Eg) (e : Eg) (w : World) (h : RdE w v es) (hl : es.length ≤ 1000000) : Calls Try.prog 21 #[v, edgeV e] w fun r w' => r = .returned (.bool (decide (e ∈ es))) ∧ Fr w w' (fun _ => False) := by
  obtain ⟨a0, c0, rfl, hc0⟩ := h.form
  obtain ⟨e1, e2⟩ := e
  have Hr : Hid (RdE w (.slice a0 es.length c0) es) := h
  obtain ⟨F, hF⟩ : ∃ F, F = findF es (e1, e2) := ⟨_, rfl⟩
  have hd : decide ((0 : Int) ≤ F) = decide ((e1, e2) ∈ es) := by rw [hF]; exact findF_has es (e1, e2)
  obtain ⟨D, hD⟩ : ∃ D, D = decide ((e1, e2) ∈ es) := ⟨_, rfl⟩
  rw [← hD] at hd
  rw [← hD]
  have HF : Hid _ := hF
  clear h hD hF
  unfold edgeV
  dsimp only
  go_enter Try.func21, Try.ntmps21
  go_wp2_with fail
  refine (refFind_any _ es (e1, e2) _ (Hr.out.keep ((Fr.refl _ _).alloc _)) hl).mono ?_
  rw [← HF.out]
  rintro r w1 ⟨rfl, hf1⟩
  have Hf1 : Hid (Fr w w1 (fun _ => False)) := ((Fr.refl w (fun _ => False)).alloc _).none hf1
  clear hf1
  go_wp2
  go_ret
  exact ⟨by first | rfl | rw [hd], Hf1.out⟩

end Go.Proofs.Ythdlhdeaeaahoaa

/-
  The contract of the reference's Rising.
-/
namespace Go.Proofs.Ythdlhdeaeaahoaa
open Go.RowKit

set_option maxRecDepth 4000 in
set_option maxHeartbeats 800000 in
theorem refRising8_any (v : Value) (es : List (Nat × Nat)) (w : World) (h : RdE w v es) (hl : es.length ≤ 1000000) : Calls Try.prog 24 #[v] w fun e w' => e = .returned (.bool (eRising es)) ∧ Fr w w' (fun _ => False) := by
  obtain ⟨a0, c0, rfl, hc0⟩ := h.form
  obtain ⟨n, hn⟩ : ∃ n, n = es.length := ⟨_, rfl⟩
  rw [← hn] at h hl hc0 ⊢
  have Hr : Hid (RdE w (.slice a0 n c0) es) := h
  have Hn : Hid _ := hn
  clear h hn
  go_enter Try.func24, Try.ntmps24
  go_wp2_with fail
  go_loopg [3] (n - 1) (fun g I wr => ∃ i : Nat, g = n - i ∧ 1 ≤ i ∧ (i ≤ n ∨ i = 1) ∧ I = .int .i64 (i : Int) ∧ (∀ j a b, j + 1 < i → es[j]? = some a → es[j + 1]? = some b → eLess a b = true) ∧ Fr w wr (fun _ => False))
  case atStart => exact ⟨1, by omega, by omega, .inr rfl, rfl, fun j a b hj => by omega, Fr.refl _ _⟩
  case round =>
    obtain ⟨i, hg, hi1, hi, rfl, hle, hf⟩ := hrel
    have Hg : Hid _ := hg
    have Hle : Hid _ := hle
    have Hf : Hid (Fr w wr (fun _ => False)) := hf
    clear hg hle hf
    by_cases hlt : i < n
    · have hin : (i : Int) < (n : Int) := by omega
      obtain ⟨i1, hi1e⟩ : ∃ k, i = k + 1 := ⟨i - 1, by omega⟩
      have hsub : (i : Int) - 1 = (i1 : Int) := by omega
      have hi1n : (i1 : Int) < (n : Int) := by omega
      have wsub : IntKind.i64.wrap (i1 : Int) = (i1 : Int) := IntWalk.i64_in _ (by omega)
      obtain ⟨a, ha⟩ : ∃ a, es[i1]? = some a := ⟨_, List.getElem?_eq_getElem (by rw [← Hn.out]; omega)⟩
      obtain ⟨b, hb⟩ : ∃ b, es[i]? = some b := ⟨_, List.getElem?_eq_getElem (by rw [← Hn.out]; omega)⟩
      obtain ⟨bk, off, cap, e1, hbk, hca⟩ := Hr.out.get i1 a ha
      obtain ⟨bk', off', cap', e2, -, hcb⟩ := Hr.out.get i b hb
      rw [e1] at e2
      simp only [Value.slice.injEq, Option.some.injEq, Addr.mk.injEq] at e1 e2
      obtain ⟨⟨rfl, rfl, -⟩, -, rfl⟩ := e2
      obtain ⟨rfl, -, rfl⟩ := e1
      have ka : ∀ z, Fr wr.drew z (fun _ => False) → z.cell? ⟨bk, off + i1 * 2, none⟩ = some (.int .u32 (a.1 : Int)) := fun z hz => (hca z (Hf.out.drew.none hz)).1
      have ka2 : ∀ z, Fr wr.drew z (fun _ => False) → z.cell? ⟨bk, off + i1 * 2 + 1, none⟩ = some (.int .u32 (a.2 : Int)) := fun z hz => (hca z (Hf.out.drew.none hz)).2
      have kb : ∀ z, Fr wr.drew z (fun _ => False) → z.cell? ⟨bk, off + i * 2, none⟩ = some (.int .u32 (b.1 : Int)) := fun z hz => (hcb z (Hf.out.drew.none hz)).1
      have kb2 : ∀ z, Fr wr.drew z (fun _ => False) → z.cell? ⟨bk, off + i * 2 + 1, none⟩ = some (.int .u32 (b.2 : Int)) := fun z hz => (hcb z (Hf.out.drew.none hz)).2
      have Hab : Hid (es[i1]? = some a ∧ es[i1 + 1]? = some b) := ⟨ha, by rw [← hi1e]; exact hb⟩
      have Hi1 : Hid _ := hi1e
      have hi0 : (0 : Int) ≤ (i1 : Int) := by omega
      clear hca hcb ha hb hi1e hbk
      go_wp2_with fail
      refine wp_region_tree (fun _ => False) (.take 0 (.take 1 (.take 2 (.take 3 (.take 4 (.take 5 (.take 6 (.take 7 (.take 8 (.one 9 (.take 10 .nil))))))))))) (by kernel_rfl) (by kernel_rfl) (by decide) (by kernel_rfl) ?_
      repeat (refine wpT_take (v := ?_) rfl rfl (fun x hx => ?_) ?_; rotate_left; (focus (go_simp; with_reducible rfl)); simp only [Act.put, List.setIfInBounds_toArray, List.set_cons_zero, List.set_cons_succ])
      refine wpT_one rfl rfl (fun K hK => ?_)
      go_simp
      refine (refLess8_any a b wr.drew).mono ?_
      rintro e w1 ⟨rfl, hf1⟩
      refine hK _ _ hf1 ?_
      clear hK K ka ka2 kb kb2
      have Hf1 : Hid (Fr w w1 (fun _ => False)) := Hf.out.drew.none hf1
      cases hL : eLess a b with
      | false =>
        have Hres : Hid (eRising es = false) := eRising_false Hab.out.1 Hab.out.2 hL
        clear hL hf1
        repeat (refine wpT_take (v := ?_) rfl rfl (fun x hx => ?_) ?_; rotate_left; (focus (go_simp; with_reducible rfl)); simp only [Act.put, List.setIfInBounds_toArray, List.set_cons_zero, List.set_cons_succ])
        unfold wpT
        go_wp2_with fail
        go_ret
        exact ⟨by rw [Hres.out]; rfl, Hf1.out⟩
      | true =>
        have Hle2 : Hid (∀ j a b, j + 1 < i + 1 → es[j]? = some a → es[j + 1]? = some b → eLess a b = true) := fun j x y hj hx hy => by
          by_cases h : j + 1 < i
          · exact Hle.out j x y h hx hy
          · have e : j = i1 := by have := Hi1.out; omega
            subst e
            rw [Hab.out.1] at hx
            rw [Hab.out.2] at hy
            simp only [Option.some.injEq] at hx hy
            rw [← hx, ← hy]
            exact hL
        clear hL hf1
        repeat (refine wpT_take (v := ?_) rfl rfl (fun x hx => ?_) ?_; rotate_left; (focus (go_simp; with_reducible rfl)); simp only [Act.put, List.setIfInBounds_toArray, List.set_cons_zero, List.set_cons_succ])
        unfold wpT
        go_wp2_with fail
        go_roundg (n - (i + 1))
        case rel => exact ⟨i + 1, rfl, by omega, .inl (by omega), by go_num, Hle2.out, Hf1.out⟩
        case measure => rw [Hg.out]; omega
    · have hin : ¬ (i : Int) < (n : Int) := by omega
      have Hres : Hid (eRising es = true) := eRising_true (fun j a b ha hb => Hle.out j a b (by
        have := (List.getElem?_eq_some_iff.1 hb).1
        rw [← Hn.out] at this
        omega) ha hb)
      go_wp2_with fail
      go_ret
      exact ⟨by rw [Hres.out]; rfl, Hf.out⟩

end Go.Proofs.Ythdlhdeaeaahoaa

/-
  A drawn region walked by a tree: a call under a guard that isn't wanted. No program is named here.
-/
namespace Go.Proofs.Ythdlhdeaeaahoaa
open Go.RowKit

theorem wpT_skip {P : Program} {Q : Exit → Act → World → Prop} {T : Nat → Prop} {l : List Oper} {k : Nat} {s : Sch} {o : Oper} {a : Act} {w : World} (ho : l[k]? = some o) (hw : Region.wanted o (yielded l.toArray a.tmps) = false)
    (h : wpT P l.toArray Q T s (a.put o.dst undef) w) : wpT P l.toArray Q T (.one k s) a w := by
  have ho' : l.toArray[k]? = some o := by simpa using ho
  show wpOp P l.toArray (NoPanic Q) k (fun a' w' => Fr w w' T ∧ wpT P l.toArray Q T s a' w') a w
  unfold wpOp
  simp only [ho', hw]
  exact ⟨Fr.refl _ _, h⟩

end Go.Proofs.Ythdlhdeaeaahoaa

/-
  The contract of the reference's Turn.
-/
namespace Go.Proofs.Ythdlhdeaeaahoaa
open Go.RowKit

/-- Is the edge at this place a lesser one? -/
def lessAt (l : List Eg) (e : Eg) (k : Nat) : Bool := (l[k]?.map (fun x => eLess x e)).getD false
theorem lessAt_end {l : List Eg} {e : Eg} {k : Nat} (hk : k ≤ l.length) (h : ∀ j x, j < k → l[j]? = some x → eLess x e = true) (h2 : lessAt l e k = false) : posF l e = k := by
  refine posF_is hk h (fun x hx => ?_)
  unfold lessAt at h2
  rw [hx] at h2
  exact h2

set_option maxRecDepth 4000 in
set_option maxHeartbeats 1600000 in
theorem refTurn_any (v : Value) (es : List Eg) (x : Ev) (w : World) (h : RdE w v es) (hl : es.length ≤ 1000000) : Calls Try.prog 19 #[v, evV x] w fun r w' => (∃ v', r = .returned (.tuple #[v', .bool (turnF es x.2.1 x.2.2).isSome]) ∧ RdE w' v' ((turnF es x.2.1 x.2.2).getD []) ∧ (∀ k, v'.ownBlock = some k → w.heap.size ≤ k)) ∧ Fr w w' (fun _ => False) := by
  obtain ⟨a0, c0, rfl, hc0⟩ := h.form
  obtain ⟨n, hn⟩ : ∃ n, n = es.length := ⟨_, rfl⟩
  obtain ⟨t, ⟨e1, e2⟩, ad⟩ := x
  rw [← hn] at h hl hc0 ⊢
  have Hr : Hid (RdE w (.slice a0 n c0) es) := h
  have Hn : Hid _ := hn
  have Hl : Hid (es.length ≤ 1000000) := by show _ ≤ _; omega
  clear h hn
  unfold evV eventV
  dsimp only
  obtain ⟨TF, hTF⟩ : ∃ T, T = turnF es (e1, e2) ad := ⟨_, rfl⟩
  rw [← hTF]
  have HTF : Hid _ := hTF
  obtain ⟨F, hF⟩ : ∃ F, F = findF es (e1, e2) := ⟨_, rfl⟩
  obtain ⟨D, hD⟩ : ∃ D, D = decide ((e1, e2) ∈ es) := ⟨_, rfl⟩
  have hd : decide ((0 : Int) ≤ F) = D := by rw [hF, hD]; exact findF_has es (e1, e2)
  obtain ⟨R, hR⟩ : ∃ R, R = eRising es := ⟨_, rfl⟩
  have HF : Hid _ := hF
  have HD : Hid _ := hD
  have HR : Hid _ := hR
  clear hF hD hR hTF
  go_enter Try.func19, Try.ntmps19
  go_wp2_with fail
  obtain ⟨p, hp⟩ : ∃ p, p = w.heap.size := ⟨_, rfl⟩
  obtain ⟨wa, hwa⟩ : ∃ wa, wa = w.alloc (.cells #[.int .i64 t, .int .u32 (e1 : Int), .int .u32 (e2 : Int), .bool ad] 53) := ⟨_, rfl⟩
  rw [← hwa]
  have Hpb : Hid (∀ z, Fr wa z (fun _ => False) → z.heap[p]? = some (.cells #[.int .i64 t, .int .u32 (e1 : Int), .int .u32 (e2 : Int), .bool ad] 53 (0, 0))) := fun z hz => hz.kept (by rw [hwa, hp]; exact heap_alloc_new _ _) (fun h => h)
  have Hwa : Hid (Fr w wa (fun _ => False)) := by show Fr _ _ _; rw [hwa]; exact (Fr.refl _ _).alloc _
  have Hr : Hid (∀ z, Fr wa z (fun _ => False) → RdE z (.slice a0 n c0) es) := fun z hz => Hr.out.keep (Hwa.out.none hz)
  refine (refFind_any _ es (e1, e2) _ (Hr.out wa (Fr.refl _ _)) Hl.out).mono ?_
  rw [← HF.out]
  rintro r x1 ⟨rfl, g⟩
  rw [← hp]
  clear hp hwa
  have G1 : Hid (Fr wa x1 (fun _ => False)) := g
  clear g
  obtain ⟨c0', c1, c2, c3⟩ := four_cells (Hpb.out x1 G1.out)
  go_wp2_with fail
  refine (refRising8_any _ es _ (Hr.out x1 G1.out) Hl.out).mono ?_
  rw [← HR.out]
  rintro r x2 ⟨rfl, g⟩
  have G2 : Hid (Fr wa x2 (fun _ => False)) := G1.out.none g
  have Hw2 : Hid (Fr w x2 (fun _ => False)) := Hwa.out.none G2.out
  clear g c0' c1 c2 c3
  obtain ⟨c0', c1, c2, c3⟩ := four_cells (Hpb.out x2 G2.out)
  cases R with
  | false =>
    have Hres : Hid (turnF es (e1, e2) ad = none) := by show _ = _; unfold turnF; rw [if_pos (.inl HR.out.symm)]
    obtain rfl := HTF.out.trans Hres.out
    go_wp2
    go_ret2
    exact ⟨⟨_, rfl, RdE.nil _, fun k hk => by simp [Value.ownBlock] at hk⟩, Hw2.out⟩
  | true =>
  have Hmem : Hid (D = decide ((e1, e2) ∈ es)) := HD.out
  cases D with
  | false =>
    cases ad with
    | false =>
      have Hres : Hid (turnF es (e1, e2) false = none) := by show _ = _; unfold turnF; rw [if_pos (.inr HD.out)]
      obtain rfl := HTF.out.trans Hres.out
      go_wp2
      go_ret2
      exact ⟨⟨_, rfl, RdE.nil _, fun k hk => by simp [Value.ownBlock] at hk⟩, Hw2.out⟩
    | true =>
      have Hres : Hid (turnF es (e1, e2) true = some (es.take (posF es (e1, e2)) ++ (e1, e2) :: es.drop (posF es (e1, e2)))) := by
        show _ = _
        unfold turnF
        rw [← HR.out, ← HD.out, if_neg (by simp), if_pos rfl]
      go_wp2_with fail
      clear c0' c1 c2 c3 hd
      go_loopg [6] n (fun g I wr => ∃ k : Nat, g = n - k ∧ k ≤ n ∧ I = .int .i64 (k : Int) ∧ (∀ j x, j < k → es[j]? = some x → eLess x (e1, e2) = true) ∧ Fr wa wr (fun _ => False))
      case atStart => exact ⟨0, by omega, by omega, rfl, fun j x hj => by omega, G2.out⟩
      case round =>
        obtain ⟨k, hg, hk, rfl, hle, hf⟩ := hrel
        have Hg : Hid _ := hg
        have Hle : Hid _ := hle
        have Hf : Hid (Fr wa wr (fun _ => False)) := hf
        clear hg hle hf
        obtain ⟨B, hB⟩ : ∃ B, B = lessAt es (e1, e2) k := ⟨_, rfl⟩
        have HB : Hid _ := hB
        clear hB
        go_upto_region 7 with fail
        go_cut [45] from 33 to 47 (fun V wx => V = .bool B ∧ Fr wr wx (fun _ => False))
        case first =>
          by_cases hlt : k < n
          · have hin : (k : Int) < (n : Int) := by omega
            have hin' : decide (k < n) = true := decide_eq_true hlt
            obtain ⟨⟨a, b⟩, ha⟩ : ∃ a, es[k]? = some a := ⟨_, List.getElem?_eq_getElem (by rw [← Hn.out]; omega)⟩
            have HB2 : Hid (eLess (a, b) (e1, e2) = B) := by
              show _ = _
              rw [HB.out]
              unfold lessAt
              rw [ha]
              rfl
            obtain ⟨bk, off, cap, e3, hbk, hca⟩ := (Hr.out wa (Fr.refl _ _)).get k _ ha
            simp only [Value.slice.injEq] at e3
            obtain ⟨rfl, -, rfl⟩ := e3
            have ka : ∀ z, Fr wr.drew z (fun _ => False) → z.cell? ⟨bk, off + k * 2, none⟩ = some (.int .u32 (a : Int)) := fun z hz => (hca z (Hf.out.drew.none hz)).1
            have kb : ∀ z, Fr wr.drew z (fun _ => False) → z.cell? ⟨bk, off + k * 2 + 1, none⟩ = some (.int .u32 (b : Int)) := fun z hz => (hca z (Hf.out.drew.none hz)).2
            have kc : ∀ z, Fr wr.drew z (fun _ => False) → z.cell? ⟨p, 1, none⟩ = some (.int .u32 (e1 : Int)) := fun z hz => (four_cells (Hpb.out z (Hf.out.drew.none hz))).2.1
            have kd : ∀ z, Fr wr.drew z (fun _ => False) → z.cell? ⟨p, 2, none⟩ = some (.int .u32 (e2 : Int)) := fun z hz => (four_cells (Hpb.out z (Hf.out.drew.none hz))).2.2.1
            have hk0 : (0 : Int) ≤ (k : Int) := by omega
            clear hca ha hbk
            go_wp2_with fail
            refine wp_region_tree (fun _ => False) (.take 0 (.take 1 (.take 2 (.take 3 (.take 4 (.take 5 (.take 6 (.take 7 (.take 8 (.take 9 (.take 10 (.one 11 (.take 12 .nil))))))))))))) (by kernel_rfl) (by kernel_rfl) (by decide) (by kernel_rfl) ?_
            repeat (refine wpT_take (v := ?_) rfl rfl (fun x hx => ?_) ?_; rotate_left; (focus (go_simp; with_reducible rfl)); simp only [Act.put, List.setIfInBounds_toArray, List.set_cons_zero, List.set_cons_succ])
            refine wpT_one rfl rfl (fun K hK => ?_)
            go_simp
            refine (refLess8_any (a, b) (e1, e2) _).mono ?_
            rw [HB2.out]
            rintro r x3 ⟨rfl, g⟩
            refine hK _ _ g ?_
            clear hK K ka kb kc kd
            have G3 : Hid (Fr wr x3 (fun _ => False)) := (Fr.refl wr (fun _ => False)).drew.none g
            clear g
            repeat (refine wpT_take (v := ?_) rfl rfl (fun x hx => ?_) ?_; rotate_left; (focus (go_simp; with_reducible rfl)); simp only [Act.put, List.setIfInBounds_toArray, List.set_cons_zero, List.set_cons_succ])
            unfold wpT
            go_wp2_with fail
            go_meet
            case rel => exact ⟨rfl, G3.out⟩
          · have hin : ¬ (k : Int) < (n : Int) := by omega
            have hin' : decide (k < n) = false := decide_eq_false hlt
            have HB2 : Hid (B = false) := by
              show _ = _
              rw [HB.out]
              unfold lessAt
              rw [List.getElem?_eq_none (by rw [← Hn.out]; omega)]
              rfl
            obtain rfl := HB2.out
            go_wp2_with fail
            refine wp_region_tree (fun _ => False) (.take 0 (.take 1 (.take 2 (.take 3 (.take 4 (.take 5 (.take 6 (.take 7 (.take 8 (.take 9 (.take 10 (.one 11 (.take 12 .nil))))))))))))) (by kernel_rfl) (by kernel_rfl) (by decide) (by kernel_rfl) ?_
            iterate 5 (refine wpT_take (v := ?_) rfl rfl (fun x hx => ?_) ?_; rotate_left; (focus (go_simp; with_reducible rfl)); simp only [Act.put, List.setIfInBounds_toArray, List.set_cons_zero, List.set_cons_succ])
            iterate 6 (refine wpT_pass rfl rfl ?_; simp only [Act.put, List.setIfInBounds_toArray, List.set_cons_zero, List.set_cons_succ])
            refine wpT_skip rfl rfl ?_
            simp only [Act.put, List.setIfInBounds_toArray, List.set_cons_zero, List.set_cons_succ]
            repeat (refine wpT_take (v := ?_) rfl rfl (fun x hx => ?_) ?_; rotate_left; (focus (go_simp; with_reducible rfl)); simp only [Act.put, List.setIfInBounds_toArray, List.set_cons_zero, List.set_cons_succ])
            have G3 : Hid (Fr wr wr.drew (fun _ => False)) := (Fr.refl wr (fun _ => False)).drew
            unfold wpT
            go_wp2_with fail
            go_meet
            case rel => exact ⟨rfl, G3.out⟩
        case rest =>
          obtain ⟨rfl, hfc⟩ := hcut
          rename_i hKc
          refine hKc _ _ ?_
          clear hKc
          have Hfc : Hid (Fr wa wc (fun _ => False)) := Hf.out.none hfc
          clear hfc
          cases B with
          | true =>
            have hkn : k < n := by
              have h1 := HB.out
              unfold lessAt at h1
              cases h2 : es[k]? with
              | none => rw [h2] at h1; cases h1
              | some y => have := (List.getElem?_eq_some_iff.1 h2).1; have := Hn.out; omega
            have Hle2 : Hid (∀ j x, j < k + 1 → es[j]? = some x → eLess x (e1, e2) = true) := fun j x hj hx => by
              by_cases h : j < k
              · exact Hle.out j x h hx
              · have e : j = k := by omega
                subst e
                have h1 := HB.out
                unfold lessAt at h1
                rw [hx] at h1
                exact h1.symm
            go_wp2_with fail
            go_roundg (n - (k + 1))
            case rel => exact ⟨k + 1, rfl, by omega, by go_num, Hle2.out, Hfc.out⟩
            case measure => rw [Hg.out]; omega
          | false =>
            have Hpos : Hid (posF es (e1, e2) = k) := lessAt_end (by rw [← Hn.out]; exact hk) Hle.out HB.out.symm
            obtain rfl : TF = some (es.take k ++ (e1, e2) :: es.drop k) := by rw [HTF.out, Hres.out, Hpos.out]
            obtain ⟨W, hW⟩ : ∃ W, W = wc.drew := ⟨_, rfl⟩
            have HfW : Hid (Fr wa W (fun _ => False)) := by rw [hW]; exact Hfc.out.drew
            have kc : ∀ z, Fr W z (fun k => W.heap.size ≤ k) → z.cell? ⟨p, 1, none⟩ = some (.int .u32 (e1 : Int)) := fun z hz => (four_cells (Hpb.out z (HfW.out.none (hz.old (Nat.le_refl _))))).2.1
            have kd : ∀ z, Fr W z (fun k => W.heap.size ≤ k) → z.cell? ⟨p, 2, none⟩ = some (.int .u32 (e2 : Int)) := fun z hz => (four_cells (Hpb.out z (HfW.out.none (hz.old (Nat.le_refl _))))).2.2.1
            have hkc : (k : Int) ≤ (c0 : Int) := by omega
            have hkn : (k : Int) ≤ (n : Int) := by omega
            have hk0 : (0 : Int) ≤ (k : Int) := by omega
            obtain ⟨A, hA⟩ : ∃ A, (if c0 = k then a0 else Option.map (fun x => x.add (k * 2)) a0) = A := ⟨_, rfl⟩
            have Hpre : Hid (RdE W (.slice a0 k c0) (es.take k)) := (Hr.out W HfW.out).take Hn.out.symm k hk
            have Hpost : Hid (RdE W (.slice A (n - k) (c0 - k)) (es.drop k)) := by rw [← hA]; exact (Hr.out W HfW.out).drop Hn.out.symm k hk
            have Hsz : Hid (w.heap.size ≤ W.heap.size) := (Hwa.out.none HfW.out).size
            have Hll : Hid ((es.take k).length + 1 + (es.drop k).length ≤ 2000000) := by have := Hl.out; show _ ≤ _; rw [List.length_take, List.length_drop]; omega
            go_wp2_with fail
            refine wp_region_tree (fun k => W.heap.size ≤ k) (.take 0 (.take 1 (.take 2 (.take 4 (.take 5 (.take 8 (.take 9 (.take 10 (.two 3 (.one 6 (.one 7 (.one 11 (.take 12 (.take 13 .nil))))) 6 (.one 3 (.one 7 (.one 11 (.take 12 (.take 13 .nil)))))))))))))) (by kernel_rfl) (by kernel_rfl) (by decide) (by kernel_rfl) ?_
            rw [← hW]
            clear hW
            repeat (refine wpT_take (v := ?_) rfl rfl (fun x hx => ?_) ?_; rotate_left; (focus (go_simp; with_reducible rfl)); simp only [Act.put, List.setIfInBounds_toArray, List.set_cons_zero, List.set_cons_succ])
            clear kc kd
            have e0 : Fr W W (fun k => W.heap.size ≤ k) := Fr.refl _ _
            refine wpT_two rfl rfl rfl rfl (fun K hK => ?_) (fun K hK => ?_)
            · obtain ⟨v4, w4, hrun4, ho4, hf4, hn4⟩ := app_edges_nil W (.slice a0 k c0) _ W.heap.size (Nat.le_refl _) Hpre.out (by have := Hll.out; omega)
              refine op_append_run (.const (.slice none 0 0)) (.tmp 50) 33 rfl rfl rfl hrun4 ?_
              refine hK _ _ hf4 ?_
              clear hK K
              simp only [Act.put, List.setIfInBounds_toArray, List.set_cons_zero, List.set_cons_succ]
              refine wpT_one rfl rfl (fun K hK => ?_)
              go_simp
              refine hK _ _ (((Fr.refl w4 (fun _ => False)).alloc _).mono (fun _ _ h => h.elim)) ?_
              clear hK K
              have hfl : Fr W (w4.alloc (.cells #[.int .u32 (e1 : Int), .int .u32 (e2 : Int)] 48)) (fun k => W.heap.size ≤ k) := hf4.alloc _
              have hlit := lit_edge w4 e1 e2
              have hof := ho4.alloc (.cells #[.int .u32 (e1 : Int), .int .u32 (e2 : Int)] 48)
              obtain ⟨v5, w5, hrun5, ho5, hf5, hn5⟩ := app_edges_new _ v4 _ _ [(e1, e2)] W.heap.size hfl.size hof hn4 hlit (by have := Hll.out; simp only [List.length_singleton]; omega)
              refine wpT_one rfl rfl (fun K hK => ?_)
              refine op_append_run (.tmp 51) (.tmp 54) 33 rfl rfl rfl hrun5 ?_
              refine hK _ _ hf5 ?_
              clear hK K
              simp only [Act.put, List.setIfInBounds_toArray, List.set_cons_zero, List.set_cons_succ]
              have hf6 : Fr W w5 (fun k => W.heap.size ≤ k) := hfl.trans hf5 (fun _ _ h => h)
              obtain ⟨v6, w6, hrun6, ho6, hf7, hn6⟩ := app_edges_new w5 v5 (.slice A (n - k) (c0 - k)) _ _ W.heap.size hf6.size ho5 hn5 (Hpost.out.keep (hf6.old (Nat.le_refl _))) (by have := Hll.out; rw [List.length_append, List.length_singleton]; omega)
              refine wpT_one rfl rfl (fun K hK => ?_)
              refine op_append_run (.tmp 55) (.tmp 58) 33 rfl rfl rfl hrun6 ?_
              refine hK _ _ hf7 ?_
              clear hK K
              simp only [Act.put, List.setIfInBounds_toArray, List.set_cons_zero, List.set_cons_succ]
              repeat (refine wpT_take (v := ?_) rfl rfl (fun x hx => ?_) ?_; rotate_left; (focus (go_simp; with_reducible rfl)); simp only [Act.put, List.setIfInBounds_toArray, List.set_cons_zero, List.set_cons_succ])
              have Hfo : Hid (Fr w w6 (fun _ => False)) := (Hwa.out.none HfW.out).none ((hf6.trans hf7 (fun _ _ h => h)).old (Nat.le_refl _))
              have Ho6 : Hid (OwnE w6 v6 (es.take k ++ (e1, e2) :: es.drop k)) := by rw [List.append_assoc] at ho6; exact ho6
              have Hn6 : Hid _ := hn6
              clear hf4 hf5 hf6 hf7 hfl ho4 ho5 ho6 hn4 hn5 hn6 hrun4 hrun5 hrun6 hlit
              unfold wpT
              go_wp2
              go_ret2
              exact ⟨⟨_, rfl, Ho6.out.rd, fun k hk => Nat.le_trans Hsz.out (Hn6.out k hk)⟩, Hfo.out⟩
            · go_simp
              refine hK _ _ (((Fr.refl W (fun _ => False)).alloc _).mono (fun _ _ h => h.elim)) ?_
              clear hK K
              have hfl : Fr W (W.alloc (.cells #[.int .u32 (e1 : Int), .int .u32 (e2 : Int)] 48)) (fun k => W.heap.size ≤ k) := e0.alloc _
              have hlit := lit_edge W e1 e2
              obtain ⟨v4, w4, hrun4, ho4, hf4a, hn4a⟩ := app_edges_nil _ (.slice a0 k c0) _ (W.heap.size + 1) (by simp) (Hpre.out.keep (hfl.old (Nat.le_refl _))) (by have := Hll.out; omega)
              have hf4 := hf4a.mono (T := fun k => W.heap.size ≤ k) (fun i _ hi => by omega)
              have hn4 : ∀ k, v4.ownBlock = some k → W.heap.size ≤ k := fun k hk => by have := hn4a k hk; omega
              refine wpT_one rfl rfl (fun K hK => ?_)
              refine op_append_run (.const (.slice none 0 0)) (.tmp 50) 33 rfl rfl rfl hrun4 ?_
              refine hK _ _ hf4 ?_
              clear hK K
              simp only [Act.put, List.setIfInBounds_toArray, List.set_cons_zero, List.set_cons_succ]
              have hlit2 := hlit.frame hf4a (fun _ k hk => by simp [Value.ownBlock] at hk; subst hk; omega)
              obtain ⟨v5, w5, hrun5, ho5, hf5, hn5⟩ := app_edges_new _ v4 _ _ [(e1, e2)] W.heap.size (hfl.trans hf4 (fun _ _ h => h)).size ho4 hn4 hlit2 (by have := Hll.out; simp only [List.length_singleton]; omega)
              refine wpT_one rfl rfl (fun K hK => ?_)
              refine op_append_run (.tmp 51) (.tmp 54) 33 rfl rfl rfl hrun5 ?_
              refine hK _ _ hf5 ?_
              clear hK K
              simp only [Act.put, List.setIfInBounds_toArray, List.set_cons_zero, List.set_cons_succ]
              have hf6 : Fr W w5 (fun k => W.heap.size ≤ k) := (hfl.trans hf4 (fun _ _ h => h)).trans hf5 (fun _ _ h => h)
              obtain ⟨v6, w6, hrun6, ho6, hf7, hn6⟩ := app_edges_new w5 v5 (.slice A (n - k) (c0 - k)) _ _ W.heap.size hf6.size ho5 hn5 (Hpost.out.keep (hf6.old (Nat.le_refl _))) (by have := Hll.out; rw [List.length_append, List.length_singleton]; omega)
              refine wpT_one rfl rfl (fun K hK => ?_)
              refine op_append_run (.tmp 55) (.tmp 58) 33 rfl rfl rfl hrun6 ?_
              refine hK _ _ hf7 ?_
              clear hK K
              simp only [Act.put, List.setIfInBounds_toArray, List.set_cons_zero, List.set_cons_succ]
              repeat (refine wpT_take (v := ?_) rfl rfl (fun x hx => ?_) ?_; rotate_left; (focus (go_simp; with_reducible rfl)); simp only [Act.put, List.setIfInBounds_toArray, List.set_cons_zero, List.set_cons_succ])
              have Hfo : Hid (Fr w w6 (fun _ => False)) := (Hwa.out.none HfW.out).none ((hf6.trans hf7 (fun _ _ h => h)).old (Nat.le_refl _))
              have Ho6 : Hid (OwnE w6 v6 (es.take k ++ (e1, e2) :: es.drop k)) := by rw [List.append_assoc] at ho6; exact ho6
              have Hn6 : Hid _ := hn6
              clear hf4 hf5 hf6 hf7 hfl ho4 ho5 ho6 hn4 hn5 hn6 hrun4 hrun5 hrun6 hlit
              unfold wpT
              go_wp2
              go_ret2
              exact ⟨⟨_, rfl, Ho6.out.rd, fun k hk => Nat.le_trans Hsz.out (Hn6.out k hk)⟩, Hfo.out⟩
    -- goes
  | true =>
    cases ad with
    | true =>
      have Hres : Hid (turnF es (e1, e2) true = none) := by show _ = _; unfold turnF; rw [if_pos (.inr HD.out)]
      obtain rfl := HTF.out.trans Hres.out
      go_wp2
      go_ret2
      exact ⟨⟨_, rfl, RdE.nil _, fun k hk => by simp [Value.ownBlock] at hk⟩, Hw2.out⟩
    | false =>
      have hmem : (e1, e2) ∈ es := of_decide_eq_true HD.out.symm
      obtain ⟨k, hk⟩ : ∃ k, k = es.idxOf (e1, e2) := ⟨_, rfl⟩
      have hkn : k < n := by rw [hk, Hn.out]; exact List.idxOf_lt_length_of_mem hmem
      obtain rfl : F = (k : Int) := by rw [HF.out, hk]; unfold findF; rw [if_pos hmem]
      have Hres : Hid (turnF es (e1, e2) false = some (es.take k ++ es.drop (k + 1))) := by
        show _ = _
        unfold turnF
        rw [← HR.out, ← HD.out, if_neg (by simp), if_neg (by simp), hk]
      obtain rfl := HTF.out.trans Hres.out
      clear hk hmem
      obtain ⟨W, hW⟩ : ∃ W, W = x2.drew := ⟨_, rfl⟩
      have HfW : Hid (Fr wa W (fun _ => False)) := by rw [hW]; exact G2.out.drew
      obtain ⟨k1, hk1⟩ : ∃ k1, k1 = k + 1 := ⟨_, rfl⟩
      have wk : IntKind.i64.wrap ((k : Int) + 1) = (k1 : Int) := by rw [IntWalk.i64_in _ (by omega)]; omega
      have hkc : (k : Int) ≤ (c0 : Int) := by omega
      have hk0 : (0 : Int) ≤ (k : Int) := by omega
      have hk10 : (0 : Int) ≤ (k1 : Int) := by omega
      have hk1n : (k1 : Int) ≤ (n : Int) := by omega
      obtain ⟨A, hA⟩ : ∃ A, (if c0 = k1 then a0 else Option.map (fun x => x.add (k1 * 2)) a0) = A := ⟨_, rfl⟩
      have Hpre : Hid (RdE W (.slice a0 k c0) (es.take k)) := (Hr.out W HfW.out).take Hn.out.symm k (by omega)
      have Hpost : Hid (RdE W (.slice A (n - k1) (c0 - k1)) (es.drop (k + 1))) := by rw [← hA, ← hk1]; exact (Hr.out W HfW.out).drop Hn.out.symm k1 (by omega)
      have Hsz : Hid (w.heap.size ≤ W.heap.size) := (Hwa.out.none HfW.out).size
      have Hll : Hid ((es.take k).length + (es.drop (k + 1)).length ≤ 2000000) := by have := Hl.out; show _ ≤ _; rw [List.length_take, List.length_drop]; omega
      have Hk1 : Hid _ := hk1
      clear hk1
      go_wp2_with fail
      refine wp_region_tree (fun k => W.heap.size ≤ k) (.take 0 (.take 1 (.take 2 (.take 4 (.take 5 (.take 6 (.take 7 (.one 3 (.one 8 (.take 9 (.take 10 .nil))))))))))) (by kernel_rfl) (by kernel_rfl) (by decide) (by kernel_rfl) ?_
      rw [← hW]
      clear hW
      repeat (refine wpT_take (v := ?_) rfl rfl (fun x hx => ?_) ?_; rotate_left; (focus (go_simp; with_reducible rfl)); simp only [Act.put, List.setIfInBounds_toArray, List.set_cons_zero, List.set_cons_succ])
      obtain ⟨v4, w4, hrun4, ho4, hf4, hn4⟩ := app_edges_nil W (.slice a0 k c0) _ W.heap.size (Nat.le_refl _) Hpre.out (by have := Hll.out; omega)
      refine wpT_one rfl rfl (fun K hK => ?_)
      refine op_append_run (.const (.slice none 0 0)) (.tmp 26) 33 rfl rfl rfl hrun4 ?_
      refine hK _ _ hf4 ?_
      clear hK K
      simp only [Act.put, List.setIfInBounds_toArray, List.set_cons_zero, List.set_cons_succ]
      obtain ⟨v5, w5, hrun5, ho5, hf5, hn5⟩ := app_edges_new w4 v4 (.slice A (n - k1) (c0 - k1)) _ _ W.heap.size hf4.size ho4 hn4 (Hpost.out.keep (hf4.old (Nat.le_refl _))) (by have := Hll.out; omega)
      refine wpT_one rfl rfl (fun K hK => ?_)
      refine op_append_run (.tmp 27) (.tmp 31) 33 rfl rfl rfl hrun5 ?_
      refine hK _ _ hf5 ?_
      clear hK K
      simp only [Act.put, List.setIfInBounds_toArray, List.set_cons_zero, List.set_cons_succ]
      repeat (refine wpT_take (v := ?_) rfl rfl (fun x hx => ?_) ?_; rotate_left; (focus (go_simp; with_reducible rfl)); simp only [Act.put, List.setIfInBounds_toArray, List.set_cons_zero, List.set_cons_succ])
      have Hfo : Hid (Fr w w5 (fun _ => False)) := ((Hwa.out.none HfW.out).none (hf4.old (Nat.le_refl _))).newer hf5 (fun i hi => Nat.le_trans Hsz.out hi)
      have Ho5 : Hid (OwnE w5 v5 (es.take k ++ es.drop (k + 1))) := ho5
      have Hn5 : Hid _ := hn5
      clear hf4 hf5 ho4 ho5 hn4 hn5 hrun4 hrun5
      unfold wpT
      go_wp2
      go_ret2
      exact ⟨⟨_, rfl, Ho5.out.rd, fun k hk => Nat.le_trans Hsz.out (Hn5.out k hk)⟩, Hfo.out⟩

end Go.Proofs.Ythdlhdeaeaahoaa

/-
  The contract of the reference's Check of a history.
-/
namespace Go.Proofs.Ythdlhdeaeaahoaa
open Go.RowKit

/-- The event ahead of a place. -/
def prevAt (evs : List Ev) : Nat → Option Ev
  | 0 => none
  | i + 1 => evs[i]?
theorem drop_at {α : Type} {l : List α} {i : Nat} {a : α} (h : l[i]? = some a) : l.drop i = a :: l.drop (i + 1) := by
  obtain ⟨hi, he⟩ := List.getElem?_eq_some_iff.1 h
  rw [List.drop_eq_getElem_cons hi, he]
theorem chk_limit {n : Nat} {now : List Eg} {pv : Option Ev} {i : Nat} {x : Ev} {r : List Ev} (h : x.1 < 0 ∨ 4611686018427387903 < x.1) : chkF n now pv i (x :: r) = (i, 26) := by
  rw [chkF, if_pos h]
theorem chk_vertex {n : Nat} {now : List Eg} {pv : Option Ev} {i : Nat} {x : Ev} {r : List Ev} (h : ¬ (x.1 < 0 ∨ 4611686018427387903 < x.1)) (h1 : eRight x.2.1.1 x.2.1.2 n = false) : chkF n now pv i (x :: r) = (i, 24) := by
  rw [chkF, if_neg h, if_pos h1]
theorem chk_order {n : Nat} {now : List Eg} {pv : Option Ev} {i : Nat} {x : Ev} {r : List Ev} (h : ¬ (x.1 < 0 ∨ 4611686018427387903 < x.1)) (h1 : eRight x.2.1.1 x.2.1.2 n = true) (h2 : (pv.any fun p => !eBef p x) = true) : chkF n now pv i (x :: r) = (i, 23) := by
  rw [chkF, if_neg h, if_neg (by rw [h1]; simp), if_pos h2]
theorem chk_edge {n : Nat} {now : List Eg} {pv : Option Ev} {i : Nat} {x : Ev} {r : List Ev} (h : ¬ (x.1 < 0 ∨ 4611686018427387903 < x.1)) (h1 : eRight x.2.1.1 x.2.1.2 n = true) (h2 : (pv.any fun p => !eBef p x) = false) (h3 : turnF now x.2.1 x.2.2 = none) : chkF n now pv i (x :: r) = (i, 25) := by
  rw [chkF, if_neg h, if_neg (by rw [h1]; simp), if_neg (by rw [h2]; simp), h3]
theorem chk_step {n : Nat} {now now' : List Eg} {pv : Option Ev} {i : Nat} {x : Ev} {r : List Ev} (h : ¬ (x.1 < 0 ∨ 4611686018427387903 < x.1)) (h1 : eRight x.2.1.1 x.2.1.2 n = true) (h2 : (pv.any fun p => !eBef p x) = false) (h3 : turnF now x.2.1 x.2.2 = some now') : chkF n now pv i (x :: r) = chkF n now' (some x) (i + 1) r := by
  rw [chkF, if_neg h, if_neg (by rw [h1]; simp), if_neg (by rw [h2]; simp), h3]
theorem checkF_small {n : Nat} {evs : List Ev} (h : evs.length ≤ 1000000) (hn : ¬ 4294967296 < n) : checkF n evs = chkF n [] none 0 evs := by
  unfold checkF
  rw [if_neg (by omega)]

set_option maxRecDepth 4000 in
set_option maxHeartbeats 1600000 in
theorem refCheck_any (n : Nat) (v : Value) (evs : List Ev) (w : World) (h : RdV w v evs) (hl : evs.length ≤ 1000000) (hfit : ∀ x ∈ evs, EvFit x) : Calls Try.prog 13 #[histV n v] w fun r w' => r = .returned (.tuple #[.int .i64 ((checkF n evs).1 : Int), .int .i64 ((checkF n evs).2 : Int)]) ∧ Fr w w' (fun _ => False) := by
  obtain ⟨a0, c0, rfl, hc0⟩ := h.form
  obtain ⟨m, hm⟩ : ∃ m, m = evs.length := ⟨_, rfl⟩
  rw [← hm] at h hl hc0 ⊢
  obtain ⟨⟨R1, R2⟩, hR⟩ : ∃ R, R = checkF n evs := ⟨_, rfl⟩
  rw [← hR]
  have HR : Hid _ := hR
  have Hr : Hid (RdV w (.slice a0 m c0) evs) := h
  have Hm : Hid _ := hm
  have Hl : Hid (evs.length ≤ 1000000) := by show _ ≤ _; omega
  have Hfit : Hid _ := hfit
  clear h hm hR hfit
  unfold histV
  dsimp only
  by_cases hn : 4294967296 < n
  · have d1 : decide ((4294967296 : Int) < (n : Int)) = true := decide_eq_true (by omega)
    have d1' : decide (4294967296 < n) = true := decide_eq_true hn
    have Hres : Hid ((R1, R2) = (0, 26)) := by show _ = _; rw [HR.out]; unfold checkF; exact if_pos (.inl hn)
    go_enter Try.func13, Try.ntmps13
    go_wp2
    go_ret2
    simp only [Prod.mk.injEq] at Hres
    obtain ⟨rfl, rfl⟩ := Hres.out
    exact ⟨rfl, (Fr.refl w _).alloc _⟩
  have d1 : decide ((4294967296 : Int) < (n : Int)) = false := decide_eq_false (by omega)
  have d1' : decide (4294967296 < n) = false := decide_eq_false hn
  have d2 : decide ((2147483648 : Int) < (m : Int)) = false := decide_eq_false (by omega)
  have d2' : decide (2147483648 < m) = false := decide_eq_false (by omega)
  have Hst : Hid (chkF n [] none 0 evs = (R1, R2)) := by show _ = _; rw [HR.out, checkF_small Hl.out hn]
  clear hn HR
  go_enter Try.func13, Try.ntmps13
  go_wp2_with fail
  obtain ⟨p, hp⟩ : ∃ p, p = w.heap.size := ⟨_, rfl⟩
  obtain ⟨wa, hwa⟩ : ∃ wa, wa = w.alloc (.cells #[.int .u64 (n : Int), .slice a0 m c0] 25) := ⟨_, rfl⟩
  rw [← hwa, ← hp]
  have Hpb : Hid (∀ z, Fr wa z (fun _ => False) → z.heap[p]? = some (.cells #[.int .u64 (n : Int), .slice a0 m c0] 25 (0, 0))) := fun z hz => hz.kept (by rw [hwa, hp]; exact heap_alloc_new _ _) (fun h => h)
  have Hwa : Hid (Fr w wa (fun _ => False)) := by show Fr _ _ _; rw [hwa]; exact (Fr.refl _ _).alloc _
  have Hr : Hid (∀ z, Fr wa z (fun _ => False) → RdV z (.slice a0 m c0) evs) := fun z hz => Hr.out.keep (Hwa.out.none hz)
  clear hp hwa
  go_loopg [4, 5] m (fun g S I wr => ∃ (i : Nat) (now : List Eg), g = m - i ∧ i ≤ m ∧ I = .int .i64 (i : Int) ∧ RdE wr S now ∧ now.length ≤ i ∧ chkF n now (prevAt evs i) i (evs.drop i) = (R1, R2) ∧ Fr wa wr (fun _ => False))
  case atStart => exact ⟨0, [], by omega, by omega, rfl, RdE.nil _, by simp, Hst.out, Fr.refl _ _⟩
  case round =>
    obtain ⟨i, now, hg, hi, rfl, hnow, hnl, hst, hf⟩ := hrel
    have Hg : Hid _ := hg
    have Hnow : Hid _ := hnow
    have Hnl : Hid _ := hnl
    have Hs : Hid _ := hst
    have Hf : Hid (Fr wa wr (fun _ => False)) := hf
    clear hg hnow hnl hst hf
    obtain ⟨ca, cb⟩ : wr.cell? ⟨p, 0, none⟩ = some (.int .u64 (n : Int)) ∧ wr.cell? ⟨p, 1, none⟩ = some (.slice a0 m c0) := ⟨two_cell0 (Hpb.out wr Hf.out), two_cell1 (Hpb.out wr Hf.out)⟩
    by_cases hlt : i < m
    · have hin : (i : Int) < (m : Int) := by omega
      have hin' : decide (i < m) = true := decide_eq_true hlt
      obtain ⟨⟨t, ⟨e1, e2⟩, ad⟩, ha⟩ : ∃ a, evs[i]? = some a := ⟨_, List.getElem?_eq_getElem (by rw [← Hm.out]; omega)⟩
      have Ha : Hid _ := ha
      have Hx : Hid (EvFit (t, (e1, e2), ad)) := Hfit.out _ (List.mem_of_getElem? ha)
      have Hst : Hid (chkF n now (prevAt evs i) i ((t, (e1, e2), ad) :: evs.drop (i + 1)) = (R1, R2)) := by
        show _ = _
        rw [← Hs.out]
        rw [drop_at ha]
      obtain ⟨bk, off, cap, e3, hbk, hca⟩ := (Hr.out wa (Fr.refl _ _)).get i _ ha
      simp only [Value.slice.injEq] at e3
      obtain ⟨rfl, -, rfl⟩ := e3
      obtain ⟨k0, k1, k2, k3⟩ := hca wr (Hf.out.mono (fun _ _ h => h.elim))
      have hi0 : (0 : Int) ≤ (i : Int) := by omega
      clear hca ha hbk Hs
      go_upto_region 8 with fail
      obtain ⟨pe, hpe⟩ : ∃ p, p = wr.heap.size := ⟨_, rfl⟩
      obtain ⟨wE, hwE⟩ : ∃ x, x = wr.alloc (.cells #[.int .i64 t, .int .u32 (e1 : Int), .int .u32 (e2 : Int), .bool ad] 53) := ⟨_, rfl⟩
      rw [← hwE, ← hpe]
      have Hpe : Hid (∀ z, Fr wE z (fun _ => False) → z.heap[pe]? = some (.cells #[.int .i64 t, .int .u32 (e1 : Int), .int .u32 (e2 : Int), .bool ad] 53 (0, 0))) := fun z hz => hz.kept (by rw [hwE, hpe]; exact heap_alloc_new _ _) (fun h => h)
      have HfE : Hid (Fr wa wE (fun _ => False)) := by show Fr _ _ _; rw [hwE]; exact Hf.out.alloc _
      have HrE : Hid (Fr wr wE (fun _ => False)) := by show Fr _ _ _; rw [hwE]; exact (Fr.refl _ _).alloc _
      have Hnow : Hid (∀ z, Fr wE z (fun _ => False) → RdE z u4 now) := fun z hz => Hnow.out.keep (HrE.out.none hz)
      clear k0 k1 k2 k3 ca cb hwE hpe
      obtain ⟨k0, k1, k2, k3⟩ := four_cells (Hpe.out wE (Fr.refl _ _))
      obtain ⟨ca, cb⟩ : wE.cell? ⟨p, 0, none⟩ = some (.int .u64 (n : Int)) ∧ wE.cell? ⟨p, 1, none⟩ = some (.slice (some ⟨bk, off, none⟩) m c0) := ⟨two_cell0 (Hpb.out wE HfE.out), two_cell1 (Hpb.out wE HfE.out)⟩
      by_cases ht : t < 0
      · have d3 : decide (t < 0) = true := decide_eq_true ht
        have Hres : Hid ((R1, R2) = (i, 26)) := by show _ = _; rw [← Hst.out]; exact chk_limit (.inl ht)
        have Hfo : Hid (Fr w wE (fun _ => False)) := Hwa.out.none HfE.out
        clear ht
        go_wp2
        go_ret2
        simp only [Prod.mk.injEq] at Hres
        obtain ⟨rfl, rfl⟩ := Hres.out
        exact ⟨rfl, Hfo.out⟩
      have d3 : decide (t < 0) = false := decide_eq_false ht
      by_cases ht2 : 4611686018427387903 < t
      · have d4 : decide (4611686018427387903 < t) = true := decide_eq_true ht2
        have Hres : Hid ((R1, R2) = (i, 26)) := by show _ = _; rw [← Hst.out]; exact chk_limit (.inr ht2)
        have Hfo : Hid (Fr w wE (fun _ => False)) := Hwa.out.none HfE.out
        clear ht ht2
        go_wp2
        go_ret2
        simp only [Prod.mk.injEq] at Hres
        obtain ⟨rfl, rfl⟩ := Hres.out
        exact ⟨rfl, Hfo.out⟩
      have d4 : decide (4611686018427387903 < t) = false := decide_eq_false ht2
      have Hlim : Hid (¬ (t < 0 ∨ 4611686018427387903 < t)) := by show ¬ _; omega
      obtain ⟨B1, hB1⟩ : ∃ B, B = eRight e1 e2 n := ⟨_, rfl⟩
      have HB1 : Hid _ := hB1
      clear ht ht2 hB1
      go_wp2_with fail
      refine (refRight8_any e1 e2 n _ Hx.out.2.2).mono ?_
      rw [← HB1.out]
      rintro r x1 ⟨rfl, g⟩
      have G1 : Hid (Fr wE x1 (fun _ => False)) := g
      clear g k0 k1 k2 k3 ca cb
      cases B1 with
      | false =>
        have Hres : Hid ((R1, R2) = (i, 24)) := by show _ = _; rw [← Hst.out]; exact chk_vertex Hlim.out HB1.out.symm
        have Hfo : Hid (Fr w x1 (fun _ => False)) := (Hwa.out.none HfE.out).none G1.out
        go_wp2
        go_ret2
        simp only [Prod.mk.injEq] at Hres
        obtain ⟨rfl, rfl⟩ := Hres.out
        exact ⟨rfl, Hfo.out⟩
      | true =>
      obtain ⟨B2, hB2⟩ : ∃ B, B = ((prevAt evs i).any fun p => !eBef p (t, (e1, e2), ad)) := ⟨_, rfl⟩
      have HB2 : Hid _ := hB2
      clear hB2
      go_upto_region 12 with fail
      go_cut [48] from 49 to 61 (fun V wx => V = .bool B2 ∧ Fr x1 wx (fun _ => False))
      case first =>
        by_cases h0 : i = 0
        · subst h0
          have HB3 : Hid (B2 = false) := by show _ = _; rw [HB2.out]; rfl
          obtain rfl := HB3.out
          go_wp2_with fail
          refine wp_region_tree (fun _ => False) (.take 0 (.take 1 (.take 2 (.take 3 (.take 4 (.take 5 (.take 6 (.take 7 (.take 8 (.take 9 (.one 10 (.take 11 (.take 12 (.take 13 .nil)))))))))))))) (by kernel_rfl) (by kernel_rfl) (by decide) (by kernel_rfl) ?_
          iterate 3 (refine wpT_take (v := ?_) rfl rfl (fun x hx => ?_) ?_; rotate_left; (focus (go_simp; with_reducible rfl)); simp only [Act.put, List.setIfInBounds_toArray, List.set_cons_zero, List.set_cons_succ])
          iterate 7 (refine wpT_pass rfl rfl ?_; simp only [Act.put, List.setIfInBounds_toArray, List.set_cons_zero, List.set_cons_succ])
          refine wpT_skip rfl rfl ?_
          simp only [Act.put, List.setIfInBounds_toArray, List.set_cons_zero, List.set_cons_succ]
          (refine wpT_pass rfl rfl ?_; simp only [Act.put, List.setIfInBounds_toArray, List.set_cons_zero, List.set_cons_succ])
          repeat (refine wpT_take (v := ?_) rfl rfl (fun x hx => ?_) ?_; rotate_left; (focus (go_simp; with_reducible rfl)); simp only [Act.put, List.setIfInBounds_toArray, List.set_cons_zero, List.set_cons_succ])
          have G3 : Hid (Fr x1 x1.drew (fun _ => False)) := (Fr.refl x1 (fun _ => False)).drew
          unfold wpT
          go_wp2_with fail
          go_meet
          case rel => exact ⟨rfl, G3.out⟩
        · obtain ⟨i1, hie⟩ : ∃ j, i = j + 1 := ⟨i - 1, by omega⟩
          obtain ⟨⟨t', ⟨f1, f2⟩, ad'⟩, ha'⟩ : ∃ a, evs[i1]? = some a := ⟨_, List.getElem?_eq_getElem (by rw [← Hm.out]; omega)⟩
          have HB3 : Hid (eBefore t' t (f1, f2) (e1, e2) = !B2) := by
            show _ = _
            rw [HB2.out, hie]
            show _ = !((evs[i1]?).any fun p => !eBef p (t, (e1, e2), ad))
            rw [ha']
            simp [eBef]
          obtain ⟨bk', off', cap', e4, hbk, hca⟩ := (Hr.out wa (Fr.refl _ _)).get i1 _ ha'
          simp only [Value.slice.injEq, Option.some.injEq, Addr.mk.injEq] at e4
          obtain ⟨⟨rfl, rfl, -⟩, -, rfl⟩ := e4
          have hG : Fr wa x1.drew (fun _ => False) := (HfE.out.none G1.out).drew
          have HG : Hid _ := hG
          have ka : ∀ z, Fr x1.drew z (fun _ => False) → z.cell? ⟨bk, off + i1 * 4, none⟩ = some (.int .i64 t') := fun z hz => (hca z ((HG.out.none hz).mono (fun _ _ h => h.elim))).1
          have kb : ∀ z, Fr x1.drew z (fun _ => False) → z.cell? ⟨bk, off + i1 * 4 + 1, none⟩ = some (.int .u32 (f1 : Int)) := fun z hz => (hca z ((HG.out.none hz).mono (fun _ _ h => h.elim))).2.1
          have kc : ∀ z, Fr x1.drew z (fun _ => False) → z.cell? ⟨bk, off + i1 * 4 + 2, none⟩ = some (.int .u32 (f2 : Int)) := fun z hz => (hca z ((HG.out.none hz).mono (fun _ _ h => h.elim))).2.2.1
          have kd : ∀ z, Fr x1.drew z (fun _ => False) → z.cell? ⟨bk, off + i1 * 4 + 3, none⟩ = some (.bool ad') := fun z hz => (hca z ((HG.out.none hz).mono (fun _ _ h => h.elim))).2.2.2
          have ke : ∀ z, Fr x1.drew z (fun _ => False) → z.cell? ⟨pe, 0, none⟩ = some (.int .i64 t) := fun z hz => (four_cells (Hpe.out z (G1.out.drew.none hz))).1
          have kf : ∀ z, Fr x1.drew z (fun _ => False) → z.cell? ⟨pe, 1, none⟩ = some (.int .u32 (e1 : Int)) := fun z hz => (four_cells (Hpe.out z (G1.out.drew.none hz))).2.1
          have kg : ∀ z, Fr x1.drew z (fun _ => False) → z.cell? ⟨pe, 2, none⟩ = some (.int .u32 (e2 : Int)) := fun z hz => (four_cells (Hpe.out z (G1.out.drew.none hz))).2.2.1
          have kh : ∀ z, Fr x1.drew z (fun _ => False) → z.cell? ⟨pe, 3, none⟩ = some (.bool ad) := fun z hz => (four_cells (Hpe.out z (G1.out.drew.none hz))).2.2.2
          have kp : ∀ z, Fr x1.drew z (fun _ => False) → z.cell? ⟨p, 1, none⟩ = some (.slice (some ⟨bk, off, none⟩) m c0) := fun z hz => two_cell1 (Hpb.out z (HG.out.none hz))
          have hpos : decide ((0 : Int) < (i : Int)) = true := decide_eq_true (by omega)
          have hsub : IntKind.i64.wrap ((i : Int) - 1) = (i1 : Int) := by rw [IntWalk.i64_in _ (by omega)]; omega
          have hpos' : decide (0 < i) = true := decide_eq_true (by omega)
          have hi1 : (i1 : Int) < (m : Int) := by omega
          have hi10 : (0 : Int) ≤ (i1 : Int) := by omega
          clear hca hbk hG ha' hie
          go_wp2_with fail
          refine wp_region_tree (fun _ => False) (.take 0 (.take 1 (.take 2 (.take 3 (.take 4 (.take 5 (.take 6 (.take 7 (.take 8 (.take 9 (.one 10 (.take 11 (.take 12 (.take 13 .nil)))))))))))))) (by kernel_rfl) (by kernel_rfl) (by decide) (by kernel_rfl) ?_
          repeat (refine wpT_take (v := ?_) rfl rfl (fun x hx => ?_) ?_; rotate_left; (focus (go_simp; with_reducible rfl)); simp only [Act.put, List.setIfInBounds_toArray, List.set_cons_zero, List.set_cons_succ])
          refine wpT_one rfl rfl (fun K hK => ?_)
          go_simp
          refine (refBefore8_any t' t (f1, f2) (e1, e2) ad' ad _).mono ?_
          rw [HB3.out]
          rintro r x3 ⟨rfl, g⟩
          refine hK _ _ g ?_
          clear hK K ka kb kc kd ke kf kg kh kp
          have G3 : Hid (Fr x1 x3 (fun _ => False)) := (Fr.refl x1 (fun _ => False)).drew.none g
          have hbb : (!(!B2)) = B2 := by simp
          clear g
          repeat (refine wpT_take (v := ?_) rfl rfl (fun x hx => ?_) ?_; rotate_left; (focus (go_simp; with_reducible rfl)); simp only [Act.put, List.setIfInBounds_toArray, List.set_cons_zero, List.set_cons_succ])
          unfold wpT
          go_wp2_with fail
          go_meet
          case rel => exact ⟨by first | rfl | rw [hbb], G3.out⟩
      case rest =>
        obtain ⟨rfl, hfc⟩ := hcut
        rename_i hKc
        refine hKc _ _ ?_
        clear hKc
        have G4 : Hid (Fr wE wc (fun _ => False)) := G1.out.none hfc
        clear hfc
        cases B2 with
        | true =>
          have Hres : Hid ((R1, R2) = (i, 23)) := by show _ = _; rw [← Hst.out]; exact chk_order Hlim.out HB1.out.symm HB2.out.symm
          have Hfo : Hid (Fr w wc (fun _ => False)) := (Hwa.out.none HfE.out).none G4.out
          go_wp2
          go_ret2
          simp only [Prod.mk.injEq] at Hres
          obtain ⟨rfl, rfl⟩ := Hres.out
          exact ⟨rfl, Hfo.out⟩
        | false =>
        obtain ⟨TF, hTF⟩ : ∃ T, T = turnF now (e1, e2) ad := ⟨_, rfl⟩
        have HTF : Hid _ := hTF
        clear hTF
        obtain ⟨k0, k1, k2, k3⟩ := four_cells (Hpe.out wc G4.out)
        go_wp2_with fail
        refine (refTurn_any u4 now (t, (e1, e2), ad) _ (Hnow.out wc G4.out) (by have := Hnl.out; omega)).mono ?_
        rw [show turnF now (t, (e1, e2), ad).2.1 (t, (e1, e2), ad).2.2 = TF from HTF.out.symm]
        rintro r x5 ⟨⟨v5, rfl, hr5, -⟩, g⟩
        have G5 : Hid (Fr wa x5 (fun _ => False)) := (HfE.out.none G4.out).none g
        have Hr5 : Hid _ := hr5
        clear hr5 g k0 k1 k2 k3
        cases TF with
        | none =>
          have Hres : Hid ((R1, R2) = (i, 25)) := by show _ = _; rw [← Hst.out]; exact chk_edge Hlim.out HB1.out.symm HB2.out.symm HTF.out.symm
          have Hfo : Hid (Fr w x5 (fun _ => False)) := Hwa.out.none G5.out
          go_wp2
          go_ret2
          simp only [Prod.mk.injEq] at Hres
          obtain ⟨rfl, rfl⟩ := Hres.out
          exact ⟨rfl, Hfo.out⟩
        | some now' =>
          have Hlen : Hid (now'.length ≤ i + 1) := by
            have h1 := turn_length HTF.out.symm
            have h2 := Hnl.out
            show _ ≤ _
            omega
          have Hst5 : Hid (chkF n now' (prevAt evs (i + 1)) (i + 1) (evs.drop (i + 1)) = (R1, R2)) := by
            show _ = _
            rw [show prevAt evs (i + 1) = some (t, (e1, e2), ad) from Ha.out, ← Hst.out]
            exact (chk_step Hlim.out HB1.out.symm HB2.out.symm HTF.out.symm).symm
          go_wp2_with fail
          go_roundg (m - (i + 1))
          case rel => exact ⟨i + 1, now', rfl, by omega, by go_num, Hr5.out, Hlen.out, Hst5.out, G5.out⟩
          case measure => rw [Hg.out]; omega
    · have hin : ¬ (i : Int) < (m : Int) := by omega
      have hin' : decide (i < m) = false := decide_eq_false hlt
      have Hres : Hid ((R1, R2) = (0, 0)) := by
        show _ = _
        rw [← Hs.out, List.drop_eq_nil_of_le (by rw [← Hm.out]; omega), chkF]
      have Hfo : Hid (Fr w wr (fun _ => False)) := Hwa.out.none Hf.out
      go_wp2
      go_ret2
      simp only [Prod.mk.injEq] at Hres
      obtain ⟨rfl, rfl⟩ := Hres.out
      exact ⟨rfl, Hfo.out⟩

end Go.Proofs.Ythdlhdeaeaahoaa

/-
  The contract of the reference's Upto; small list lemmas.
-/
namespace Go.Proofs.Ythdlhdeaeaahoaa
open Go.RowKit

theorem same_all {α : Type} {a b : List α} {n : Nat} (ha : a.length = n) (hb : b.length = n) (h : ∀ j, j < n → a[j]? = b[j]?) : a = b := by
  refine List.ext_getElem? fun j => ?_
  by_cases hj : j < n
  · exact h j hj
  · rw [List.getElem?_eq_none (by omega), List.getElem?_eq_none (by omega)]
theorem takeWhile_len {α : Type} {p : α → Bool} {l : List α} {k : Nat} (hk : k ≤ l.length) (h : ∀ j x, j < k → l[j]? = some x → p x = true) (h2 : ∀ x, l[k]? = some x → p x = false) : (l.takeWhile p).length = k := by
  induction l generalizing k with
  | nil => simp at hk; simp [hk]
  | cons y l ih =>
    cases k with
    | zero =>
      rw [List.takeWhile_cons, if_neg (by rw [h2 y rfl]; decide)]
      rfl
    | succ k =>
      rw [List.takeWhile_cons, if_pos (h 0 y (by omega) rfl)]
      rw [List.length_cons, ih (k := k) (by simpa using hk) (fun j x hj hx => h (j + 1) x (by omega) (by simpa using hx)) (fun x hx => h2 x (by simpa using hx))]

set_option maxRecDepth 4000 in
set_option maxHeartbeats 800000 in
theorem refUpto_any (n : Nat) (v : Value) (evs : List Ev) (t : Int) (w : World) (h : RdV w v evs) (hl : evs.length ≤ 1000000) : Calls Try.prog 29 #[histV n v, .int .i64 t] w fun r w' => r = .returned (.int .i64 ((uptoF evs t : Nat) : Int)) ∧ Fr w w' (fun _ => False) := by
  obtain ⟨a0, c0, rfl, hc0⟩ := h.form
  obtain ⟨m, hm⟩ : ∃ m, m = evs.length := ⟨_, rfl⟩
  rw [← hm] at h hl hc0 ⊢
  obtain ⟨R, hR⟩ : ∃ R, R = uptoF evs t := ⟨_, rfl⟩
  rw [← hR]
  have HR : Hid _ := hR
  have Hr : Hid (RdV w (.slice a0 m c0) evs) := h
  have Hm : Hid _ := hm
  clear h hm hR
  unfold histV
  go_enter Try.func29, Try.ntmps29
  go_wp2_with fail
  obtain ⟨p, hp⟩ : ∃ p, p = w.heap.size := ⟨_, rfl⟩
  obtain ⟨wa, hwa⟩ : ∃ wa, wa = w.alloc (.cells #[.int .u64 (n : Int), .slice a0 m c0] 25) := ⟨_, rfl⟩
  rw [← hwa, ← hp]
  have hb1 : wa.cell? ⟨p, 1, none⟩ = some (.slice a0 m c0) := two_cell1 (by rw [hwa, hp]; exact heap_alloc_new _ _)
  have Hwa : Hid (Fr w wa (fun _ => False)) := by show Fr _ _ _; rw [hwa]; exact (Fr.refl _ _).alloc _
  clear hp hwa
  go_loopg [5] m (fun g I wr => ∃ i : Nat, g = m - i ∧ i ≤ m ∧ I = .int .i64 (i : Int) ∧ (∀ j x, j < i → evs[j]? = some x → decide (x.1 ≤ t) = true) ∧ wr = wa)
  case atStart => exact ⟨0, by omega, by omega, rfl, fun j x hj => by omega, rfl⟩
  case round =>
    obtain ⟨i, hg, hi, rfl, hle, rfl⟩ := hrel
    have Hg : Hid _ := hg
    have Hle : Hid _ := hle
    clear hg hle
    by_cases hlt : i < m
    · have hin : (i : Int) < (m : Int) := by omega
      have hin' : decide (i < m) = true := decide_eq_true hlt
      obtain ⟨⟨s, ⟨e1, e2⟩, ad⟩, ha⟩ : ∃ a, evs[i]? = some a := ⟨_, List.getElem?_eq_getElem (by rw [← Hm.out]; omega)⟩
      have Ha : Hid _ := ha
      obtain ⟨bk, off, cap, e3, hbk, hca⟩ := Hr.out.get i _ ha
      simp only [Value.slice.injEq] at e3
      obtain ⟨rfl, -, rfl⟩ := e3
      have k0 := (hca wr (Hwa.out.mono (fun _ _ h => h.elim))).1
      have hi0 : (0 : Int) ≤ (i : Int) := by omega
      clear hca hbk ha
      by_cases hst : s ≤ t
      · have d1 : decide (s ≤ t) = true := decide_eq_true hst
        have Hle2 : Hid (∀ j x, j < i + 1 → evs[j]? = some x → decide (x.1 ≤ t) = true) := fun j x hj hx => by
          by_cases h : j < i
          · exact Hle.out j x h hx
          · have e : j = i := by omega
            subst e
            rw [Ha.out] at hx
            simp only [Option.some.injEq] at hx
            rw [← hx]
            exact d1
        go_wp2_with fail
        go_roundg (m - (i + 1))
        case rel => exact ⟨i + 1, rfl, by omega, by go_num, Hle2.out, rfl⟩
        case measure => rw [Hg.out]; omega
      · have d1 : decide (s ≤ t) = false := decide_eq_false hst
        have Hres : Hid (R = i) := by
          show _ = _
          rw [HR.out]
          refine takeWhile_len (by rw [← Hm.out]; omega) Hle.out (fun x hx => ?_)
          rw [Ha.out] at hx
          simp only [Option.some.injEq] at hx
          rw [← hx]
          exact d1
        obtain rfl := Hres.out
        go_wp2
        go_ret
        exact ⟨rfl, Hwa.out⟩
    · have hin : ¬ (i : Int) < (m : Int) := by omega
      have hin' : decide (i < m) = false := decide_eq_false hlt
      have Hres : Hid (R = i) := by
        show _ = _
        rw [HR.out]
        exact takeWhile_len (by rw [← Hm.out]; omega) Hle.out (fun x hx => by rw [List.getElem?_eq_none (by rw [← Hm.out]; omega)] at hx; cases hx)
      obtain rfl := Hres.out
      go_wp2
      go_ret
      exact ⟨rfl, Hwa.out⟩

end Go.Proofs.Ythdlhdeaeaahoaa

/-
  The contracts of the reference's After, At, Degree.
-/
namespace Go.Proofs.Ythdlhdeaeaahoaa
open Go.RowKit

/-- What is there behind so many events; at a time; how many edges a vertex has. -/
def afterF (n : Nat) (evs : List Ev) (k : Int) : List Eg × Nat := if (checkF n evs).2 = 0 then (aftF [] (evs.take k.toNat), 0) else ([], (checkF n evs).2)
def atF (n : Nat) (evs : List Ev) (t : Int) : List Eg × Nat := afterF n evs ((uptoF evs t : Nat) : Int)
def hasV (v : Nat) (e : Eg) : Bool := decide (e.1 = v ∨ e.2 = v)
def degF (l : List Eg) (v : Nat) : Nat := (l.filter (hasV v)).length

set_option maxRecDepth 4000 in
set_option maxHeartbeats 1600000 in
theorem refAfter_any (n : Nat) (v : Value) (evs : List Ev) (k : Int) (w : World) (h : RdV w v evs) (hl : evs.length ≤ 1000000) (hfit : ∀ x ∈ evs, EvFit x) (hk : -9223372036854775808 ≤ k ∧ k ≤ 9223372036854775807) : Calls Try.prog 16 #[histV n v, .int .i64 k] w fun r w' => (∃ v', r = .returned (.tuple #[v', .int .i64 ((afterF n evs k).2 : Int)]) ∧ RdE w' v' (afterF n evs k).1 ∧ (∀ b, v'.ownBlock = some b → w.heap.size ≤ b)) ∧ Fr w w' (fun _ => False) := by
  obtain ⟨a0, c0, rfl, hc0⟩ := h.form
  obtain ⟨m, hm⟩ : ∃ m, m = evs.length := ⟨_, rfl⟩
  rw [← hm] at h hl hc0 ⊢
  obtain ⟨⟨R1, R2⟩, hR⟩ : ∃ R, R = afterF n evs k := ⟨_, rfl⟩
  rw [← hR]
  dsimp only
  have HR : Hid _ := hR
  have Hr : Hid (RdV w (.slice a0 m c0) evs) := h
  have Hm : Hid _ := hm
  have Hl : Hid (evs.length ≤ 1000000) := by show _ ≤ _; omega
  have Hfit : Hid _ := hfit
  have Hk : Hid _ := hk
  clear h hm hR hfit hk
  obtain ⟨⟨ci, ce⟩, hC⟩ : ∃ C, C = checkF n evs := ⟨_, rfl⟩
  have HC : Hid _ := hC
  clear hC
  unfold histV
  go_enter Try.func16, Try.ntmps16
  go_wp2_with fail
  obtain ⟨p, hp⟩ : ∃ p, p = w.heap.size := ⟨_, rfl⟩
  obtain ⟨wa, hwa⟩ : ∃ wa, wa = w.alloc (.cells #[.int .u64 (n : Int), .slice a0 m c0] 25) := ⟨_, rfl⟩
  rw [← hwa, ← hp]
  have Hpb : Hid (∀ z, Fr wa z (fun _ => False) → z.heap[p]? = some (.cells #[.int .u64 (n : Int), .slice a0 m c0] 25 (0, 0))) := fun z hz => hz.kept (by rw [hwa, hp]; exact heap_alloc_new _ _) (fun h => h)
  have Hwa : Hid (Fr w wa (fun _ => False)) := by show Fr _ _ _; rw [hwa]; exact (Fr.refl _ _).alloc _
  have Hr : Hid (∀ z, Fr wa z (fun _ => False) → RdV z (.slice a0 m c0) evs) := fun z hz => Hr.out.keep (Hwa.out.none hz)
  clear hp hwa
  refine (refCheck_any n _ evs _ (Hr.out wa (Fr.refl _ _)) Hl.out Hfit.out).mono ?_
  rw [← HC.out]
  rintro r x1 ⟨rfl, g⟩
  have G1 : Hid (Fr wa x1 (fun _ => False)) := g
  clear g
  dsimp only
  by_cases hce : ce = 0
  · subst hce
    have Hres : Hid (aftF [] (evs.take k.toNat) = R1 ∧ R2 = 0) := by
      have := HR.out
      unfold afterF at this
      rw [← HC.out, if_pos rfl] at this
      simp only [Prod.mk.injEq] at this
      exact ⟨this.1.symm, this.2⟩
    obtain rfl := Hres.out.2
    obtain ⟨q, hq⟩ : ∃ q, q = min k.toNat m := ⟨_, rfl⟩
    have hqm : q ≤ m := by omega
    have Hqk : Hid (∀ i : Nat, i < m → (i < q ↔ (i : Int) < k)) := fun i hi => by constructor <;> intro h <;> omega
    have Htk : Hid ((evs.take k.toNat).length = q) := by show _ = _; rw [List.length_take, hq, ← Hm.out]
    clear hq
    go_wp2_with fail
    go_loopg [8, 9] m (fun g S I wr => ∃ (i : Nat) (now : List Eg), g = m - i ∧ i ≤ q ∧ I = .int .i64 (i : Int) ∧ RdE wr S now ∧ now.length ≤ i ∧ (∀ b, S.ownBlock = some b → w.heap.size ≤ b) ∧ aftF now ((evs.take k.toNat).drop i) = R1 ∧ Fr wa wr (fun _ => False))
    case atStart => exact ⟨0, [], by omega, by omega, rfl, RdE.nil _, by simp, fun b hb => (by simp [Value.ownBlock] at hb), by simpa using Hres.out.1, G1.out⟩
    case round =>
      obtain ⟨i, now, hg, hi, rfl, hnow, hnl, hnn, hst, hf⟩ := hrel
      have Hg : Hid _ := hg
      have Hnow : Hid (RdE wr u8 now) := hnow
      have Hnl : Hid _ := hnl
      have Hnn : Hid _ := hnn
      have Hst : Hid _ := hst
      have Hf : Hid (Fr wa wr (fun _ => False)) := hf
      clear hg hnow hnl hnn hst hf
      obtain ⟨ca, cb⟩ : wr.cell? ⟨p, 0, none⟩ = some (.int .u64 (n : Int)) ∧ wr.cell? ⟨p, 1, none⟩ = some (.slice a0 m c0) := ⟨two_cell0 (Hpb.out wr Hf.out), two_cell1 (Hpb.out wr Hf.out)⟩
      by_cases hlt : i < q
      · have him : i < m := by omega
        have hin : (i : Int) < (m : Int) := by omega
        have hin' : decide (i < m) = true := decide_eq_true him
        have hik : (i : Int) < k := (Hqk.out i him).1 hlt
        have hik' : decide ((i : Int) < k) = true := decide_eq_true hik
        obtain ⟨⟨t, ⟨e1, e2⟩, ad⟩, ha⟩ : ∃ a, evs[i]? = some a := ⟨_, List.getElem?_eq_getElem (by rw [← Hm.out]; omega)⟩
        have Hst2 : Hid (aftF ((turnF now (e1, e2) ad).getD []) ((evs.take k.toNat).drop (i + 1)) = R1) := by
          show _ = _
          rw [← Hst.out, drop_at (l := evs.take k.toNat) (i := i) (a := (t, (e1, e2), ad)) (by rw [List.getElem?_take, if_pos (by have h1 := Htk.out; rw [List.length_take] at h1; omega)]; exact ha), aftF]
        obtain ⟨bk, off, cap, e3, hbk, hca⟩ := (Hr.out wa (Fr.refl _ _)).get i _ ha
        simp only [Value.slice.injEq] at e3
        obtain ⟨rfl, -, rfl⟩ := e3
        obtain ⟨k0, k1, k2, k3⟩ := hca wr (Hf.out.mono (fun _ _ h => h.elim))
        have hi0 : (0 : Int) ≤ (i : Int) := by omega
        obtain ⟨TF, hTF⟩ : ∃ T, T = turnF now (e1, e2) ad := ⟨_, rfl⟩
        rw [← hTF] at Hst2
        have HTF : Hid _ := hTF
        clear hca ha hbk hTF
        go_wp2_with fail
        refine (refTurn_any u8 now (t, (e1, e2), ad) _ Hnow.out (by have := Hnl.out; omega)).mono ?_
        rw [show turnF now (t, (e1, e2), ad).2.1 (t, (e1, e2), ad).2.2 = TF from HTF.out.symm]
        rintro r x5 ⟨⟨v5, rfl, hr5, hn5⟩, g⟩
        have Hn5 : Hid (∀ b, v5.ownBlock = some b → w.heap.size ≤ b) := fun b hb => by have h1 := hn5 b hb; have h2 := Hf.out.size; have h3 := Hwa.out.size; omega
        have Hr5 : Hid _ := hr5
        have G5 : Hid (Fr wa x5 (fun _ => False)) := Hf.out.none g
        have Hlen : Hid ((TF.getD []).length ≤ i + 1) := by
          show _ ≤ _
          cases hT : TF with
          | none => simp
          | some z => have h1 := turn_length (HTF.out.symm.trans hT); have h2 := Hnl.out; rw [Option.getD_some]; omega
        obtain ⟨B5, hB5⟩ : ∃ B, B = TF.isSome := ⟨_, rfl⟩
        rw [← hB5]
        clear hr5 hn5 g k0 k1 k2 k3 ca cb hB5
        go_wp2_with fail
        go_roundg (m - (i + 1))
        case rel => exact ⟨i + 1, TF.getD [], rfl, by omega, by go_num, Hr5.out, Hlen.out, Hn5.out, Hst2.out, G5.out⟩
        case measure => rw [Hg.out]; omega
      · have hiq : i = q := by omega
        have Hend : Hid (now = R1) := by
          have := Hst.out
          rw [List.drop_eq_nil_of_le (by rw [Htk.out, hiq]; exact Nat.le_refl _), aftF] at this
          exact this
        have Hfo : Hid (Fr w wr (fun _ => False)) := Hwa.out.none Hf.out
        by_cases him : i < m
        · have hin : (i : Int) < (m : Int) := by omega
          have hin' : decide (i < m) = true := decide_eq_true him
          have hik : ¬ (i : Int) < k := fun h => hlt ((Hqk.out i him).2 h)
          have hik' : decide ((i : Int) < k) = false := decide_eq_false hik
          clear hiq
          go_wp2
          go_ret2
          exact ⟨⟨_, rfl, by rw [← Hend.out]; exact Hnow.out, Hnn.out⟩, Hfo.out⟩
        · have hin : ¬ (i : Int) < (m : Int) := by omega
          have hin' : decide (i < m) = false := decide_eq_false him
          clear hiq
          go_wp2
          go_ret2
          exact ⟨⟨_, rfl, by rw [← Hend.out]; exact Hnow.out, Hnn.out⟩, Hfo.out⟩
  · have f1 : ((ce : Int) != 0) = true := by rw [bne_iff_ne]; omega
    have f1' : ((ce : Int) == 0) = false := by rw [beq_eq_false_iff_ne]; omega
    have f2 : (ce == 0) = false := by rw [beq_eq_false_iff_ne]; exact hce
    obtain ⟨rfl, rfl⟩ : R1 = [] ∧ R2 = ce := by
      have := HR.out
      unfold afterF at this
      rw [← HC.out, if_neg hce] at this
      simpa using this
    have Hfo : Hid (Fr w x1 (fun _ => False)) := Hwa.out.none G1.out
    clear hce
    go_wp2
    go_ret2
    exact ⟨⟨_, rfl, RdE.nil _, fun b hb => by simp [Value.ownBlock] at hb⟩, Hfo.out⟩

set_option maxRecDepth 4000 in
set_option maxHeartbeats 800000 in
theorem refAt_any (n : Nat) (v : Value) (evs : List Ev) (t : Int) (w : World) (h : RdV w v evs) (hl : evs.length ≤ 1000000) (hfit : ∀ x ∈ evs, EvFit x) : Calls Try.prog 12 #[histV n v, .int .i64 t] w fun r w' => (∃ v', r = .returned (.tuple #[v', .int .i64 ((atF n evs t).2 : Int)]) ∧ RdE w' v' (atF n evs t).1 ∧ (∀ b, v'.ownBlock = some b → w.heap.size ≤ b)) ∧ Fr w w' (fun _ => False) := by
  obtain ⟨a0, c0, rfl, hc0⟩ := h.form
  obtain ⟨m, hm⟩ : ∃ m, m = evs.length := ⟨_, rfl⟩
  rw [← hm] at h hl hc0 ⊢
  obtain ⟨⟨R1, R2⟩, hR⟩ : ∃ R, R = atF n evs t := ⟨_, rfl⟩
  rw [← hR]
  dsimp only
  have HR : Hid _ := hR
  have Hr : Hid (RdV w (.slice a0 m c0) evs) := h
  have Hm : Hid _ := hm
  have Hl : Hid (evs.length ≤ 1000000) := by show _ ≤ _; omega
  have Hfit : Hid _ := hfit
  clear h hm hR hfit
  obtain ⟨u, hu⟩ : ∃ u, u = uptoF evs t := ⟨_, rfl⟩
  have HU : Hid _ := hu
  have Hub : Hid (u ≤ 1000000) := by
    show _ ≤ _
    rw [hu]
    unfold uptoF
    exact Nat.le_trans (List.takeWhile_sublist _).length_le Hl.out
  clear hu
  unfold histV
  go_enter Try.func12, Try.ntmps12
  go_upto_region 1 with fail
  obtain ⟨p, hp⟩ : ∃ p, p = w.heap.size := ⟨_, rfl⟩
  obtain ⟨wa, hwa⟩ : ∃ wa, wa = w.alloc (.cells #[.int .u64 (n : Int), .slice a0 m c0] 25) := ⟨_, rfl⟩
  rw [← hwa, ← hp]
  have Hpb : Hid (∀ z, Fr wa z (fun _ => False) → z.heap[p]? = some (.cells #[.int .u64 (n : Int), .slice a0 m c0] 25 (0, 0))) := fun z hz => hz.kept (by rw [hwa, hp]; exact heap_alloc_new _ _) (fun h => h)
  have Hwa : Hid (Fr w wa (fun _ => False)) := by show Fr _ _ _; rw [hwa]; exact (Fr.refl _ _).alloc _
  have Hr : Hid (∀ z, Fr wa z (fun _ => False) → RdV z (.slice a0 m c0) evs) := fun z hz => Hr.out.keep (Hwa.out.none hz)
  clear hp hwa
  obtain ⟨x0, hx0⟩ : ∃ x, x = wa.drew := ⟨_, rfl⟩
  have G0 : Hid (Fr wa x0 (fun _ => False)) := by show Fr _ _ _; rw [hx0]; exact (Fr.refl _ _).drew
  go_wp2_with fail
  refine wp_region_tree (fun _ => False) (.take 0 (.take 1 (.take 2 (.one 3 (.one 4 (.take 5 (.take 6 (.take 7 (.take 8 .nil))))))))) (by kernel_rfl) (by kernel_rfl) (by decide) (by kernel_rfl) ?_
  rw [← hx0]
  clear hx0
  have ka : ∀ z, Fr x0 z (fun _ => False) → z.cell? ⟨p, 0, none⟩ = some (.int .u64 (n : Int)) := fun z hz => two_cell0 (Hpb.out z (G0.out.none hz))
  have kb : ∀ z, Fr x0 z (fun _ => False) → z.cell? ⟨p, 1, none⟩ = some (.slice a0 m c0) := fun z hz => two_cell1 (Hpb.out z (G0.out.none hz))
  repeat (refine wpT_take (v := ?_) rfl rfl (fun x hx => ?_) ?_; rotate_left; (focus (go_simp; with_reducible rfl)); simp only [Act.put, List.setIfInBounds_toArray, List.set_cons_zero, List.set_cons_succ])
  clear ka kb
  refine wpT_one rfl rfl (fun K hK => ?_)
  go_simp
  refine (refUpto_any n _ evs t _ (Hr.out _ G0.out) Hl.out).mono ?_
  rw [← HU.out]
  rintro r x1 ⟨rfl, g⟩
  refine hK _ _ g ?_
  clear hK K
  have G1 : Hid (Fr wa x1 (fun _ => False)) := G0.out.none g
  clear g
  refine wpT_one rfl rfl (fun K hK => ?_)
  go_simp
  refine (refAfter_any n _ evs (u : Int) _ (Hr.out _ G1.out) Hl.out Hfit.out (by have := Hub.out; omega)).mono ?_
  rw [show afterF n evs (u : Int) = (R1, R2) by rw [HR.out, HU.out]; rfl]
  dsimp only
  rintro r x2 ⟨⟨v2, rfl, hr2, hn2⟩, g⟩
  have Hr2 : Hid (RdE x2 v2 R1) := hr2
  have Hn2 : Hid (∀ b, v2.ownBlock = some b → w.heap.size ≤ b) := fun b hb => by have h1 := hn2 b hb; have h2 := G1.out.size; have h3 := Hwa.out.size; omega
  refine hK _ _ g ?_
  clear hK K hr2 hn2
  have Hfo : Hid (Fr w x2 (fun _ => False)) := Hwa.out.none (G1.out.none g)
  clear g
  try simp only [Act.put, List.setIfInBounds_toArray, List.set_cons_zero, List.set_cons_succ]
  repeat (refine wpT_take (v := ?_) rfl rfl (fun x hx => ?_) ?_; rotate_left; (focus (go_simp; with_reducible rfl)); simp only [Act.put, List.setIfInBounds_toArray, List.set_cons_zero, List.set_cons_succ])
  unfold wpT
  go_wp2_with fail
  go_ret2
  exact ⟨⟨_, rfl, Hr2.out, Hn2.out⟩, Hfo.out⟩

end Go.Proofs.Ythdlhdeaeaahoaa

/-
  The contract of the reference's SameEdges.
-/
namespace Go.Proofs.Ythdlhdeaeaahoaa
open Go.RowKit

set_option maxRecDepth 4000 in
set_option maxHeartbeats 800000 in
theorem refSameEdges_any (v u : Value) (la lb : List Eg) (w : World) (h : RdE w v la) (hu : RdE w u lb) (hl : la.length ≤ 1000000) (hl2 : lb.length ≤ 1000000) : Calls Try.prog 14 #[v, u] w fun r w' => r = .returned (.bool (decide (la = lb))) ∧ Fr w w' (fun _ => False) := by
  obtain ⟨a0, c0, rfl, hc0⟩ := h.form
  obtain ⟨b0, d0, rfl, hd0⟩ := hu.form
  obtain ⟨n, hn⟩ : ∃ n, n = la.length := ⟨_, rfl⟩
  obtain ⟨m, hm⟩ : ∃ n, n = lb.length := ⟨_, rfl⟩
  rw [← hn] at h hl hc0 ⊢
  rw [← hm] at hu hl2 hd0 ⊢
  obtain ⟨B, hB⟩ : ∃ B, B = decide (la = lb) := ⟨_, rfl⟩
  rw [← hB]
  have Hr : Hid (RdE w (.slice a0 n c0) la) := h
  have Hu : Hid (RdE w (.slice b0 m d0) lb) := hu
  have Hn : Hid _ := hn
  have Hm : Hid _ := hm
  have HB : Hid _ := hB
  clear h hu hn hm hB
  by_cases hnm : n = m
  · subst hnm
    have d1 : ((n : Int) != (n : Int)) = false := by simp
    have d1' : ((n : Int) == (n : Int)) = true := by simp
    go_enter Try.func14, Try.ntmps14
    go_wp2_with fail
    go_loopg [5] n (fun g I wr => ∃ i : Nat, g = n - i ∧ i ≤ n ∧ I = .int .i64 (i : Int) ∧ (∀ j, j < i → la[j]? = lb[j]?) ∧ Fr w wr (fun _ => False))
    case atStart => exact ⟨0, by omega, by omega, rfl, fun j hj => by omega, Fr.refl _ _⟩
    case round =>
      obtain ⟨i, hg, hi, rfl, hle, hf⟩ := hrel
      have Hg : Hid _ := hg
      have Hle : Hid _ := hle
      have Hf : Hid (Fr w wr (fun _ => False)) := hf
      clear hg hle hf
      by_cases hlt : i < n
      · have hin : (i : Int) < (n : Int) := by omega
        have hin' : decide (i < n) = true := decide_eq_true hlt
        obtain ⟨⟨a1, a2⟩, ha⟩ : ∃ a, la[i]? = some a := ⟨_, List.getElem?_eq_getElem (by rw [← Hn.out]; omega)⟩
        obtain ⟨⟨f1, f2⟩, hb⟩ : ∃ a, lb[i]? = some a := ⟨_, List.getElem?_eq_getElem (by rw [← Hm.out]; omega)⟩
        obtain ⟨bk, off, cap, e3, hbk, hca⟩ := Hr.out.get i _ ha
        obtain ⟨bk', off', cap', e4, hbk', hcb⟩ := Hu.out.get i _ hb
        simp only [Value.slice.injEq] at e3 e4
        obtain ⟨rfl, -, rfl⟩ := e3
        obtain ⟨rfl, -, rfl⟩ := e4
        have Hab : Hid (la[i]? = some (a1, a2) ∧ lb[i]? = some (f1, f2)) := ⟨ha, hb⟩
        have ka0 : ∀ z, Fr wr.drew z (fun _ => False) → z.cell? ⟨bk, off + i * 2, none⟩ = some (.int .u32 (a1 : Int)) := fun z hz => (hca z (Hf.out.drew.none hz)).1
        have ka1 : ∀ z, Fr wr.drew z (fun _ => False) → z.cell? ⟨bk, off + i * 2 + 1, none⟩ = some (.int .u32 (a2 : Int)) := fun z hz => (hca z (Hf.out.drew.none hz)).2
        have kb0 : ∀ z, Fr wr.drew z (fun _ => False) → z.cell? ⟨bk', off' + i * 2, none⟩ = some (.int .u32 (f1 : Int)) := fun z hz => (hcb z (Hf.out.drew.none hz)).1
        have kb1 : ∀ z, Fr wr.drew z (fun _ => False) → z.cell? ⟨bk', off' + i * 2 + 1, none⟩ = some (.int .u32 (f2 : Int)) := fun z hz => (hcb z (Hf.out.drew.none hz)).2
        have hi0 : (0 : Int) ≤ (i : Int) := by omega
        obtain ⟨D, hD⟩ : ∃ D, D = decide ((a1, a2) = (f1, f2)) := ⟨_, rfl⟩
        have HD : Hid _ := hD
        clear hca hcb ha hb hbk hbk' hD
        go_wp2_with fail
        refine wp_region_tree (fun _ => False) (.take 0 (.take 1 (.take 2 (.take 3 (.take 4 (.take 5 (.take 6 (.take 7 (.take 8 .nil))))))))) (by kernel_rfl) (by kernel_rfl) (by decide) (by kernel_rfl) ?_
        iterate 8 (refine wpT_take (v := ?_) rfl rfl (fun x hx => ?_) ?_; rotate_left; (focus (go_simp; with_reducible rfl)); simp only [Act.put, List.setIfInBounds_toArray, List.set_cons_zero, List.set_cons_succ])
        refine wpT_take (v := .bool (!D)) rfl rfl (fun x hx => ?_) ?_
        · rw [HD.out]
          go_simp
          by_cases h1 : a1 = f1 <;> by_cases h2 : a2 = f2 <;> simp [h1, h2, Int.ofNat_inj]
        simp only [Act.put, List.setIfInBounds_toArray, List.set_cons_zero, List.set_cons_succ]
        clear ka0 ka1 kb0 kb1
        have Hf3 : Hid (Fr w wr.drew (fun _ => False)) := Hf.out.drew
        unfold wpT
        cases D with
        | false =>
          have Hres : Hid (B = false) := by
            show _ = _
            rw [HB.out]
            refine decide_eq_false fun h => of_decide_eq_false HD.out.symm ?_
            have h1 := Hab.out.1
            rw [h, Hab.out.2] at h1
            simp only [Option.some.injEq] at h1
            exact h1.symm
          obtain rfl := Hres.out
          go_wp2
          go_ret
          exact ⟨rfl, Hf3.out⟩
        | true =>
          have Hle2 : Hid (∀ j, j < i + 1 → la[j]? = lb[j]?) := fun j hj => by
            by_cases h : j < i
            · exact Hle.out j h
            · have e : j = i := by omega
              subst e
              rw [Hab.out.1, Hab.out.2, of_decide_eq_true HD.out.symm]
          go_wp2_with fail
          go_roundg (n - (i + 1))
          case rel => exact ⟨i + 1, rfl, by omega, by go_num, Hle2.out, Hf3.out⟩
          case measure => rw [Hg.out]; omega
      · have hin : ¬ (i : Int) < (n : Int) := by omega
        have hin' : decide (i < n) = false := decide_eq_false hlt
        have Hres : Hid (B = true) := by
          show _ = _
          rw [HB.out]
          exact decide_eq_true (same_all Hn.out.symm Hm.out.symm (fun j hj => Hle.out j (by omega)))
        obtain rfl := Hres.out
        go_wp2
        go_ret
        exact ⟨rfl, Hf.out⟩
  · have d1 : ((n : Int) != (m : Int)) = true := by rw [bne_iff_ne]; omega
    have d1' : ((n : Int) == (m : Int)) = false := by rw [beq_eq_false_iff_ne]; omega
    have d2 : (n == m) = false := by rw [beq_eq_false_iff_ne]; exact hnm
    have Hres : Hid (B = false) := by
      show _ = _
      rw [HB.out]
      exact decide_eq_false (fun h => hnm (by rw [Hn.out, Hm.out, h]))
    obtain rfl := Hres.out
    go_enter Try.func14, Try.ntmps14
    go_wp2
    go_ret
    exact ⟨rfl, Fr.refl w _⟩


end Go.Proofs.Ythdlhdeaeaahoaa

/-
  The contract of the reference's Degree.
-/
namespace Go.Proofs.Ythdlhdeaeaahoaa
open Go.RowKit

theorem degF_step {l : List Eg} {i v : Nat} {e : Eg} (h : l[i]? = some e) : degF (l.take (i + 1)) v = degF (l.take i) v + if hasV v e = true then 1 else 0 := by
  unfold degF
  rw [List.take_add_one, h, List.filter_append, List.length_append]
  congr 1
  cases hh : hasV v e <;> simp [hh]

set_option maxRecDepth 4000 in
set_option maxHeartbeats 800000 in
theorem refDegree_any (v : Value) (es : List Eg) (x : Nat) (w : World) (h : RdE w v es) (hl : es.length ≤ 1000000) : Calls Try.prog 23 #[v, .int .u32 (x : Int)] w fun r w' => r = .returned (.int .i64 ((degF es x : Nat) : Int)) ∧ Fr w w' (fun _ => False) := by
  obtain ⟨a0, c0, rfl, hc0⟩ := h.form
  obtain ⟨n, hn⟩ : ∃ n, n = es.length := ⟨_, rfl⟩
  obtain ⟨R, hR⟩ : ∃ R, R = degF es x := ⟨_, rfl⟩
  rw [← hn] at h hl hc0 ⊢
  rw [← hR]
  have HR : Hid _ := hR
  have Hr : Hid (RdE w (.slice a0 n c0) es) := h
  have Hn : Hid _ := hn
  clear h hn hR
  go_enter Try.func23, Try.ntmps23
  go_wp2_with fail
  go_loopg [5, 6] n (fun g C I wr => ∃ i d : Nat, g = n - i ∧ i ≤ n ∧ I = .int .i64 (i : Int) ∧ C = .int .i64 (d : Int) ∧ d = degF (es.take i) x ∧ d ≤ i ∧ wr = w)
  case atStart => exact ⟨0, 0, by omega, by omega, rfl, rfl, rfl, by omega, rfl⟩
  case round =>
    obtain ⟨i, d, hg, hi, rfl, rfl, hd, hdi, rfl⟩ := hrel
    have Hg : Hid _ := hg
    have Hd : Hid _ := hd
    clear hg hd
    by_cases hlt : i < n
    · have hin : (i : Int) < (n : Int) := by omega
      have hin' : decide (i < n) = true := decide_eq_true hlt
      obtain ⟨⟨a, b⟩, ha⟩ : ∃ a, es[i]? = some a := ⟨_, List.getElem?_eq_getElem (by rw [← Hn.out]; omega)⟩
      have Hstep : Hid (degF (es.take (i + 1)) x = d + if hasV x (a, b) = true then 1 else 0) := by show _ = _; rw [degF_step ha, Hd.out]
      obtain ⟨bk, off, cap, e3, hbk, hca⟩ := Hr.out.get i _ ha
      simp only [Value.slice.injEq] at e3
      obtain ⟨rfl, -, rfl⟩ := e3
      obtain ⟨k0, k1⟩ := hca wr (Fr.refl _ _)
      have hi0 : (0 : Int) ≤ (i : Int) := by omega
      clear hca ha hbk
      by_cases h1 : a = x
      · have d1 : ((a : Int) == (x : Int)) = true := by simp [h1]
        have d1' : (a == x) = true := by simp [h1]
        have Hs2 : Hid (degF (es.take (i + 1)) x = d + 1) := by show _ = _; rw [Hstep.out, if_pos (by unfold hasV; exact decide_eq_true (.inl h1))]
        clear h1
        go_wp2_with fail
        go_roundg (n - (i + 1))
        case rel => exact ⟨i + 1, d + 1, rfl, by omega, by go_num, by go_num, Hs2.out.symm, by omega, rfl⟩
        case measure => rw [Hg.out]; omega
      · have d1 : ((a : Int) == (x : Int)) = false := by rw [beq_eq_false_iff_ne]; omega
        have d1' : (a == x) = false := by rw [beq_eq_false_iff_ne]; exact h1
        by_cases h2 : b = x
        · have d2 : ((b : Int) == (x : Int)) = true := by simp [h2]
          have d2' : (b == x) = true := by simp [h2]
          have Hs2 : Hid (degF (es.take (i + 1)) x = d + 1) := by show _ = _; rw [Hstep.out, if_pos (by unfold hasV; exact decide_eq_true (.inr h2))]
          clear h2
          go_wp2_with fail
          go_roundg (n - (i + 1))
          case rel => exact ⟨i + 1, d + 1, rfl, by omega, by go_num, by go_num, Hs2.out.symm, by omega, rfl⟩
          case measure => rw [Hg.out]; omega
        · have d2 : ((b : Int) == (x : Int)) = false := by rw [beq_eq_false_iff_ne]; omega
          have d2' : (b == x) = false := by rw [beq_eq_false_iff_ne]; exact h2
          have Hs2 : Hid (degF (es.take (i + 1)) x = d) := by show _ = _; rw [Hstep.out, if_neg (by unfold hasV; rw [decide_eq_false (fun h => h.elim h1 h2)]; simp), Nat.add_zero]
          clear h2
          go_wp2_with fail
          go_roundg (n - (i + 1))
          case rel => exact ⟨i + 1, d, rfl, by omega, by go_num, rfl, Hs2.out.symm, by omega, rfl⟩
          case measure => rw [Hg.out]; omega
    · have hin : ¬ (i : Int) < (n : Int) := by omega
      have hin' : decide (i < n) = false := decide_eq_false hlt
      obtain rfl : R = d := by rw [HR.out, Hd.out, List.take_of_length_le (by rw [← Hn.out]; omega)]
      go_wp2
      go_ret
      exact ⟨rfl, Fr.refl _ _⟩

end Go.Proofs.Ythdlhdeaeaahoaa
