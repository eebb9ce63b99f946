/-
  Texts of ours, joined: Mem Wide EMath XMath EOwn ERef XRow.
-/
import Derived.WalkKit
import Derived.WalkSpells
import Derived.Deep.QuietTactic
import Derived.BigQuiet
import Derived.Deep.AppendLies
import Derived.ProofKit
import Derived.OpenShut
import Derived.Test.YthdlhdeaeaahoaaRows

/-
  What a call may have touched: a frame by a set of blocks; and what the call's own rows keep. No program is named here.
-/
namespace Go.Proofs.Ythdlhdeaeaahoaa
open Go.RowKit

/-- Of the blocks that were there all but those of S are as they were. -/
structure Fr (w w' : World) (S : Nat → Prop) : Prop where
  os : w'.os = w.os
  tape : w'.tape = w.tape
  output : w'.output = w.output
  size : w.heap.size ≤ w'.heap.size
  block : ∀ k, k < w.heap.size → ¬ S k → w'.heap[k]? = w.heap[k]?

theorem Fr.refl (w : World) (S : Nat → Prop) : Fr w w S := ⟨rfl, rfl, rfl, Nat.le_refl _, fun _ _ _ => rfl⟩

theorem Fr.trans {a b c : World} {S T : Nat → Prop} (h : Fr a b S) (k : Fr b c T) (hT : ∀ i, i < a.heap.size → T i → S i) : Fr a c S :=
  ⟨k.os.trans h.os, k.tape.trans h.tape, k.output.trans h.output, Nat.le_trans h.size k.size,
    fun i hi hs => (k.block i (Nat.lt_of_lt_of_le hi h.size) (fun ht => hs (hT i hi ht))).trans (h.block i hi hs)⟩

theorem Fr.mono {a b : World} {S T : Nat → Prop} (h : Fr a b S) (hT : ∀ i, i < a.heap.size → S i → T i) : Fr a b T :=
  ⟨h.os, h.tape, h.output, h.size, fun i hi hs => h.block i hi (fun ht => hs (hT i hi ht))⟩

theorem Fr.alloc {a b : World} {S : Nat → Prop} (h : Fr a b S) (o : Obj) : Fr a (b.alloc o) S :=
  ⟨h.os, h.tape, h.output, by have := h.size; simp; omega, fun k hk hs => (Below.heap_alloc _ _ _ (by have := h.size; omega)).trans (h.block k hk hs)⟩

theorem Fr.drew {a b : World} {S : Nat → Prop} (h : Fr a b S) : Fr a b.drew S := ⟨h.os, h.tape, h.output, h.size, h.block⟩

theorem Fr.drewN {a b : World} {S : Nat → Prop} (h : Fr a b S) (n : Nat) : Fr a (b.drewN n) S := ⟨h.os, h.tape, h.output, h.size, h.block⟩

theorem Fr.setCell {a b : World} {S : Nat → Prop} (h : Fr a b S) (p : Addr) (hp : p.block < a.heap.size → S p.block) (u : Value) : Fr a (b.setCell p u) S :=
  ⟨h.os, h.tape, h.output, by have := h.size; simp [World.setCell]; omega, fun k hk hs => (Below.heap_setCell _ _ _ _ (fun e => by subst e; exact hs (hp hk))).trans (h.block k hk hs)⟩

theorem Fr.grown {a b c : World} {S : Nat → Prop} {row : Option Nat} (h : Fr a b S) (hg : b.grownBy c row) (hr : ∀ k, row = some k → k < a.heap.size → S k) : Fr a c S :=
  ⟨hg.os.trans h.os, hg.tape.trans h.tape, hg.output.trans h.output, Nat.le_trans h.size hg.size,
    fun k hk hs => (hg.block k (by have := h.size; omega) (fun e => hs (hr k e.symm hk))).trans (h.block k hk hs)⟩

theorem Fr.below {w w' : World} {S : Nat → Prop} (h : Fr w w' S) {B : Nat} (hB : B ≤ w.heap.size) (hS : ∀ k, S k → B ≤ k) : Below B w w' :=
  ⟨h.os, h.tape, h.output, h.size, fun k hk => h.block k (by omega) (fun hs => by have := hS k hs; omega)⟩

theorem Fr.of_below {w w' : World} (h : Below w.heap.size w w') (S : Nat → Prop) : Fr w w' S :=
  ⟨h.os, h.tape, h.output, h.size, fun k hk _ => h.block k hk⟩

theorem Fr.kept {w w' : World} {S : Nat → Prop} (h : Fr w w' S) {b : Nat} {o : Obj} (hb : w.heap[b]? = some o) (hs : ¬ S b) : w'.heap[b]? = some o :=
  (h.block b (lt_of_block hb) hs).trans hb

theorem Fr.owns {w w' : World} {S : Nat → Prop} (h : Fr w w' S) {base : Nat} {e : TypeId} {size : Nat} {v : Value} {n : Nat} {xs : List Value} (ho : w.ownsRow base e size v n xs)
    (hs : ∀ k, v.ownBlock = some k → ¬ S k) : w'.ownsRow base e size v n xs := by
  refine ⟨ho.1, ?_⟩
  rcases ho.2 with hn | ⟨g, cap, cur, rfl, hb, hgg, rest⟩
  · exact .inl hn
  · exact .inr ⟨g, cap, cur, rfl, hb, h.kept hgg (hs g rfl), rest⟩

/-- A block of two cells. -/
theorem two_cell0 {w : World} {b : Nat} {x y : Value} {t : TypeId} (h : w.heap[b]? = some (.cells #[x, y] t (0, 0))) : w.cell? ⟨b, 0, none⟩ = some x := by simp [World.cell?, h]
theorem two_cell1 {w : World} {b : Nat} {x y : Value} {t : TypeId} (h : w.heap[b]? = some (.cells #[x, y] t (0, 0))) : w.cell? ⟨b, 1, none⟩ = some y := by simp [World.cell?, h]
theorem two_free {w : World} {b : Nat} {x y : Value} {t : TypeId} (h : w.heap[b]? = some (.cells #[x, y] t (0, 0))) (j : Nat) : w.frozen? ⟨b, j, none⟩ = false := by simp [World.frozen?, h]
theorem two_set0 {w : World} {b : Nat} {x y u : Value} {t : TypeId} (h : w.heap[b]? = some (.cells #[x, y] t (0, 0))) : (w.setCell ⟨b, 0, none⟩ u).heap[b]? = some (.cells #[u, y] t (0, 0)) := by
  have := heap_setCell_same w b 0 #[x, y] t u h
  simpa using this
theorem two_set1 {w : World} {b : Nat} {x y u : Value} {t : TypeId} (h : w.heap[b]? = some (.cells #[x, y] t (0, 0))) : (w.setCell ⟨b, 1, none⟩ u).heap[b]? = some (.cells #[x, u] t (0, 0)) := by
  have := heap_setCell_same w b 1 #[x, y] t u h
  simpa using this
/-- A store into another block. -/
theorem blk_set_other {w : World} {b : Nat} {o : Obj} {a : Addr} {u : Value} (h : w.heap[b]? = some o) (hne : b ≠ a.block) : (w.setCell a u).heap[b]? = some o := by
  rw [Below.heap_setCell _ _ _ _ hne]; exact h
theorem blk_alloc {w : World} {b : Nat} {o : Obj} (x : Obj) (h : w.heap[b]? = some o) : (w.alloc x).heap[b]? = some o := by
  rw [Below.heap_alloc _ _ _ (lt_of_block h)]; exact h

/-- A row of numbers of one kind. -/
def row (k : IntKind) (bs : List Nat) : List Value := bs.map fun (b : Nat) => Value.int k (b : Int)
theorem length_row (k : IntKind) (bs : List Nat) : (row k bs).length = bs.length := by simp [row]
theorem row_get (k : IntKind) (bs : List Nat) (j : Nat) (h : j < bs.length) : (row k bs)[j]? = some (.int k ((bs.getD j 0 : Nat) : Int)) := by simp [row, h, List.getD]
theorem row_append (k : IntKind) (a b : List Nat) : row k (a ++ b) = row k a ++ row k b := by simp [row]
theorem row_set (k : IntKind) (a : List Nat) (j x : Nat) : row k (a.set j x) = (row k a).set j (.int k (x : Int)) := by simp [row, List.map_set]
theorem row_take (k : IntKind) (a : List Nat) (n : Nat) : row k (a.take n) = (row k a).take n := by simp [row, List.map_take]
theorem row_drop (k : IntKind) (a : List Nat) (n : Nat) : row k (a.drop n) = (row k a).drop n := by simp [row, List.map_drop]
theorem row_one (k : IntKind) (bs : List Nat) : ∀ u ∈ row k bs, u.oneCell' = true := by
  intro u hu
  simp only [row, List.mem_map] at hu
  obtain ⟨b, _, rfl⟩ := hu
  rfl

theorem add_none (b off j : Nat) : (⟨b, off, none⟩ : Addr).add j = ⟨b, off + j, none⟩ := by unfold Addr.add; split <;> simp_all

/-- A slice that can be read: the cells xs. -/
def Holds (w : World) (v : Value) (xs : List Value) : Prop :=
  ∃ ao cap, v = .slice ao xs.length cap ∧ xs.length ≤ cap ∧ (0 < xs.length → ∃ b off, ao = some ⟨b, off, none⟩ ∧ ∀ j u, xs[j]? = some u → w.cell? ⟨b, off + j, none⟩ = some u)
/-- A slice of numbers of one kind that can be read: bs. -/
def Reads (k : IntKind) (w : World) (v : Value) (bs : List Nat) : Prop := Holds w v (row k bs)

theorem Holds.frame' {w w' : World} {v : Value} {xs : List Value} {S : Nat → Prop} (h : Holds w v xs) (f : Fr w w' S) (hs : 0 < xs.length → ∀ k, v.ownBlock = some k → ¬ S k) : Holds w' v xs := by
  obtain ⟨ao, cap, rfl, hlc, hc⟩ := h
  refine ⟨ao, cap, rfl, hlc, fun hp => ?_⟩
  obtain ⟨b, off, rfl, hcell⟩ := hc hp
  refine ⟨b, off, rfl, fun j u hj => ?_⟩
  have h1 := hcell j u hj
  have h2 := World.block_lt_of_cell? _ _ h1
  rw [World.cell?_of_block (w := w) (f.block _ h2 (hs hp _ rfl))]
  exact h1
theorem Holds.frame {w w' : World} {v : Value} {xs : List Value} {S : Nat → Prop} (h : Holds w v xs) (f : Fr w w' S) (hs : ∀ k, v.ownBlock = some k → ¬ S k) : Holds w' v xs := h.frame' f (fun _ => hs)
theorem Holds.keep {w w' : World} {v : Value} {xs : List Value} (h : Holds w v xs) (f : Fr w w' (fun _ => False)) : Holds w' v xs := h.frame f (fun _ _ h => h)
theorem Reads.keep {k : IntKind} {w w' : World} {v : Value} {bs : List Nat} (h : Reads k w v bs) (f : Fr w w' (fun _ => False)) : Reads k w' v bs := Holds.keep h f
theorem Reads.frame {k : IntKind} {w w' : World} {v : Value} {bs : List Nat} {S : Nat → Prop} (h : Reads k w v bs) (f : Fr w w' S) (hs : ∀ k, v.ownBlock = some k → ¬ S k) : Reads k w' v bs := Holds.frame h f hs
theorem Reads.frame' {k : IntKind} {w w' : World} {v : Value} {bs : List Nat} {S : Nat → Prop} (h : Reads k w v bs) (f : Fr w w' S) (hs : 0 < bs.length → ∀ k, v.ownBlock = some k → ¬ S k) : Reads k w' v bs :=
  Holds.frame' h f (by rw [length_row]; exact hs)

theorem holds_own {w : World} {e : TypeId} {v : Value} {n : Nat} {xs : List Value} (h : w.ownsRow 0 e 1 v n xs) : Holds w v xs := by
  have hl : xs.length = n := by have := h.1; omega
  rcases h.2 with ⟨rfl, h0⟩ | ⟨g, cap, cur, rfl, _, _, hcc, _⟩
  · exact ⟨_, 0, by rw [hl, h0], by omega, fun hp => by omega⟩
  · exact ⟨some ⟨g, 0, _⟩, cap, by rw [hl], by omega, fun _ => ⟨g, 0, rfl, fun j u hj => by have := h.cells rfl j u hj; rwa [add_none] at this⟩⟩

/-- The first cells of a slice: what b[:n] is. -/
theorem Holds.take {w : World} {ao : Option Addr} {len cap : Nat} {xs : List Value} (h : Holds w (.slice ao len cap) xs) (n : Nat) (hn : n ≤ len) (cap' : Nat) (hcap : n ≤ cap') : Holds w (.slice ao n cap') (xs.take n) := by
  obtain ⟨ao', cap0, e, -, hc⟩ := h
  simp only [Value.slice.injEq] at e
  obtain ⟨rfl, rfl, rfl⟩ := e
  refine ⟨ao, cap', by rw [List.length_take, Nat.min_eq_left hn], by rw [List.length_take]; omega, fun hp => ?_⟩
  obtain ⟨b, off, rfl, hcell⟩ := hc (by rw [List.length_take] at hp; omega)
  refine ⟨b, off, rfl, fun j u hj => hcell j u ?_⟩
  rw [List.getElem?_take] at hj
  split at hj
  · exact hj
  · cases hj
/-- The cells of a slice from n on: what b[n:] is. -/
theorem Holds.drop {w : World} {b off len cap : Nat} {xs : List Value} (h : Holds w (.slice (some ⟨b, off, none⟩) len cap) xs) (n : Nat) (_hn : n ≤ len) (cap' : Nat) (hcap : len - n ≤ cap') : Holds w (.slice (some ⟨b, off + n, none⟩) (len - n) cap') (xs.drop n) := by
  obtain ⟨ao', cap0, e, -, hc⟩ := h
  simp only [Value.slice.injEq] at e
  obtain ⟨rfl, rfl, rfl⟩ := e
  refine ⟨some ⟨b, off + n, _⟩, cap', by rw [List.length_drop], by rw [List.length_drop]; exact hcap, fun hp => ⟨b, off + n, rfl, fun j u hj => ?_⟩⟩
  rw [List.length_drop] at hp
  obtain ⟨b', off', e, hcell⟩ := hc (by omega)
  simp only [Option.some.injEq, Addr.mk.injEq, and_true] at e
  obtain ⟨rfl, rfl⟩ := e
  rw [List.getElem?_drop] at hj
  rw [Nat.add_assoc]
  exact hcell _ u hj

/-- The slice is where it was, or in new memory. -/
def Moved (w : World) (sv sv' : Value) : Prop := ∀ k, sv'.ownBlock = some k → sv.ownBlock = some k ∨ w.heap.size ≤ k
theorem Moved.refl (w : World) (sv : Value) : Moved w sv sv := fun _ h => .inl h
theorem Moved.trans {w w1 : World} {a b c : Value} (h : Moved w a b) (h1 : Moved w1 b c) (hs : w.heap.size ≤ w1.heap.size) : Moved w a c := fun k hk => by
  rcases h1 k hk with h2 | h2
  · exact h k h2
  · exact .inr (by omega)
theorem Moved.mono' {w w1 : World} {a b : Value} (h : Moved w1 a b) (hs : w.heap.size ≤ w1.heap.size) : Moved w a b := fun k hk => by
  rcases h k hk with h2 | h2
  · exact .inl h2
  · exact .inr (by omega)
theorem Fr.none {a b c : World} {S : Nat → Prop} (h : Fr a b S) (k : Fr b c (fun _ => False)) : Fr a c S :=
  h.trans k (fun _ _ ht => ht.elim)
/-- Behind a step that touches a slice's own row alone. -/
theorem Fr.own {a b c : World} {sv sv' : Value} (h : Fr a b (fun k => sv.ownBlock = some k)) (k : Fr b c (fun k => sv'.ownBlock = some k)) (hm : Moved a sv sv') : Fr a c (fun k => sv.ownBlock = some k) :=
  h.trans k (fun i hi ht => by
    rcases hm i ht with h2 | h2
    · exact h2
    · omega)
/-- Behind a step that touches what is newer alone. -/
theorem Fr.newer {a b c : World} {S T : Nat → Prop} (h : Fr a b S) (k : Fr b c T) (hn : ∀ i, T i → a.heap.size ≤ i) : Fr a c S :=
  h.trans k (fun i hi ht => by have := hn i ht; omega)

/-- A slice that is written out. -/
theorem own_lit (w : World) (e : TypeId) (cs : List Value) (h : cs.length ≤ 1000) : (w.alloc (.cells cs.toArray e)).ownsRow 0 e 1 (.slice (some ⟨w.heap.size, 0, Option.none⟩) cs.length cs.length) cs.length cs := by
  have := World.ownsRow_lit (e := e) (size := 1) (base := 0) w cs.toArray cs.length (Nat.zero_le _) (by unfold maxLen; omega) (by simp)
  simpa using this
theorem holds_lit (w : World) (e : TypeId) (cs : List Value) (h : cs.length ≤ 1000) : Holds (w.alloc (.cells cs.toArray e)) (.slice (some ⟨w.heap.size, 0, Option.none⟩) cs.length cs.length) cs :=
  holds_own (own_lit w e cs h)
theorem row1_one (k : IntKind) (x : Int) : ∀ y ∈ [Value.int k x], y.oneCell' = true := by intro y hy; simp at hy; subst hy; rfl

/-- append onto a slice that the call owns, of a slice that can be read: what was there still reads as it did. -/
theorem run_append_holds {P : Program} (w : World) (t ty e : TypeId) (i : TypeInfo) (z : Value) (bytes : Nat) (ht : P.underlying t = some (.slice e)) (hi : P.info? e = some i) (hz : i.zero = some z)
    (hsize : i.size = 1) (hby : i.bytes = bytes) (hzs : z.cells.size = 1) (hb8 : bytes ≤ 1000) (v : Value) (n : Nat) (xs : List Value) (hown : w.ownsRow 0 e 1 v n xs) (u : Value) (ys : List Value) (hu : Holds w u ys)
    (h1 : ∀ y ∈ ys, y.oneCell' = true) (hb : n + ys.length ≤ 100000000000) :
    ∃ v' w', (Builtin.append_ #[t, t] ty #[v, u]).run P w = .ok v' w' ∧ w'.ownsRow 0 e 1 v' (n + ys.length) (xs ++ ys) ∧ Fr w w' (fun k => v.ownBlock = some k) ∧ Moved w v v' ∧ Holds w' v xs ∧ (∀ k, v'.ownBlock = some k → k < w'.heap.size) := by
  obtain ⟨ao, cap, rfl, hlc, hc⟩ := hu
  have hbb : (n + ys.length) * bytes ≤ 140737488355328 := by
    have := Nat.mul_le_mul hb hb8
    omega
  by_cases h0 : 0 < ys.length
  · obtain ⟨b, off, rfl, hcell⟩ := hc h0
    have hnews : ∀ j u, ys[j]? = some u → w.cell? ((⟨b, off, Option.none⟩ : Addr).add j) = some u := fun j u hj => by rw [add_none]; exact hcell j u hj
    obtain ⟨v', w', hr, ho, hg, _, hat⟩ := run_append_own_at (P := P) w 0 t ty e i z 1 bytes ht hi hz hsize hby hzs (by decide) v n xs hown ⟨b, off, Option.none⟩ ys.length cap ys (by omega) hnews h1 (by unfold maxLen; omega) hbb (Nat.zero_le _)
    refine ⟨v', w', hr, ho, (Fr.refl w _).grown hg (fun k hk _ => hk), fun k hk => ?_, ?_, fun k hk => (ho.lt k hk).2⟩
    · rcases hat with hat | hat
      · exact .inl (hat ▸ hk)
      · rw [hat] at hk; simp at hk; exact .inr (by omega)
    · have hxl : xs.length = n := by have := hown.1; omega
      rcases hown.2 with ⟨rfl, h0⟩ | ⟨g, cp, cur, rfl, hbg, hgg, hnc, hcm, hcs, htake⟩
      · exact ⟨Option.none, 0, by rw [hxl, h0], by omega, fun hp => by omega⟩
      · by_cases hroom : n + ys.length ≤ cp
        · have hr2 := run_append_room (P := P) w t ty e i ht hi g n cp cur hgg ⟨b, off, Option.none⟩ ys.length cap ys (by rw [hsize]; omega) hnews h1 hroom (by rw [hsize]; omega)
          rw [hr] at hr2
          simp only [Result.ok.injEq] at hr2
          obtain ⟨rfl, _⟩ := hr2
          refine ⟨some ⟨g, 0, Option.none⟩, cp, by rw [hxl], by omega, fun _ => ⟨g, 0, rfl, fun j u hj => ?_⟩⟩
          have := ho.cells (g := g) rfl j u (by rw [List.getElem?_append_left (List.getElem?_eq_some_iff.1 hj).1]; exact hj)
          rwa [add_none] at this
        · have hr2 := run_append_grow (P := P) w t ty e i z ht hi hz ⟨g, 0, Option.none⟩ n cp xs (by rw [hsize]; exact hown.1) (hown.cells rfl) ⟨b, off, Option.none⟩ ys.length cap ys (by rw [hsize]; omega) hnews (by omega) (by omega) (growslice_fits (by omega) (by rw [hby]; exact hbb))
          rw [hr] at hr2
          simp only [Result.ok.injEq] at hr2
          obtain ⟨_, rfl⟩ := hr2
          exact (holds_own hown).keep ((Fr.refl w (fun _ => False)).drew.alloc _)
  · have e0 : ys = [] := List.eq_nil_of_length_eq_zero (by omega)
    subst e0
    refine ⟨v, w, ?_, by simpa using hown, Fr.refl _ _, Moved.refl _ _, holds_own hown, fun k hk => (hown.lt k hk).2⟩
    cases ao with
    | none =>
      by_cases hc0 : cap = 0
      · subst hc0
        exact run_append_owned_none (P := P) w 0 t ty e i 1 ht hi v n xs hown
      · rcases hown.2 with ⟨rfl, rfl⟩ | ⟨g, cp, cur, rfl, _, _, hnc, _⟩
        · simp [Builtin.append_, run_underlying ht, sizeOf, typeInfo, hi, Builtin.lenOf, Builtin.firstCells]
        · simp [Builtin.append_, run_underlying ht, sizeOf, typeInfo, hi, Builtin.lenOf, Builtin.firstCells, hnc, storeCells]
    | some a =>
      rcases hown.2 with ⟨rfl, rfl⟩ | ⟨g, cp, cur, rfl, _, _, hnc, _⟩
      · simp [Builtin.append_, run_underlying ht, sizeOf, typeInfo, hi, Builtin.lenOf, Builtin.firstCells, loadCells, loadCellsFrom]
      · simp [Builtin.append_, run_underlying ht, sizeOf, typeInfo, hi, Builtin.lenOf, Builtin.firstCells, loadCells, loadCellsFrom, hnc, storeCells]

/-- append outside a region that draws, by its run. -/
theorem wpList_append_run {P : Program} {w : World} {ops : Array Oper} {rest : List Oper} {o : Oper} {a : Act} {Q : Exit → Act → World → Prop} (hgd : o.guard = none) (s x : Operand) (t : TypeId)
    (ho : o.op = .call { callee := .builtin .append, args := #[s, x], argTypes := #[t, t] }) {u v v' : Value} {w' : World} (hs : a.eval s = u) (hx : a.eval x = v)
    (hrun : (Builtin.append_ #[t, t] o.type #[u, v]).run P w = .ok v' w') (h : wpList P ops Q rest (a.put o.dst v') w') : wpList P ops Q (o :: rest) a w := by
  refine wpList_plain hgd fun K hK => ?_
  unfold Oper.wp execOp
  simp only [ho, resolve, invoke, builtin, Sem.run_bind, Sem.run_pure, Result.andThen_ok, List.map_toArray, List.map_cons, List.map_nil, hs, hx, hrun]
  exact hK _ _ h

/-- What is known of a slice of integers that came in. -/
def IsRow (k : IntKind) (w : World) (a : Option Addr) (len cap : Nat) (zs : List Int) : Prop :=
  (a = none ∧ len = 0 ∧ cap = 0 ∧ zs = []) ∨
  ∃ x, a = some x ∧ len ≤ cap ∧ cap ≤ maxLen ∧ zs.length = cap ∧ (∀ i, i < zs.length → w.cell? (x.add i) = some (.int k (zs.getD i 0))) ∧ ∀ n ∈ zs, (Lit.int k n).wf = true

theorem spot_none {w : World} {x : Addr} {u : Value} (h : w.cell? (x.add 0) = some u) : ∃ b off, x = ⟨b, off, none⟩ := by
  obtain ⟨b, off, spot⟩ := x
  cases spot with
  | none => exact ⟨b, off, rfl⟩
  | some s =>
    exfalso
    unfold World.cell? at h
    split at h
    · simp [Addr.add] at h
    · cases h

/-- It can be read, as numbers below m. -/
theorem reads_isRow {k : IntKind} {m : Nat} (hm : ∀ n : Int, (Lit.int k n).wf = true → 0 ≤ n ∧ n < m) (hm0 : 0 < m) {w : World} {a : Option Addr} {len cap : Nat} {zs : List Int} (h : IsRow k w a len cap zs) :
    ∃ bs : List Nat, bs.length = len ∧ (∀ j, bs.getD j 0 < m) ∧ Reads k w (.slice a len cap) bs ∧ (∀ k, (Value.slice a len cap).ownBlock = some k → 0 < len → k < w.heap.size) := by
  rcases h with ⟨rfl, rfl, rfl, rfl⟩ | ⟨x, rfl, hl, _, hz, hc, hw⟩
  · exact ⟨[], rfl, fun j => by simpa using hm0, ⟨Option.none, 0, rfl, Nat.le_refl _, fun h => by simp [row] at h⟩, fun k h => by simp [Value.ownBlock] at h⟩
  · refine ⟨(zs.take len).map Int.toNat, by simp; omega, fun j => ?_, ⟨some x, cap, by simp [row]; omega, by simp [row]; omega, fun hp => ?_⟩, fun k hk hp => ?_⟩
    · simp only [List.getD_eq_getElem?_getD, List.getElem?_map]
      cases hj : (zs.take len)[j]? with
      | none => simpa using hm0
      | some z =>
        have hmm : z ∈ zs := List.mem_of_mem_take (List.mem_of_getElem? hj)
        have := hm z (hw z hmm)
        simp; omega
    · have hp' : 0 < len := by simp [row] at hp; omega
      obtain ⟨b, off, rfl⟩ := spot_none (hc 0 (by omega))
      refine ⟨b, off, rfl, fun j u hj => ?_⟩
      have hjl : j < len := by
        have := (List.getElem?_eq_some_iff.1 hj).1
        simp [row] at this; omega
      have hcj := hc j (by omega)
      rw [add_none] at hcj
      rw [hcj]
      have hzj : j < zs.length := by omega
      have hb := hm _ (hw (zs.getD j 0) (by rw [List.getD_eq_getElem?_getD, List.getElem?_eq_getElem hzj]; exact List.getElem_mem hzj))
      simp only [row, List.getElem?_map, List.getElem?_take, hjl, if_true, List.getElem?_eq_getElem hzj, Option.map_some, Option.some.injEq] at hj
      rw [← hj]
      simp only [List.getD_eq_getElem?_getD, List.getElem?_eq_getElem hzj, Option.getD_some] at hb ⊢
      congr 2
      omega
    · simp [Value.ownBlock] at hk
      subst hk
      have := World.block_lt_of_cell? _ _ (hc 0 (by omega))
      obtain ⟨b, off, rfl⟩ := spot_none (hc 0 (by omega))
      exact this
theorem small_u8 (n : Int) (h : (Lit.int .u8 n).wf = true) : 0 ≤ n ∧ n < (256 : Nat) := by have := bounds_u8 h; omega
theorem small_u64 (n : Int) (h : (Lit.int .u64 n).wf = true) : 0 ≤ n ∧ n < (18446744073709551616 : Nat) := by have := bounds_u64 h; omega

/-- A row that is owned and has an element is no nil: its block. -/
theorem own_form {w : World} {base : Nat} {e : TypeId} {size : Nat} {v : Value} {n : Nat} {xs : List Value} (h : w.ownsRow base e size v n xs) (hn : 0 < n) :
    ∃ g cap, v = .slice (some ⟨g, 0, none⟩) n cap ∧ ∃ cur, w.heap[g]? = some (.cells cur e (0, 0)) := by
  rcases h.2 with ⟨_, h'⟩ | ⟨g, cap, cur, h', _, hg, _⟩
  · omega
  · exact ⟨g, cap, h', cur, hg⟩

theorem getD_mem {us : List Nat} {i : Nat} (h : i < us.length) : us.getD i 0 ∈ us := by
  rw [List.getD_eq_getElem?_getD, List.getElem?_eq_getElem h]; exact List.getElem_mem h
theorem take_step {us : List Nat} {i : Nat} (h : i < us.length) : us.take (i + 1) = us.take i ++ [us.getD i 0] := by
  rw [List.take_add_one, List.getD_eq_getElem?_getD, List.getElem?_eq_getElem h]; rfl

theorem drop_step {bs : List Nat} {i : Nat} (h : i < bs.length) : bs.drop i = bs.getD i 0 :: bs.drop (i + 1) := by
  rw [List.drop_eq_getElem_cons h, List.getD_eq_getElem?_getD, List.getElem?_eq_getElem h]; rfl

theorem getD_lt {bs : List Nat} {m : Nat} (hm : 0 < m) (h : ∀ x ∈ bs, x < m) (j : Nat) : bs.getD j 0 < m := by
  rw [List.getD_eq_getElem?_getD]
  cases hj : bs[j]? with
  | none => simpa using hm
  | some x => simpa using h x (List.mem_of_getElem? hj)

theorem mem_take_lt {bs : List Nat} {n : Nat} (h : ∀ x ∈ bs, x < 256) : ∀ x ∈ bs.take n, x < 256 := fun x hx => h x (List.mem_of_mem_take hx)

/-- What b[n:] is. -/
theorem reads_drop {k : IntKind} {w : World} {ao : Option Addr} {len cap : Nat} {bs : List Nat} (h : Reads k w (.slice ao len cap) bs) (n : Nat) (hn : n ≤ len) :
    Reads k w (.slice (if cap = n then ao else Option.map (fun x => x.add n) ao) (len - n) (cap - n)) (bs.drop n) := by
  obtain ⟨ao', cap', e, hlc, hc⟩ := id h
  simp only [Value.slice.injEq] at e
  obtain ⟨rfl, hl, rfl⟩ := e
  rw [length_row] at hl hlc hc
  by_cases h0 : 0 < bs.length - n
  · obtain ⟨b, off, rfl, -⟩ := hc (by omega)
    rw [if_neg (by omega)]
    simp only [Option.map_some, add_none]
    have := Holds.drop h n hn (cap - n) (by omega)
    rwa [← row_drop] at this
  · refine ⟨if cap = n then ao else Option.map (fun x => x.add n) ao, cap - n, ?_, ?_, fun hp => ?_⟩
    · rw [length_row, List.length_drop, hl]
    · rw [length_row, List.length_drop]; omega
    · rw [length_row, List.length_drop] at hp; omega

/-- A slice that can be read is a slice. -/
theorem Reads.form {k : IntKind} {w : World} {v : Value} {bs : List Nat} (h : Reads k w v bs) : ∃ a l c, v = .slice a l c := by
  obtain ⟨a, c, h, _⟩ := h
  exact ⟨_, _, _, h⟩

end Go.Proofs.Ythdlhdeaeaahoaa

/-
  Slices whose elements take several cells each: read, and appended to. No program is named here.
-/
namespace Go.Proofs.Ythdlhdeaeaahoaa
open Go.RowKit

/-- A slice of m elements of so many cells each that can be read: the cells xs. -/
def HoldsN (size : Nat) (w : World) (v : Value) (m : Nat) (xs : List Value) : Prop :=
  xs.length = m * size ∧ ∃ ao cap, v = .slice ao m cap ∧ m ≤ cap ∧ (0 < m → ∃ b off, ao = some ⟨b, off, none⟩ ∧ ∀ j u, xs[j]? = some u → w.cell? ⟨b, off + j, none⟩ = some u)

theorem HoldsN.keep {size : Nat} {w w' : World} {v : Value} {m : Nat} {xs : List Value} (h : HoldsN size w v m xs) (f : Fr w w' (fun _ => False)) : HoldsN size w' v m xs := by
  obtain ⟨hl, ao, cap, rfl, hlc, hc⟩ := h
  refine ⟨hl, ao, cap, rfl, hlc, fun hp => ?_⟩
  obtain ⟨b, off, rfl, hcell⟩ := hc hp
  refine ⟨b, off, rfl, fun j u hj => ?_⟩
  have h1 := hcell j u hj
  have h2 := World.block_lt_of_cell? _ _ h1
  rw [World.cell?_of_block (w := w) (f.block _ h2 (fun h => h))]
  exact h1
theorem HoldsN.frame {size : Nat} {w w' : World} {v : Value} {m : Nat} {xs : List Value} {S : Nat → Prop} (h : HoldsN size w v m xs) (f : Fr w w' S) (hs : 0 < m → ∀ k, v.ownBlock = some k → ¬ S k) : HoldsN size w' v m xs := by
  obtain ⟨hl, ao, cap, rfl, hlc, hc⟩ := h
  refine ⟨hl, ao, cap, rfl, hlc, fun hp => ?_⟩
  obtain ⟨b, off, rfl, hcell⟩ := hc hp
  refine ⟨b, off, rfl, fun j u hj => ?_⟩
  have h1 := hcell j u hj
  have h2 := World.block_lt_of_cell? _ _ h1
  rw [World.cell?_of_block (w := w) (f.block _ h2 (hs hp _ rfl))]
  exact h1
theorem holdsN_own {size : Nat} {w : World} {e : TypeId} {v : Value} {n : Nat} {xs : List Value} (h : w.ownsRow 0 e size v n xs) : HoldsN size w v n xs := by
  refine ⟨h.1, ?_⟩
  rcases h.2 with ⟨rfl, h0⟩ | ⟨g, cap, cur, rfl, _, _, hcc, _⟩
  · exact ⟨_, 0, by rw [h0], by omega, fun hp => by omega⟩
  · exact ⟨some ⟨g, 0, _⟩, cap, rfl, hcc, fun _ => ⟨g, 0, rfl, fun j u hj => by have := h.cells rfl j u hj; rwa [add_none] at this⟩⟩
theorem HoldsN.take {size : Nat} {w : World} {ao : Option Addr} {len cap : Nat} {xs : List Value} (h : HoldsN size w (.slice ao len cap) len xs) (n : Nat) (hn : n ≤ len) : HoldsN size w (.slice ao n cap) n (xs.take (n * size)) := by
  obtain ⟨hl, ao', cap0, e, hlc, hc⟩ := h
  simp only [Value.slice.injEq, true_and] at e
  obtain ⟨rfl, rfl⟩ := e
  have hle : n * size ≤ len * size := Nat.mul_le_mul_right _ hn
  refine ⟨by rw [List.length_take]; omega, ao, cap, rfl, by omega, fun hp => ?_⟩
  obtain ⟨b, off, rfl, hcell⟩ := hc (by omega)
  refine ⟨b, off, rfl, fun j u hj => hcell j u ?_⟩
  rw [List.getElem?_take] at hj
  split at hj
  · exact hj
  · cases hj
theorem holdsN_lit (size : Nat) (w : World) (e : TypeId) (n : Nat) (cs : List Value) (hl : cs.length = n * size) (h : n ≤ 1000) : HoldsN size (w.alloc (.cells cs.toArray e)) (.slice (some ⟨w.heap.size, 0, Option.none⟩) n n) n cs := by
  have := World.ownsRow_lit (e := e) (size := size) (base := 0) w cs.toArray n (Nat.zero_le _) (by unfold maxLen; omega) (by simpa using hl)
  have := holdsN_own this
  simpa using this

/-- append onto a slice that the call owns, of a slice that can be read. -/
theorem run_append_wide {P : Program} (w : World) (t ty e : TypeId) (i : TypeInfo) (z : Value) (size bytes : Nat) (ht : P.underlying t = some (.slice e)) (hi : P.info? e = some i) (hz : i.zero = some z)
    (hsize : i.size = size) (hby : i.bytes = bytes) (hzs : z.cells.size = size) (hsz : 0 < size) (hb8 : bytes ≤ 1000) (v : Value) (n : Nat) (xs : List Value) (hown : w.ownsRow 0 e size v n xs) (u : Value) (m : Nat) (ys : List Value) (hu : HoldsN size w u m ys)
    (h1 : ∀ y ∈ ys, y.oneCell' = true) (hb : n + m ≤ 100000000000) :
    ∃ v' w', (Builtin.append_ #[t, t] ty #[v, u]).run P w = .ok v' w' ∧ w'.ownsRow 0 e size v' (n + m) (xs ++ ys) ∧ Fr w w' (fun k => v.ownBlock = some k) ∧ Moved w v v' := by
  obtain ⟨hl, ao, cap, rfl, hlc, hc⟩ := hu
  have hbb : (n + m) * bytes ≤ 140737488355328 := by
    have := Nat.mul_le_mul hb hb8
    omega
  by_cases h0 : 0 < m
  · obtain ⟨b, off, rfl, hcell⟩ := hc h0
    have hnews : ∀ j u, ys[j]? = some u → w.cell? ((⟨b, off, Option.none⟩ : Addr).add j) = some u := fun j u hj => by rw [add_none]; exact hcell j u hj
    obtain ⟨v', w', hr, ho, hg, _, hat⟩ := run_append_own_at (P := P) w 0 t ty e i z size bytes ht hi hz hsize hby hzs hsz v n xs hown ⟨b, off, Option.none⟩ m cap ys hl hnews h1 (by unfold maxLen; omega) hbb (Nat.zero_le _)
    refine ⟨v', w', hr, ho, (Fr.refl w _).grown hg (fun k hk _ => hk), fun k hk => ?_⟩
    rcases hat with hat | hat
    · exact .inl (hat ▸ hk)
    · rw [hat] at hk; simp at hk; exact .inr (by omega)
  · have e0 : m = 0 := by omega
    subst e0
    have e1 : ys = [] := List.eq_nil_of_length_eq_zero (by omega)
    subst e1
    refine ⟨v, w, ?_, by simpa using hown, Fr.refl _ _, Moved.refl _ _⟩
    cases ao with
    | none =>
      by_cases hc0 : cap = 0
      · subst hc0
        exact run_append_owned_none (P := P) w 0 t ty e i size ht hi v n xs hown
      · rcases hown.2 with ⟨rfl, rfl⟩ | ⟨g, cp, cur, rfl, _, _, hnc, _⟩
        · simp [Builtin.append_, run_underlying ht, sizeOf, typeInfo, hi, Builtin.lenOf, Builtin.firstCells]
        · simp [Builtin.append_, run_underlying ht, sizeOf, typeInfo, hi, Builtin.lenOf, Builtin.firstCells, hnc, storeCells]
    | some a =>
      rcases hown.2 with ⟨rfl, rfl⟩ | ⟨g, cp, cur, rfl, _, _, hnc, _⟩
      · simp [Builtin.append_, run_underlying ht, sizeOf, typeInfo, hi, Builtin.lenOf, Builtin.firstCells, loadCells, loadCellsFrom]
      · simp [Builtin.append_, run_underlying ht, sizeOf, typeInfo, hi, Builtin.lenOf, Builtin.firstCells, loadCells, loadCellsFrom, hnc, storeCells]

end Go.Proofs.Ythdlhdeaeaahoaa

/-
  Edges and events: plain mathematics, no program; how they lie in memory.
-/
namespace Go.Proofs.Ythdlhdeaeaahoaa
open Go.RowKit

def eRight (u v n : Nat) : Bool := decide (u < v ∧ v < n)
def eLess (a b : Nat × Nat) : Bool := decide (a.1 < b.1 ∨ (a.1 = b.1 ∧ a.2 < b.2))
def eBefore (s t : Int) (a b : Nat × Nat) : Bool := decide (s < t ∨ (s = t ∧ eLess a b = true))
def eRising : List (Nat × Nat) → Bool
  | [] => true
  | [_] => true
  | a :: b :: r => eLess a b && eRising (b :: r)
theorem eRising_false {l : List (Nat × Nat)} {i : Nat} {a b : Nat × Nat} (ha : l[i]? = some a) (hb : l[i + 1]? = some b) (h : eLess a b = false) : eRising l = false := by
  induction l generalizing i with
  | nil => simp at ha
  | cons x l ih =>
    cases l with
    | nil => simp at hb
    | cons y r =>
      cases i with
      | zero =>
        simp at ha hb
        rw [eRising, ha, hb, h]
        rfl
      | succ i =>
        rw [eRising, ih (i := i) (by simpa using ha) (by simpa using hb)]
        simp
theorem eRising_true {l : List (Nat × Nat)} (h : ∀ i a b, l[i]? = some a → l[i + 1]? = some b → eLess a b = true) : eRising l = true := by
  induction l with
  | nil => rfl
  | cons x l ih =>
    cases l with
    | nil => rfl
    | cons y r =>
      rw [eRising, h 0 x y rfl rfl, ih (fun i a b ha hb => h (i + 1) a b (by simpa using ha) (by simpa using hb))]
      rfl

/-- An edge as a value, as cells; edges in a slice. -/
def edgeV (e : Nat × Nat) : Value := .agg #[.int .u32 (e.1 : Int), .int .u32 (e.2 : Int)]
def encE (x : Nat × Nat) : List Value := [.int .u32 (x.1 : Int), .int .u32 (x.2 : Int)]
def erow (xs : List (Nat × Nat)) : List Value := xs.flatMap encE
def RdE (w : World) (v : Value) (xs : List (Nat × Nat)) : Prop := HoldsN 2 w v xs.length (erow xs)
theorem erow_length (xs : List (Nat × Nat)) : (erow xs).length = xs.length * 2 := by
  induction xs with
  | nil => rfl
  | cons p ps ih => simp [erow, encE] at ih ⊢; omega
theorem erow_append (a b : List (Nat × Nat)) : erow (a ++ b) = erow a ++ erow b := by simp [erow]
theorem erow_drop : ∀ (ps : List (Nat × Nat)) (n : Nat), (erow ps).drop (n * 2) = erow (ps.drop n)
  | [], n => by simp [erow]
  | p :: ps, 0 => by simp [erow]
  | p :: ps, n + 1 => by
    have := erow_drop ps n
    simp only [erow, List.flatMap_cons, List.drop_succ_cons] at this ⊢
    rw [Nat.succ_mul, List.drop_append, List.drop_eq_nil_of_le (by simp [encE])]
    simp [this, encE]
theorem erow_get (ps : List (Nat × Nat)) (i : Nat) (p : Nat × Nat) (h : ps[i]? = some p) : (erow ps)[i * 2]? = some (.int .u32 (p.1 : Int)) ∧ (erow ps)[i * 2 + 1]? = some (.int .u32 (p.2 : Int)) := by
  have hd := erow_drop ps i
  have hi : i < ps.length := (List.getElem?_eq_some_iff.1 h).1
  have e : ps.drop i = p :: ps.drop (i + 1) := by
    rw [List.drop_eq_getElem_cons hi]
    rw [List.getElem?_eq_getElem hi] at h
    simp only [Option.some.injEq] at h
    rw [h]
  rw [e] at hd
  have h0 : ((erow ps).drop (i * 2))[0]? = some (.int .u32 (p.1 : Int)) := by rw [hd]; rfl
  have h1 : ((erow ps).drop (i * 2))[1]? = some (.int .u32 (p.2 : Int)) := by rw [hd]; rfl
  rw [List.getElem?_drop] at h0 h1
  exact ⟨h0, h1⟩
theorem erow_one (ps : List (Nat × Nat)) : ∀ u ∈ erow ps, u.oneCell' = true := by
  intro u hu
  simp only [erow, List.mem_flatMap] at hu
  obtain ⟨p, hp, hu⟩ := hu
  simp [encE] at hu
  rcases hu with rfl | rfl <;> rfl
theorem RdE.keep {w w' : World} {v : Value} {ps : List (Nat × Nat)} (h : RdE w v ps) (f : Fr w w' (fun _ => False)) : RdE w' v ps := HoldsN.keep h f
theorem RdE.form {w : World} {v : Value} {ps : List (Nat × Nat)} (h : RdE w v ps) : ∃ ao cap, v = .slice ao ps.length cap ∧ ps.length ≤ cap := by
  obtain ⟨-, ao, cap, h1, h2, -⟩ := h
  exact ⟨ao, cap, h1, h2⟩
theorem RdE.get {w : World} {v : Value} {ps : List (Nat × Nat)} (h : RdE w v ps) (i : Nat) (p : Nat × Nat) (hi : ps[i]? = some p) :
    ∃ b off cap, v = .slice (some ⟨b, off, none⟩) ps.length cap ∧ b < w.heap.size ∧ ∀ x, Fr w x (fun _ => False) → x.cell? ⟨b, off + i * 2, none⟩ = some (.int .u32 (p.1 : Int)) ∧ x.cell? ⟨b, off + i * 2 + 1, none⟩ = some (.int .u32 (p.2 : Int)) := by
  obtain ⟨-, ao, cap, rfl, h2, hc⟩ := h
  have hil := (List.getElem?_eq_some_iff.1 hi).1
  obtain ⟨b, off, rfl, hcell⟩ := hc (by omega)
  obtain ⟨h3, h4⟩ := erow_get ps i p hi
  have c3 := hcell _ _ h3
  have c4 := hcell _ _ h4
  have hb := World.block_lt_of_cell? _ _ c3
  refine ⟨b, off, cap, rfl, hb, fun x hx => ?_⟩
  exact ⟨(World.cell?_of_block (w := w) (hx.block b hb (fun h => h))).trans c3, (World.cell?_of_block (w := w) (hx.block b hb (fun h => h))).trans (by rw [Nat.add_assoc]; exact c4)⟩

end Go.Proofs.Ythdlhdeaeaahoaa

/-
  Events, graphs, histories: plain mathematics, no program.
-/
namespace Go.Proofs.Ythdlhdeaeaahoaa
open Go.RowKit

abbrev Eg := Nat × Nat
abbrev Ev := Int × Eg × Bool

theorem eLess_trans {a b c : Eg} (h : eLess a b = true) (k : eLess b c = true) : eLess a c = true := by
  unfold eLess at *
  simp only [decide_eq_true_eq] at *
  omega
theorem eLess_irrefl (a : Eg) : eLess a a = false := by unfold eLess; simp
theorem eLess_ne {a b : Eg} (h : eLess a b = false) (hne : a ≠ b) : eLess b a = true := by
  obtain ⟨a1, a2⟩ := a
  obtain ⟨b1, b2⟩ := b
  unfold eLess at *
  simp only [decide_eq_true_eq, decide_eq_false_iff_not, ne_eq, Prod.mk.injEq] at *
  omega
theorem eLess_asymm {a b : Eg} (h : eLess a b = true) : eLess b a = false := by
  unfold eLess at *
  simp only [decide_eq_true_eq, decide_eq_false_iff_not] at *
  omega

theorem eRising_pw {l : List Eg} : eRising l = true ↔ l.Pairwise (fun a b => eLess a b = true) := by
  induction l with
  | nil => simp [eRising]
  | cons x l ih =>
    cases l with
    | nil => simp [eRising]
    | cons y r =>
      rw [eRising, Bool.and_eq_true, ih]
      constructor
      · intro ⟨h1, h2⟩
        refine List.pairwise_cons.2 ⟨fun z hz => ?_, h2⟩
        rcases List.mem_cons.1 hz with rfl | hz
        · exact h1
        · exact eLess_trans h1 ((List.pairwise_cons.1 h2).1 z hz)
      · intro h
        have h := List.pairwise_cons.1 h
        exact ⟨h.1 y (List.mem_cons_self ..), h.2⟩
theorem rising_nodup {l : List Eg} (h : eRising l = true) : l.Nodup := by
  rw [eRising_pw] at h
  refine List.Pairwise.imp (fun {a b} hab e => ?_) h
  subst e
  rw [eLess_irrefl] at hab
  cases hab

/-- Where an edge would stand; what becomes of a graph. -/
def posF (l : List Eg) (e : Eg) : Nat := (l.takeWhile (fun x => eLess x e)).length
def turnF (l : List Eg) (e : Eg) (add : Bool) : Option (List Eg) :=
  if eRising l = false ∨ add = decide (e ∈ l) then none
  else if add = true then some (l.take (posF l e) ++ e :: l.drop (posF l e)) else some (l.take (l.idxOf e) ++ l.drop (l.idxOf e + 1))

theorem posF_le (l : List Eg) (e : Eg) : posF l e ≤ l.length := by
  unfold posF
  exact (List.takeWhile_sublist _).length_le
theorem posF_take (l : List Eg) (e : Eg) : l.take (posF l e) = l.takeWhile (fun x => eLess x e) := by
  unfold posF
  induction l with
  | nil => rfl
  | cons x l ih =>
    rw [List.takeWhile_cons]
    split
    · simp [ih]
    · rfl
theorem posF_drop (l : List Eg) (e : Eg) : l.drop (posF l e) = l.dropWhile (fun x => eLess x e) := by
  unfold posF
  induction l with
  | nil => rfl
  | cons x l ih =>
    rw [List.takeWhile_cons, List.dropWhile_cons]
    split
    · simp [ih]
    · rfl
/-- A place that has only lesser ones ahead, and no lesser one at it. -/
theorem posF_is {l : List Eg} {e : Eg} {k : Nat} (hk : k ≤ l.length) (h : ∀ j x, j < k → l[j]? = some x → eLess x e = true) (h2 : ∀ x, l[k]? = some x → eLess x e = false) : posF l e = k := by
  unfold posF
  induction l generalizing k with
  | nil => simp at hk; simp [hk]
  | cons y l ih =>
    cases k with
    | zero =>
      rw [List.takeWhile_cons, if_neg (by rw [h2 y rfl]; decide)]
      rfl
    | succ k =>
      rw [List.takeWhile_cons, if_pos (h 0 y (by omega) rfl)]
      rw [List.length_cons, ih (k := k) (by simpa using hk) (fun j x hj hx => h (j + 1) x (by omega) (by simpa using hx)) (fun x hx => h2 x (by simpa using hx))]

theorem mem_takeWhile_less {l : List Eg} {e x : Eg} (h : x ∈ l.takeWhile (fun x => eLess x e)) : eLess x e = true := by
  induction l with
  | nil => simp at h
  | cons y l ih =>
    rw [List.takeWhile_cons] at h
    split at h
    · rename_i hy
      rcases List.mem_cons.1 h with rfl | h
      · exact hy
      · exact ih h
    · simp at h
theorem dropWhile_great {l : List Eg} {e : Eg} (hr : eRising l = true) (hm : e ∉ l) : ∀ x ∈ l.dropWhile (fun x => eLess x e), eLess e x = true := by
  induction l with
  | nil => simp
  | cons y l ih =>
    rw [eRising_pw, List.pairwise_cons] at hr
    rw [List.dropWhile_cons]
    split
    · exact ih (eRising_pw.2 hr.2) (fun h => hm (List.mem_cons_of_mem _ h))
    · rename_i hy
      have hey : eLess e y = true := eLess_ne (by simpa using hy) (fun h => hm (h ▸ List.mem_cons_self ..))
      intro x hx
      rcases List.mem_cons.1 hx with rfl | hx
      · exact hey
      · exact eLess_trans hey (hr.1 x hx)

theorem erase_at (l : List Eg) (e : Eg) : l.take (l.idxOf e) ++ l.drop (l.idxOf e + 1) = l.eraseIdx (l.idxOf e) := (List.eraseIdx_eq_take_drop_succ ..).symm

theorem turn_rising {l l' : List Eg} {e : Eg} {add : Bool} (h : turnF l e add = some l') : eRising l' = true := by
  unfold turnF at h
  split at h
  · cases h
  · rename_i hn
    have hr : eRising l = true := by
      cases hh : eRising l with
      | true => rfl
      | false => exact absurd (.inl hh) hn
    split at h
    · rename_i ha
      simp only [Option.some.injEq] at h
      subst h
      have hm : e ∉ l := fun hm => hn (.inr (by rw [ha]; simp [hm]))
      rw [posF_take, posF_drop, eRising_pw]
      have hpw := eRising_pw.1 hr
      rw [List.pairwise_append]
      refine ⟨hpw.sublist (List.takeWhile_sublist _), ?_, ?_⟩
      · rw [List.pairwise_cons]
        exact ⟨dropWhile_great hr hm, hpw.sublist (List.dropWhile_sublist _)⟩
      · intro a ha b hb
        have hl := mem_takeWhile_less ha
        rcases List.mem_cons.1 hb with rfl | hb
        · exact hl
        · exact eLess_trans hl (dropWhile_great hr hm b hb)
    · simp only [Option.some.injEq] at h
      subst h
      rw [erase_at, eRising_pw]
      exact (eRising_pw.1 hr).sublist (List.eraseIdx_sublist ..)

/-- Which edges are there then. -/
theorem mem_turn {l l' : List Eg} {e : Eg} {add : Bool} (h : turnF l e add = some l') (x : Eg) : x ∈ l' ↔ (x ∈ l ∧ x ≠ e) ∨ (add = true ∧ x = e) := by
  unfold turnF at h
  split at h
  · cases h
  · rename_i hn
    have hr : eRising l = true := by
      cases hh : eRising l with
      | true => rfl
      | false => exact absurd (.inl hh) hn
    split at h
    · rename_i ha
      simp only [Option.some.injEq] at h
      subst h
      have hm : e ∉ l := fun hm => hn (.inr (by rw [ha]; simp [hm]))
      rw [List.mem_append, List.mem_cons, ha]
      have hs : x ∈ l ↔ x ∈ l.take (posF l e) ∨ x ∈ l.drop (posF l e) := by rw [← List.mem_append, List.take_append_drop]
      constructor
      · rintro (h | rfl | h)
        · exact .inl ⟨hs.2 (.inl h), fun hx => hm (hx ▸ hs.2 (.inl h))⟩
        · exact .inr ⟨rfl, rfl⟩
        · exact .inl ⟨hs.2 (.inr h), fun hx => hm (hx ▸ hs.2 (.inr h))⟩
      · rintro (⟨h, _⟩ | ⟨_, h⟩)
        · rcases hs.1 h with h | h
          · exact .inl h
          · exact .inr (.inr h)
        · exact .inr (.inl h)
    · rename_i ha
      simp only [Option.some.injEq] at h
      subst h
      have ha' : add = false := by cases add <;> simp_all
      have hm : e ∈ l := by
        cases Decidable.em (e ∈ l) with
        | inl h => exact h
        | inr h => exact absurd (.inr (by rw [ha']; simp [h])) hn
      rw [ha', erase_at]
      have hnd := rising_nodup hr
      rw [← List.erase_eq_eraseIdx_of_idxOf rfl, hnd.mem_erase_iff]
      simp [and_comm]
theorem turn_some {l : List Eg} {e : Eg} {add : Bool} (hr : eRising l = true) (h : add = !decide (e ∈ l)) : ∃ l', turnF l e add = some l' := by
  unfold turnF
  rw [if_neg (by rw [hr, h]; cases decide (e ∈ l) <;> simp)]
  split
  · exact ⟨_, rfl⟩
  · exact ⟨_, rfl⟩
theorem turn_length {l l' : List Eg} {e : Eg} {add : Bool} (h : turnF l e add = some l') : l'.length ≤ l.length + 1 := by
  unfold turnF at h
  split at h
  · cases h
  · split at h <;> simp only [Option.some.injEq] at h <;> subst h <;> simp <;> omega

/-- Ahead of it: by time, then by edge. -/
def eBef (a b : Ev) : Bool := eBefore a.1 b.1 a.2.1 b.2.1
theorem eBef_iff {a b : Ev} : eBef a b = true ↔ a.1 < b.1 ∨ (a.1 = b.1 ∧ eLess a.2.1 b.2.1 = true) := by unfold eBef eBefore; simp
theorem eBef_trans {a b c : Ev} (h : eBef a b = true) (k : eBef b c = true) : eBef a c = true := by
  rw [eBef_iff] at *
  rcases h with h | ⟨h, g⟩ <;> rcases k with k | ⟨k, f⟩
  · exact .inl (by omega)
  · exact .inl (by omega)
  · exact .inl (by omega)
  · exact .inr ⟨by omega, eLess_trans g f⟩
theorem eBef_asymm {a b : Ev} (h : eBef a b = true) : eBef b a = false := by
  rw [Bool.eq_false_iff, ne_eq, eBef_iff]
  rw [eBef_iff] at h
  rintro (k | ⟨k, g⟩) <;> rcases h with h | ⟨h, f⟩
  · omega
  · omega
  · omega
  · rw [eLess_asymm f] at g; cases g
theorem eBef_ne {a b : Ev} (h : eBef a b = false) (hne : ¬ (b.1 = a.1 ∧ b.2.1 = a.2.1)) : eBef b a = true := by
  rw [Bool.eq_false_iff, ne_eq, eBef_iff] at h
  rw [eBef_iff]
  by_cases h1 : b.1 < a.1
  · exact .inl h1
  · by_cases h2 : a.1 < b.1
    · exact absurd (.inl h2) h
    · have h3 : a.1 = b.1 := by omega
      refine .inr ⟨h3.symm, eLess_ne ?_ (fun e => hne ⟨h3.symm, e.symm⟩)⟩
      rw [Bool.eq_false_iff]
      exact fun g => h (.inr ⟨h3, g⟩)

/-- The first event that is wrong: its place, its error. -/
def chkF (n : Nat) : List Eg → Option Ev → Nat → List Ev → Nat × Nat
  | _, _, _, [] => (0, 0)
  | now, pv, i, x :: r =>
    if x.1 < 0 ∨ 4611686018427387903 < x.1 then (i, 26)
    else if eRight x.2.1.1 x.2.1.2 n = false then (i, 24)
    else if (pv.any fun p => !eBef p x) = true then (i, 23)
    else match turnF now x.2.1 x.2.2 with
      | none => (i, 25)
      | some now' => chkF n now' (some x) (i + 1) r
def checkF (n : Nat) (evs : List Ev) : Nat × Nat := if 4294967296 < n ∨ 2147483648 < evs.length then (0, 26) else chkF n [] none 0 evs

/-- A history of which nothing is wrong. -/
def RightH (n : Nat) (evs : List Ev) : Prop := checkF n evs = (0, 0)

/-- What is there behind events; how many have come. -/
def aftF (now : List Eg) : List Ev → List Eg
  | [] => now
  | x :: r => aftF ((turnF now x.2.1 x.2.2).getD []) r
def uptoF (evs : List Ev) (t : Int) : Nat := (evs.takeWhile (fun x => decide (x.1 ≤ t))).length
def SortedT (evs : List Ev) : Prop := evs.Pairwise (fun a b => a.1 ≤ b.1)

end Go.Proofs.Ythdlhdeaeaahoaa

/-
  A slice of edges that the call owns: append.
-/
namespace Go.Proofs.Ythdlhdeaeaahoaa
open Go.RowKit

theorem infoEdge : (Try.prog.info? 48).map (fun i => (i.zero, i.size, i.bytes)) = some (some (.agg #[.int .u32 0, .int .u32 0]), 2, 8) := by kernel_rfl
def OwnE (w : World) (v : Value) (es : List (Nat × Nat)) : Prop := w.ownsRow 0 48 2 v es.length (erow es)
theorem OwnE.nil (w : World) : OwnE w (.slice none 0 0) [] := World.ownsRow_nil _ _ _ _
theorem OwnE.rd {w : World} {v : Value} {es : List (Nat × Nat)} (h : OwnE w v es) : RdE w v es := holdsN_own h
theorem OwnE.lt {w : World} {v : Value} {es : List (Nat × Nat)} (h : OwnE w v es) : ∀ k, v.ownBlock = some k → k < w.heap.size := fun k hk => (World.ownsRow.lt h k hk).2
theorem OwnE.alloc {w : World} {v : Value} {es : List (Nat × Nat)} (h : OwnE w v es) (o : Obj) : OwnE (w.alloc o) v es := World.ownsRow.alloc h o
theorem OwnE.frame {w w' : World} {v : Value} {es : List (Nat × Nat)} {S : Nat → Prop} (h : OwnE w v es) (f : Fr w w' S) (hs : ∀ k, v.ownBlock = some k → ¬ S k) : OwnE w' v es := f.owns h hs
theorem RdE.frame {w w' : World} {v : Value} {es : List (Nat × Nat)} {S : Nat → Prop} (h : RdE w v es) (f : Fr w w' S) (hs : 0 < es.length → ∀ k, v.ownBlock = some k → ¬ S k) : RdE w' v es := HoldsN.frame h f hs

/-- append onto edges that the call owns, of edges that can be read. -/
theorem app_edges (w : World) (v u : Value) (es fs : List (Nat × Nat)) (h : OwnE w v es) (hu : RdE w u fs) (hb : es.length + fs.length ≤ 100000000000) :
    ∃ v' w', (Builtin.append_ #[33, 33] 33 #[v, u]).run Try.prog w = .ok v' w' ∧ OwnE w' v' (es ++ fs) ∧ Fr w w' (fun k => v.ownBlock = some k) ∧ Moved w v v' := by
  obtain ⟨i0, hi, hz0, hz1, hz2⟩ := info_parts infoEdge
  obtain ⟨v', w', h1, h2, h3, h4⟩ := run_append_wide (P := Try.prog) w 33 33 48 i0 _ 2 8 Try.underlying33 hi hz0 hz1 hz2 rfl (by decide) (by decide) v _ _ h u _ _ hu (erow_one fs) hb
  refine ⟨v', w', h1, ?_, h3, h4⟩
  unfold OwnE
  rw [List.length_append, erow_append]
  exact h2
/-- .. of one edge that is written out. -/
theorem app_edge (w : World) (v : Value) (es : List (Nat × Nat)) (a b : Nat) (h : OwnE w v es) (hb : es.length ≤ 10000000) :
    ∃ v' w', (Builtin.append_ #[33, 33] 33 #[v, .slice (some ⟨w.heap.size, 0, none⟩) 1 1]).run Try.prog (w.alloc (.cells #[.int .u32 (a : Int), .int .u32 (b : Int)] 48)) = .ok v' w' ∧ OwnE w' v' (es ++ [(a, b)]) ∧ Fr (w.alloc (.cells #[.int .u32 (a : Int), .int .u32 (b : Int)] 48)) w' (fun k => v.ownBlock = some k) ∧ Moved w v v' := by
  obtain ⟨v', w', h1, h2, h3, h4⟩ := app_edges _ v _ es [(a, b)] (h.alloc (.cells #[.int .u32 (a : Int), .int .u32 (b : Int)] 48)) (holdsN_lit 2 w 48 1 (erow [(a, b)]) (by simp [erow, encE]) (by omega)) (by simp; omega)
  exact ⟨v', w', h1, h2, h3, h4.mono' (by simp)⟩

end Go.Proofs.Ythdlhdeaeaahoaa

/-
  The contracts of the reference's Right, Less, Before of edges and events.
-/
namespace Go.Proofs.Ythdlhdeaeaahoaa
open Go.RowKit

set_option maxRecDepth 4000 in
set_option maxHeartbeats 400000 in
theorem refRight8_any (u v n : Nat) (w : World) (hv : v < 4294967296) : Calls Try.prog 30 #[edgeV (u, v), .int .u64 (n : Int)] w fun e w' => e = .returned (.bool (eRight u v n)) ∧ Fr w w' (fun _ => False) := by
  unfold edgeV
  have wv : IntKind.u64.wrap (v : Int) = (v : Int) := by rw [IntKind.wrap_u64]; omega
  by_cases h1 : u < v
  · have d1 : decide ((u : Int) < (v : Int)) = true := decide_eq_true (by omega)
    have d1' : decide (u < v) = true := decide_eq_true h1
    by_cases h2 : v < n
    · have d2 : decide ((v : Int) < (n : Int)) = true := decide_eq_true (by omega)
      have d2' : decide (v < n) = true := decide_eq_true h2
      have Hr : Hid (eRight u v n = true) := decide_eq_true ⟨h1, h2⟩
      go_enter Try.func30, Try.ntmps30
      go_wp2
      go_ret
      exact ⟨by rw [Hr.out]; rfl, (Fr.refl w _).alloc _⟩
    · have d2 : decide ((v : Int) < (n : Int)) = false := decide_eq_false (by omega)
      have d2' : decide (v < n) = false := decide_eq_false h2
      have Hr : Hid (eRight u v n = false) := decide_eq_false (by omega)
      go_enter Try.func30, Try.ntmps30
      go_wp2
      go_ret
      exact ⟨by rw [Hr.out]; rfl, (Fr.refl w _).alloc _⟩
  · have d1 : decide ((u : Int) < (v : Int)) = false := decide_eq_false (by omega)
    have d1' : decide (u < v) = false := decide_eq_false h1
    have Hr : Hid (eRight u v n = false) := decide_eq_false (by omega)
    go_enter Try.func30, Try.ntmps30
    go_wp2
    go_ret
    exact ⟨by rw [Hr.out]; rfl, (Fr.refl w _).alloc _⟩

set_option maxRecDepth 4000 in
set_option maxHeartbeats 400000 in
theorem refLess8_any (a b : Nat × Nat) (w : World) : Calls Try.prog 41 #[edgeV a, edgeV b] w fun e w' => e = .returned (.bool (eLess a b)) ∧ Fr w w' (fun _ => False) := by
  obtain ⟨a1, a2⟩ := a
  obtain ⟨b1, b2⟩ := b
  unfold edgeV
  dsimp only
  by_cases h1 : a1 < b1
  · have d1 : decide ((a1 : Int) < (b1 : Int)) = true := decide_eq_true (by omega)
    have d1' : decide (a1 < b1) = true := decide_eq_true h1
    have Hr : Hid (eLess (a1, a2) (b1, b2) = true) := decide_eq_true (.inl h1)
    go_enter Try.func41, Try.ntmps41
    go_wp2
    go_ret
    exact ⟨by rw [Hr.out]; rfl, ((Fr.refl w _).alloc _).alloc _⟩
  · have d1 : decide ((a1 : Int) < (b1 : Int)) = false := decide_eq_false (by omega)
    have d1' : decide (a1 < b1) = false := decide_eq_false h1
    by_cases h2 : a1 = b1
    · have d2 : ((a1 : Int) == (b1 : Int)) = true := by simp [h2]
      have d2' : (a1 == b1) = true := by simp [h2]
      by_cases h3 : a2 < b2
      · have d3 : decide ((a2 : Int) < (b2 : Int)) = true := decide_eq_true (by omega)
        have d3' : decide (a2 < b2) = true := decide_eq_true h3
        have Hr : Hid (eLess (a1, a2) (b1, b2) = true) := decide_eq_true (.inr ⟨h2, h3⟩)
        clear h2
        go_enter Try.func41, Try.ntmps41
        go_wp2
        go_ret
        exact ⟨by rw [Hr.out]; rfl, ((Fr.refl w _).alloc _).alloc _⟩
      · have d3 : decide ((a2 : Int) < (b2 : Int)) = false := decide_eq_false (by omega)
        have d3' : decide (a2 < b2) = false := decide_eq_false h3
        have Hr : Hid (eLess (a1, a2) (b1, b2) = false) := decide_eq_false (by dsimp only; omega)
        clear h2
        go_enter Try.func41, Try.ntmps41
        go_wp2
        go_ret
        exact ⟨by rw [Hr.out]; rfl, ((Fr.refl w _).alloc _).alloc _⟩
    · have d2 : ((a1 : Int) == (b1 : Int)) = false := by rw [beq_eq_false_iff_ne]; omega
      have d2' : (a1 == b1) = false := by rw [beq_eq_false_iff_ne]; exact h2
      have Hr : Hid (eLess (a1, a2) (b1, b2) = false) := decide_eq_false (by dsimp only; omega)
      go_enter Try.func41, Try.ntmps41
      go_wp2
      go_ret
      exact ⟨by rw [Hr.out]; rfl, ((Fr.refl w _).alloc _).alloc _⟩

/-- An event as a value. -/
def eventV (t : Int) (e : Nat × Nat) (b : Bool) : Value := .agg #[.int .i64 t, .int .u32 (e.1 : Int), .int .u32 (e.2 : Int), .bool b]

set_option maxRecDepth 4000 in
set_option maxHeartbeats 800000 in
theorem refBefore8_any (s t : Int) (a b : Nat × Nat) (x y : Bool) (w : World) : Calls Try.prog 31 #[eventV s a x, eventV t b y] w fun e w' => e = .returned (.bool (eBefore s t a b)) ∧ Fr w w' (fun _ => False) := by
  unfold eventV
  by_cases h1 : s < t
  · have d1 : decide (s < t) = true := decide_eq_true h1
    have Hr : Hid (eBefore s t a b = true) := decide_eq_true (.inl h1)
    go_enter Try.func31, Try.ntmps31
    go_wp2
    go_ret
    exact ⟨by rw [Hr.out]; rfl, ((Fr.refl w _).alloc _).alloc _⟩
  · have d1 : decide (s < t) = false := decide_eq_false h1
    by_cases h2 : s = t
    · have d2 : (s == t) = true := by simp [h2]
      have Hr : Hid (eBefore s t a b = eLess a b) := by
        show _ = _
        unfold eBefore
        cases h : eLess a b <;> simp [h2]
      clear h2
      rw [Hr.out]
      obtain ⟨L, hL⟩ : ∃ L, L = eLess a b := ⟨_, rfl⟩
      rw [← hL]
      have HL : Hid _ := hL
      clear hL
      go_enter Try.func31, Try.ntmps31
      go_wp2_with fail
      refine (refLess8_any a b _).mono ?_
      rw [← HL.out]
      rintro e w1 ⟨rfl, hf1⟩
      have Hf1 : Hid (Fr w w1 (fun _ => False)) := (((Fr.refl w (fun _ => False)).alloc _).alloc _).none hf1
      clear hf1 Hr HL
      go_wp2
      go_ret
      exact ⟨rfl, Hf1.out⟩
    · have d2 : (s == t) = false := by rw [beq_eq_false_iff_ne]; exact h2
      have Hr : Hid (eBefore s t a b = false) := by
        show _ = _
        unfold eBefore
        simp [h1, h2]
      go_enter Try.func31, Try.ntmps31
      go_wp2
      go_ret
      exact ⟨by rw [Hr.out]; rfl, ((Fr.refl w _).alloc _).alloc _⟩

end Go.Proofs.Ythdlhdeaeaahoaa

/-
  Slices of events, of edges: how they lie in memory; parts of them; append.
-/
namespace Go.Proofs.Ythdlhdeaeaahoaa
open Go.RowKit

/-- An event as a value, as cells; events in a slice; a history. -/
def evV (x : Ev) : Value := eventV x.1 x.2.1 x.2.2
def encV (x : Ev) : List Value := [.int .i64 x.1, .int .u32 (x.2.1.1 : Int), .int .u32 (x.2.1.2 : Int), .bool x.2.2]
def vrow (xs : List Ev) : List Value := xs.flatMap encV
def RdV (w : World) (v : Value) (xs : List Ev) : Prop := HoldsN 4 w v xs.length (vrow xs)
def OwnV (w : World) (v : Value) (xs : List Ev) : Prop := w.ownsRow 0 53 4 v xs.length (vrow xs)
def histV (n : Nat) (v : Value) : Value := .agg #[.int .u64 (n : Int), v]
/-- The numbers fit. -/
def EvFit (x : Ev) : Prop := (-9223372036854775808 ≤ x.1 ∧ x.1 ≤ 9223372036854775807) ∧ x.2.1.1 < 4294967296 ∧ x.2.1.2 < 4294967296
def EgFit (x : Eg) : Prop := x.1 < 4294967296 ∧ x.2 < 4294967296

theorem vrow_length (xs : List Ev) : (vrow xs).length = xs.length * 4 := by
  induction xs with
  | nil => rfl
  | cons p ps ih => simp [vrow, encV] at ih ⊢; omega
theorem vrow_append (a b : List Ev) : vrow (a ++ b) = vrow a ++ vrow b := by simp [vrow]
theorem vrow_drop : ∀ (ps : List Ev) (n : Nat), (vrow ps).drop (n * 4) = vrow (ps.drop n)
  | [], n => by simp [vrow]
  | p :: ps, 0 => by simp [vrow]
  | p :: ps, n + 1 => by
    have := vrow_drop ps n
    simp only [vrow, List.flatMap_cons, List.drop_succ_cons] at this ⊢
    rw [Nat.succ_mul, List.drop_append, List.drop_eq_nil_of_le (by simp [encV])]
    simp [this, encV]
theorem vrow_take : ∀ (ps : List Ev) (n : Nat), (vrow ps).take (n * 4) = vrow (ps.take n)
  | [], n => by simp [vrow]
  | p :: ps, 0 => by simp [vrow]
  | p :: ps, n + 1 => by
    have := vrow_take ps n
    simp only [vrow, List.flatMap_cons, List.take_succ_cons] at this ⊢
    rw [Nat.succ_mul, List.take_append, List.take_of_length_le (by simp [encV])]
    simp [this, encV]
theorem erow_take : ∀ (ps : List Eg) (n : Nat), (erow ps).take (n * 2) = erow (ps.take n)
  | [], n => by simp [erow]
  | p :: ps, 0 => by simp [erow]
  | p :: ps, n + 1 => by
    have := erow_take ps n
    simp only [erow, List.flatMap_cons, List.take_succ_cons] at this ⊢
    rw [Nat.succ_mul, List.take_append, List.take_of_length_le (by simp [encE])]
    simp [this, encE]
theorem vrow_one (ps : List Ev) : ∀ u ∈ vrow ps, u.oneCell' = true := by
  intro u hu
  simp only [vrow, List.mem_flatMap] at hu
  obtain ⟨p, hp, hu⟩ := hu
  simp [encV] at hu
  rcases hu with rfl | rfl | rfl | rfl <;> rfl
theorem vrow_get (ps : List Ev) (i : Nat) (p : Ev) (h : ps[i]? = some p) : (vrow ps)[i * 4]? = some (.int .i64 p.1) ∧ (vrow ps)[i * 4 + 1]? = some (.int .u32 (p.2.1.1 : Int)) ∧ (vrow ps)[i * 4 + 2]? = some (.int .u32 (p.2.1.2 : Int)) ∧ (vrow ps)[i * 4 + 3]? = some (.bool p.2.2) := by
  have hd := vrow_drop ps i
  have hi : i < ps.length := (List.getElem?_eq_some_iff.1 h).1
  have e : ps.drop i = p :: ps.drop (i + 1) := by
    rw [List.drop_eq_getElem_cons hi]
    rw [List.getElem?_eq_getElem hi] at h
    simp only [Option.some.injEq] at h
    rw [h]
  rw [e] at hd
  have h0 : ((vrow ps).drop (i * 4))[0]? = some (.int .i64 p.1) := by rw [hd]; rfl
  have h1 : ((vrow ps).drop (i * 4))[1]? = some (.int .u32 (p.2.1.1 : Int)) := by rw [hd]; rfl
  have h2 : ((vrow ps).drop (i * 4))[2]? = some (.int .u32 (p.2.1.2 : Int)) := by rw [hd]; rfl
  have h3 : ((vrow ps).drop (i * 4))[3]? = some (.bool p.2.2) := by rw [hd]; rfl
  rw [List.getElem?_drop] at h0 h1 h2 h3
  exact ⟨h0, h1, h2, h3⟩

theorem HoldsN.drop {size : Nat} {w : World} {ao : Option Addr} {len cap : Nat} {xs : List Value} (h : HoldsN size w (.slice ao len cap) len xs) (n : Nat) (hn : n ≤ len) : HoldsN size w (.slice (if cap = n then ao else Option.map (fun x => x.add (n * size)) ao) (len - n) (cap - n)) (len - n) (xs.drop (n * size)) := by
  obtain ⟨hl, ao', cap0, e, hlc, hc⟩ := h
  simp only [Value.slice.injEq, true_and] at e
  obtain ⟨rfl, rfl⟩ := e
  refine ⟨by rw [List.length_drop, hl, Nat.sub_mul], _, _, rfl, by omega, fun hp => ?_⟩
  obtain ⟨b, off, rfl, hcell⟩ := hc (by omega)
  rw [if_neg (by omega)]
  refine ⟨b, off + n * size, by simp [add_none], fun j u hj => ?_⟩
  rw [List.getElem?_drop] at hj
  rw [Nat.add_assoc]
  exact hcell _ _ hj

theorem RdV.keep {w w' : World} {v : Value} {ps : List Ev} (h : RdV w v ps) (f : Fr w w' (fun _ => False)) : RdV w' v ps := HoldsN.keep h f
theorem RdV.frame {w w' : World} {v : Value} {es : List Ev} {S : Nat → Prop} (h : RdV w v es) (f : Fr w w' S) (hs : 0 < es.length → ∀ k, v.ownBlock = some k → ¬ S k) : RdV w' v es := HoldsN.frame h f hs
theorem RdV.form {w : World} {v : Value} {ps : List Ev} (h : RdV w v ps) : ∃ ao cap, v = .slice ao ps.length cap ∧ ps.length ≤ cap := by
  obtain ⟨-, ao, cap, h1, h2, -⟩ := h
  exact ⟨ao, cap, h1, h2⟩
theorem RdV.get {w : World} {v : Value} {ps : List Ev} (h : RdV w v ps) (i : Nat) (p : Ev) (hi : ps[i]? = some p) :
    ∃ b off cap, v = .slice (some ⟨b, off, none⟩) ps.length cap ∧ b < w.heap.size ∧ ∀ x, Fr w x (fun k => k ≠ b) → x.cell? ⟨b, off + i * 4, none⟩ = some (.int .i64 p.1) ∧ x.cell? ⟨b, off + i * 4 + 1, none⟩ = some (.int .u32 (p.2.1.1 : Int)) ∧ x.cell? ⟨b, off + i * 4 + 2, none⟩ = some (.int .u32 (p.2.1.2 : Int)) ∧ x.cell? ⟨b, off + i * 4 + 3, none⟩ = some (.bool p.2.2) := by
  obtain ⟨-, ao, cap, rfl, h2, hc⟩ := h
  have hil := (List.getElem?_eq_some_iff.1 hi).1
  obtain ⟨b, off, rfl, hcell⟩ := hc (by omega)
  obtain ⟨g0, g1, g2, g3⟩ := vrow_get ps i p hi
  have c0 := hcell _ _ g0
  have c1 := hcell _ _ g1
  have c2 := hcell _ _ g2
  have c3 := hcell _ _ g3
  have hb := World.block_lt_of_cell? _ _ c0
  refine ⟨b, off, cap, rfl, hb, fun x hx => ?_⟩
  have hbk := hx.block b hb (fun h => h rfl)
  refine ⟨(World.cell?_of_block (w := w) hbk).trans c0, (World.cell?_of_block (w := w) hbk).trans ?_, (World.cell?_of_block (w := w) hbk).trans ?_, (World.cell?_of_block (w := w) hbk).trans ?_⟩
  · rw [Nat.add_assoc]; exact c1
  · rw [Nat.add_assoc]; exact c2
  · rw [Nat.add_assoc]; exact c3
theorem RdV.take {w : World} {ao : Option Addr} {len cap : Nat} {xs : List Ev} (h : RdV w (.slice ao len cap) xs) (hl : xs.length = len) (n : Nat) (hn : n ≤ len) : RdV w (.slice ao n cap) (xs.take n) := by
  subst hl
  have := HoldsN.take (size := 4) h n hn
  rw [vrow_take] at this
  unfold RdV
  rw [List.length_take, Nat.min_eq_left hn]
  exact this
theorem RdV.drop {w : World} {ao : Option Addr} {len cap : Nat} {xs : List Ev} (h : RdV w (.slice ao len cap) xs) (hl : xs.length = len) (n : Nat) (hn : n ≤ len) : RdV w (.slice (if cap = n then ao else Option.map (fun x => x.add (n * 4)) ao) (len - n) (cap - n)) (xs.drop n) := by
  subst hl
  have := HoldsN.drop (size := 4) h n hn
  rw [vrow_drop] at this
  unfold RdV
  rw [List.length_drop]
  exact this
theorem RdE.take {w : World} {ao : Option Addr} {len cap : Nat} {xs : List Eg} (h : RdE w (.slice ao len cap) xs) (hl : xs.length = len) (n : Nat) (hn : n ≤ len) : RdE w (.slice ao n cap) (xs.take n) := by
  subst hl
  have := HoldsN.take (size := 2) h n hn
  rw [erow_take] at this
  unfold RdE
  rw [List.length_take, Nat.min_eq_left hn]
  exact this
theorem RdE.drop {w : World} {ao : Option Addr} {len cap : Nat} {xs : List Eg} (h : RdE w (.slice ao len cap) xs) (hl : xs.length = len) (n : Nat) (hn : n ≤ len) : RdE w (.slice (if cap = n then ao else Option.map (fun x => x.add (n * 2)) ao) (len - n) (cap - n)) (xs.drop n) := by
  subst hl
  have := HoldsN.drop (size := 2) h n hn
  rw [erow_drop] at this
  unfold RdE
  rw [List.length_drop]
  exact this
/-- No edges, no events: whatever the slice of none. -/
theorem RdE.nil (w : World) : RdE w (.slice none 0 0) [] := (OwnE.nil w).rd
theorem OwnV.nil (w : World) : OwnV w (.slice none 0 0) [] := World.ownsRow_nil _ _ _ _
theorem OwnV.rd {w : World} {v : Value} {es : List Ev} (h : OwnV w v es) : RdV w v es := holdsN_own h
theorem RdV.nil (w : World) : RdV w (.slice none 0 0) [] := (OwnV.nil w).rd
theorem OwnV.lt {w : World} {v : Value} {es : List Ev} (h : OwnV w v es) : ∀ k, v.ownBlock = some k → k < w.heap.size := fun k hk => (World.ownsRow.lt h k hk).2
theorem OwnV.alloc {w : World} {v : Value} {es : List Ev} (h : OwnV w v es) (o : Obj) : OwnV (w.alloc o) v es := World.ownsRow.alloc h o
theorem OwnV.frame {w w' : World} {v : Value} {es : List Ev} {S : Nat → Prop} (h : OwnV w v es) (f : Fr w w' S) (hs : ∀ k, v.ownBlock = some k → ¬ S k) : OwnV w' v es := f.owns h hs

theorem infoEvent : (Try.prog.info? 53).map (fun i => (i.zero, i.size, i.bytes)) = some (some (.agg #[.int .i64 0, .int .u32 0, .int .u32 0, .bool false]), 4, 24) := by kernel_rfl
/-- append onto events that the call owns, of events that can be read. -/
theorem app_events (w : World) (v u : Value) (es fs : List Ev) (h : OwnV w v es) (hu : RdV w u fs) (hb : es.length + fs.length ≤ 100000000000) :
    ∃ v' w', (Builtin.append_ #[23, 23] 23 #[v, u]).run Try.prog w = .ok v' w' ∧ OwnV w' v' (es ++ fs) ∧ Fr w w' (fun k => v.ownBlock = some k) ∧ Moved w v v' := by
  obtain ⟨i0, hi, hz0, hz1, hz2⟩ := info_parts infoEvent
  obtain ⟨v', w', h1, h2, h3, h4⟩ := run_append_wide (P := Try.prog) w 23 23 53 i0 _ 4 24 Try.underlying23 hi hz0 hz1 hz2 rfl (by decide) (by decide) v _ _ h u _ _ hu (vrow_one fs) hb
  refine ⟨v', w', h1, ?_, h3, h4⟩
  unfold OwnV
  rw [List.length_append, vrow_append]
  exact h2
theorem lit_event (w : World) (x : Ev) : RdV (w.alloc (.cells #[.int .i64 x.1, .int .u32 (x.2.1.1 : Int), .int .u32 (x.2.1.2 : Int), .bool x.2.2] 53)) (.slice (some ⟨w.heap.size, 0, none⟩) 1 1) [x] :=
  holdsN_lit 4 w 53 1 (vrow [x]) (by simp [vrow, encV]) (by omega)
/-- .. of one event that is written out. -/
theorem app_event (w : World) (v : Value) (es : List Ev) (x : Ev) (h : OwnV w v es) (hb : es.length ≤ 10000000) :
    ∃ v' w', (Builtin.append_ #[23, 23] 23 #[v, .slice (some ⟨w.heap.size, 0, none⟩) 1 1]).run Try.prog (w.alloc (.cells #[.int .i64 x.1, .int .u32 (x.2.1.1 : Int), .int .u32 (x.2.1.2 : Int), .bool x.2.2] 53)) = .ok v' w' ∧ OwnV w' v' (es ++ [x]) ∧ Fr (w.alloc (.cells #[.int .i64 x.1, .int .u32 (x.2.1.1 : Int), .int .u32 (x.2.1.2 : Int), .bool x.2.2] 53)) w' (fun k => v.ownBlock = some k) ∧ Moved w v v' := by
  obtain ⟨v', w', h1, h2, h3, h4⟩ := app_events _ v _ es [x] (h.alloc _) (lit_event w x) (by simp; omega)
  exact ⟨v', w', h1, h2, h3, h4.mono' (by simp)⟩

/-- What touches only blocks that are newer touches nothing that was there. -/
theorem Fr.old {w w' : World} {N : Nat} (h : Fr w w' (fun k => N ≤ k)) (hN : w.heap.size ≤ N) : Fr w w' (fun _ => False) := h.mono (fun i hi hs => by omega)
/-- append onto none; onto what is new. -/
theorem app_edges_nil (w : World) (u : Value) (fs : List Eg) (N : Nat) (hN : N ≤ w.heap.size) (hu : RdE w u fs) (hb : fs.length ≤ 100000000000) :
    ∃ v' w', (Builtin.append_ #[33, 33] 33 #[.slice none 0 0, u]).run Try.prog w = .ok v' w' ∧ OwnE w' v' fs ∧ Fr w w' (fun k => N ≤ k) ∧ (∀ k, v'.ownBlock = some k → N ≤ k) := by
  obtain ⟨v', w', h1, h2, h3, h4⟩ := app_edges w (.slice none 0 0) u [] fs (OwnE.nil w) hu (by simpa using hb)
  refine ⟨v', w', h1, by simpa using h2, h3.mono (fun i _ hi => by simp [Value.ownBlock] at hi), fun k hk => ?_⟩
  rcases h4 k hk with h | h
  · simp [Value.ownBlock] at h
  · omega
theorem app_edges_new (w : World) (v u : Value) (es fs : List Eg) (N : Nat) (hN : N ≤ w.heap.size) (h : OwnE w v es) (hv : ∀ k, v.ownBlock = some k → N ≤ k) (hu : RdE w u fs) (hb : es.length + fs.length ≤ 100000000000) :
    ∃ v' w', (Builtin.append_ #[33, 33] 33 #[v, u]).run Try.prog w = .ok v' w' ∧ OwnE w' v' (es ++ fs) ∧ Fr w w' (fun k => N ≤ k) ∧ (∀ k, v'.ownBlock = some k → N ≤ k) := by
  obtain ⟨v', w', h1, h2, h3, h4⟩ := app_edges w v u es fs h hu hb
  refine ⟨v', w', h1, h2, h3.mono (fun i _ hi => hv i hi), fun k hk => ?_⟩
  rcases h4 k hk with h | h
  · exact hv k h
  · omega
theorem app_events_nil (w : World) (u : Value) (fs : List Ev) (N : Nat) (hN : N ≤ w.heap.size) (hu : RdV w u fs) (hb : fs.length ≤ 100000000000) :
    ∃ v' w', (Builtin.append_ #[23, 23] 23 #[.slice none 0 0, u]).run Try.prog w = .ok v' w' ∧ OwnV w' v' fs ∧ Fr w w' (fun k => N ≤ k) ∧ (∀ k, v'.ownBlock = some k → N ≤ k) := by
  obtain ⟨v', w', h1, h2, h3, h4⟩ := app_events w (.slice none 0 0) u [] fs (OwnV.nil w) hu (by simpa using hb)
  refine ⟨v', w', h1, by simpa using h2, h3.mono (fun i _ hi => by simp [Value.ownBlock] at hi), fun k hk => ?_⟩
  rcases h4 k hk with h | h
  · simp [Value.ownBlock] at h
  · omega
theorem app_events_new (w : World) (v u : Value) (es fs : List Ev) (N : Nat) (hN : N ≤ w.heap.size) (h : OwnV w v es) (hv : ∀ k, v.ownBlock = some k → N ≤ k) (hu : RdV w u fs) (hb : es.length + fs.length ≤ 100000000000) :
    ∃ v' w', (Builtin.append_ #[23, 23] 23 #[v, u]).run Try.prog w = .ok v' w' ∧ OwnV w' v' (es ++ fs) ∧ Fr w w' (fun k => N ≤ k) ∧ (∀ k, v'.ownBlock = some k → N ≤ k) := by
  obtain ⟨v', w', h1, h2, h3, h4⟩ := app_events w v u es fs h hu hb
  refine ⟨v', w', h1, h2, h3.mono (fun i _ hi => hv i hi), fun k hk => ?_⟩
  rcases h4 k hk with h | h
  · exact hv k h
  · omega
theorem lit_edge (w : World) (a b : Nat) : RdE (w.alloc (.cells #[.int .u32 (a : Int), .int .u32 (b : Int)] 48)) (.slice (some ⟨w.heap.size, 0, none⟩) 1 1) [(a, b)] :=
  holdsN_lit 2 w 48 1 (erow [(a, b)]) (by simp [erow, encE]) (by omega)
theorem four_cells {w : World} {x0 x1 x2 x3 : Value} {T : TypeId} {p : Nat} (h : w.heap[p]? = some (.cells #[x0, x1, x2, x3] T (0, 0))) : w.cell? ⟨p, 0, none⟩ = some x0 ∧ w.cell? ⟨p, 1, none⟩ = some x1 ∧ w.cell? ⟨p, 2, none⟩ = some x2 ∧ w.cell? ⟨p, 3, none⟩ = some x3 := by
  refine ⟨?_, ?_, ?_, ?_⟩ <;> simp [World.cell?, h]

end Go.Proofs.Ythdlhdeaeaahoaa
