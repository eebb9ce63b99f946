/-
  A call of the library's sort over a slice that the call owns: its order, its function of two places (which may lay new blocks), its swap; what each of its parts is asked.
-/
import Derived.Test.YthdlhdeaeaahoaaGFlat
import Derived.Sort.AssemblyPlain
namespace Go.Proofs.Ythdlhdeaeaahoaa
open Go.RowKit Go.Sort

structure SortC (α : Type) where
  enc : α → List Value
  k : Nat
  T : TypeId
  lt : α → α → Bool
  b : Nat
  cap : Nat
  n : Nat
  g : Nat
  lb : Array Value
  sf : Nat
  sb : Array Value

section
variable {α : Type} [Inhabited α]
/-- The slice, as it lies. -/
def SortC.own (C : SortC α) (w : World) (d : Array α) : Prop := d.size = C.n ∧ w.ownsRow 0 C.T C.k (.slice (some ⟨C.b, 0, none⟩) C.n C.cap) C.n (d.toList.flatMap C.enc)
/-- A world that the sort may come to, from w0. -/
def SortC.At (C : SortC α) (w0 w : World) (d : Array α) : Prop := C.own w d ∧ Fr w0 w (fun j => j = C.b)
/-- What the sort is handed, as a value, as a block's cells. -/
def SortC.dat (C : SortC α) : Array Value := #[.func (.func C.g) #[] C.lb, .func (.func C.sf) #[] C.sb]
/-- What is asked, w0 being the world of the call. -/
structure SortC.Ok (C : SortC α) (w0 : World) : Prop where
  swo : SWO C.lt
  hn : C.n ≤ 1000000000
  hb : C.b < w0.heap.size
  eg : ∀ args w, (callFunc C.g args).run Try.prog w = .ok (.enter C.g args) w
  less : ∀ (w : World) (d : Array α), C.At w0 w d → ∀ i j : Nat, i < C.n → j < C.n → Calls Try.prog C.g (#[.int .i64 i, .int .i64 j] ++ C.lb) w fun e w' => e = .returned (.bool (C.lt d[i]! d[j]!)) ∧ Fr w w' (fun _ => False)
  swap : ∀ (w : World) (d : Array α), C.own w d → ∀ i j : Nat, i < C.n → j < C.n → ∃ w', (callFunc C.sf (#[.int .i64 i, .int .i64 j] ++ C.sb)).run Try.prog w = .ok (.value (.tuple #[])) w' ∧ C.own w' (swp d i j) ∧ Fr w w' (fun j => j = C.b)
  holds : ∀ (w : World) (d : Array α), C.own w d → HoldsK C.enc C.k w C.b 0 d

end

theorem SortC.At.none {α : Type} {C : SortC α} {w0 w w' : World} {d : Array α} (h : C.At w0 w d) (f : Fr w w' (fun _ => False)) : C.At w0 w' d :=
  ⟨⟨h.1.1, f.owns h.1.2 (fun _ _ h => h)⟩, h.2.none f⟩
theorem SortC.own.frame {α : Type} {C : SortC α} {w w' : World} {d : Array α} {S : Nat → Prop} (h : C.own w d) (f : Fr w w' S) (hs : ¬ S C.b) : C.own w' d :=
  ⟨h.1, f.owns h.2 (fun k hk => by simp only [Value.ownBlock, Option.some.injEq] at hk; subst hk; exact hs)⟩
theorem SortC.At.then {α : Type} {C : SortC α} {w0 w w' : World} {d d' : Array α} (h : C.At w0 w d) (h' : C.own w' d') (f : Fr w w' (fun j => j = C.b)) : C.At w0 w' d' :=
  ⟨h', h.2.trans f (fun _ _ h => h)⟩

end Go.Proofs.Ythdlhdeaeaahoaa
