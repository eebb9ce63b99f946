/-
  No cell of these rows narrows 'for every input' (looked for: loops, veiled, ifaces, maps, wideKeys, modest, calm, conditions, laid).
  DERIVED. THE GIVEN ROWS OF THIS SEAT. 5 by the template 'for every input the law returns true; each argument reads behind the call as it read before'; 0 by the template 'total and deterministic' (their statements: YtclfbdfgmeliaaaTotals.lean).
  GIVEN WITH THE SEED: the statements are not yours to turn. If you find one false, say at which input.
  Laid BY PROGRAM, IN A SANDBOX (cutbox-rows.mjs): the forced cells as the released guide's own fill.sh prints them over the translation 7e5aab2a366a5cc8… (all of the seat's roots in one cut). By AI agents, Wed Nov 11 2026. No macro, syntax, notation, axiom, sorry.
-/
import Derived.Test.YtclfbdfgmeliaaaChecked
import GoSem.Claim
import GoSem.ClaimJoined
import GoSem.ClaimMapViews
import Derived.JoinedTies
import Derived.KernelRfl
namespace Go.Proofs.Ytclfbdfgmeliaaa
/- THE CELL 'sum', in the pinned program and in every row, IS THE sha256 OF THE DUMP (.gsa) THAT YtclfbdfgmeliaaaProg.lean LOADS. Nothing in Lean hashes anything: it is a label: what it is worth is what the hold of that sum in a sandbox is worth. -/
noncomputable def Try.pinned : Pinned := { name := "ytclfbdfgmeliaaa", sum := "7e5aab2a366a5cc890f7bf968d3000c2b7f2fb79583780fdcf7c7942c36c405d", checked := Try.checked }
namespace Rows
def none {H : Type} : Left H := { results := [], args := [] }

/-- 'archipelagolaw7.HuffTells': WHATEVER THE INPUT: true; the input reads as it did. -/
def huffTellsSpec : ChangeSpec := { name := "huffTells", fn := fun _ => fun
  | [d1, d2, d3, d4, d5, d6] => { results := [.lit (.bool true)], args := [d1, d2, d3, d4, d5, d6] }
  | _ => none }
def huffTellsRow : OpenClaim := { program := "ytclfbdfgmeliaaa", sum := "7e5aab2a366a5cc890f7bf968d3000c2b7f2fb79583780fdcf7c7942c36c405d", func := "archipelago/archipelagolaw7.HuffTells", spec := "huffTells", unfollowed := true, recurses := true, apart := false }
def HuffTellsSaid : Prop := huffTellsRow.holds Try.pinned (OpenSpec.ofChange huffTellsSpec)

/-- ITS FALSE NEIGHBOUR: 'it returns false'. Refute it at one input. -/
def huffTellsWrong : ChangeSpec := { name := "huffTells", fn := fun _ => fun
  | [d1, d2, d3, d4, d5, d6] => { results := [.lit (.bool false)], args := [d1, d2, d3, d4, d5, d6] }
  | _ => none }
def HuffTellsWrongFalsely : Prop := huffTellsRow.holds Try.pinned (OpenSpec.ofChange huffTellsWrong)

/-- 'archipelagolaw7.HuffBack': WHATEVER THE INPUT: true; the input reads as it did. -/
def huffBackSpec : ChangeSpec := { name := "huffBack", fn := fun _ => fun
  | [d1, d2, d3, d4] => { results := [.lit (.bool true)], args := [d1, d2, d3, d4] }
  | _ => none }
def huffBackRow : OpenClaim := { program := "ytclfbdfgmeliaaa", sum := "7e5aab2a366a5cc890f7bf968d3000c2b7f2fb79583780fdcf7c7942c36c405d", func := "archipelago/archipelagolaw7.HuffBack", spec := "huffBack", unfollowed := true, recurses := true, apart := false }
def HuffBackSaid : Prop := huffBackRow.holds Try.pinned (OpenSpec.ofChange huffBackSpec)

/-- ITS FALSE NEIGHBOUR: 'it returns false'. Refute it at one input. -/
def huffBackWrong : ChangeSpec := { name := "huffBack", fn := fun _ => fun
  | [d1, d2, d3, d4] => { results := [.lit (.bool false)], args := [d1, d2, d3, d4] }
  | _ => none }
def HuffBackWrongFalsely : Prop := huffBackRow.holds Try.pinned (OpenSpec.ofChange huffBackWrong)

/-- 'archipelagolaw7.HuffSmall': WHATEVER THE INPUT: true; the input reads as it did. -/
def huffSmallSpec : ChangeSpec := { name := "huffSmall", fn := fun _ => fun
  | [d1, d2, d3] => { results := [.lit (.bool true)], args := [d1, d2, d3] }
  | _ => none }
def huffSmallRow : OpenClaim := { program := "ytclfbdfgmeliaaa", sum := "7e5aab2a366a5cc890f7bf968d3000c2b7f2fb79583780fdcf7c7942c36c405d", func := "archipelago/archipelagolaw7.HuffSmall", spec := "huffSmall", unfollowed := true, recurses := true, apart := false }
def HuffSmallSaid : Prop := huffSmallRow.holds Try.pinned (OpenSpec.ofChange huffSmallSpec)

/-- ITS FALSE NEIGHBOUR: 'it returns false'. Refute it at one input. -/
def huffSmallWrong : ChangeSpec := { name := "huffSmall", fn := fun _ => fun
  | [d1, d2, d3] => { results := [.lit (.bool false)], args := [d1, d2, d3] }
  | _ => none }
def HuffSmallWrongFalsely : Prop := huffSmallRow.holds Try.pinned (OpenSpec.ofChange huffSmallWrong)

/-- 'archipelagolaw7.HuffCounts': WHATEVER THE INPUT: true; the input reads as it did. -/
def huffCountsSpec : ChangeSpec := { name := "huffCounts", fn := fun _ => fun
  | [d1, d2, d3] => { results := [.lit (.bool true)], args := [d1, d2, d3] }
  | _ => none }
def huffCountsRow : OpenClaim := { program := "ytclfbdfgmeliaaa", sum := "7e5aab2a366a5cc890f7bf968d3000c2b7f2fb79583780fdcf7c7942c36c405d", func := "archipelago/archipelagolaw7.HuffCounts", spec := "huffCounts", unfollowed := true, recurses := true, apart := false }
def HuffCountsSaid : Prop := huffCountsRow.holds Try.pinned (OpenSpec.ofChange huffCountsSpec)

/-- ITS FALSE NEIGHBOUR: 'it returns false'. Refute it at one input. -/
def huffCountsWrong : ChangeSpec := { name := "huffCounts", fn := fun _ => fun
  | [d1, d2, d3] => { results := [.lit (.bool false)], args := [d1, d2, d3] }
  | _ => none }
def HuffCountsWrongFalsely : Prop := huffCountsRow.holds Try.pinned (OpenSpec.ofChange huffCountsWrong)

/-- 'archipelagolaw7.HuffAll': WHATEVER THE INPUT: true; the input reads as it did. -/
def huffAllSpec : ChangeSpec := { name := "huffAll", fn := fun _ => fun
  | [d1, d2] => { results := [.lit (.bool true)], args := [d1, d2] }
  | _ => none }
def huffAllRow : OpenClaim := { program := "ytclfbdfgmeliaaa", sum := "7e5aab2a366a5cc890f7bf968d3000c2b7f2fb79583780fdcf7c7942c36c405d", func := "archipelago/archipelagolaw7.HuffAll", spec := "huffAll", unfollowed := true, recurses := true, apart := false }
def HuffAllSaid : Prop := huffAllRow.holds Try.pinned (OpenSpec.ofChange huffAllSpec)

/-- ITS FALSE NEIGHBOUR: 'it returns false'. Refute it at one input. -/
def huffAllWrong : ChangeSpec := { name := "huffAll", fn := fun _ => fun
  | [d1, d2] => { results := [.lit (.bool false)], args := [d1, d2] }
  | _ => none }
def HuffAllWrongFalsely : Prop := huffAllRow.holds Try.pinned (OpenSpec.ofChange huffAllWrong)

/- THE SECOND FORM. 'bulk': how many values and letters a reading holds, each counted each time it is reached (what is shared counts as often as it is met; a slice's spare places count too). A statement '..UptoSaid' is the law's where the arguments, and the package variables that the reading takes, are together of bulk at most 1048576: NARROWER than '..Said'. Prove '..Said' where nothing that the law and all that it calls make is longer than what came in: it says more and counts as full. Else prove '..UptoSaid'. A law counts once. -/
mutual
def uptoBulk {H : Type} : DataW H → Nat
  | .lit (.string bytes) => bytes.length + 1
  | .lit _ => 1
  | .nil => 1
  | .ptr d => uptoBulk d + 1
  | .slice elems spare => uptoBulkAll elems + uptoBulkAll spare + 1
  | .agg parts => uptoBulkAll parts + 1
  | .iface _ d => uptoBulk d + 1
  | .map entries => uptoBulkEntries entries + 1
  | .held _ => 1
def uptoBulkAll {H : Type} : List (DataW H) → Nat
  | [] => 0
  | d :: r => uptoBulk d + uptoBulkAll r
def uptoBulkEntries {H : Type} : List (Lit × DataW H) → Nat
  | [] => 0
  | x :: r => uptoBulkEntry x + uptoBulkEntries r
def uptoBulkEntry {H : Type} : Lit × DataW H → Nat
  | (.string bytes, d) => bytes.length + uptoBulk d + 1
  | (_, d) => uptoBulk d + 1
 end
def uptoSmall : (H : Type) → List (DataW H) → Bool := fun _ ds => decide (uptoBulkAll ds ≤ 1048576)
def OpenSpec.upto (s : _root_.Go.ChangeSpec) : _root_.Go.OpenSpec := { _root_.Go.OpenSpec.ofChange s with cond := some uptoSmall }

/-- 'archipelagolaw7.HuffTells', WHERE WHAT IT READS IS OF BULK AT MOST 1048576: true; the input reads as it did. -/
def huffTellsUptoRow : OpenClaim := { program := "ytclfbdfgmeliaaa", sum := "7e5aab2a366a5cc890f7bf968d3000c2b7f2fb79583780fdcf7c7942c36c405d", func := "archipelago/archipelagolaw7.HuffTells", spec := "huffTells", unfollowed := true, recurses := true, apart := false, narrowed := true }
def HuffTellsUptoSaid : Prop := huffTellsUptoRow.holds Try.pinned (OpenSpec.upto huffTellsSpec)

/-- 'archipelagolaw7.HuffBack', WHERE WHAT IT READS IS OF BULK AT MOST 1048576: true; the input reads as it did. -/
def huffBackUptoRow : OpenClaim := { program := "ytclfbdfgmeliaaa", sum := "7e5aab2a366a5cc890f7bf968d3000c2b7f2fb79583780fdcf7c7942c36c405d", func := "archipelago/archipelagolaw7.HuffBack", spec := "huffBack", unfollowed := true, recurses := true, apart := false, narrowed := true }
def HuffBackUptoSaid : Prop := huffBackUptoRow.holds Try.pinned (OpenSpec.upto huffBackSpec)

/-- 'archipelagolaw7.HuffSmall', WHERE WHAT IT READS IS OF BULK AT MOST 1048576: true; the input reads as it did. -/
def huffSmallUptoRow : OpenClaim := { program := "ytclfbdfgmeliaaa", sum := "7e5aab2a366a5cc890f7bf968d3000c2b7f2fb79583780fdcf7c7942c36c405d", func := "archipelago/archipelagolaw7.HuffSmall", spec := "huffSmall", unfollowed := true, recurses := true, apart := false, narrowed := true }
def HuffSmallUptoSaid : Prop := huffSmallUptoRow.holds Try.pinned (OpenSpec.upto huffSmallSpec)

/-- 'archipelagolaw7.HuffCounts', WHERE WHAT IT READS IS OF BULK AT MOST 1048576: true; the input reads as it did. -/
def huffCountsUptoRow : OpenClaim := { program := "ytclfbdfgmeliaaa", sum := "7e5aab2a366a5cc890f7bf968d3000c2b7f2fb79583780fdcf7c7942c36c405d", func := "archipelago/archipelagolaw7.HuffCounts", spec := "huffCounts", unfollowed := true, recurses := true, apart := false, narrowed := true }
def HuffCountsUptoSaid : Prop := huffCountsUptoRow.holds Try.pinned (OpenSpec.upto huffCountsSpec)

/-- 'archipelagolaw7.HuffAll', WHERE WHAT IT READS IS OF BULK AT MOST 1048576: true; the input reads as it did. -/
def huffAllUptoRow : OpenClaim := { program := "ytclfbdfgmeliaaa", sum := "7e5aab2a366a5cc890f7bf968d3000c2b7f2fb79583780fdcf7c7942c36c405d", func := "archipelago/archipelagolaw7.HuffAll", spec := "huffAll", unfollowed := true, recurses := true, apart := false, narrowed := true }
def HuffAllUptoSaid : Prop := huffAllUptoRow.holds Try.pinned (OpenSpec.upto huffAllSpec)

end Rows
end Go.Proofs.Ytclfbdfgmeliaaa
