/-
  What the package-level variable strconv.ErrRange holds: it lies in the world that the call begins with, and stays.
-/
import Derived.Test.YtchkojdpnbecoaaDoorRows
import Derived.Test.YtchkojdpnbecoaaDoorMem
import Derived.LaidLaws
import Derived.LaidMore
import Derived.MakeChecks
namespace Go.Proofs.YtchkojdpnbecoaaDoor
open Go.RowKit

theorem laid_one {P : Program} {w : World} {n : String} {d : DataW Unit} : ∀ {l : List (String × DataW Unit)} {ps : List MemPlace}, DataW.LaidVars P w l ps → (n, d) ∈ l →
    ∃ g t cs fuel p, P.globalNamed n = some g ∧ (P.globals[g]?).map (·.type) = some t ∧ w.var? P n = some cs ∧ DataW.trod (fun _ => ()) P w 0 (fun _ => true) false fuel t cs.toList = some (d, p)
  | [], _, _, hm => by cases hm
  | (m, e) :: r, ps, h, hm => by
    obtain ⟨g, t, cs, fuel, p, q, h1, h2, h3, h4, h5, -⟩ := h
    rcases List.mem_cons.1 hm with he | hr
    · obtain ⟨rfl, rfl⟩ := Prod.mk.inj he
      exact ⟨g, t, cs, fuel, p, h1, h2, h3, h4⟩
    · exact laid_one h5 hr

/-- The variable's cell holds an error that isn't nil. -/
def KVar (w : World) : Prop := ∃ te pe, w.cell? ⟨1, 0, none⟩ = some (.iface te pe)
theorem KVar.keep {w w' : World} (h : KVar w) (f : Fr w w' (fun _ => False)) : KVar w' := by
  obtain ⟨te, pe, hc⟩ := h
  refine ⟨te, pe, ?_⟩
  rw [← hc]
  unfold World.cell?
  cases hb : w.heap[1]? with
  | none =>
    rw [World.cell?, hb] at hc
    cases hc
  | some o => rw [f.kept hb (fun h => h)]
theorem kglob : Tryd.prog.globalNamed "strconv.ErrRange" = some 1 := by kernel_rfl
theorem kglobT : (Tryd.prog.globals[1]?).map (·.type) = some 63 := by kernel_rfl
theorem kvar_of_laid {W : World} {l : List (String × DataW Unit)} (hl : (l.all fun x => x.2.handleName?.isNone) = true) (hm : ("strconv.ErrRange", Rows.laid_strconv_ErrRange) ∈ l) (h : laidMetH Tryd.prog l W) : KVar W := by
  rw [MakeChecks.laidMetH_plain _ _ _ hl] at h
  obtain ⟨ps, hv, -⟩ := h
  obtain ⟨g, t, cs, fuel, p, h1, h2, h3, h4⟩ := laid_one hv hm
  obtain rfl := Option.some.inj (kglob.symm.trans h1)
  obtain rfl := Option.some.inj (kglobT.symm.trans h2)
  obtain ⟨f1, u, v, hcs, -⟩ := iface_of_trod Tryd.underlying63 h4
  refine ⟨u, v, ?_⟩
  have := World.var?_cell h1 h3 0
  rw [this, ← Array.getElem?_toList, hcs]
  rfl

end Go.Proofs.YtchkojdpnbecoaaDoor
