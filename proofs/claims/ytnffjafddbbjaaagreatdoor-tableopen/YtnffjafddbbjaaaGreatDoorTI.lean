/-
  What the statements ask of table's functions, as one condition; and the laws' own first test under it.
-/
import Derived.Test.YtnffjafddbbjaaaGreatDoorTTabW
import Derived.Test.YtnffjafddbbjaaaGreatDoorJ1
import Derived.Deep.CutRange
namespace Go.Proofs.YtnffjafddbbjaaaGreatDoor
open Go.RowKit

structure TI (K : World → Prop) : Prop where
  keep : ∀ {w w'}, K w → Fr w w' (fun _ => False) → K w'
  print : ∀ (n : Nat) (v : Value) (evs : List Ev) (w : World), RdV w v evs → n < 18446744073709551616 → evs.length ≤ 100000 → (∀ x ∈ evs, EvFit x) → K w → Calls Tryz.prog 12 #[histV n v] w fun r w' =>
    r = .returned (.tuple #[.string (prTab n evs), .int .i64 ((checkF n evs).2 : Int)]) ∧ Fr w w' (fun _ => False)
  parse : ∀ (s : ByteArray) (w : World), s.size ≤ 100000 → K w → Calls Tryz.prog 14 #[.string s] w fun r w' =>
    (∃ v', r = .returned (.tuple #[histV (parseTab s).n v', placeR (parseTab s), .int .i64 ((parseTab s).err : Int)]) ∧ RdV w' v' (parseTab s).evs) ∧ Fr w w' (fun _ => False)

def tkL1 : ByteArray := ⟨#[116, 97, 98, 108, 101, 32, 50, 10, 48, 32, 49, 32, 48, 32, 45, 10]⟩
def tkL2 : ByteArray := ⟨#[116, 97, 98, 108, 101, 32, 50, 10, 48, 32, 49, 32, 48, 32, 48, 10]⟩
def tkEv : Ev := (0, (0, 1), true)
def tkLf : Lf := ((0, 1), 0, -1)
theorem tkp1 : parseTab tkL1 = ⟨2, [tkEv], 0, 0, 0⟩ := by decide +kernel
theorem tkp2 : parseTab tkL2 = ⟨0, [], 2, 1, 23⟩ := by decide +kernel
theorem tkc1 : (checkF 2 [tkEv]).2 = 0 := by decide
theorem tkpr : prTab 2 [tkEv] = tkL1 := by
  unfold prTab
  rw [if_pos tkc1]
  have h0 : livesE [] [tkEv] = [tkLf] := by decide
  have h : tabL 2 [tkLf] = [116, 97, 98, 108, 101, 32, 50, 10, 48, 32, 49, 32, 48, 32, 45, 10] := by
    simp [tabL, tabW, headToks, toksL, Tok.bytes, lineT_is, tkLf, toB_no, decL_small]
  rw [h0, h]
  rfl
theorem tkEvFit : ∀ x ∈ [tkEv], EvFit x := by
  intro x hx
  simp only [List.mem_cons, List.not_mem_nil, or_false] at hx
  subst hx
  exact ⟨⟨by decide, by decide⟩, by decide, by decide⟩

set_option maxRecDepth 4000 in
set_option maxHeartbeats 1600000 in
theorem tknown_any {K : World → Prop} (M : TI K) (w : World) (hK : K w) : Calls Tryz.prog 8 #[] w fun e w' => e = .returned (.bool true) ∧ Fr w w' (fun _ => False) := by
  have HK : Hid (K w) := hK
  have h1 := fun z hz => M.parse tkL1 z (by decide) hz
  rw [tkp1] at h1
  have h2 := fun z v (hz : RdV z v [tkEv]) hk => M.print 2 v [tkEv] z hz (by decide) (by decide) tkEvFit hk
  rw [tkpr, tkc1] at h2
  have h3 := fun z hz => M.parse tkL2 z (by decide) hz
  rw [tkp2] at h3
  unfold histV placeR tkL1 at h1
  unfold histV tkL1 at h2
  unfold histV placeR tkL2 at h3
  dsimp only at h1 h2 h3
  go_enter Tryz.func8, Tryz.ntmps8
  have h1' := h1 w hK
  clear h1 hK
  go_wp2_with fail
  refine h1'.mono ?_
  rintro r x1 ⟨⟨v1, rfl, hr1⟩, g⟩
  obtain ⟨a1, c1, rfl, hc1⟩ : ∃ a c, v1 = .slice a 1 c ∧ 1 ≤ c := hr1.form
  have Hr1 : Hid (RdV x1 (.slice a1 1 c1) [tkEv]) := hr1
  have Hf1 : Hid (Fr w x1 (fun _ => False)) := g
  clear h1' g hr1
  go_upto_region 2 with fail
  obtain ⟨p1, hp1⟩ : ∃ p, p = x1.heap.size := ⟨_, rfl⟩
  obtain ⟨p2, hp2⟩ : ∃ p, p = p1 + 1 := ⟨_, rfl⟩
  obtain ⟨x2, hx2⟩ : ∃ x, x = (x1.alloc (.cells #[.int .u64 2, .slice a1 1 c1] 25)).alloc (.cells #[.int .i64 0, .int .i64 0] 38) := ⟨_, rfl⟩
  rw [← hx2, ← hp1, ← hp2]
  have H1 : Hid (∀ z, Fr x2 z (fun _ => False) → z.heap[p1]? = some (.cells #[.int .u64 2, .slice a1 1 c1] 25 (0, 0))) := fun z hz => hz.kept (by rw [hx2, hp1]; exact blk_alloc _ (heap_alloc_new _ _)) (fun h => h)
  have H2 : Hid (∀ z, Fr x2 z (fun _ => False) → z.heap[p2]? = some (.cells #[.int .i64 0, .int .i64 0] 38 (0, 0))) := fun z hz => hz.kept (by
    have h0 := heap_alloc_new (x1.alloc (.cells #[.int .u64 2, .slice a1 1 c1] 25)) (.cells #[.int .i64 0, .int .i64 0] 38)
    rw [hx2, hp2, hp1]
    simpa using h0) (fun h => h)
  have g : Fr x1 x2 (fun _ => False) := by rw [hx2]; exact ((Fr.refl _ _).alloc _).alloc _
  have Hr2 : Hid (RdV x2 (.slice a1 1 c1) [tkEv]) := Hr1.out.keep g
  have Hf2 : Hid (Fr w x2 (fun _ => False)) := Hf1.out.none g
  clear g hx2 hp1 hp2
  have h2' := h2 x2 _ Hr2.out (M.keep HK.out Hf2.out)
  clear h2
  obtain ⟨ka, kb⟩ : x2.cell? ⟨p1, 0, none⟩ = some (.int .u64 2) ∧ x2.cell? ⟨p1, 1, none⟩ = some (.slice a1 1 c1) := ⟨two_cell0 (H1.out _ (Fr.refl _ _)), two_cell1 (H1.out _ (Fr.refl _ _))⟩
  go_wp2_with fail
  refine h2'.mono ?_
  rintro r x3 ⟨rfl, g⟩
  have G23 : Hid (Fr x2 x3 (fun _ => False)) := g
  have Hf3 : Hid (Fr w x3 (fun _ => False)) := Hf2.out.none g
  have h3' := h3 x3 (M.keep HK.out Hf3.out)
  clear g h2' h3 ka kb
  go_wp2_with fail
  refine h3'.mono ?_
  rintro r x4 ⟨⟨v4, rfl, hr4⟩, g⟩
  obtain ⟨a4, c4, rfl, hc4⟩ : ∃ a c, v4 = .slice a 0 c ∧ 0 ≤ c := hr4.form
  have G24 : Hid (Fr x2 x4 (fun _ => False)) := G23.out.none g
  have Hf4 : Hid (Fr w x4 (fun _ => False)) := Hf3.out.none g
  clear g h3' hr4
  go_upto_region 4 with fail
  obtain ⟨p6, hp6⟩ : ∃ p, p = x4.heap.size := ⟨_, rfl⟩
  obtain ⟨p7, hp7⟩ : ∃ p, p = p6 + 1 := ⟨_, rfl⟩
  obtain ⟨x5, hx5⟩ : ∃ x, x = (x4.alloc (.cells #[.int .u64 0, .slice a4 0 c4] 25)).alloc (.cells #[.int .i64 2, .int .i64 1] 38) := ⟨_, rfl⟩
  rw [← hx5, ← hp6, ← hp7]
  have H7 : x5.heap[p7]? = some (.cells #[.int .i64 2, .int .i64 1] 38 (0, 0)) := by
    have h0 := heap_alloc_new (x4.alloc (.cells #[.int .u64 0, .slice a4 0 c4] 25)) (.cells #[.int .i64 2, .int .i64 1] 38)
    rw [hx5, hp7, hp6]
    simpa using h0
  have g : Fr x4 x5 (fun _ => False) := by rw [hx5]; exact ((Fr.refl _ _).alloc _).alloc _
  have Hf5 : Hid (Fr w x5 (fun _ => False)) := Hf4.out.none g
  obtain ⟨ka, kb⟩ : x5.cell? ⟨p1, 0, none⟩ = some (.int .u64 2) ∧ x5.cell? ⟨p1, 1, none⟩ = some (.slice a1 1 c1) := ⟨two_cell0 (H1.out _ (G24.out.none g)), two_cell1 (H1.out _ (G24.out.none g))⟩
  obtain ⟨kc, kd⟩ : x5.cell? ⟨p2, 0, none⟩ = some (.int .i64 0) ∧ x5.cell? ⟨p2, 1, none⟩ = some (.int .i64 0) := ⟨two_cell0 (H2.out _ (G24.out.none g)), two_cell1 (H2.out _ (G24.out.none g))⟩
  obtain ⟨ke, kf⟩ : x5.cell? ⟨p7, 0, none⟩ = some (.int .i64 2) ∧ x5.cell? ⟨p7, 1, none⟩ = some (.int .i64 1) := ⟨two_cell0 H7, two_cell1 H7⟩
  clear g hx5 hp6 hp7 H7
  go_wp2_with fail
  go_ret
  exact ⟨rfl, Hf5.out⟩

end Go.Proofs.YtnffjafddbbjaaaGreatDoor
