/-
  Helps of the law LogLines: how many lines a log has, its eight bad lines, the last time and what is there.
-/
import Derived.Test.YtpeibameegjefaaDoorPLog4
import Derived.Test.YtpeibameegjefaaDoorFHelp
import Derived.Test.YtpeibameegjefaaDoorXAfter
import Derived.Test.YtpeibameegjefaaDoorJ2
namespace Go.Proofs.YtpeibameegjefaaDoor
open Go.RowKit

def nls (l : List Nat) : Nat := l.countP (fun x => decide (x = 10))
theorem nls_append (a b : List Nat) : nls (a ++ b) = nls a + nls b := List.countP_append
theorem nls_plain {l : List Nat} (h : ∀ x ∈ l, x ≠ 10) : nls l = 0 := by
  unfold nls
  rw [List.countP_eq_zero]
  intro x hx
  simp [h x hx]
theorem nls_flat : ∀ (l : List Ev), nls (l.flatMap lineL) = l.length
  | [] => rfl
  | x :: l => by
    rw [List.flatMap_cons, nls_append, nls_flat l, lineL_body, nls_append, nls_plain (lineB_plain x), List.length_cons]
    show 0 + 1 + _ = _
    omega
theorem nls_log (n : Nat) (E : List Ev) : nls (logL n E) = E.length + 1 := by
  unfold logL
  rw [nls_append, nls_append, nls_flat, head_body, nls_append, nls_plain (headB_plain n)]
  show 0 + (0 + 1 + _) = _
  omega
theorem nls_le (l : List Nat) : nls l ≤ l.length := List.countP_le_length
theorem nls_step {l : List Nat} {i : Nat} {y : Nat} (h : l.take (i + 1) = l.take i ++ [y]) : nls (l.take (i + 1)) = nls (l.take i) + if y = 10 then 1 else 0 := by
  rw [h, nls_append]
  congr 1
  unfold nls
  by_cases hy : y = 10 <;> simp [hy]

theorem app_lit (l m : List Nat) (X : ByteArray) (h : X = strOf m) : strOf l ++ X = strOf (l ++ m) := by rw [h, strOf_append]
theorem dec_max : decL 4611686018427387903 = [52, 54, 49, 49, 54, 56, 54, 48, 49, 56, 52, 50, 55, 51, 56, 55, 57, 48, 51] := by decide +kernel
theorem dec_over : decL 4611686018427387904 = [52, 54, 49, 49, 54, 56, 54, 48, 49, 56, 52, 50, 55, 51, 56, 55, 57, 48, 52] := by decide +kernel
theorem dec_32 : decL 4294967295 = [52, 50, 57, 52, 57, 54, 55, 50, 57, 53] := by decide +kernel
section
variable {n : Nat} {E : List Ev} (hl : E.length ≤ 1000) (hok : (checkF n E).2 = 0)
include hl hok
theorem bad0 : parseLog (strOf (logL n E) ++ ⟨#[48, 32, 43, 32, 49, 32, 49, 10]⟩) = ⟨0, [], E.length + 2, 1, 24⟩ := by
  have hb := snoc_edge (n := n) (l := E) (x := (0, (1, 1), true)) (by omega) hok (by decide) (by show decide (1 < 1 ∧ _) = _; simp)
  have := parse_event (y := (0, (1, 1), true)) (by omega) hok ⟨by decide, by decide, by decide, by decide⟩ (app_lit (logL n E) (lineL (0, (1, 1), true)) ⟨#[48, 32, 43, 32, 49, 32, 49, 10]⟩ (by simp [lineL, evToks, toksL, Tok.bytes, sgB, decL_small]; rfl)) (by rw [hb]; decide)
  rw [this, hb]
theorem bad1 {t : Nat} (ht : t ≤ 4611686018427387903) : parseLog (strOf (logL n E) ++ (strOf (decL t) ++ ⟨#[32, 43, 32, 49, 32, 48, 10]⟩)) = ⟨0, [], E.length + 2, 1, 24⟩ := by
  have hb := snoc_edge (n := n) (l := E) (x := ((t : Int), (1, 0), true)) (by omega) hok (by dsimp only; omega) (by show decide (1 < 0 ∧ _) = _; simp)
  have e1 : (⟨#[32, 43, 32, 49, 32, 48, 10]⟩ : ByteArray) = strOf [32, 43, 32, 49, 32, 48, 10] := rfl
  have := parse_event (y := ((t : Int), (1, 0), true)) (by omega) hok ⟨by dsimp only; omega, by dsimp only; omega, by show (1 : Nat) ≤ 4294967295; decide, by show (0 : Nat) ≤ 4294967295; decide⟩ (app_lit (logL n E) (lineL ((t : Int), (1, 0), true)) (strOf (decL t) ++ ⟨#[32, 43, 32, 49, 32, 48, 10]⟩) (by rw [e1, strOf_append]; congr 1; simp [lineL, evToks, toksL, Tok.bytes, sgB, decL_small])) (by rw [hb]; decide)
  rw [this, hb]
theorem bad2 {t : Nat} (ht : t ≤ 4611686018427387903) (hn : n ≠ 4294967296) : parseLog (strOf (logL n E) ++ (strOf (decL t) ++ ⟨#[32, 43, 32, 48, 32, 52, 50, 57, 52, 57, 54, 55, 50, 57, 53, 10]⟩)) = ⟨0, [], E.length + 2, 1, 24⟩ := by
  have hn' : n ≤ 4294967296 := (check_in hok).1
  have hb := snoc_edge (n := n) (l := E) (x := ((t : Int), (0, 4294967295), true)) (by omega) hok (by dsimp only; omega) (by unfold eRight; exact decide_eq_false (by dsimp only; omega))
  have e1 : (⟨#[32, 43, 32, 48, 32, 52, 50, 57, 52, 57, 54, 55, 50, 57, 53, 10]⟩ : ByteArray) = strOf [32, 43, 32, 48, 32, 52, 50, 57, 52, 57, 54, 55, 50, 57, 53, 10] := rfl
  have := parse_event (y := ((t : Int), (0, 4294967295), true)) (by omega) hok ⟨by dsimp only; omega, by dsimp only; omega, by show (0 : Nat) ≤ 4294967295; decide, by show (4294967295 : Nat) ≤ 4294967295; decide⟩ (app_lit (logL n E) (lineL ((t : Int), (0, 4294967295), true)) (strOf (decL t) ++ ⟨#[32, 43, 32, 48, 32, 52, 50, 57, 52, 57, 54, 55, 50, 57, 53, 10]⟩) (by rw [e1, strOf_append]; congr 1; simp [lineL, evToks, toksL, Tok.bytes, sgB, decL_small, dec_32])) (by rw [hb]; decide)
  rw [this, hb]
theorem bad3 (h2 : 2 ≤ n) (hlast : ∀ y, E.getLast? = some y → y.1 < 4611686018427387903) (hno : (0, 1) ∉ aftF [] E) : parseLog (strOf (logL n E) ++ ⟨#[52, 54, 49, 49, 54, 56, 54, 48, 49, 56, 52, 50, 55, 51, 56, 55, 57, 48, 51, 32, 45, 32, 48, 32, 49, 10]⟩) = ⟨0, [], E.length + 2, 1, 25⟩ := by
  have hb := snoc_there (n := n) (l := E) (x := (4611686018427387903, (0, 1), false)) (by omega) hok (by decide) (by unfold eRight; exact decide_eq_true ⟨by decide, by dsimp only; omega⟩) hlast rfl hno
  have := parse_event (y := (4611686018427387903, (0, 1), false)) (by omega) hok ⟨by decide, by decide, by decide, by decide⟩ (app_lit (logL n E) (lineL (4611686018427387903, (0, 1), false)) ⟨#[52, 54, 49, 49, 54, 56, 54, 48, 49, 56, 52, 50, 55, 51, 56, 55, 57, 48, 51, 32, 45, 32, 48, 32, 49, 10]⟩ (by simp [lineL, evToks, toksL, Tok.bytes, sgB, decL_small, dec_max]; rfl)) (by rw [hb]; decide)
  rw [this, hb]
theorem bad4 : parseLog (strOf (logL n E) ++ ⟨#[120, 10]⟩) = ⟨0, [], E.length + 2, 1, 21⟩ :=
  parse_num (by omega) hok (by decide) (by decide) (app_lit (logL n E) [120, 10] _ rfl)
theorem bad5 : parseLog (strOf (logL n E) ++ ⟨#[52, 54, 49, 49, 54, 56, 54, 48, 49, 56, 52, 50, 55, 51, 56, 55, 57, 48, 52, 32, 43, 32, 48, 32, 49, 10]⟩) = ⟨0, [], E.length + 2, 1, 22⟩ :=
  parse_long (v := 4611686018427387904) (y := 32) (r := [43, 32, 48, 32, 49, 10]) (by omega) hok (by decide) (by decide) (by decide) (app_lit (logL n E) _ _ (by rw [dec_over]; rfl))
theorem bad6 : parseLog (strOf (logL n E) ++ ⟨#[32, 53, 32, 43, 32, 48, 32, 49, 10]⟩) = ⟨0, [], E.length + 2, 1, 21⟩ :=
  parse_num (by omega) hok (by decide) (by decide) (app_lit (logL n E) [32, 53, 32, 43, 32, 48, 32, 49, 10] _ rfl)
theorem bad7 : parseLog (strOf (logL n E) ++ ⟨#[53, 32, 43, 32, 48, 32, 49, 32, 10]⟩) = ⟨0, [], E.length + 2, 8, 21⟩ :=
  parse_space (by omega) hok (app_lit (logL n E) [53, 32, 43, 32, 48, 32, 49, 32, 10] _ rfl)
end

def lastT (evs : List Ev) : Int := match evs.getLast? with
  | none => -1
  | some x => x.1
theorem lastT_none {E : List Ev} (h : E.length = 0) : lastT E = -1 := by
  rw [List.eq_nil_of_length_eq_zero h]
  rfl
theorem lastT_some {E : List Ev} {l : Nat} {y : Ev} (h : E.length = l + 1) (hy : E[l]? = some y) : lastT E = y.1 := by
  unfold lastT
  rw [List.getLast?_eq_getElem?, h, Nat.add_sub_cancel, hy]

set_option maxRecDepth 4000 in
set_option maxHeartbeats 1600000 in
theorem history13_any (n : Nat) (v : Value) (evs : List Ev) (w : World) (h : RdV w v evs) (hl : evs.length ≤ 1000) : Calls Tryd.prog 20 #[histV n v] w fun r w' => r = .returned (.int .i64 (lastT evs)) ∧ Fr w w' (fun _ => False) := by
  obtain ⟨a0, c0, rfl, hc0⟩ := h.form
  obtain ⟨m, hm⟩ : ∃ m, m = evs.length := ⟨_, rfl⟩
  rw [← hm] at h hl hc0 ⊢
  have Hr : Hid (RdV w (.slice a0 m c0) evs) := h
  have Hm : Hid _ := hm
  obtain ⟨Z, hZ⟩ : ∃ Z, Z = lastT evs := ⟨_, rfl⟩
  rw [← hZ]
  have HZ : Hid _ := hZ
  clear h hm hZ
  unfold histV
  go_enter Tryd.func20, Tryd.ntmps20
  go_upto_region 1 with fail
  obtain ⟨p, hp⟩ : ∃ p, p = w.heap.size := ⟨_, rfl⟩
  obtain ⟨w1, hw1⟩ : ∃ x, x = w.alloc (.cells #[.int .u64 (n : Int), .slice a0 m c0] 25) := ⟨_, rfl⟩
  rw [← hw1, ← hp]
  have Hp : Hid (w1.heap[p]? = some (.cells #[.int .u64 (n : Int), .slice a0 m c0] 25 (0, 0))) := by show _ = _; rw [hw1, hp]; exact heap_alloc_new _ _
  have Hf1 : Hid (Fr w w1 (fun _ => False)) := by show Fr _ _ _; rw [hw1]; exact (Fr.refl _ _).alloc _
  clear hw1 hp
  obtain ⟨ca, cb⟩ : w1.cell? ⟨p, 0, none⟩ = some (.int .u64 (n : Int)) ∧ w1.cell? ⟨p, 1, none⟩ = some (.slice a0 m c0) := ⟨two_cell0 Hp.out, two_cell1 Hp.out⟩
  by_cases h0 : m = 0
  · have hz : Z = -1 := HZ.out.trans (lastT_none (by rw [← Hm.out]; exact h0))
    clear HZ
    subst hz
    subst h0
    go_wp2
    go_ret
    first | exact ⟨rfl, Hf1.out⟩ | exact Hf1.out
  · obtain ⟨l, rfl⟩ : ∃ l, m = l + 1 := ⟨m - 1, by omega⟩
    obtain ⟨y, hy⟩ : ∃ y, evs[l]? = some y := ⟨_, List.getElem?_eq_getElem (by rw [← Hm.out]; omega)⟩
    have hz : Z = y.1 := HZ.out.trans (lastT_some Hm.out.symm hy)
    clear HZ
    subst hz
    obtain ⟨bk, off, cap, e3, hbk, hca⟩ := (Hr.out.keep Hf1.out).get l _ hy
    rw [← Hm.out] at e3
    simp only [Value.slice.injEq] at e3
    obtain ⟨rfl, -, rfl⟩ := e3
    obtain ⟨k0, -, -, -⟩ := hca w1 (Fr.refl _ _)
    have n0 : (((l + 1 : Nat) : Int) == 0) = false := by rw [beq_eq_false_iff_ne]; omega
    have n1 : ((l + 1 : Nat) : Int) - 1 = (l : Int) := by omega
    have n2 : (l : Int) < ((l + 1 : Nat) : Int) := by omega
    have n3 : (0 : Int) ≤ (l : Int) := by omega
    have n4 : ¬ (l + 1 = 0) := by omega
    clear hy hca hbk h0
    go_wp2
    go_ret
    first | exact ⟨rfl, Hf1.out⟩ | exact Hf1.out

set_option maxRecDepth 4000 in
set_option maxHeartbeats 1600000 in
theorem there13_any (n : Nat) (v : Value) (evs : List Ev) (e : Eg) (w : World) (h : RdV w v evs) (hl : evs.length ≤ 1000) (hfit : ∀ x ∈ evs, EvFit x) (hok : (checkF n evs).2 = 0) : Calls Tryd.prog 21 #[histV n v, edgeV e] w fun r w' => r = .returned (.bool (decide (e ∈ aftF [] evs))) ∧ Fr w w' (fun _ => False) := by
  have hA := fun z hz => refAfter_any n v evs (evs.length : Int) z hz (by omega) hfit (by omega)
  obtain ⟨a0, c0, rfl, hc0⟩ := h.form
  obtain ⟨m, hm⟩ : ∃ m, m = evs.length := ⟨_, rfl⟩
  have haf : afterF n evs (m : Int) = (aftF [] evs, 0) := by
    unfold afterF
    rw [if_pos hok, Int.toNat_natCast, hm, List.take_length]
  have hlen := after_length n evs (m : Int)
  rw [← hm] at h hl hc0 hA hlen ⊢
  rw [haf] at hA hlen
  obtain ⟨G, hG⟩ : ∃ G, G = aftF [] evs := ⟨_, rfl⟩
  rw [← hG] at hA hlen ⊢
  dsimp only at hA hlen
  have Hr : Hid (RdV w (.slice a0 m c0) evs) := h
  have Hl : Hid (G.length ≤ 1000000) := by show _ ≤ _; omega
  clear h hm haf hG hok hfit hlen
  obtain ⟨eu, ev⟩ := e
  unfold histV at hA ⊢
  unfold edgeV
  dsimp only
  go_enter Tryd.func21, Tryd.ntmps21
  go_upto_region 1 with fail
  obtain ⟨p, hp⟩ : ∃ p, p = w.heap.size := ⟨_, rfl⟩
  obtain ⟨q, hq⟩ : ∃ q, q = p + 1 := ⟨_, rfl⟩
  obtain ⟨w1, hw1⟩ : ∃ x, x = (w.alloc (.cells #[.int .u64 (n : Int), .slice a0 m c0] 25)).alloc (.cells #[.int .u32 (eu : Int), .int .u32 (ev : Int)] 57) := ⟨_, rfl⟩
  rw [← hw1, ← hp, ← hq]
  have Hp : Hid (w1.heap[p]? = some (.cells #[.int .u64 (n : Int), .slice a0 m c0] 25 (0, 0))) := by show _ = _; rw [hw1, hp]; exact blk_alloc _ (heap_alloc_new _ _)
  have Hq : Hid (w1.heap[q]? = some (.cells #[.int .u32 (eu : Int), .int .u32 (ev : Int)] 57 (0, 0))) := by
    have h0 := heap_alloc_new (w.alloc (.cells #[.int .u64 (n : Int), .slice a0 m c0] 25)) (.cells #[.int .u32 (eu : Int), .int .u32 (ev : Int)] 57)
    show _ = _
    rw [hw1, hq, hp]
    simpa using h0
  have Hf1 : Hid (Fr w w1 (fun _ => False)) := by show Fr _ _ _; rw [hw1]; exact ((Fr.refl _ _).alloc _).alloc _
  clear hw1 hp hq
  obtain ⟨ca, cb⟩ : w1.cell? ⟨p, 0, none⟩ = some (.int .u64 (n : Int)) ∧ w1.cell? ⟨p, 1, none⟩ = some (.slice a0 m c0) := ⟨two_cell0 Hp.out, two_cell1 Hp.out⟩
  have hA1 := hA w1 (Hr.out.keep Hf1.out)
  clear hA
  go_wp2_with fail
  refine hA1.mono ?_
  clear hA1 ca cb
  rintro r w2 ⟨⟨v2, rfl, hr2, -⟩, g⟩
  have Hf2 : Hid (Fr w w2 (fun _ => False)) := Hf1.out.none g
  have hB := refHas_any v2 G (eu, ev) w2 hr2 Hl.out
  unfold edgeV at hB
  dsimp only at hB
  obtain ⟨cc, cd⟩ : w2.cell? ⟨q, 0, none⟩ = some (.int .u32 (eu : Int)) ∧ w2.cell? ⟨q, 1, none⟩ = some (.int .u32 (ev : Int)) := ⟨two_cell0 (g.kept Hq.out (fun h => h)), two_cell1 (g.kept Hq.out (fun h => h))⟩
  clear g hr2
  go_wp2_with fail
  refine hB.mono ?_
  rintro r w3 ⟨rfl, g⟩
  have Hf3 : Hid (Fr w w3 (fun _ => False)) := Hf2.out.none g
  clear g hB cc cd
  go_wp2
  go_ret
  first | exact ⟨rfl, Hf3.out⟩ | exact Hf3.out

end Go.Proofs.YtpeibameegjefaaDoor
