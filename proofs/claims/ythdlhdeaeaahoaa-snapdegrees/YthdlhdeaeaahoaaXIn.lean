/-
  Slices of vertices that the call owns; the contract of the reference's In; all degrees together are twice the edges.
-/
import Derived.Test.YthdlhdeaeaahoaaRows
import Derived.Test.YthdlhdeaeaahoaaJ2
import Derived.WalkLawsBesides
namespace Go.Proofs.Ythdlhdeaeaahoaa
open Go.RowKit

theorem infoU32 : (Try.prog.info? 46).map (fun i => (i.zero, i.size, i.bytes)) = some (some (.int .u32 0), 1, 4) := by kernel_rfl
/-- Vertices in a slice that the call owns. -/
def OwnW (w : World) (v : Value) (us : List Nat) : Prop := w.ownsRow 0 46 1 v us.length (row .u32 us)
theorem OwnW.nil (w : World) : OwnW w (.slice none 0 0) [] := World.ownsRow_nil _ _ _ _
theorem OwnW.reads {w : World} {v : Value} {us : List Nat} (h : OwnW w v us) : Reads .u32 w v us := holds_own h
theorem OwnW.frame {w w' : World} {v : Value} {us : List Nat} {S : Nat → Prop} (h : OwnW w v us) (f : Fr w w' S) (hs : ∀ k, v.ownBlock = some k → ¬ S k) : OwnW w' v us := f.owns h hs
theorem OwnW.lt {w : World} {v : Value} {us : List Nat} (h : OwnW w v us) : ∀ k, v.ownBlock = some k → k < w.heap.size := fun k hk => (World.ownsRow.lt h k hk).2
theorem app_vertex (w : World) (v : Value) (us : List Nat) (x : Nat) (h : OwnW w v us) (hb : us.length ≤ 10000000000) :
    ∃ v' w', (Builtin.append_ #[61, 61] 61 #[v, .slice (some ⟨w.heap.size, 0, none⟩) 1 1]).run Try.prog (w.alloc (.cells #[.int .u32 (x : Int)] 46)) = .ok v' w' ∧ OwnW w' v' (us ++ [x]) ∧ Fr w w' (fun k => v.ownBlock = some k) ∧ Moved w v v' := by
  obtain ⟨i0, hi, hz0, hz1, hz2⟩ := info_parts infoU32
  obtain ⟨v', w', h1, h2, h3, h4, -, -⟩ := run_append_holds (P := Try.prog) (w.alloc (.cells #[.int .u32 (x : Int)] 46)) 61 61 46 i0 (.int .u32 0) 4 Try.underlying61 hi hz0 hz1 hz2 rfl (by decide) v _ _ (World.ownsRow.alloc h _) _ _ (holds_lit w 46 [.int .u32 (x : Int)] (by simp)) (row1_one _ _) (by simp; omega)
  refine ⟨v', w', h1, ?_, ((Fr.refl w _).alloc _).trans h3 (fun _ _ h => h), h4.mono' (by simp)⟩
  unfold OwnW
  rw [List.length_append, row_append]
  exact h2

/-- A vertex more, if it is new. -/
def addS (s : List Nat) (v : Nat) : List Nat := if v ∈ s then s else s ++ [v]
theorem adds_nodup : ∀ (vs s : List Nat), s.Nodup → (vs.foldl addS s).Nodup
  | [], _, h => h
  | v :: vs, s, h => by
    refine adds_nodup vs _ ?_
    unfold addS
    split
    · exact h
    · rename_i hv
      exact List.nodup_append.2 ⟨h, by simp, fun a ha b hb => by rw [List.mem_singleton] at hb; subst hb; exact fun e => hv (e ▸ ha)⟩
theorem adds_mem : ∀ (vs s : List Nat) (x : Nat), x ∈ vs.foldl addS s ↔ x ∈ s ∨ x ∈ vs
  | [], _, _ => by simp
  | v :: vs, s, x => by
    rw [List.foldl_cons, adds_mem vs]
    unfold addS
    split
    · rename_i hv
      rw [List.mem_cons]
      constructor
      · rintro (h | h)
        · exact .inl h
        · exact .inr (.inr h)
      · rintro (h | rfl | h)
        · exact .inl h
        · exact .inl hv
        · exact .inr h
    · rw [List.mem_append, List.mem_singleton, List.mem_cons, or_assoc]
theorem adds_length : ∀ (vs s : List Nat), (vs.foldl addS s).length ≤ s.length + vs.length
  | [], s => by simp
  | v :: vs, s => by
    have h := adds_length vs (addS s v)
    have h2 : (addS s v).length ≤ s.length + 1 := by unfold addS; split <;> simp
    rw [List.foldl_cons, List.length_cons]
    omega
def ends2 (l : List Eg) : List Nat := l.flatMap (fun e => [e.1, e.2])
theorem ends2_take {l : List Eg} {i : Nat} {e : Eg} (h : l[i]? = some e) : ends2 (l.take (i + 1)) = ends2 (l.take i) ++ [e.1, e.2] := by
  unfold ends2
  rw [List.take_add_one, h, List.flatMap_append]
  simp
theorem ends2_length (l : List Eg) : (ends2 l).length = 2 * l.length := by
  unfold ends2
  induction l with
  | nil => rfl
  | cons e l ih => rw [List.flatMap_cons, List.length_append, ih]; simp; omega
theorem sum_filter (S : List Nat) (p : Nat → Bool) (f : Nat → Nat) : (S.map (fun v => (if p v = true then 1 else 0) + f v)).sum = (S.filter p).length + (S.map f).sum := by
  induction S with
  | nil => rfl
  | cons v S ih =>
    rw [List.map_cons, List.sum_cons, ih, List.map_cons, List.sum_cons, List.filter_cons]
    split <;> simp_all <;> omega
theorem deg_cons (e : Eg) (y : List Eg) (v : Nat) : degF (e :: y) v = (if hasV v e = true then 1 else 0) + degF y v := by
  unfold degF
  rw [List.filter_cons]
  split <;> simp_all <;> omega
theorem deg_sum (S : List Nat) : ∀ y : List Eg, (S.map (degF y)).sum = (y.map (fun e => (S.filter (fun v => hasV v e)).length)).sum
  | [] => by
    induction S with
    | nil => rfl
    | cons v S ih => rw [List.map_cons, List.sum_cons, ih]; rfl
  | e :: y => by
    rw [List.map_cons, List.sum_cons, ← deg_sum S y, ← sum_filter]
    congr 1
    exact List.map_congr_left (fun v _ => deg_cons e y v)
theorem two_ends {S : List Nat} (hn : S.Nodup) {e : Eg} (h1 : e.1 ∈ S) (h2 : e.2 ∈ S) (hne : e.1 ≠ e.2) : (S.filter (fun v => hasV v e)).length = 2 := by
  have hp : (S.filter (fun v => hasV v e)).Perm [e.1, e.2] := (List.perm_ext_iff_of_nodup (hn.filter _) (by simp [hne])).2 (fun x => by
    rw [List.mem_filter]
    unfold hasV
    simp only [decide_eq_true_eq, List.mem_cons, List.not_mem_nil, or_false]
    constructor
    · rintro ⟨-, h | h⟩
      · exact .inl h.symm
      · exact .inr h.symm
    · rintro (rfl | rfl)
      · exact ⟨h1, .inl rfl⟩
      · exact ⟨h2, .inr rfl⟩)
  rw [hp.length_eq]
  rfl
theorem deg_all {x : List Eg} (h : ∀ e ∈ x, e.1 ≠ e.2) : (((ends2 x).foldl addS []).map (degF x)).sum = 2 * x.length := by
  rw [deg_sum]
  have hn := adds_nodup (ends2 x) [] List.nodup_nil
  have hm := adds_mem (ends2 x) []
  generalize (ends2 x).foldl addS [] = S at hn hm
  have hin : ∀ e ∈ x, e.1 ∈ S ∧ e.2 ∈ S := fun e he => ⟨(hm _).2 (.inr (List.mem_flatMap.2 ⟨e, he, by simp⟩)), (hm _).2 (.inr (List.mem_flatMap.2 ⟨e, he, by simp⟩))⟩
  have h2 : ∀ y : List Eg, (∀ e ∈ y, e ∈ x) → (y.map (fun e => (S.filter (fun v => hasV v e)).length)).sum = 2 * y.length := by
    intro y
    induction y with
    | nil => intro _; rfl
    | cons e y ih =>
      intro hy
      have he := hy e (List.mem_cons_self ..)
      rw [List.map_cons, List.sum_cons, ih (fun z hz => hy z (List.mem_cons_of_mem _ hz)), two_ends hn (hin e he).1 (hin e he).2 (h e he), List.length_cons]
      omega
  exact h2 x (fun _ h => h)
theorem deg_le (l : List Eg) (v : Nat) : degF l v ≤ l.length := List.length_filter_le _ _
theorem sum_le (S : List Nat) (f : Nat → Nat) (b : Nat) (h : ∀ v, f v ≤ b) : (S.map f).sum ≤ S.length * b := by
  induction S with
  | nil => simp
  | cons v S ih =>
    have := h v
    rw [List.map_cons, List.sum_cons, List.length_cons, Nat.succ_mul]
    omega

set_option maxRecDepth 4000 in
set_option maxHeartbeats 800000 in
theorem refIn_any (v : Value) (bs : List Nat) (x : Nat) (w : World) (h : Reads .u32 w v bs) (hl : bs.length ≤ 1000000) : Calls Try.prog 25 #[v, .int .u32 (x : Int)] w fun r w' => r = .returned (.bool (decide (x ∈ bs))) ∧ Fr w w' (fun _ => False) := by
  obtain ⟨a0, n, c0, rfl⟩ := h.form
  have hn : bs.length = n := by
    obtain ⟨ao, cap, e, -⟩ := h
    simp only [Value.slice.injEq] at e
    rw [e.2.1, length_row]
  have Hn : Hid _ := hn
  have Hr : Hid (Reads .u32 w (.slice a0 n c0) bs) := h
  obtain ⟨B, hB⟩ : ∃ B, B = decide (x ∈ bs) := ⟨_, rfl⟩
  rw [← hB]
  have HB : Hid _ := hB
  rw [hn] at hl
  clear h hn hB
  go_enter Try.func25, Try.ntmps25
  go_wp2_with fail
  go_loopg [5] n (fun g I wr => ∃ i : Nat, g = n - i ∧ i ≤ n ∧ I = .int .i64 (i : Int) ∧ (∀ j y, j < i → bs[j]? = some y → y ≠ x) ∧ Fr w wr (fun _ => False))
  case atStart => exact ⟨0, by omega, by omega, rfl, fun j y hj => by omega, Fr.refl _ _⟩
  case round =>
    obtain ⟨i, hg, hi, rfl, hle, hf⟩ := hrel
    have Hg : Hid _ := hg
    have Hle : Hid _ := hle
    have Hf : Hid (Fr w wr (fun _ => False)) := hf
    clear hg hle hf
    by_cases hlt : i < n
    · have hin : (i : Int) < (n : Int) := by omega
      have hin' : decide (i < n) = true := decide_eq_true hlt
      obtain ⟨y, hy⟩ : ∃ y, bs[i]? = some y := ⟨_, List.getElem?_eq_getElem (by rw [Hn.out]; exact hlt)⟩
      obtain ⟨ao, cap, e3, -, hc⟩ := Hr.out.keep Hf.out
      obtain ⟨bk, off, rfl, hcell⟩ := hc (by rw [length_row, Hn.out]; omega)
      simp only [Value.slice.injEq] at e3
      obtain ⟨rfl, -, rfl⟩ := e3
      have k0 := hcell i (.int .u32 (y : Int)) (by rw [row_get _ _ _ (by rw [Hn.out]; exact hlt), List.getD_eq_getElem?_getD, hy]; rfl)
      have hi0 : (0 : Int) ≤ (i : Int) := by omega
      have Hy : Hid _ := hy
      clear hc hcell hy
      by_cases hyx : y = x
      · have Hres : Hid (B = true) := by show _ = _; rw [HB.out]; exact decide_eq_true (hyx ▸ List.mem_of_getElem? Hy.out)
        obtain rfl := Hres.out
        have d1 : ((y : Int) == (x : Int)) = true := by simp [hyx]
        have d1' : (y == x) = true := by simp [hyx]
        clear hyx
        go_wp2
        go_ret
        exact ⟨rfl, Hf.out⟩
      · have d1 : ((y : Int) == (x : Int)) = false := by rw [beq_eq_false_iff_ne]; omega
        have d1' : (y == x) = false := by rw [beq_eq_false_iff_ne]; exact hyx
        have Hle2 : Hid (∀ j z, j < i + 1 → bs[j]? = some z → z ≠ x) := fun j z hj hz => by
          by_cases h : j < i
          · exact Hle.out j z h hz
          · have e : j = i := by omega
            subst e
            rw [Hy.out] at hz
            simp only [Option.some.injEq] at hz
            exact hz ▸ hyx
        clear hyx
        go_wp2_with fail
        go_roundg (n - (i + 1))
        case rel => exact ⟨i + 1, rfl, by omega, by go_num, Hle2.out, Hf.out⟩
        case measure => rw [Hg.out]; omega
    · have hin : ¬ (i : Int) < (n : Int) := by omega
      have hin' : decide (i < n) = false := decide_eq_false hlt
      have Hres : Hid (B = false) := by
        show _ = _
        rw [HB.out]
        refine decide_eq_false fun hm => ?_
        obtain ⟨j, hj⟩ := List.getElem?_of_mem hm
        exact Hle.out j x (by have := (List.getElem?_eq_some_iff.1 hj).1; rw [Hn.out] at this; omega) hj rfl
      obtain rfl := Hres.out
      go_wp2
      go_ret
      exact ⟨rfl, Hf.out⟩

end Go.Proofs.Ythdlhdeaeaahoaa
