/-
  A log that is cut: what is read of it. Plain mathematics.
-/
import Derived.Test.YtpeibameegjefaaDoorJ2
namespace Go.Proofs.YtpeibameegjefaaDoor
open Go.RowKit

theorem adv_line : ∀ (l : List Nat) (c : Sc), c.line ≤ (adv l c).line
  | [], c => Nat.le_refl _
  | x :: l, c => by
    rw [adv]
    refine Nat.le_trans ?_ (adv_line l _)
    split <;> dsimp only <;> omega
theorem adv_le : ∀ (l : List Nat) (c : Sc), 1 ≤ c.col → (adv l c).line ≤ c.line + l.length ∧ (adv l c).col ≤ c.col + l.length
  | [], c, _ => ⟨Nat.le_refl _, Nat.le_refl _⟩
  | x :: l, c, h => by
    rw [adv, List.length_cons]
    split
    · obtain ⟨h1, h2⟩ := adv_le l { c with pos := c.pos + 1, line := c.line + 1, col := 1 } (Nat.le_refl 1)
      dsimp only at h1 h2
      omega
    · obtain ⟨h1, h2⟩ := adv_le l { c with pos := c.pos + 1, col := c.col + 1 } (by dsimp only; omega)
      dsimp only at h1 h2
      omega
theorem strOf_take (l : List Nat) (m : Nat) (hm : m ≤ l.length) : (strOf l).extract 0 m = strOf (l.take m) := by
  have h : strOf l = strOf (l.take m) ++ strOf (l.drop m) := by rw [strOf_append, List.take_append_drop]
  rw [h, ByteArray.extract_append_eq_left]
  rw [strOf_length, List.length_take, Nat.min_eq_left hm]
theorem log_lt {n : Nat} {evs : List Ev} (h : (checkF n evs).2 = 0) : ∀ x ∈ logL n evs, x < 256 := logL_lt (check_in h).1 (check_in h).2
theorem log_len {n : Nat} {evs : List Ev} (h : (checkF n evs).2 = 0) : (logL n evs).length ≤ 30 + 70 * evs.length := logL_len (check_in h).1 (check_in h).2
theorem log_pos (n : Nat) (evs : List Ev) : 0 < (logL n evs).length := by unfold logL; rw [List.length_append]; show 0 < 3 + _; omega
theorem dig_ne {x : Nat} (h : isDig x = true) : x ≠ 10 := fun e => by subst e; exact absurd h (by decide)
/-- A line's bytes: the last one alone ends it. -/
def lineB (x : Ev) : List Nat := decL x.1.toNat ++ ([32, sgB x.2.2, 32] ++ (decL x.2.1.1 ++ ([32] ++ decL x.2.1.2)))
theorem lineL_body (x : Ev) : lineL x = lineB x ++ [10] := by rw [lineL_is]; simp [lineB]
theorem lineB_plain (x : Ev) : ∀ y ∈ lineB x, y ≠ 10 := fun y hy => by
  unfold lineB at hy
  simp only [List.mem_append, List.mem_cons, List.not_mem_nil, or_false] at hy
  rcases hy with hy | (rfl | rfl | rfl) | hy | rfl | hy
  · exact dig_ne (decL_dig _ y hy)
  · decide
  · exact (sgB_lt _).2.1
  · decide
  · exact dig_ne (decL_dig _ y hy)
  · decide
  · exact dig_ne (decL_dig _ y hy)
def headB (n : Nat) : List Nat := [32] ++ decL n
theorem head_body (n : Nat) : toksL (headToks n) = headB n ++ [10] := by simp [headB, headToks, toksL, Tok.bytes]
theorem headB_plain (n : Nat) : ∀ y ∈ headB n, y ≠ 10 := fun y hy => by
  unfold headB at hy
  simp only [List.mem_append, List.mem_cons, List.not_mem_nil, or_false] at hy
  rcases hy with rfl | hy
  · decide
  · exact dig_ne (decL_dig _ y hy)
theorem adv_end {b : List Nat} (h : ∀ y ∈ b, y ≠ 10) (c : Sc) : (adv (b ++ [10]) c).col = 1 ∧ (adv (b ++ [10]) c).line = c.line + 1 := by
  rw [adv_append, adv_plain b c h]
  exact ⟨rfl, rfl⟩
theorem adv_in {b : List Nat} (h : ∀ y ∈ b, y ≠ 10) (c : Sc) {m : Nat} (hm : m < (b ++ [10]).length) : (adv ((b ++ [10]).take m) c).col = c.col + m ∧ (adv ((b ++ [10]).take m) c).line = c.line := by
  have h1 : m ≤ b.length := by rw [List.length_append, List.length_singleton] at hm; omega
  rw [List.take_append_of_le_length h1, adv_plain _ c (fun y hy => h y (List.mem_of_mem_take hy)), List.length_take, Nat.min_eq_left h1]
  exact ⟨rfl, rfl⟩

theorem parse_cut_evs {s : ByteArray} {n : Nat} : ∀ (l evs0 : List Ev) (c : Sc) (k : Nat), (∀ x ∈ l, EvIn x) → c.err = 0 → c.pos ≤ s.size → c.col = 1 → s.size ≤ c.pos + (l.flatMap lineL).length → Bears s c.pos ((l.flatMap lineL).take (s.size - c.pos)) → (∀ i, i ≤ l.length → (checkF n (evs0 ++ l.take i)).2 = 0) → s.size - c.pos < k →
    ((adv ((l.flatMap lineL).take (s.size - c.pos)) c).col = 1 ∧ (parseEvs s n k evs0 c).err = 0) ∨ ((adv ((l.flatMap lineL).take (s.size - c.pos)) c).col ≠ 1 ∧ parseEvs s n k evs0 c = ⟨0, [], (adv ((l.flatMap lineL).take (s.size - c.pos)) c).line, (adv ((l.flatMap lineL).take (s.size - c.pos)) c).col, 20⟩)
  | _, _, _, 0, _, _, _, _, _, _, _, hk => by omega
  | [], evs0, c, k + 1, _, he, hp, h1, hs, _, _, _ => by
    rw [List.flatMap_nil] at hs
    rw [List.flatMap_nil, List.take_nil]
    exact .inl ⟨h1, by rw [parse_end he (by simpa using hs)]⟩
  | x :: l, evs0, c, k + 1, hx, he, hp, h1, hs, hb, hc, hk => by
    by_cases hend : s.size ≤ c.pos
    · rw [show s.size - c.pos = 0 by omega, List.take_zero]
      exact .inl ⟨h1, by rw [parse_end he hend]⟩
    · have hpos := lineL_pos x
      have hxi := hx x (List.mem_cons_self ..)
      rw [List.flatMap_cons] at hb hs ⊢
      rw [List.length_append] at hs
      by_cases hin : (lineL x).length ≤ s.size - c.pos
      · obtain ⟨b1, b2⟩ := take_bears hb hin
        obtain ⟨e1, e2⟩ := ev_at hxi he b1 (by omega)
        have e3 : s.size - (adv (lineL x) c).pos = s.size - c.pos - (lineL x).length := by rw [adv_pos]; omega
        have hstep : parseEvs s n (k + 1) evs0 c = parseEvs s n k (evs0 ++ [x]) (adv (lineL x) c) := by
          rw [parse_step he (by omega) (by rw [e2, adv_err]; exact he) (by rw [e1]; have := hc 1 (by simp); simpa using this), e1, e2]
        have ih := parse_cut_evs (s := s) (n := n) l (evs0 ++ [x]) (adv (lineL x) c) k (fun y hy => hx y (List.mem_cons_of_mem _ hy)) (by rw [adv_err]; exact he) (by rw [adv_pos]; omega) (by rw [lineL_body]; exact (adv_end (lineB_plain x) c).1) (by rw [adv_pos]; omega) (by rw [e3, adv_pos]; exact b2) (fun i hi => by
          have := hc (i + 1) (by simp; omega)
          rwa [List.take_succ_cons, ← List.singleton_append, ← List.append_assoc] at this) (by rw [e3]; omega)
        rw [e3, ← adv_append] at ih
        rw [hstep, List.take_append, List.take_of_length_le hin]
        exact ih
      · have hlt : s.size - c.pos < (lineL x).length := by omega
        have ht : (lineL x ++ l.flatMap lineL).take (s.size - c.pos) = (lineL x).take (s.size - c.pos) := List.take_append_of_le_length (by omega)
        rw [ht] at hb ⊢
        have e1 := ev_toks hxi he hp hb
        have e2 : runT s (evToks x) c = { adv ((lineL x).take (s.size - c.pos)) c with err := 20 } := runT_cut (evToks x) (evToks_ok hxi) he hp (by show _ < c.pos + (lineL x).length; omega) hb
        rw [e2] at e1
        have e3 := parse_err (s := s) (n := n) (k := k) (evs := evs0) he (by omega) (by rw [e1]; show (20 : Nat) ≠ 0; decide)
        rw [e1] at e3
        have e4 := adv_in (lineB_plain x) c (m := s.size - c.pos) (by rw [← lineL_body]; exact hlt)
        rw [← lineL_body] at e4
        refine .inr ⟨by rw [e4.1]; omega, e3⟩

theorem parse_cut {n : Nat} {evs : List Ev} {m : Nat} {s : ByteArray} {c : Sc} (hl : evs.length ≤ 1000000) (hok : (checkF n evs).2 = 0) (hm : m < (logL n evs).length) (hs : s = strOf ((logL n evs).take m)) (hc : c = adv ((logL n evs).take m) ⟨0, 1, 1, 0⟩) :
    (1 < c.line ∧ c.col = 1 → (parseLog s).err = 0) ∧ (¬ (1 < c.line ∧ c.col = 1) → (parseLog s).err = 20 ∧ (parseLog s).line = c.line ∧ (parseLog s).col ≤ c.col) := by
  obtain ⟨hn, hx⟩ := check_in hok
  have hb : Bears s 0 ((logL n evs).take m) := by rw [hs]; exact bears_take (logL_lt hn hx) m
  have hz : s.size = m := by rw [hs, strOf_length, List.length_take, Nat.min_eq_left (by omega)]
  have hw3 : logW.length = 3 := rfl
  by_cases h3 : m < 3
  · -- the word is cut
    have ht : (logL n evs).take m = logW.take m := by unfold logL; exact List.take_append_of_le_length (by omega)
    rw [ht] at hb hc
    have hw : scWord s (strOf logW) ⟨0, 1, 1, 0⟩ = ⟨0, 1, 1, 20⟩ := by
      have he : wordErr s (strOf logW) 0 0 (strOf logW).size = 20 := by
        rw [logW_size]
        refine wordErr_short s (strOf logW) 0 m 3 0 h3 (fun j hj => ⟨by omega, ?_⟩) (by omega)
        have h1 := hb j (by rw [List.length_take]; omega)
        rw [show 0 + 0 + j = 0 + j by omega, h1, Nat.zero_add, logW_at j (by omega), List.getD_eq_getElem?_getD, List.getD_eq_getElem?_getD, List.getElem?_take_of_lt hj]
      unfold scWord
      rw [if_pos rfl]
      show (if wordErr s (strOf logW) 0 0 (strOf logW).size = 0 then _ else _) = _
      rw [he]
      rfl
    have h4 : hd4 s = ⟨0, 1, 1, 20⟩ := by
      rw [hd_toks s n, hw]
      exact runT_stop _ (by decide)
    have hp : parseLog s = ⟨0, [], 1, 1, 20⟩ := by
      unfold parseLog
      rw [h4]
      exact parse_stop (by decide)
    have hpl : ∀ y ∈ logW.take m, y ≠ 10 := fun y hy => by have := List.mem_of_mem_take hy; simp [logW] at this; omega
    rw [adv_plain _ _ hpl] at hc
    rw [hp, hc]
    refine ⟨fun h => ?_, fun _ => ⟨rfl, rfl, ?_⟩⟩
    · dsimp only at h; omega
    · dsimp only; omega
  · have h03 : logW ++ (toksL (headToks n) ++ evs.flatMap lineL) = logL n evs := rfl
    have ht : (logL n evs).take m = logW ++ (toksL (headToks n) ++ evs.flatMap lineL).take (m - 3) := by
      rw [← h03, List.take_append, List.take_of_length_le (by omega), hw3]
    rw [ht] at hb hc
    have hw := word_at hb.left (by omega)
    have hb2 := hb.right
    rw [hw3, Nat.zero_add] at hb2
    have hc3 : adv logW ⟨0, 1, 1, 0⟩ = ⟨3, 1, 4, 0⟩ := rfl
    rw [adv_append, hc3] at hc
    by_cases hh : m - 3 < (toksL (headToks n)).length
    · -- the head is cut
      have ht2 : (toksL (headToks n) ++ evs.flatMap lineL).take (m - 3) = (toksL (headToks n)).take (m - 3) := List.take_append_of_le_length (by omega)
      rw [ht2] at hb2 hc
      have h4 : hd4 s = { adv ((toksL (headToks n)).take (m - 3)) ⟨3, 1, 4, 0⟩ with err := 20 } := by
        rw [hd_toks s n, hw]
        have := runT_cut (s := s) (c := ⟨3, 1, 4, 0⟩) (headToks n) (headToks_ok hn) rfl (by show 3 ≤ _; omega) (by show _ < 3 + _; omega) (by rw [hz]; exact hb2)
        rw [hz] at this
        exact this
      have e4 := adv_in (headB_plain n) ⟨3, 1, 4, 0⟩ (m := m - 3) (by rw [← head_body]; exact hh)
      rw [← head_body, ← hc] at e4
      rw [← hc] at h4
      have hp : parseLog s = ⟨0, [], c.line, c.col, 20⟩ := by
        unfold parseLog
        rw [h4]
        exact parse_stop (c := { c with err := 20 }) (show (20 : Nat) ≠ 0 by decide)
      rw [hp]
      refine ⟨fun h => ?_, fun _ => ⟨rfl, rfl, Nat.le_refl _⟩⟩
      have h5 : c.line = 1 := e4.2
      omega
    · -- behind the head
      have ht2 : (toksL (headToks n) ++ evs.flatMap lineL).take (m - 3) = toksL (headToks n) ++ (evs.flatMap lineL).take (m - 3 - (toksL (headToks n)).length) := by
        rw [List.take_append, List.take_of_length_le (by omega)]
      rw [ht2] at hb2 hc
      have hhb : Bears s 0 (logW ++ toksL (headToks n)) := by
        rw [ht2, ← List.append_assoc] at hb
        exact hb.left
      obtain ⟨h1, h2⟩ := head_at hn hhb (by rw [List.length_append]; omega)
      rw [adv_append, ← h2] at hc
      have hp4 : (hd4 s).pos = 3 + (toksL (headToks n)).length := by rw [h2, adv_pos]
      have hb3 := hb2.right
      rw [← hp4] at hb3
      have e3 : s.size - (hd4 s).pos = m - 3 - (toksL (headToks n)).length := by rw [hz, hp4]; omega
      rw [← e3] at hb3 hc
      have hlen : (logL n evs).length = 3 + ((toksL (headToks n)).length + (evs.flatMap lineL).length) := by rw [← h03, List.length_append, List.length_append, hw3]
      have e5 := adv_end (headB_plain n) ⟨3, 1, 4, 0⟩
      rw [← head_body, ← h2] at e5
      have hr := parse_cut_evs (s := s) (n := n) evs [] (hd4 s) (s.size + 1) hx (by rw [h2, adv_err]) (by rw [hp4]; omega) e5.1 (by rw [hp4]; omega) hb3 (fun i _ => by rw [List.nil_append]; exact check_take i hl hok) (by omega)
      rw [← hc] at hr
      have hln : 2 ≤ c.line := by rw [hc]; have h6 := adv_line ((evs.flatMap lineL).take (s.size - (hd4 s).pos)) (hd4 s); have h7 : (hd4 s).line = 2 := e5.2; omega
      have hpl : parseLog s = parseEvs s n (s.size + 1) [] (hd4 s) := by unfold parseLog; rw [h1]
      rw [hpl]
      rcases hr with ⟨r1, r2⟩ | ⟨r1, r2⟩
      · exact ⟨fun _ => r2, fun h => absurd ⟨by omega, r1⟩ h⟩
      · rw [r2]
        exact ⟨fun h => absurd h.2 r1, fun _ => ⟨rfl, rfl, Nat.le_refl _⟩⟩

end Go.Proofs.YtpeibameegjefaaDoor
