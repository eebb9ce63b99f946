/-
  A log with more behind it: which error is told, and where. Plain mathematics.
-/
import Derived.Test.YtpeibameegjefaaDoorPLog3
import Derived.Test.YtpeibameegjefaaDoorJ2
namespace Go.Proofs.YtpeibameegjefaaDoor
open Go.RowKit

theorem adv_lines : ∀ (l : List Ev) (c : Sc), (adv (l.flatMap lineL) c).line = c.line + l.length ∧ (c.col = 1 → (adv (l.flatMap lineL) c).col = 1)
  | [], c => ⟨rfl, fun h => h⟩
  | x :: l, c => by
    rw [List.flatMap_cons, adv_append]
    obtain ⟨h1, h2⟩ := adv_lines l (adv (lineL x) c)
    have h3 := adv_end (lineB_plain x) c
    rw [← lineL_body] at h3
    rw [h1, List.length_cons, h3.2]
    exact ⟨by omega, fun _ => h2 h3.1⟩
/-- Behind a history's own log. -/
theorem parse_tail {s : ByteArray} {n : Nat} {evs : List Ev} {tail : List Nat} (hl : evs.length ≤ 1000000) (hok : (checkF n evs).2 = 0) (ht : ∀ y ∈ tail, y < 256) (hs : s = strOf (logL n evs ++ tail)) :
    ∃ k c, parseLog s = parseEvs s n (k + 1) evs c ∧ c.err = 0 ∧ c.pos + tail.length = s.size ∧ Bears s c.pos tail ∧ c.line = evs.length + 2 ∧ c.col = 1 := by
  obtain ⟨hn, hx⟩ := check_in hok
  have hb : Bears s 0 (logL n evs ++ tail) := by
    rw [hs]
    refine bears_str (fun y hy => ?_)
    rcases List.mem_append.1 hy with h | h
    · exact log_lt hok y h
    · exact ht y h
  have hz : s.size = (logL n evs).length + tail.length := by rw [hs, strOf_length, List.length_append]
  have hlog : logL n evs = (logW ++ toksL (headToks n)) ++ evs.flatMap lineL := by rw [List.append_assoc]; rfl
  rw [hlog, List.append_assoc] at hb
  rw [hlog, List.length_append] at hz
  obtain ⟨h1, h2⟩ := head_at hn hb.left (by omega)
  have hp : (hd4 s).pos = (logW ++ toksL (headToks n)).length := by rw [h2, adv_pos, List.length_append]; rfl
  have hr := hb.right
  rw [Nat.zero_add, ← hp] at hr
  have e5 := adv_end (headB_plain n) ⟨3, 1, 4, 0⟩
  rw [← head_body, ← h2] at e5
  obtain ⟨k', hk, he⟩ := parse_lines (n := n) evs [] (hd4 s) (s.size + 1) hx (by rw [h2, adv_err]) hr.left (by omega) (fun i _ => by rw [List.nil_append]; exact check_take i hl hok) (by omega)
  obtain ⟨k, rfl⟩ : ∃ k, k' = k + 1 := ⟨k' - 1, by omega⟩
  have h6 := adv_lines evs (hd4 s)
  refine ⟨k, adv (evs.flatMap lineL) (hd4 s), ?_, by rw [adv_err, h2, adv_err], by rw [adv_pos]; omega, by rw [adv_pos]; exact hr.right, ?_, h6.2 e5.1⟩
  · unfold parseLog
    rw [h1, he, List.nil_append]
  · have h7 : (hd4 s).line = 2 := e5.2
    rw [h6.1, h7]
    omega
theorem line_lt {x : Ev} (hx : EvIn x) : ∀ y ∈ lineL x, y < 256 := tok_lt (evToks_ok hx)
/-- .. an event that may not be. -/
theorem parse_event {s : ByteArray} {n : Nat} {evs : List Ev} {y : Ev} (hl : evs.length ≤ 1000000) (hok : (checkF n evs).2 = 0) (hy : EvIn y) (hs : s = strOf (logL n evs ++ lineL y)) (hbad : (checkF n (evs ++ [y])).2 ≠ 0) : parseLog s = ⟨0, [], evs.length + 2, 1, (checkF n (evs ++ [y])).2⟩ := by
  obtain ⟨k, c, h1, h2, h3, h4, h5, h6⟩ := parse_tail hl hok (line_lt hy) hs
  have hpos := lineL_pos y
  obtain ⟨e1, e2⟩ := ev_at hy h2 h4 (by omega)
  rw [h1, parse_bad h2 (by omega) (by rw [e2, adv_err]; exact h2) (by rw [e1]; exact hbad), e1, h5, h6]
/-- .. a text that is no event. -/
theorem ev_num {s : ByteArray} {c : Sc} {e : Nat} (he : e ≠ 0) (h : scNum s maxT c = { c with err := e }) : evEnd s c = { c with err := e } := by
  have he' : ({ c with err := e } : Sc).err ≠ 0 := he
  unfold evEnd ev6 ev4 ev2
  rw [h, (scByte_stop he').2, sg_stop he', (scByte_stop he').2, (scNum_stop' he').2, (scByte_stop he').2, (scNum_stop' he').2, (scByte_stop he').2]
theorem parse_num {s : ByteArray} {n : Nat} {evs : List Ev} {y : Nat} {r : List Nat} (hl : evs.length ≤ 1000000) (hok : (checkF n evs).2 = 0) (hd : isDig y = false) (ht : ∀ x ∈ y :: r, x < 256) (hs : s = strOf (logL n evs ++ y :: r)) : parseLog s = ⟨0, [], evs.length + 2, 1, 21⟩ := by
  obtain ⟨k, c, h1, h2, h3, h4, h5, h6⟩ := parse_tail hl hok ht hs
  rw [List.length_cons] at h3
  have e1 := (num_form (most := maxT) h2 (by omega : c.pos < s.size) (by rw [h4.head]; exact hd)).2
  have e2 := ev_num (by decide) e1
  rw [h1, parse_err h2 (by omega) (by rw [e2]; show (21 : Nat) ≠ 0; decide), e2, h5, h6]
theorem parse_long {s : ByteArray} {n : Nat} {evs : List Ev} {v y : Nat} {r : List Nat} (hl : evs.length ≤ 1000000) (hok : (checkF n evs).2 = 0) (hv : 4611686018427387903 < v) (hd : isDig y = false) (ht : ∀ x ∈ y :: r, x < 256) (hs : s = strOf (logL n evs ++ (decL v ++ y :: r))) : parseLog s = ⟨0, [], evs.length + 2, 1, 22⟩ := by
  obtain ⟨k, c, h1, h2, h3, h4, h5, h6⟩ := parse_tail hl hok (fun x hx => by
    rcases List.mem_append.1 hx with h | h
    · exact decL_lt v x h
    · exact ht x h) hs
  rw [List.length_append, List.length_cons] at h3
  have hD : DigsAt s c (decL v) := digs_dec h4.left (by omega) (.inr (by rw [h4.right.head]; exact hd))
  have e1 := (hD.long (most := maxT) h2 (by rw [hL_dec]; exact hv)).2
  have e2 := ev_num (by decide) e1
  rw [h1, parse_err h2 (by omega) (by rw [e2]; show (22 : Nat) ≠ 0; decide), e2, h5, h6]
set_option maxHeartbeats 1600000 in
theorem parse_space {s : ByteArray} {n : Nat} {evs : List Ev} (hl : evs.length ≤ 1000000) (hok : (checkF n evs).2 = 0) (hs : s = strOf (logL n evs ++ [53, 32, 43, 32, 48, 32, 49, 32, 10])) : parseLog s = ⟨0, [], evs.length + 2, 8, 21⟩ := by
  obtain ⟨k, c, h1, h2, h3, h4, h5, h6⟩ := parse_tail hl hok (by decide) hs
  have h3' : c.pos + 9 = s.size := h3
  have d5 : decL 5 = [53] := decL_small 5 (by decide)
  have d0 : decL 0 = [48] := decL_small 0 (by decide)
  have d1 : decL 1 = [49] := decL_small 1 (by decide)
  have hb2 : Bears s c.pos (toksL [.num 5 maxT, .byte 32] ++ toksL [.byte 43, .byte 32, .num 0 maxV, .byte 32, .num 1 maxV, .byte 32, .byte 10]) := by
    have : toksL [.num 5 maxT, .byte 32] ++ toksL [.byte 43, .byte 32, .num 0 maxV, .byte 32, .num 1 maxV, .byte 32, .byte 10] = [53, 32, 43, 32, 48, 32, 49, 32, 10] := by simp [toksL, Tok.bytes, d5, d0, d1]
    rw [this]; exact h4
  have l2 : (toksL [.num 5 maxT, .byte 32]).length = 2 := by simp [toksL, Tok.bytes, d5]
  have e2 : ev2 s c = adv (toksL [.num 5 maxT, .byte 32]) c := runT_at (s := s) (c := c) [.num 5 maxT, .byte 32] ⟨by decide, ⟨32, _, rfl, by decide⟩, by decide, trivial⟩ h2 hb2.left (by omega)
  have hsg : chAt s (ev2 s c).pos = sgB true := by rw [e2, adv_pos]; exact hb2.right.head
  have e3 : evSg s (ev2 s c) = scByte s 43 (ev2 s c) := sg_is true (.inr (.inr hsg))
  have hb6 : Bears s c.pos (toksL [.num 5 maxT, .byte 32, .byte 43, .byte 32, .num 0 maxV, .byte 32] ++ (decL 1 ++ [32, 10])) := by
    have : toksL [.num 5 maxT, .byte 32, .byte 43, .byte 32, .num 0 maxV, .byte 32] ++ (decL 1 ++ [32, 10]) = [53, 32, 43, 32, 48, 32, 49, 32, 10] := by simp [toksL, Tok.bytes, d5, d0, d1]
    rw [this]; exact h4
  have l6 : (toksL [.num 5 maxT, .byte 32, .byte 43, .byte 32, .num 0 maxV, .byte 32]).length = 6 := by simp [toksL, Tok.bytes, d5, d0]
  have e6 : ev6 s c = adv (toksL [.num 5 maxT, .byte 32, .byte 43, .byte 32, .num 0 maxV, .byte 32]) c := by
    have := runT_at (s := s) (c := c) [.num 5 maxT, .byte 32, .byte 43, .byte 32, .num 0 maxV, .byte 32] ⟨by decide, ⟨32, _, rfl, by decide⟩, by decide, by decide, by decide, by decide, ⟨32, _, rfl, by decide⟩, by decide, trivial⟩ h2 hb6.left (by omega)
    rw [← this]
    unfold ev6 ev4
    rw [e3]
    rfl
  have p6 : (ev6 s c).pos = c.pos + 6 := by rw [e6, adv_pos, l6]
  have z6 : (ev6 s c).err = 0 := by rw [e6, adv_err]; exact h2
  have hb7 := hb6.right
  rw [l6, ← p6] at hb7
  have hD : DigsAt s (ev6 s c) (decL 1) := digs_dec hb7.left (by rw [p6, d1]; show c.pos + 6 + 1 ≤ _; omega) (.inr (by rw [hb7.right.head]; decide))
  have e7 := (hD.reads (most := maxV) z6 (by rw [hL_dec]; decide)).2
  have z7 : (scNum s maxV (ev6 s c)).err = 0 := by rw [e7, adv_err]; exact z6
  have p7 : (scNum s maxV (ev6 s c)).pos = c.pos + 7 := by rw [e7, adv_pos, p6, d1]; rfl
  have c7 : chAt s (scNum s maxV (ev6 s c)).pos = 32 := by
    have := hb7.right.head
    rw [p6, d1] at this
    rw [p7]
    exact this
  have e8 := (scByte_miss (s := s) (b := 10) z7 (by omega) (by decide) (by rw [c7]; decide)).2
  have e9 : evEnd s c = { scNum s maxV (ev6 s c) with err := 21 } := e8
  have e10 : scNum s maxV (ev6 s c) = adv [53, 32, 43, 32, 48, 32, 49] c := by
    rw [e7, e6, ← adv_append]
    congr 1
    simp [toksL, Tok.bytes, d5, d0, d1]
  rw [adv_plain _ _ (by decide)] at e10
  rw [e10] at e9
  rw [h1, parse_err h2 (by omega) (by rw [e9]; show (21 : Nat) ≠ 0; decide), e9]
  dsimp only
  rw [h5, h6]
  rfl

/-- Two events of one time. -/
theorem turn_first (e : Eg) : turnF [] e true = some [e] := by unfold turnF posF; simp [eRising]
theorem turn_second {a b : Eg} (h : eLess a b = true) : ∃ l, turnF [a] b true = some l := by
  have hne : b ≠ a := fun e => by
    subst e
    unfold eLess at h
    have := of_decide_eq_true h
    omega
  unfold turnF
  rw [if_neg (by simp [eRising, hne]), if_pos rfl]
  exact ⟨_, rfl⟩
theorem tie_one {n : Nat} {t : Int} {a : Eg} (hn : n ≤ 4294967296) (ht : 0 ≤ t ∧ t ≤ 4611686018427387903) (ha : eRight a.1 a.2 n = true) : checkF n [(t, a, true)] = (0, 0) := by
  unfold checkF
  rw [if_neg (by simp; omega), chk_step (by dsimp only; omega) ha rfl (turn_first a)]
  rfl
theorem tie_two {n : Nat} {t : Int} {a b : Eg} (hn : n ≤ 4294967296) (ht : 0 ≤ t ∧ t ≤ 4611686018427387903) (ha : eRight a.1 a.2 n = true) (hb : eRight b.1 b.2 n = true) (h : eLess a b = true) : checkF n [(t, a, true), (t, b, true)] = (0, 0) := by
  obtain ⟨l, hl⟩ := turn_second h
  unfold checkF
  rw [if_neg (by simp; omega), chk_step (by dsimp only; omega) ha rfl (turn_first a), chk_step (x := (t, b, true)) (by dsimp only; omega) hb (by
    have : eBef (t, a, true) (t, b, true) = true := eBef_iff.2 (.inr ⟨rfl, h⟩)
    simp [this]) hl]
  rfl
theorem tie_not {n : Nat} {t : Int} {a b : Eg} (hn : n ≤ 4294967296) (ht : 0 ≤ t ∧ t ≤ 4611686018427387903) (ha : eRight a.1 a.2 n = true) (hb : eRight b.1 b.2 n = true) (h : eLess a b = false) : (checkF n [(t, a, true), (t, b, true)]).2 = 23 := by
  unfold checkF
  rw [if_neg (by simp; omega), chk_step (by dsimp only; omega) ha rfl (turn_first a), chk_order (x := (t, b, true)) (by dsimp only; omega) hb (by
    have : eBef (t, a, true) (t, b, true) = false := by
      rw [Bool.eq_false_iff]
      intro h1
      rcases eBef_iff.1 h1 with h2 | ⟨-, h2⟩
      · dsimp only at h2; omega
      · dsimp only at h2; rw [h2] at h; cases h
    simp [this])]

/-- One event more. -/
theorem chk_snoc (n : Nat) (x : Ev) : ∀ (l : List Ev) (now : List Eg) (pv : Option Ev) (i : Nat), (chkF n now pv i l).2 = 0 → chkF n now pv i (l ++ [x]) = chkF n (aftF now l) (l.getLast?.or pv) (i + l.length) [x]
  | [], now, pv, i, _ => rfl
  | y :: l, now, pv, i, h => by
    have h' := h
    rw [chkF] at h
    rw [List.cons_append, chkF]
    split at h
    · simp at h
    · rename_i h1
      rw [if_neg h1]
      split at h
      · simp at h
      · rename_i h2
        rw [if_neg h2]
        split at h
        · simp at h
        · rename_i h3
          rw [if_neg h3]
          cases h4 : turnF now y.2.1 y.2.2 with
          | none => rw [h4] at h; simp at h
          | some now' =>
            rw [h4] at h
            have ih := chk_snoc n x l now' (some y) (i + 1) h
            dsimp only at ih ⊢
            rw [ih, aftF, h4]
            have e1 : (y :: l).getLast?.or pv = l.getLast?.or (some y) := by
              cases l with
              | nil => rfl
              | cons z l => rw [List.getLast?_cons_cons, List.getLast?_eq_some_getLast (List.cons_ne_nil _ _)]; rfl
            rw [e1, List.length_cons, show i + 1 + l.length = i + (l.length + 1) by omega]
            rfl
theorem check_snoc {n : Nat} {l : List Ev} {x : Ev} (hl : l.length ≤ 1000000) (h : (checkF n l).2 = 0) : checkF n (l ++ [x]) = chkF n (aftF [] l) l.getLast? (0 + l.length) [x] := by
  have hn := (check_in h).1
  have hn' : n ≤ 4294967296 := hn
  unfold checkF at h ⊢
  rw [if_neg (by omega)] at h
  rw [if_neg (by rw [List.length_append, List.length_singleton]; omega), chk_snoc n x l [] none 0 h, Option.or_none]
theorem snoc_edge {n : Nat} {l : List Ev} {x : Ev} (hl : l.length ≤ 1000000) (h : (checkF n l).2 = 0) (ht : 0 ≤ x.1 ∧ x.1 ≤ 4611686018427387903) (hr : eRight x.2.1.1 x.2.1.2 n = false) : (checkF n (l ++ [x])).2 = 24 := by
  rw [check_snoc hl h, chk_vertex (by omega) hr]
theorem snoc_there {n : Nat} {l : List Ev} {x : Ev} (hl : l.length ≤ 1000000) (h : (checkF n l).2 = 0) (ht : 0 ≤ x.1 ∧ x.1 ≤ 4611686018427387903) (hr : eRight x.2.1.1 x.2.1.2 n = true) (ho : ∀ y, l.getLast? = some y → y.1 < x.1) (hx : x.2.2 = false) (hno : x.2.1 ∉ aftF [] l) : (checkF n (l ++ [x])).2 = 25 := by
  rw [check_snoc hl h, chk_edge (by omega) hr ?_ ?_]
  · cases hy : l.getLast? with
    | none => rfl
    | some y =>
      have := ho y hy
      have : eBef y x = true := eBef_iff.2 (.inl this)
      simp [this]
  · unfold turnF
    rw [if_pos (.inr (by rw [hx]; simp [hno]))]

end Go.Proofs.YtpeibameegjefaaDoor
