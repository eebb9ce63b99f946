/-
  A log that is read whole, and checked behind its last line, tells what one tells that is checked line by line. Plain mathematics.
-/
import Derived.Test.YtpeibameegjefaaDoorPLog4
import Derived.Test.YtpeibameegjefaaDoorJ2
import Derived.Test.YtpeibameegjefaaDoorTLogE
namespace Go.Proofs.YtpeibameegjefaaDoor
open Go.RowKit

/-- The whole lines, up to the end or the first error. -/
def readF (s : ByteArray) : Nat → List Ev → Sc → List Ev × Sc
  | 0, evs, c => (evs, c)
  | k + 1, evs, c =>
    if (scNext s c).2 = false then (evs, c)
    else if (evEnd s c).err ≠ 0 then (evs, evEnd s c)
    else readF s k (evs ++ [evVal s c]) (evEnd s c)
def toldF (n : Nat) (p : List Ev × Sc) : LogR :=
  if (checkF n p.1).2 ≠ 0 then ⟨0, [], (checkF n p.1).1 + 2, 1, (checkF n p.1).2⟩
  else if p.2.err ≠ 0 then ⟨0, [], p.2.line, p.2.col, p.2.err⟩ else ⟨n, p.1, 0, 0, 0⟩

theorem read_stop {s : ByteArray} {evs : List Ev} {c : Sc} (k : Nat) (h : (scNext s c).2 = false) : readF s k evs c = (evs, c) := by
  cases k with
  | zero => rfl
  | succ k => rw [readF, if_pos h]
theorem read_err {s : ByteArray} {evs : List Ev} {c : Sc} {k : Nat} (hn : (scNext s c).2 = true) (h : (evEnd s c).err ≠ 0) (j : Nat) : readF s (k + 1) evs c = readF s j evs (evEnd s c) := by
  rw [readF, if_neg (by rw [hn]; decide), if_pos h, read_stop j (by rw [scNext_stop h])]
theorem read_step {s : ByteArray} {evs : List Ev} {c : Sc} {k : Nat} (hn : (scNext s c).2 = true) (h : (evEnd s c).err = 0) : readF s (k + 1) evs c = readF s k (evs ++ [evVal s c]) (evEnd s c) := by
  rw [readF, if_neg (by rw [hn]; decide), if_neg (by rw [h]; decide)]
theorem next_in {s : ByteArray} {c : Sc} (h : (scNext s c).2 = true) : c.err = 0 ∧ c.pos < s.size := by
  unfold scNext at h
  split at h
  · assumption
  · simp at h
/-- Where a line was read, the scanner stands at the next one's beginning. -/
theorem end_at {s : ByteArray} {c : Sc} (he : c.err = 0) (hp : c.pos ≤ s.size) (h : (evEnd s c).err = 0) : (evEnd s c).line = c.line + 1 ∧ (evEnd s c).col = 1 ∧ c.pos < (evEnd s c).pos ∧ (evEnd s c).pos ≤ s.size := by
  obtain ⟨i1, i2, i3⟩ := ev_inv he hp h
  have i4 : evEnd s c = adv (lineL (evVal s c)) c := (ev_at i1 he i2 i3).2
  have h3 := adv_end (lineB_plain (evVal s c)) c
  rw [← lineL_body, ← i4] at h3
  have hpos := lineL_pos (evVal s c)
  have e5 : (evEnd s c).pos = c.pos + (lineL (evVal s c)).length := by rw [i4, adv_pos]
  exact ⟨h3.2, h3.1, by omega, by omega⟩
theorem read_more (s : ByteArray) : ∀ (k : Nat) (evs : List Ev) (c : Sc), evs.length ≤ c.pos → c.pos ≤ s.size → ∃ r, (readF s k evs c).1 = evs ++ r ∧ evs.length + r.length ≤ s.size
  | 0, evs, c, h1, h2 => ⟨[], by rw [readF, List.append_nil], by simp; omega⟩
  | k + 1, evs, c, h1, h2 => by
    by_cases hn : (scNext s c).2 = false
    · exact ⟨[], by rw [read_stop _ hn, List.append_nil], by simp; omega⟩
    · have hn' : (scNext s c).2 = true := by simpa using hn
      obtain ⟨he, hp⟩ := next_in hn'
      by_cases h : (evEnd s c).err = 0
      · obtain ⟨-, -, q1, q2⟩ := end_at he (Nat.le_of_lt hp) h
        obtain ⟨r, g1, g2⟩ := read_more s k (evs ++ [evVal s c]) (evEnd s c) (by rw [List.length_append, List.length_singleton]; omega) q2
        refine ⟨evVal s c :: r, by rw [read_step hn' h, g1, List.append_assoc]; rfl, ?_⟩
        rw [List.length_append, List.length_singleton] at g2
        rw [List.length_cons]
        omega
      · exact ⟨[], by rw [read_err hn' h 0, readF, List.append_nil], by simp; omega⟩
theorem check_last {n : Nat} {l : List Ev} {x : Ev} (hl : l.length ≤ 1000000) (h : (checkF n l).2 = 0) (hb : (checkF n (l ++ [x])).2 ≠ 0) : (checkF n (l ++ [x])).1 = l.length := by
  rw [check_snoc hl h, Nat.zero_add] at hb ⊢
  rcases chk_cases n (aftF [] l) l.getLast? l.length x with ⟨e, -, h1⟩ | ⟨now', h1⟩
  · rw [h1]
  · rw [h1, chkF] at hb
    exact absurd rfl hb
theorem chk_le (n : Nat) : ∀ (l : List Ev) (now : List Eg) (pv : Option Ev) (i : Nat), (chkF n now pv i l).1 ≤ i + l.length
  | [], now, pv, i => by rw [chkF]; exact Nat.zero_le _
  | x :: r, now, pv, i => by
    rcases chk_cases n now pv i x with ⟨e, -, h⟩ | ⟨now', h⟩
    · rw [h r]
      exact Nat.le_add_right _ _
    · rw [h r]
      have := chk_le n r now' (some x) (i + 1)
      rw [List.length_cons]
      omega
theorem check_le (n : Nat) (l : List Ev) : (checkF n l).1 ≤ l.length := by
  unfold checkF
  split
  · exact Nat.zero_le _
  · have := chk_le n l [] none 0
    omega
theorem told_is {s : ByteArray} {n : Nat} (hs : s.size ≤ 100000) : ∀ (k j : Nat) (evs : List Ev) (c : Sc), s.size - c.pos < k → s.size - c.pos < j → (checkF n evs).2 = 0 → evs.length ≤ c.pos → c.pos ≤ s.size → (c.err = 0 → c.line = evs.length + 2 ∧ c.col = 1) → parseEvs s n k evs c = toldF n (readF s j evs c)
  | 0, _, _, _, hk, _, _, _, _, _ => by omega
  | k + 1, 0, _, _, _, hj, _, _, _, _ => by omega
  | k + 1, j + 1, evs, c, hk, hj, hc, hl, hp, hat => by
    by_cases he : c.err = 0
    · by_cases hend : s.size ≤ c.pos
      · rw [parse_end he hend, read_stop _ (by rw [scNext_end hend])]
        unfold toldF
        rw [if_neg (by rw [hc]; decide), if_neg (by rw [he]; decide)]
      · have hn : (scNext s c).2 = true := by rw [scNext_in he (by omega)]
        by_cases h1 : (evEnd s c).err = 0
        · obtain ⟨q0, q1, q2, q3⟩ := end_at he hp h1
          obtain ⟨a1, a2⟩ := hat he
          by_cases h2 : (checkF n (evs ++ [evVal s c])).2 = 0
          · rw [parse_step he (by omega) h1 h2, read_step hn h1]
            refine told_is hs k j _ _ (by omega) (by omega) h2 (by rw [List.length_append, List.length_singleton]; omega) q3 (fun _ => ⟨?_, q1⟩)
            rw [List.length_append, List.length_singleton, q0, a1]
          · rw [parse_bad he (by omega) h1 h2, read_step hn h1]
            obtain ⟨r, g1, g2⟩ := read_more s j (evs ++ [evVal s c]) (evEnd s c) (by rw [List.length_append, List.length_singleton]; omega) q3
            unfold toldF
            rw [g1, check_append (by omega) h2, if_pos h2, check_last (by omega) hc h2, a1, a2]
        · rw [parse_err he (by omega) h1, read_err hn h1 0, readF]
          unfold toldF
          rw [if_neg (by rw [hc]; decide), if_pos h1]
    · rw [parse_stop he, read_stop _ (by rw [scNext_stop he])]
      unfold toldF
      rw [if_neg (by rw [hc]; decide), if_pos he]
theorem hd_at {s : ByteArray} (z4 : (hd4 s).err = 0) : (hd4 s).line = 2 ∧ (hd4 s).col = 1 := by
  have z3 : (scNum s maxN (hd2 s)).err = 0 := Decidable.byContradiction fun hn => hn (by rw [show hd4 s = scByte s 10 (scNum s maxN (hd2 s)) from rfl, (scByte_stop hn).2] at z4; exact absurd z4 hn)
  have z2 : (hd2 s).err = 0 := Decidable.byContradiction fun hn => by rw [(scNum_stop' hn).2] at z3; exact hn z3
  have z1 : (scWord s (strOf logW) ⟨0, 1, 1, 0⟩).err = 0 := Decidable.byContradiction fun hn => by rw [show hd2 s = scByte s 32 (scWord s (strOf logW) ⟨0, 1, 1, 0⟩) from rfl, (scByte_stop hn).2] at z2; exact hn z2
  obtain ⟨w1, w2⟩ := word_inv z1
  have ew := word_at w1 w2
  obtain ⟨q2, b2, a2⟩ := byte_inv z1 (by decide) (show (scByte s 32 (scWord s (strOf logW) ⟨0, 1, 1, 0⟩)).err = 0 from z2)
  have a2' : hd2 s = adv [32] (scWord s (strOf logW) ⟨0, 1, 1, 0⟩) := a2
  rw [ew] at q2 b2 a2'
  have q2' : 3 < s.size := q2
  have p2 : (hd2 s).pos = 4 := by rw [a2']; rfl
  obtain ⟨d3, m3, a3⟩ := num_inv z2 (by omega) z3
  obtain ⟨q4, b4, a4⟩ := byte_inv z3 (by decide) (show (scByte s 10 (scNum s maxN (hd2 s))).err = 0 from z4)
  have a4' : hd4 s = adv [10] (scNum s maxN (hd2 s)) := a4
  obtain ⟨n, hn⟩ : ∃ n, n = scNumVal s maxN (hd2 s) := ⟨_, rfl⟩
  rw [← hn] at d3 m3 a3
  have e : hd4 s = adv (headB n ++ [10]) ⟨3, 1, 4, 0⟩ := by
    unfold headB
    rw [a4', a3, a2', adv_append, adv_append]
  have h := adv_end (headB_plain n) ⟨3, 1, 4, 0⟩
  rw [← e] at h
  exact ⟨h.2, h.1⟩
theorem log_told {s : ByteArray} (hs : s.size ≤ 100000) (hok : ScOk s (hd4 s)) (j : Nat) (hj : s.size < j) : parseLog s = toldF (scNumVal s maxN (hd2 s)) (readF s j [] (hd4 s)) := by
  unfold parseLog
  refine told_is hs _ _ _ _ (by omega) (by omega) (check_nil (scNumVal_le s maxN _)) (by simp) ?_ (fun he => by rw [List.length_nil]; exact hd_at he)
  exact hok.1

/-- The sign, looked for the other way about. -/
theorem sign43 (s : ByteArray) (c : Sc) : evSg s c = (if (scNext s c).1 = 43 then scByte s 43 c else scByte s 45 c) ∧ evPlus s c = (if (scNext s c).1 = 43 then scByteOk s 43 c else false) := by
  unfold evSg evPlus
  by_cases he : c.err = 0
  · by_cases hp : s.size ≤ c.pos
    · rw [scNext_end hp, if_neg (by simp), if_neg (by simp), if_neg (by decide), if_neg (by decide), (scByte_end he hp).1, (scByte_end he hp).2, (scByte_end he hp).2]
      exact ⟨rfl, rfl⟩
    · have hp' : c.pos < s.size := by omega
      rw [scNext_in he hp']
      by_cases h1 : chAt s c.pos = 43
      · rw [h1]
        exact ⟨by rw [if_neg (by decide), if_pos rfl], by rw [if_neg (by decide), if_pos rfl]⟩
      · by_cases h2 : chAt s c.pos = 45
        · rw [h2]
          exact ⟨by rw [if_pos rfl, if_neg (by decide)], by rw [if_pos rfl, if_neg (by decide)]⟩
        · have h3 : ¬ (chAt s c.pos, true) = (45, true) := fun h => h2 (Prod.ext_iff.1 h).1
          rw [if_neg h3, if_neg h3, if_neg h1, if_neg h1, (scByte_miss he hp' (by decide) h1).1, (scByte_miss he hp' (by decide) h1).2, (scByte_miss he hp' (by decide) h2).2]
          exact ⟨rfl, rfl⟩
  · rw [scNext_stop he, if_neg (by simp), if_neg (by simp), if_neg (by decide), if_neg (by decide), (scByte_stop he).1, (scByte_stop he).2, (scByte_stop he).2]
    exact ⟨rfl, rfl⟩
theorem byte_iff {s : ByteArray} {c : Sc} {b : Nat} (hb : b < 256) : scByteOk s b c = decide ((scByte s b c).err = 0) := by
  by_cases he : c.err = 0
  · by_cases hp : s.size ≤ c.pos
    · rw [(scByte_end he hp).1, (scByte_end he hp).2]; rfl
    · have hp' : c.pos < s.size := by omega
      by_cases h : chAt s c.pos = b
      · rw [(scByte_hit he hp' hb h).1, (scByte_hit he hp' hb h).2, step_adv h, adv_err, he]; rfl
      · rw [(scByte_miss he hp' hb h).1, (scByte_miss he hp' hb h).2]; rfl
  · rw [(scByte_stop he).1, (scByte_stop he).2, decide_eq_false he]

end Go.Proofs.YtpeibameegjefaaDoor
