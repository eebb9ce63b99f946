/-
  Texts of ours, joined: PLog PLog2 PLogD PLog3 LRow LChkD LInsD LBackD PTab PTab2 LLessD LMath LBackQ LRound PTabD PTab4.
-/
import Derived.Test.YtnffjafddbbjaaaGreatDoorJ1
import Derived.Test.YtnffjafddbbjaaaGreatDoorJ2

/-
  The log of a history: its text, and what is read of a text. Plain mathematics.
-/
namespace Go.Proofs.YtnffjafddbbjaaaGreatDoor
open Go.RowKit

abbrev maxT : Nat := 4611686018427387903
abbrev maxV : Nat := 4294967295
abbrev maxN : Nat := 4294967296
/-- What a text says: a history, or where it is wrong. -/
structure LogR where
  n : Nat
  evs : List Ev
  line : Nat
  col : Nat
  err : Nat
deriving DecidableEq

def sgB (ad : Bool) : Nat := if ad = true then 43 else 45
def evToks (x : Ev) : List Tok := [.num x.1.toNat maxT, .byte 32, .byte (sgB x.2.2), .byte 32, .num x.2.1.1 maxV, .byte 32, .num x.2.1.2 maxV, .byte 10]
def lineL (x : Ev) : List Nat := toksL (evToks x)
def headToks (n : Nat) : List Tok := [.byte 32, .num n maxN, .byte 10]
def logW : List Nat := [108, 111, 103]
def logL (n : Nat) (evs : List Ev) : List Nat := logW ++ (toksL (headToks n) ++ evs.flatMap lineL)
def EvIn (x : Ev) : Prop := 0 ≤ x.1 ∧ x.1 ≤ 4611686018427387903 ∧ x.2.1.1 ≤ maxV ∧ x.2.1.2 ≤ maxV
theorem sgB_lt (ad : Bool) : sgB ad < 256 ∧ sgB ad ≠ 10 ∧ isDig (sgB ad) = false := by cases ad <;> decide
theorem evToks_ok {x : Ev} (h : EvIn x) : TokOk (evToks x) := by
  obtain ⟨h1, h2, h3, h4⟩ := h
  exact ⟨by show _ ≤ 4611686018427387903; omega, ⟨32, _, rfl, by decide⟩, by decide, (sgB_lt _).1, by decide, h3, ⟨32, _, rfl, by decide⟩, by decide, h4, ⟨10, _, rfl, by decide⟩, by decide, trivial⟩
theorem headToks_ok {n : Nat} (h : n ≤ maxN) : TokOk (headToks n) := ⟨by decide, h, ⟨10, _, rfl, by decide⟩, by decide, trivial⟩

/-- The sign of an event. -/
def evSg (s : ByteArray) (c : Sc) : Sc := if scNext s c = (45, true) then scByte s 45 c else scByte s 43 c
def evPlus (s : ByteArray) (c : Sc) : Bool := if scNext s c = (45, true) then false else scByteOk s 43 c
def ev2 (s : ByteArray) (c : Sc) : Sc := scByte s 32 (scNum s maxT c)
def ev4 (s : ByteArray) (c : Sc) : Sc := scByte s 32 (evSg s (ev2 s c))
def ev6 (s : ByteArray) (c : Sc) : Sc := scByte s 32 (scNum s maxV (ev4 s c))
def evEnd (s : ByteArray) (c : Sc) : Sc := scByte s 10 (scNum s maxV (ev6 s c))
def evVal (s : ByteArray) (c : Sc) : Ev := ((scNumVal s maxT c : Int), (scNumVal s maxV (ev4 s c), scNumVal s maxV (ev6 s c)), evPlus s (ev2 s c))
def parseEvs (s : ByteArray) (n : Nat) : Nat → List Ev → Sc → LogR
  | 0, _, c => ⟨0, [], c.line, c.col, 99⟩
  | k + 1, evs, c =>
    if c.err ≠ 0 then ⟨0, [], c.line, c.col, c.err⟩
    else if (scNext s c).2 = false then ⟨n, evs, 0, 0, 0⟩
    else if (evEnd s c).err ≠ 0 then ⟨0, [], (evEnd s c).line, (evEnd s c).col, (evEnd s c).err⟩
    else if (checkF n (evs ++ [evVal s c])).2 ≠ 0 then ⟨0, [], c.line, c.col, (checkF n (evs ++ [evVal s c])).2⟩
    else parseEvs s n k (evs ++ [evVal s c]) (evEnd s c)
def hd2 (s : ByteArray) : Sc := scByte s 32 (scWord s (strOf logW) ⟨0, 1, 1, 0⟩)
def hd4 (s : ByteArray) : Sc := scByte s 10 (scNum s maxN (hd2 s))
def parseLog (s : ByteArray) : LogR := parseEvs s (scNumVal s maxN (hd2 s)) (s.size + 1) [] (hd4 s)

theorem sg_stop {s : ByteArray} {c : Sc} (h : c.err ≠ 0) : evSg s c = c := by
  unfold evSg
  split
  · exact (scByte_stop h).2
  · exact (scByte_stop h).2
theorem sg_is {s : ByteArray} {c : Sc} (ad : Bool) (h : c.err ≠ 0 ∨ s.size ≤ c.pos ∨ chAt s c.pos = sgB ad) : evSg s c = scByte s (sgB ad) c := by
  by_cases he : c.err = 0
  · by_cases hp : s.size ≤ c.pos
    · unfold evSg
      rw [scNext_end hp, if_neg (by simp), (scByte_end he hp).2, (scByte_end he hp).2]
    · have hc : chAt s c.pos = sgB ad := by rcases h with h | h | h <;> first | exact h | omega
      unfold evSg
      rw [scNext_in he (by omega), hc]
      cases ad <;> rfl
  · rw [sg_stop he, (scByte_stop he).2]
theorem plus_is {s : ByteArray} {c : Sc} {ad : Bool} (he : c.err = 0) (hp : c.pos < s.size) (hc : chAt s c.pos = sgB ad) : evPlus s c = ad := by
  unfold evPlus
  rw [scNext_in he hp, hc]
  cases ad with
  | true =>
    rw [if_neg (by decide)]
    exact (scByte_hit he hp (by decide) hc).1
  | false => rfl
/-- An event's end, token by token, as far as the text goes. -/
theorem ev_toks {s : ByteArray} {c : Sc} {x : Ev} (hx : EvIn x) (he : c.err = 0) (hp : c.pos ≤ s.size) (hb : Bears s c.pos ((lineL x).take (s.size - c.pos))) : evEnd s c = runT s (evToks x) c := by
  have hsg : (ev2 s c).err ≠ 0 ∨ s.size ≤ (ev2 s c).pos ∨ chAt s (ev2 s c).pos = sgB x.2.2 := by
    have hr : ev2 s c = runT s [.num x.1.toNat maxT, .byte 32] c := rfl
    have hk : TokOk [.num x.1.toNat maxT, .byte 32] := ⟨by obtain ⟨h1, h2, -⟩ := hx; show _ ≤ 4611686018427387903; omega, ⟨32, _, rfl, by decide⟩, by decide, trivial⟩
    have hl : lineL x = toksL [.num x.1.toNat maxT, .byte 32] ++ (sgB x.2.2 :: toksL [.byte 32, .num x.2.1.1 maxV, .byte 32, .num x.2.1.2 maxV, .byte 10]) := by
      simp [lineL, evToks, toksL, Tok.bytes]
    rw [hl] at hb
    by_cases hin : (toksL [.num x.1.toNat maxT, .byte 32]).length ≤ s.size - c.pos
    · obtain ⟨h1, h2⟩ := take_bears hb hin
      rw [hr, runT_at _ hk he h1 (by omega)]
      by_cases hz : s.size - c.pos - (toksL [.num x.1.toNat maxT, .byte 32]).length = 0
      · exact .inr (.inl (by rw [adv_pos]; omega))
      · obtain ⟨m, hm⟩ : ∃ m, s.size - c.pos - (toksL [.num x.1.toNat maxT, .byte 32]).length = m + 1 := ⟨_, (Nat.succ_pred hz).symm⟩
        rw [hm, List.take_succ_cons] at h2
        exact .inr (.inr (by rw [adv_pos]; exact h2.head))
    · refine .inl ?_
      rw [hr, runT_cut _ hk he hp (by omega) (by rw [List.take_append_of_le_length (by omega)] at hb; exact hb)]
      simp
  have h1 := sg_is x.2.2 hsg
  unfold evEnd ev6 ev4
  rw [h1]
  rfl
theorem num_val {s : ByteArray} {c : Sc} {v most b : Nat} {r : List Tok} (he : c.err = 0) (hm : v ≤ most) (hd : isDig b = false) (hb : Bears s c.pos (toksL (.num v most :: .byte b :: r))) (hs : c.pos + (toksL (.num v most :: .byte b :: r)).length ≤ s.size) : scNumVal s most c = v := by
  rw [toksL_cons] at hb hs
  rw [List.length_append] at hs
  have h1 : Bears s c.pos (decL v) := hb.left
  have h2 := hb.right
  have h3 : (Tok.bytes (.num v most)).length = (decL v).length := rfl
  rw [toksL_cons] at h2
  have h4 : chAt s (c.pos + (decL v).length) = b := h2.head
  have := ((digs_dec h1 (by omega) (.inr (by rw [h4]; exact hd))).reads (most := most) he (by rw [hL_dec]; exact hm)).1
  rw [this, hL_dec]
set_option maxHeartbeats 1000000 in
theorem ev_at {s : ByteArray} {c : Sc} {x : Ev} (hx : EvIn x) (he : c.err = 0) (hb : Bears s c.pos (lineL x)) (hs : c.pos + (lineL x).length ≤ s.size) : evVal s c = x ∧ evEnd s c = adv (lineL x) c := by
  have hk := evToks_ok hx
  have hlt : (lineL x).take (s.size - c.pos) = lineL x := List.take_of_length_le (by omega)
  have hpz : c.pos ≤ s.size := by omega
  have h1 := ev_toks (s := s) (c := c) hx he hpz (by rw [hlt]; exact hb)
  have h2 := runT_at (evToks x) hk he hb hs
  refine ⟨?_, h1.trans h2⟩
  -- the parts
  obtain ⟨t, ⟨u, v⟩, ad⟩ := x
  obtain ⟨h3, h4, h5, h6⟩ := hx
  have hl : lineL (t, (u, v), ad) = toksL [.num t.toNat maxT, .byte 32] ++ toksL [.byte (sgB ad), .byte 32, .num u maxV, .byte 32, .num v maxV, .byte 10] := by simp [lineL, evToks, toksL, Tok.bytes]
  have hl2 : lineL (t, (u, v), ad) = toksL [.num t.toNat maxT, .byte 32, .byte (sgB ad), .byte 32] ++ toksL [.num u maxV, .byte 32, .num v maxV, .byte 10] := by simp [lineL, evToks, toksL, Tok.bytes]
  have hl3 : lineL (t, (u, v), ad) = toksL [.num t.toNat maxT, .byte 32, .byte (sgB ad), .byte 32, .num u maxV, .byte 32] ++ toksL [.num v maxV, .byte 10] := by simp [lineL, evToks, toksL, Tok.bytes]
  have ht : scNumVal s maxT c = t.toNat := num_val (r := [.byte (sgB ad), .byte 32, .num u maxV, .byte 32, .num v maxV, .byte 10]) he (by show _ ≤ 4611686018427387903; dsimp only at h4; omega) (show isDig 32 = false by decide) hb hs
  have k2 : TokOk [.num t.toNat maxT, .byte 32] := ⟨by show _ ≤ 4611686018427387903; dsimp only at h4; omega, ⟨32, _, rfl, by decide⟩, by decide, trivial⟩
  have k4 : TokOk [.num t.toNat maxT, .byte 32, .byte (sgB ad), .byte 32] := ⟨k2.1, ⟨32, _, rfl, by decide⟩, by decide, (sgB_lt _).1, by decide, trivial⟩
  have k6 : TokOk [.num t.toNat maxT, .byte 32, .byte (sgB ad), .byte 32, .num u maxV, .byte 32] := ⟨k2.1, ⟨32, _, rfl, by decide⟩, by decide, (sgB_lt _).1, by decide, h5, ⟨32, _, rfl, by decide⟩, by decide, trivial⟩
  have hb2 := hb
  have hs2 := hs
  rw [hl] at hb2 hs2
  rw [List.length_append] at hs2
  have e2 : ev2 s c = adv (toksL [.num t.toNat maxT, .byte 32]) c := by
    have h7 := runT_at (s := s) (c := c) [.num t.toNat maxT, .byte 32] k2 he hb2.left (by omega)
    exact h7
  have hsg : chAt s (ev2 s c).pos = sgB ad := by rw [e2, adv_pos]; exact hb2.right.head
  have hps : (ev2 s c).pos < s.size := by
    rw [e2, adv_pos]
    have : 0 < (toksL [.byte (sgB ad), .byte 32, .num u maxV, .byte 32, .num v maxV, .byte 10]).length := by simp [toksL, Tok.bytes]
    omega
  have hpl : evPlus s (ev2 s c) = ad := plus_is (by rw [e2, adv_err]; exact he) hps hsg
  have e3 := sg_is ad (.inr (.inr hsg))
  have e4 : ev4 s c = runT s [.num t.toNat maxT, .byte 32, .byte (sgB ad), .byte 32] c := by
    unfold ev4
    rw [e3]
    rfl
  have hb4 := hb
  have hs4 := hs
  rw [hl2] at hb4 hs4
  rw [List.length_append] at hs4
  rw [runT_at _ k4 he hb4.left (by omega)] at e4
  have hu : scNumVal s maxV (ev4 s c) = u := num_val (r := [.num v maxV, .byte 10]) (by rw [e4, adv_err]; exact he) h5 (show isDig 32 = false by decide) (by rw [e4, adv_pos]; exact hb4.right) (by rw [e4, adv_pos]; omega)
  have e6 : ev6 s c = runT s [.num t.toNat maxT, .byte 32, .byte (sgB ad), .byte 32, .num u maxV, .byte 32] c := by
    unfold ev6 ev4
    rw [e3]
    rfl
  have hb6 := hb
  have hs6 := hs
  rw [hl3] at hb6 hs6
  rw [List.length_append] at hs6
  rw [runT_at _ k6 he hb6.left (by omega)] at e6
  have hv : scNumVal s maxV (ev6 s c) = v := num_val (r := []) (by rw [e6, adv_err]; exact he) h6 (show isDig 10 = false by decide) (by rw [e6, adv_pos]; exact hb6.right) (by rw [e6, adv_pos]; omega)
  unfold evVal
  rw [ht, hu, hv, hpl, Int.toNat_of_nonneg h3]
set_option maxHeartbeats 1000000 in
/-- What stood there, where an event was read. -/
theorem ev_inv {s : ByteArray} {c : Sc} (he : c.err = 0) (hp : c.pos ≤ s.size) (h : (evEnd s c).err = 0) : EvIn (evVal s c) ∧ Bears s c.pos (lineL (evVal s c)) ∧ c.pos + (lineL (evVal s c)).length ≤ s.size := by
  have z7 : (scNum s maxV (ev6 s c)).err = 0 := Decidable.byContradiction fun hn => hn (by rw [show evEnd s c = scByte s 10 (scNum s maxV (ev6 s c)) from rfl, (scByte_stop hn).2] at h; exact absurd h hn)
  have z6 : (ev6 s c).err = 0 := Decidable.byContradiction fun hn => by rw [(scNum_stop' hn).2] at z7; exact hn z7
  have z5 : (scNum s maxV (ev4 s c)).err = 0 := Decidable.byContradiction fun hn => by rw [show ev6 s c = scByte s 32 (scNum s maxV (ev4 s c)) from rfl, (scByte_stop hn).2] at z6; exact hn z6
  have z4 : (ev4 s c).err = 0 := Decidable.byContradiction fun hn => by rw [(scNum_stop' hn).2] at z5; exact hn z5
  have z3 : (evSg s (ev2 s c)).err = 0 := Decidable.byContradiction fun hn => by rw [show ev4 s c = scByte s 32 (evSg s (ev2 s c)) from rfl, (scByte_stop hn).2] at z4; exact hn z4
  have z2 : (ev2 s c).err = 0 := Decidable.byContradiction fun hn => by rw [sg_stop hn] at z3; exact hn z3
  have z1 : (scNum s maxT c).err = 0 := Decidable.byContradiction fun hn => by rw [show ev2 s c = scByte s 32 (scNum s maxT c) from rfl, (scByte_stop hn).2] at z2; exact hn z2
  obtain ⟨d1, m1, a1⟩ := num_inv he hp z1
  have p1 : (scNum s maxT c).pos ≤ s.size := by rw [a1, adv_pos]; exact d1.fits
  obtain ⟨q2, b2, a2⟩ := byte_inv z1 (by decide) (show (scByte s 32 (scNum s maxT c)).err = 0 from z2)
  have a2' : ev2 s c = adv [32] (scNum s maxT c) := a2
  -- the sign
  obtain ⟨ad, hsg, hpl, q3, b3, a3⟩ : ∃ ad, evSg s (ev2 s c) = scByte s (sgB ad) (ev2 s c) ∧ evPlus s (ev2 s c) = ad ∧ (ev2 s c).pos < s.size ∧ chAt s (ev2 s c).pos = sgB ad ∧ scByte s (sgB ad) (ev2 s c) = adv [sgB ad] (ev2 s c) := by
    by_cases hn : scNext s (ev2 s c) = (45, true)
    · have e1 : evSg s (ev2 s c) = scByte s 45 (ev2 s c) := if_pos hn
      rw [e1] at z3
      obtain ⟨q, b, a⟩ := byte_inv z2 (by decide) z3
      exact ⟨false, e1, if_pos hn, q, b, a⟩
    · have e1 : evSg s (ev2 s c) = scByte s 43 (ev2 s c) := if_neg hn
      rw [e1] at z3
      obtain ⟨q, b, a⟩ := byte_inv z2 (by decide) z3
      exact ⟨true, e1, by unfold evPlus; rw [if_neg hn]; exact (scByte_hit z2 q (by decide) b).1, q, b, a⟩
  rw [a3] at hsg
  obtain ⟨q4, b4, a4⟩ := byte_inv z3 (by decide) (show (scByte s 32 (evSg s (ev2 s c))).err = 0 from z4)
  have a4' : ev4 s c = adv [32] (evSg s (ev2 s c)) := a4
  have p4 : (ev4 s c).pos ≤ s.size := by rw [a4', adv_pos]; simp only [List.length_singleton] <;> omega
  obtain ⟨d5, m5, a5⟩ := num_inv z4 p4 z5
  obtain ⟨q6, b6, a6⟩ := byte_inv z5 (by decide) (show (scByte s 32 (scNum s maxV (ev4 s c))).err = 0 from z6)
  have a6' : ev6 s c = adv [32] (scNum s maxV (ev4 s c)) := a6
  have p6 : (ev6 s c).pos ≤ s.size := by rw [a6', adv_pos]; simp only [List.length_singleton] <;> omega
  obtain ⟨d7, m7, a7⟩ := num_inv z6 p6 z7
  obtain ⟨q8, b8, a8⟩ := byte_inv z7 (by decide) (show (scByte s 10 (scNum s maxV (ev6 s c))).err = 0 from h)
  have e0 : (evVal s c).1.toNat = scNumVal s maxT c := by unfold evVal; simp
  have hl : lineL (evVal s c) = decL (scNumVal s maxT c) ++ ([32] ++ ([sgB ad] ++ ([32] ++ (decL (scNumVal s maxV (ev4 s c)) ++ ([32] ++ (decL (scNumVal s maxV (ev6 s c)) ++ [10])))))) := by
    unfold lineL evToks
    rw [e0]
    simp [toksL, Tok.bytes, evVal, hpl]
  have P1 : (scNum s maxT c).pos = c.pos + (decL (scNumVal s maxT c)).length := by rw [a1, adv_pos]
  have P2 : (ev2 s c).pos = (scNum s maxT c).pos + 1 := by rw [a2', adv_pos]; rfl
  have P3 : (evSg s (ev2 s c)).pos = (ev2 s c).pos + 1 := by rw [hsg, adv_pos]; rfl
  have P4 : (ev4 s c).pos = (evSg s (ev2 s c)).pos + 1 := by rw [a4', adv_pos]; rfl
  have P5 : (scNum s maxV (ev4 s c)).pos = (ev4 s c).pos + (decL (scNumVal s maxV (ev4 s c))).length := by conv => lhs; rw [a5, adv_pos]
  have P6 : (ev6 s c).pos = (scNum s maxV (ev4 s c)).pos + 1 := by rw [a6', adv_pos]; rfl
  have P7 : (scNum s maxV (ev6 s c)).pos = (ev6 s c).pos + (decL (scNumVal s maxV (ev6 s c))).length := by conv => lhs; rw [a7, adv_pos]
  refine ⟨⟨by unfold evVal; simp, by unfold evVal; show (scNumVal s maxT c : Int) ≤ _; have : scNumVal s maxT c ≤ 4611686018427387903 := m1; omega, m5, m7⟩, ?_, ?_⟩
  · rw [hl]
    refine d1.bears.append ?_
    rw [← P1]
    refine (Bears.one b2).append ?_
    rw [List.length_singleton, ← P2]
    refine (Bears.one b3).append ?_
    rw [List.length_singleton, ← P3]
    refine (Bears.one b4).append ?_
    rw [List.length_singleton, ← P4]
    refine d5.bears.append ?_
    rw [← P5]
    refine (Bears.one b6).append ?_
    rw [List.length_singleton, ← P6]
    refine d7.bears.append ?_
    rw [← P7]
    exact Bears.one b8
  · rw [hl]
    simp only [List.length_append, List.length_singleton]
    omega

end Go.Proofs.YtnffjafddbbjaaaGreatDoor

/-
  What is read of a log: a printed one is its history; a text that is read is its history's log; a log that is cut is short. Plain mathematics.
-/
namespace Go.Proofs.YtnffjafddbbjaaaGreatDoor
open Go.RowKit

theorem parse_stop {s : ByteArray} {n k : Nat} {evs : List Ev} {c : Sc} (h : c.err ≠ 0) : parseEvs s n (k + 1) evs c = ⟨0, [], c.line, c.col, c.err⟩ := by rw [parseEvs, if_pos h]
theorem parse_end {s : ByteArray} {n k : Nat} {evs : List Ev} {c : Sc} (he : c.err = 0) (h : s.size ≤ c.pos) : parseEvs s n (k + 1) evs c = ⟨n, evs, 0, 0, 0⟩ := by
  rw [parseEvs, if_neg (by simp [he]), scNext_end h, if_pos rfl]
theorem parse_err {s : ByteArray} {n k : Nat} {evs : List Ev} {c : Sc} (he : c.err = 0) (hp : c.pos < s.size) (h : (evEnd s c).err ≠ 0) : parseEvs s n (k + 1) evs c = ⟨0, [], (evEnd s c).line, (evEnd s c).col, (evEnd s c).err⟩ := by
  rw [parseEvs, if_neg (by simp [he]), scNext_in he hp, if_neg (by simp), if_pos h]
theorem parse_bad {s : ByteArray} {n k : Nat} {evs : List Ev} {c : Sc} (he : c.err = 0) (hp : c.pos < s.size) (h : (evEnd s c).err = 0) (hc : (checkF n (evs ++ [evVal s c])).2 ≠ 0) : parseEvs s n (k + 1) evs c = ⟨0, [], c.line, c.col, (checkF n (evs ++ [evVal s c])).2⟩ := by
  rw [parseEvs, if_neg (by simp [he]), scNext_in he hp, if_neg (by simp), if_neg (by simp [h]), if_pos hc]
theorem parse_step {s : ByteArray} {n k : Nat} {evs : List Ev} {c : Sc} (he : c.err = 0) (hp : c.pos < s.size) (h : (evEnd s c).err = 0) (hc : (checkF n (evs ++ [evVal s c])).2 = 0) : parseEvs s n (k + 1) evs c = parseEvs s n k (evs ++ [evVal s c]) (evEnd s c) := by
  rw [parseEvs, if_neg (by simp [he]), scNext_in he hp, if_neg (by simp), if_neg (by simp [h]), if_neg (by simp [hc])]
theorem lineL_pos (x : Ev) : 0 < (lineL x).length := by unfold lineL evToks; simp [toksL, Tok.bytes]; omega

/-- Lines of events that may be. -/
theorem parse_lines {s : ByteArray} {n : Nat} : ∀ (evs evs0 : List Ev) (c : Sc) (k : Nat), (∀ x ∈ evs, EvIn x) → c.err = 0 → Bears s c.pos (evs.flatMap lineL) → c.pos + (evs.flatMap lineL).length ≤ s.size → (∀ i, i ≤ evs.length → (checkF n (evs0 ++ evs.take i)).2 = 0) → s.size - c.pos < k →
    ∃ k', s.size - (adv (evs.flatMap lineL) c).pos < k' ∧ parseEvs s n k evs0 c = parseEvs s n k' (evs0 ++ evs) (adv (evs.flatMap lineL) c)
  | [], evs0, c, k, _, _, _, _, _, hk => ⟨k, hk, by simp [adv]⟩
  | x :: evs, evs0, c, 0, _, _, _, _, _, hk => by omega
  | x :: evs, evs0, c, k + 1, hx, he, hb, hs, hc, hk => by
    rw [List.flatMap_cons] at hb hs
    rw [List.length_append] at hs
    have hpos := lineL_pos x
    obtain ⟨e1, e2⟩ := ev_at (hx x (List.mem_cons_self ..)) he hb.left (by omega)
    have hstep : parseEvs s n (k + 1) evs0 c = parseEvs s n k (evs0 ++ [evVal s c]) (evEnd s c) := parse_step he (by omega) (by rw [e2, adv_err]; exact he) (by rw [e1]; exact hc 1 (by simp))
    rw [hstep, e1, e2, List.flatMap_cons, adv_append]
    obtain ⟨k', h1, h2⟩ := parse_lines evs (evs0 ++ [x]) (adv (lineL x) c) k (fun y hy => hx y (List.mem_cons_of_mem _ hy)) (by rw [adv_err]; exact he) (by rw [adv_pos]; exact hb.right) (by rw [adv_pos]; omega) (fun i hi => by
      have := hc (i + 1) (by simp; omega)
      rwa [List.take_succ_cons, ← List.singleton_append, ← List.append_assoc] at this) (by rw [adv_pos]; omega)
    exact ⟨k', h1, by rw [h2, List.append_assoc]; rfl⟩

theorem strOf_lt {l : List Nat} (h : ∀ x ∈ l, x < 256) (i : Nat) (hi : i < l.length) : chAt (strOf l) i = l.getD i 0 := chAt_strOf l i hi h
theorem bears_str {l : List Nat} (h : ∀ x ∈ l, x < 256) : Bears (strOf l) 0 l := fun j hj => by rw [Nat.zero_add]; exact chAt_strOf l j hj h
theorem bears_take {l : List Nat} (h : ∀ x ∈ l, x < 256) (m : Nat) : Bears (strOf (l.take m)) 0 (l.take m) := bears_str (fun x hx => h x (List.mem_of_mem_take hx))
/-- A text is its bytes. -/
theorem str_ext {s : ByteArray} {l : List Nat} (hl : s.size = l.length) (hb : Bears s 0 l) (h : ∀ x ∈ l, x < 256) : s = strOf l := by
  have hz : (strOf l).size = s.size := by rw [strOf_length, hl]
  refine ByteArray.ext_getElem hz.symm (fun i h1 h2 => ?_)
  have e1 : chAt s i = l.getD i 0 := by have := hb i (by omega); rwa [Nat.zero_add] at this
  have e2 : chAt (strOf l) i = l.getD i 0 := chAt_strOf l i (by omega) h
  have e3 : chAt s i = chAt (strOf l) i := by rw [e1, e2]
  unfold chAt at e3
  rw [ByteArray.getElem?_lt' _ i h1, ByteArray.getElem?_lt' _ i h2] at e3
  exact UInt8.toNat_inj.1 (by simpa using e3)

theorem tok_lt {t : List Tok} (h : TokOk t) : ∀ x ∈ toksL t, x < 256 := by
  induction t with
  | nil => intro x hx; simp [toksL] at hx
  | cons t r ih =>
    intro x hx
    rw [toksL_cons, List.mem_append] at hx
    cases t with
    | num v most =>
      rcases hx with hx | hx
      · exact decL_lt v x hx
      · exact ih h.2.2 x hx
    | byte b =>
      rcases hx with hx | hx
      · simp [Tok.bytes] at hx
        rw [hx]; exact h.1
      · exact ih h.2 x hx
theorem logL_lt {n : Nat} {evs : List Ev} (hn : n ≤ maxN) (hx : ∀ x ∈ evs, EvIn x) : ∀ y ∈ logL n evs, y < 256 := by
  intro y hy
  unfold logL at hy
  rw [List.mem_append, List.mem_append] at hy
  rcases hy with hy | hy | hy
  · simp [logW] at hy; omega
  · exact tok_lt (headToks_ok hn) y hy
  · rw [List.mem_flatMap] at hy
    obtain ⟨x, hx1, hy⟩ := hy
    exact tok_lt (evToks_ok (hx x hx1)) y hy

theorem logW_size : (strOf logW).size = 3 := by rw [strOf_length]; rfl
theorem logW_at (j : Nat) (h : j < 3) : chAt (strOf logW) j = logW.getD j 0 := chAt_strOf logW j h (by decide)
theorem word_at {s : ByteArray} (h : Bears s 0 logW) (hs : 3 ≤ s.size) : scWord s (strOf logW) ⟨0, 1, 1, 0⟩ = ⟨3, 1, 4, 0⟩ := by
  have hw : wordErr s (strOf logW) 0 0 (strOf logW).size = 0 := by
    rw [logW_size]
    refine wordErr_hit _ _ 0 3 0 (fun j hj => ⟨by omega, ?_⟩)
    rw [show 0 + 0 + j = 0 + j by omega, h j hj, Nat.zero_add, logW_at j hj]
  unfold scWord
  rw [if_pos rfl, if_pos hw, logW_size]
  have h1 := move_adv s logW ⟨0, 1, 1, 0⟩ h
  exact h1
theorem word_inv {s : ByteArray} (h : (scWord s (strOf logW) ⟨0, 1, 1, 0⟩).err = 0) : Bears s 0 logW ∧ 3 ≤ s.size := by
  unfold scWord at h
  rw [if_pos rfl] at h
  by_cases hw : wordErr s (strOf logW) 0 0 (strOf logW).size = 0
  · rw [logW_size] at hw
    have h3 := wordErr_fits s (strOf logW) 0 3 0 (Nat.zero_le _) hw
    refine ⟨?_, by omega⟩
    have h0 := logW_at 0 (by decide)
    have h1 := logW_at 1 (by decide)
    have h2 := logW_at 2 (by decide)
    have key : ∀ i, i < 3 → chAt s i = chAt (strOf logW) i := by
      rw [wordErr] at hw
      split at hw
      · omega
      · split at hw
        · rename_i k0
          rw [wordErr] at hw
          split at hw
          · omega
          · split at hw
            · rename_i k1
              rw [wordErr] at hw
              split at hw
              · omega
              · split at hw
                · rename_i k2
                  intro i hi
                  match i, hi with
                  | 0, _ => simpa using k0
                  | 1, _ => simpa using k1
                  | 2, _ => simpa using k2
                · omega
            · omega
        · omega
    intro j hj
    rw [Nat.zero_add, key j hj]
    exact logW_at j hj
  · rw [if_neg hw] at h
    exact absurd h hw

theorem hd_toks (s : ByteArray) (n : Nat) : hd4 s = runT s (headToks n) (scWord s (strOf logW) ⟨0, 1, 1, 0⟩) := rfl
/-- A log that begins as n's. -/
theorem head_at {s : ByteArray} {n : Nat} (hn : n ≤ maxN) (hb : Bears s 0 (logW ++ toksL (headToks n))) (hs : (logW ++ toksL (headToks n)).length ≤ s.size) : scNumVal s maxN (hd2 s) = n ∧ hd4 s = adv (toksL (headToks n)) ⟨3, 1, 4, 0⟩ := by
  rw [List.length_append] at hs
  have hw : logW.length = 3 := rfl
  have h1 := word_at hb.left (by omega)
  have hr := hb.right
  rw [hw] at hr
  have h2 : hd4 s = adv (toksL (headToks n)) ⟨3, 1, 4, 0⟩ := by
    rw [hd_toks s n, h1]
    exact runT_at _ (headToks_ok hn) rfl hr (by show 3 + _ ≤ _; omega)
  refine ⟨?_, h2⟩
  have h3 : hd2 s = adv [32] ⟨3, 1, 4, 0⟩ := by
    unfold hd2
    rw [h1]
    have hl : toksL (headToks n) = toksL [.byte 32] ++ toksL [.num n maxN, .byte 10] := by simp [headToks, toksL, Tok.bytes]
    rw [hl] at hr hs
    rw [List.length_append] at hs
    have : runT s [.byte 32] ⟨3, 1, 4, 0⟩ = adv (toksL [.byte 32]) ⟨3, 1, 4, 0⟩ := runT_at _ ⟨by decide, trivial⟩ rfl hr.left (by show 3 + _ ≤ _; omega)
    exact this
  have hl : toksL (headToks n) = toksL [.byte 32] ++ toksL [.num n maxN, .byte 10] := by simp [headToks, toksL, Tok.bytes]
  rw [hl] at hr hs
  rw [List.length_append] at hs
  have h32 : (toksL [.byte 32]).length = 1 := rfl
  exact num_val (r := []) (by rw [h3]; rfl) hn (show isDig 10 = false by decide) (by rw [h3, adv_pos]; exact hr.right) (by rw [h3, adv_pos]; show 3 + 1 + _ ≤ _; omega)

/-- The log of a history is read as the history. -/
theorem parse_print {s : ByteArray} {n : Nat} {evs : List Ev} (hn : n ≤ maxN) (hx : ∀ x ∈ evs, EvIn x) (hl : evs.length ≤ 1000000) (hc : (checkF n evs).2 = 0) (hs : s = strOf (logL n evs)) : parseLog s = ⟨n, evs, 0, 0, 0⟩ := by
  have hb : Bears s 0 (logL n evs) := by rw [hs]; exact bears_str (logL_lt hn hx)
  have hz : s.size = (logL n evs).length := by rw [hs, strOf_length]
  unfold logL at hb hz
  rw [← List.append_assoc] at hb hz
  rw [List.length_append] at hz
  obtain ⟨h1, h2⟩ := head_at hn hb.left (by omega)
  have hp : (hd4 s).pos = (logW ++ toksL (headToks n)).length := by rw [h2, adv_pos, List.length_append]; rfl
  have hr := hb.right
  rw [Nat.zero_add, ← hp] at hr
  obtain ⟨k', hk, he⟩ := parse_lines (n := n) evs [] (hd4 s) (s.size + 1) hx (by rw [h2, adv_err]) hr (by omega) (fun i _ => by rw [List.nil_append]; exact check_take i hl hc) (by omega)
  unfold parseLog
  rw [h1, he]
  obtain ⟨k, rfl⟩ : ∃ k, k' = k + 1 := ⟨k' - 1, by omega⟩
  rw [List.nil_append]
  exact parse_end (by rw [adv_err, h2, adv_err]) (by rw [adv_pos]; omega)

/-- What is read is a history, whose log the text is. -/
theorem parse_lines_inv {s : ByteArray} {n : Nat} : ∀ (k : Nat) (evs0 : List Ev) (c : Sc), c.err = 0 → c.pos ≤ s.size → s.size - c.pos < k → (checkF n evs0).2 = 0 → (parseEvs s n k evs0 c).err = 0 →
    ∃ evs, parseEvs s n k evs0 c = ⟨n, evs0 ++ evs, 0, 0, 0⟩ ∧ Bears s c.pos (evs.flatMap lineL) ∧ c.pos + (evs.flatMap lineL).length = s.size ∧ (checkF n (evs0 ++ evs)).2 = 0 ∧ ∀ x ∈ evs, EvIn x
  | 0, _, _, _, _, hk, _, _ => by omega
  | k + 1, evs0, c, he, hp, hk, hc, h => by
    by_cases hend : s.size ≤ c.pos
    · exact ⟨[], by rw [parse_end he hend, List.append_nil], Bears.nil _ _, by simp; omega, by rw [List.append_nil]; exact hc, fun x hx => by simp at hx⟩
    · by_cases h1 : (evEnd s c).err = 0
      · by_cases h2 : (checkF n (evs0 ++ [evVal s c])).2 = 0
        · rw [parse_step he (by omega) h1 h2] at h ⊢
          obtain ⟨i1, i2, i3⟩ := ev_inv he hp h1
          have i4 : evEnd s c = adv (lineL (evVal s c)) c := (ev_at i1 he i2 i3).2
          have hpos := lineL_pos (evVal s c)
          have e5 : (evEnd s c).pos = c.pos + (lineL (evVal s c)).length := by rw [i4, adv_pos]
          obtain ⟨evs, g1, g2, g3, g4, g5⟩ := parse_lines_inv k (evs0 ++ [evVal s c]) (evEnd s c) h1 (by omega) (by omega) h2 h
          refine ⟨evVal s c :: evs, by rw [g1, List.append_assoc]; rfl, ?_, ?_, by rw [List.append_assoc] at g4; exact g4, fun x hx => ?_⟩
          · rw [List.flatMap_cons]
            exact i2.append (by rw [← e5]; exact g2)
          · rw [List.flatMap_cons, List.length_append]
            omega
          · rcases List.mem_cons.1 hx with rfl | hx
            · exact i1
            · exact g5 x hx
        · rw [parse_bad he (by omega) h1 h2] at h
          exact absurd h h2
      · rw [parse_err he (by omega) h1] at h
        exact absurd h h1
theorem check_nil {n : Nat} (hn : n ≤ maxN) : (checkF n []).2 = 0 := by
  unfold checkF
  rw [if_neg (by simp [maxN] at *; omega), chkF]
theorem parse_inv {s : ByteArray} (h : (parseLog s).err = 0) : ∃ n evs, parseLog s = ⟨n, evs, 0, 0, 0⟩ ∧ s = strOf (logL n evs) ∧ (checkF n evs).2 = 0 ∧ n ≤ maxN ∧ (∀ x ∈ evs, EvIn x) := by
  have z4 : (hd4 s).err = 0 := Decidable.byContradiction fun hn => by
    unfold parseLog at h
    rw [parse_stop hn] at h
    exact hn h
  have z3 : (scNum s maxN (hd2 s)).err = 0 := Decidable.byContradiction fun hn => hn (by rw [show hd4 s = scByte s 10 (scNum s maxN (hd2 s)) from rfl, (scByte_stop hn).2] at z4; exact absurd z4 hn)
  have z2 : (hd2 s).err = 0 := Decidable.byContradiction fun hn => by rw [(scNum_stop' hn).2] at z3; exact hn z3
  have z1 : (scWord s (strOf logW) ⟨0, 1, 1, 0⟩).err = 0 := Decidable.byContradiction fun hn => by rw [show hd2 s = scByte s 32 (scWord s (strOf logW) ⟨0, 1, 1, 0⟩) from rfl, (scByte_stop hn).2] at z2; exact hn z2
  obtain ⟨w1, w2⟩ := word_inv z1
  have ew := word_at w1 w2
  obtain ⟨q2, b2, a2⟩ := byte_inv z1 (by decide) (show (scByte s 32 (scWord s (strOf logW) ⟨0, 1, 1, 0⟩)).err = 0 from z2)
  have a2' : hd2 s = adv [32] (scWord s (strOf logW) ⟨0, 1, 1, 0⟩) := a2
  rw [ew] at q2 b2 a2'
  have p2 : (hd2 s).pos = 4 := by rw [a2']; rfl
  have q2' : 3 < s.size := q2
  obtain ⟨d3, m3, a3⟩ := num_inv z2 (by omega) z3
  obtain ⟨q4, b4, a4⟩ := byte_inv z3 (by decide) (show (scByte s 10 (scNum s maxN (hd2 s))).err = 0 from z4)
  have a4' : hd4 s = adv [10] (scNum s maxN (hd2 s)) := a4
  obtain ⟨n, hn⟩ : ∃ n, n = scNumVal s maxN (hd2 s) := ⟨_, rfl⟩
  rw [← hn] at d3 m3 a3
  have p3 : (scNum s maxN (hd2 s)).pos = 4 + (decL n).length := by rw [a3, adv_pos, p2]
  have p4 : (hd4 s).pos = 5 + (decL n).length := by rw [a4', adv_pos, p3]; simp; omega
  have hb3 := d3.bears
  rw [p2] at hb3
  rw [p3] at q4 b4
  have hhead : Bears s 0 (logW ++ toksL (headToks n)) := by
    refine w1.append ?_
    have : toksL (headToks n) = [32] ++ (decL n ++ [10]) := by simp [headToks, toksL, Tok.bytes]
    rw [this]
    refine (Bears.one (show chAt s (0 + logW.length) = 32 from b2)).append ?_
    refine Bears.append (show Bears s (0 + logW.length + [32].length) (decL n) from hb3) ?_
    exact Bears.one (show chAt s (0 + logW.length + [32].length + (decL n).length) = 10 by rw [show 0 + logW.length + [32].length + (decL n).length = 4 + (decL n).length from rfl]; exact b4)
  unfold parseLog at h ⊢
  rw [← hn] at h ⊢
  have m3' : n ≤ maxN := m3
  obtain ⟨evs, g1, g2, g3, g4, g5⟩ := parse_lines_inv (n := n) (s.size + 1) [] (hd4 s) z4 (by omega) (by omega) (check_nil m3') h
  rw [List.nil_append] at g1 g4
  have hlen : (logW ++ toksL (headToks n)).length = 5 + (decL n).length := by
    have : toksL (headToks n) = [32] ++ (decL n ++ [10]) := by simp [headToks, toksL, Tok.bytes]
    rw [this]
    simp [logW]
    omega
  refine ⟨n, evs, g1, ?_, g4, m3', g5⟩
  refine str_ext ?_ ?_ (logL_lt m3' g5)
  · unfold logL
    rw [← List.append_assoc, List.length_append, hlen]
    omega
  · unfold logL
    rw [← List.append_assoc]
    refine hhead.append ?_
    rw [Nat.zero_add, hlen, ← p4]
    exact g2

end Go.Proofs.YtnffjafddbbjaaaGreatDoor

/-
  The log of a history: how long it is, and what is read of it again. Plain mathematics.
-/
namespace Go.Proofs.YtnffjafddbbjaaaGreatDoor
open Go.RowKit

/-- A history's log, or nothing. -/
def prLog (n : Nat) (evs : List Ev) : ByteArray := if (checkF n evs).2 = 0 then strOf (logL n evs) else ⟨#[]⟩
theorem lineL_is (x : Ev) : lineL x = decL x.1.toNat ++ ([32, sgB x.2.2, 32] ++ (decL x.2.1.1 ++ ([32] ++ (decL x.2.1.2 ++ [10])))) := by simp [lineL, evToks, toksL, Tok.bytes]
theorem logL_step {n : Nat} {evs : List Ev} {i : Nat} {x : Ev} (h : evs[i]? = some x) : logL n (evs.take (i + 1)) = logL n (evs.take i) ++ lineL x := by
  unfold logL
  rw [List.take_add_one, h, List.flatMap_append]
  simp
theorem lineL_len {x : Ev} (h : EvIn x) : (lineL x).length ≤ 70 := by
  obtain ⟨h1, h2, h3, h4⟩ := h
  have h3' : x.2.1.1 ≤ 4294967295 := h3
  have h4' : x.2.1.2 ≤ 4294967295 := h4
  have e1 := decL_len20 x.1.toNat (by omega)
  have e2 := decL_len20 x.2.1.1 (by omega)
  have e3 := decL_len20 x.2.1.2 (by omega)
  rw [lineL_is]
  simp only [List.length_append, List.length_cons, List.length_nil]
  omega
theorem logL_len0 (n : Nat) (h : n < 18446744073709551616) : (logL n []).length ≤ 30 := by
  have e1 := decL_len20 n h
  unfold logL headToks
  simp [toksL, Tok.bytes, logW]
  omega
theorem logL_head (n : Nat) : (⟨#[108, 111, 103, 32]⟩ : ByteArray) ++ strOf (decL n) ++ ⟨#[10]⟩ = strOf (logL n []) := by
  have e1 : (⟨#[108, 111, 103, 32]⟩ : ByteArray) = strOf [108, 111, 103, 32] := rfl
  have e2 : (⟨#[10]⟩ : ByteArray) = strOf [10] := rfl
  rw [e1, e2, strOf_append, strOf_append]
  congr 1
  simp [logL, headToks, toksL, Tok.bytes, logW]
theorem line_str (l : List Nat) (x : Ev) : strOf l ++ strOf (decL x.1.toNat) ++ strOf [32, sgB x.2.2, 32] ++ strOf (decL x.2.1.1) ++ ⟨#[32]⟩ ++ strOf (decL x.2.1.2) ++ ⟨#[10]⟩ = strOf (l ++ lineL x) := by
  have e1 : (⟨#[32]⟩ : ByteArray) = strOf [32] := rfl
  have e2 : (⟨#[10]⟩ : ByteArray) = strOf [10] := rfl
  rw [e1, e2]
  simp only [strOf_append]
  congr 1
  rw [lineL_is]
  simp

theorem check_in {n : Nat} {evs : List Ev} (h : (checkF n evs).2 = 0) : n ≤ maxN ∧ ∀ x ∈ evs, EvIn x := by
  obtain ⟨h1, -, h2, -⟩ := good_check h
  refine ⟨h1, fun x hx => ?_⟩
  obtain ⟨h3, h4, h5⟩ := good_times h2 x hx
  unfold eRight at h5
  have h6 := of_decide_eq_true h5
  refine ⟨h3, h4, ?_, ?_⟩
  · show _ ≤ 4294967295; omega
  · show _ ≤ 4294967295; omega
theorem flat_len : ∀ {evs : List Ev}, (∀ x ∈ evs, EvIn x) → (evs.flatMap lineL).length ≤ 70 * evs.length
  | [], _ => by simp
  | x :: evs, h => by
    have h1 := lineL_len (h x (List.mem_cons_self ..))
    have h2 := flat_len (evs := evs) (fun y hy => h y (List.mem_cons_of_mem _ hy))
    rw [List.flatMap_cons, List.length_append, List.length_cons]
    omega
theorem logL_len {n : Nat} {evs : List Ev} (hn : n ≤ maxN) (h : ∀ x ∈ evs, EvIn x) : (logL n evs).length ≤ 30 + 70 * evs.length := by
  have h0 := logL_len0 n (by have : n ≤ 4294967296 := hn; omega)
  have h1 := flat_len h
  unfold logL at h0 ⊢
  rw [List.flatMap_nil] at h0
  simp only [List.length_append, List.length_nil] at h0 ⊢
  omega
theorem prLog_ok {n : Nat} {evs : List Ev} (h : (checkF n evs).2 = 0) : prLog n evs = strOf (logL n evs) := by unfold prLog; rw [if_pos h]
theorem prLog_size (n : Nat) (evs : List Ev) : (prLog n evs).size ≤ 30 + 70 * evs.length := by
  by_cases h : (checkF n evs).2 = 0
  · rw [prLog_ok h, strOf_length]
    exact logL_len (check_in h).1 (check_in h).2
  · unfold prLog
    rw [if_neg h]
    exact Nat.zero_le _
theorem prLog_parse {n : Nat} {evs : List Ev} (hl : evs.length ≤ 1000000) (h : (checkF n evs).2 = 0) : parseLog (prLog n evs) = ⟨n, evs, 0, 0, 0⟩ :=
  parse_print (check_in h).1 (check_in h).2 hl h (prLog_ok h)
theorem parseEvs_none {s : ByteArray} {n : Nat} : ∀ (k : Nat) (evs : List Ev) (c : Sc), (parseEvs s n k evs c).err ≠ 0 → (parseEvs s n k evs c).n = 0 ∧ (parseEvs s n k evs c).evs = []
  | 0, _, _, _ => ⟨rfl, rfl⟩
  | k + 1, evs, c, h => by
    rw [parseEvs] at h ⊢
    split at h
    · rename_i h1
      rw [if_pos h1]
      exact ⟨rfl, rfl⟩
    · rename_i h1
      rw [if_neg h1]
      split at h
      · exact absurd rfl h
      · rename_i h2
        rw [if_neg h2]
        split at h
        · rename_i h3
          rw [if_pos h3]
          exact ⟨rfl, rfl⟩
        · rename_i h3
          rw [if_neg h3]
          split at h
          · rename_i h4
            rw [if_pos h4]
            exact ⟨rfl, rfl⟩
          · rename_i h4
            rw [if_neg h4]
            exact parseEvs_none k _ _ h
theorem flat_ge : ∀ (evs : List Ev), evs.length ≤ (evs.flatMap lineL).length
  | [] => Nat.le_refl _
  | x :: evs => by
    have h1 := lineL_pos x
    have h2 := flat_ge evs
    rw [List.flatMap_cons, List.length_append, List.length_cons]
    omega
/-- What is read of a text: nothing, or what prints the text again. -/
theorem parse_back (s : ByteArray) : (parseLog s).n < 18446744073709551616 ∧ (parseLog s).evs.length ≤ s.size ∧ (∀ x ∈ (parseLog s).evs, EvFit x) ∧ ((parseLog s).err = 0 → prLog (parseLog s).n (parseLog s).evs = s ∧ (checkF (parseLog s).n (parseLog s).evs).2 = 0) := by
  by_cases h : (parseLog s).err = 0
  · obtain ⟨n, evs, h1, h2, h3, h4, h5⟩ := parse_inv h
    have h6 : n ≤ 4294967296 := h4
    rw [h1]
    dsimp only
    refine ⟨by omega, ?_, fun x hx => ?_, fun _ => ⟨by rw [prLog_ok h3, h2], h3⟩⟩
    · have h7 := flat_ge evs
      rw [h2, strOf_length]
      unfold logL
      simp only [List.length_append]
      omega
    · obtain ⟨k1, k2, k3, k4⟩ := h5 x hx
      have k3' : x.2.1.1 ≤ 4294967295 := k3
      have k4' : x.2.1.2 ≤ 4294967295 := k4
      unfold EvFit
      omega
  · have h1 : (parseLog s).n = 0 ∧ (parseLog s).evs = [] := parseEvs_none _ _ _ h
    rw [h1.1, h1.2]
    exact ⟨by omega, Nat.zero_le _, fun x hx => by simp at hx, fun he => absurd he h⟩

end Go.Proofs.YtnffjafddbbjaaaGreatDoor

/-
  A log that is cut: what is read of it. Plain mathematics.
-/
namespace Go.Proofs.YtnffjafddbbjaaaGreatDoor
open Go.RowKit

theorem adv_line : ∀ (l : List Nat) (c : Sc), c.line ≤ (adv l c).line
  | [], c => Nat.le_refl _
  | x :: l, c => by
    rw [adv]
    refine Nat.le_trans ?_ (adv_line l _)
    split <;> dsimp only <;> omega
theorem adv_le : ∀ (l : List Nat) (c : Sc), 1 ≤ c.col → (adv l c).line ≤ c.line + l.length ∧ (adv l c).col ≤ c.col + l.length
  | [], c, _ => ⟨Nat.le_refl _, Nat.le_refl _⟩
  | x :: l, c, h => by
    rw [adv, List.length_cons]
    split
    · obtain ⟨h1, h2⟩ := adv_le l { c with pos := c.pos + 1, line := c.line + 1, col := 1 } (Nat.le_refl 1)
      dsimp only at h1 h2
      omega
    · obtain ⟨h1, h2⟩ := adv_le l { c with pos := c.pos + 1, col := c.col + 1 } (by dsimp only; omega)
      dsimp only at h1 h2
      omega
theorem strOf_take (l : List Nat) (m : Nat) (hm : m ≤ l.length) : (strOf l).extract 0 m = strOf (l.take m) := by
  have h : strOf l = strOf (l.take m) ++ strOf (l.drop m) := by rw [strOf_append, List.take_append_drop]
  rw [h, ByteArray.extract_append_eq_left]
  rw [strOf_length, List.length_take, Nat.min_eq_left hm]
theorem log_lt {n : Nat} {evs : List Ev} (h : (checkF n evs).2 = 0) : ∀ x ∈ logL n evs, x < 256 := logL_lt (check_in h).1 (check_in h).2
theorem log_len {n : Nat} {evs : List Ev} (h : (checkF n evs).2 = 0) : (logL n evs).length ≤ 30 + 70 * evs.length := logL_len (check_in h).1 (check_in h).2
theorem log_pos (n : Nat) (evs : List Ev) : 0 < (logL n evs).length := by unfold logL; rw [List.length_append]; show 0 < 3 + _; omega
theorem dig_ne {x : Nat} (h : isDig x = true) : x ≠ 10 := fun e => by subst e; exact absurd h (by decide)
/-- A line's bytes: the last one alone ends it. -/
def lineB (x : Ev) : List Nat := decL x.1.toNat ++ ([32, sgB x.2.2, 32] ++ (decL x.2.1.1 ++ ([32] ++ decL x.2.1.2)))
theorem lineL_body (x : Ev) : lineL x = lineB x ++ [10] := by rw [lineL_is]; simp [lineB]
theorem lineB_plain (x : Ev) : ∀ y ∈ lineB x, y ≠ 10 := fun y hy => by
  unfold lineB at hy
  simp only [List.mem_append, List.mem_cons, List.not_mem_nil, or_false] at hy
  rcases hy with hy | (rfl | rfl | rfl) | hy | rfl | hy
  · exact dig_ne (decL_dig _ y hy)
  · decide
  · exact (sgB_lt _).2.1
  · decide
  · exact dig_ne (decL_dig _ y hy)
  · decide
  · exact dig_ne (decL_dig _ y hy)
def headB (n : Nat) : List Nat := [32] ++ decL n
theorem head_body (n : Nat) : toksL (headToks n) = headB n ++ [10] := by simp [headB, headToks, toksL, Tok.bytes]
theorem headB_plain (n : Nat) : ∀ y ∈ headB n, y ≠ 10 := fun y hy => by
  unfold headB at hy
  simp only [List.mem_append, List.mem_cons, List.not_mem_nil, or_false] at hy
  rcases hy with rfl | hy
  · decide
  · exact dig_ne (decL_dig _ y hy)
theorem adv_end {b : List Nat} (h : ∀ y ∈ b, y ≠ 10) (c : Sc) : (adv (b ++ [10]) c).col = 1 ∧ (adv (b ++ [10]) c).line = c.line + 1 := by
  rw [adv_append, adv_plain b c h]
  exact ⟨rfl, rfl⟩
theorem adv_in {b : List Nat} (h : ∀ y ∈ b, y ≠ 10) (c : Sc) {m : Nat} (hm : m < (b ++ [10]).length) : (adv ((b ++ [10]).take m) c).col = c.col + m ∧ (adv ((b ++ [10]).take m) c).line = c.line := by
  have h1 : m ≤ b.length := by rw [List.length_append, List.length_singleton] at hm; omega
  rw [List.take_append_of_le_length h1, adv_plain _ c (fun y hy => h y (List.mem_of_mem_take hy)), List.length_take, Nat.min_eq_left h1]
  exact ⟨rfl, rfl⟩

theorem parse_cut_evs {s : ByteArray} {n : Nat} : ∀ (l evs0 : List Ev) (c : Sc) (k : Nat), (∀ x ∈ l, EvIn x) → c.err = 0 → c.pos ≤ s.size → c.col = 1 → s.size ≤ c.pos + (l.flatMap lineL).length → Bears s c.pos ((l.flatMap lineL).take (s.size - c.pos)) → (∀ i, i ≤ l.length → (checkF n (evs0 ++ l.take i)).2 = 0) → s.size - c.pos < k →
    ((adv ((l.flatMap lineL).take (s.size - c.pos)) c).col = 1 ∧ (parseEvs s n k evs0 c).err = 0) ∨ ((adv ((l.flatMap lineL).take (s.size - c.pos)) c).col ≠ 1 ∧ parseEvs s n k evs0 c = ⟨0, [], (adv ((l.flatMap lineL).take (s.size - c.pos)) c).line, (adv ((l.flatMap lineL).take (s.size - c.pos)) c).col, 20⟩)
  | _, _, _, 0, _, _, _, _, _, _, _, hk => by omega
  | [], evs0, c, k + 1, _, he, hp, h1, hs, _, _, _ => by
    rw [List.flatMap_nil] at hs
    rw [List.flatMap_nil, List.take_nil]
    exact .inl ⟨h1, by rw [parse_end he (by simpa using hs)]⟩
  | x :: l, evs0, c, k + 1, hx, he, hp, h1, hs, hb, hc, hk => by
    by_cases hend : s.size ≤ c.pos
    · rw [show s.size - c.pos = 0 by omega, List.take_zero]
      exact .inl ⟨h1, by rw [parse_end he hend]⟩
    · have hpos := lineL_pos x
      have hxi := hx x (List.mem_cons_self ..)
      rw [List.flatMap_cons] at hb hs ⊢
      rw [List.length_append] at hs
      by_cases hin : (lineL x).length ≤ s.size - c.pos
      · obtain ⟨b1, b2⟩ := take_bears hb hin
        obtain ⟨e1, e2⟩ := ev_at hxi he b1 (by omega)
        have e3 : s.size - (adv (lineL x) c).pos = s.size - c.pos - (lineL x).length := by rw [adv_pos]; omega
        have hstep : parseEvs s n (k + 1) evs0 c = parseEvs s n k (evs0 ++ [x]) (adv (lineL x) c) := by
          rw [parse_step he (by omega) (by rw [e2, adv_err]; exact he) (by rw [e1]; have := hc 1 (by simp); simpa using this), e1, e2]
        have ih := parse_cut_evs (s := s) (n := n) l (evs0 ++ [x]) (adv (lineL x) c) k (fun y hy => hx y (List.mem_cons_of_mem _ hy)) (by rw [adv_err]; exact he) (by rw [adv_pos]; omega) (by rw [lineL_body]; exact (adv_end (lineB_plain x) c).1) (by rw [adv_pos]; omega) (by rw [e3, adv_pos]; exact b2) (fun i hi => by
          have := hc (i + 1) (by simp; omega)
          rwa [List.take_succ_cons, ← List.singleton_append, ← List.append_assoc] at this) (by rw [e3]; omega)
        rw [e3, ← adv_append] at ih
        rw [hstep, List.take_append, List.take_of_length_le hin]
        exact ih
      · have hlt : s.size - c.pos < (lineL x).length := by omega
        have ht : (lineL x ++ l.flatMap lineL).take (s.size - c.pos) = (lineL x).take (s.size - c.pos) := List.take_append_of_le_length (by omega)
        rw [ht] at hb ⊢
        have e1 := ev_toks hxi he hp hb
        have e2 : runT s (evToks x) c = { adv ((lineL x).take (s.size - c.pos)) c with err := 20 } := runT_cut (evToks x) (evToks_ok hxi) he hp (by show _ < c.pos + (lineL x).length; omega) hb
        rw [e2] at e1
        have e3 := parse_err (s := s) (n := n) (k := k) (evs := evs0) he (by omega) (by rw [e1]; show (20 : Nat) ≠ 0; decide)
        rw [e1] at e3
        have e4 := adv_in (lineB_plain x) c (m := s.size - c.pos) (by rw [← lineL_body]; exact hlt)
        rw [← lineL_body] at e4
        refine .inr ⟨by rw [e4.1]; omega, e3⟩

theorem parse_cut {n : Nat} {evs : List Ev} {m : Nat} {s : ByteArray} {c : Sc} (hl : evs.length ≤ 1000000) (hok : (checkF n evs).2 = 0) (hm : m < (logL n evs).length) (hs : s = strOf ((logL n evs).take m)) (hc : c = adv ((logL n evs).take m) ⟨0, 1, 1, 0⟩) :
    (1 < c.line ∧ c.col = 1 → (parseLog s).err = 0) ∧ (¬ (1 < c.line ∧ c.col = 1) → (parseLog s).err = 20 ∧ (parseLog s).line = c.line ∧ (parseLog s).col ≤ c.col) := by
  obtain ⟨hn, hx⟩ := check_in hok
  have hb : Bears s 0 ((logL n evs).take m) := by rw [hs]; exact bears_take (logL_lt hn hx) m
  have hz : s.size = m := by rw [hs, strOf_length, List.length_take, Nat.min_eq_left (by omega)]
  have hw3 : logW.length = 3 := rfl
  by_cases h3 : m < 3
  · -- the word is cut
    have ht : (logL n evs).take m = logW.take m := by unfold logL; exact List.take_append_of_le_length (by omega)
    rw [ht] at hb hc
    have hw : scWord s (strOf logW) ⟨0, 1, 1, 0⟩ = ⟨0, 1, 1, 20⟩ := by
      have he : wordErr s (strOf logW) 0 0 (strOf logW).size = 20 := by
        rw [logW_size]
        refine wordErr_short s (strOf logW) 0 m 3 0 h3 (fun j hj => ⟨by omega, ?_⟩) (by omega)
        have h1 := hb j (by rw [List.length_take]; omega)
        rw [show 0 + 0 + j = 0 + j by omega, h1, Nat.zero_add, logW_at j (by omega), List.getD_eq_getElem?_getD, List.getD_eq_getElem?_getD, List.getElem?_take_of_lt hj]
      unfold scWord
      rw [if_pos rfl]
      show (if wordErr s (strOf logW) 0 0 (strOf logW).size = 0 then _ else _) = _
      rw [he]
      rfl
    have h4 : hd4 s = ⟨0, 1, 1, 20⟩ := by
      rw [hd_toks s n, hw]
      exact runT_stop _ (by decide)
    have hp : parseLog s = ⟨0, [], 1, 1, 20⟩ := by
      unfold parseLog
      rw [h4]
      exact parse_stop (by decide)
    have hpl : ∀ y ∈ logW.take m, y ≠ 10 := fun y hy => by have := List.mem_of_mem_take hy; simp [logW] at this; omega
    rw [adv_plain _ _ hpl] at hc
    rw [hp, hc]
    refine ⟨fun h => ?_, fun _ => ⟨rfl, rfl, ?_⟩⟩
    · dsimp only at h; omega
    · dsimp only; omega
  · have h03 : logW ++ (toksL (headToks n) ++ evs.flatMap lineL) = logL n evs := rfl
    have ht : (logL n evs).take m = logW ++ (toksL (headToks n) ++ evs.flatMap lineL).take (m - 3) := by
      rw [← h03, List.take_append, List.take_of_length_le (by omega), hw3]
    rw [ht] at hb hc
    have hw := word_at hb.left (by omega)
    have hb2 := hb.right
    rw [hw3, Nat.zero_add] at hb2
    have hc3 : adv logW ⟨0, 1, 1, 0⟩ = ⟨3, 1, 4, 0⟩ := rfl
    rw [adv_append, hc3] at hc
    by_cases hh : m - 3 < (toksL (headToks n)).length
    · -- the head is cut
      have ht2 : (toksL (headToks n) ++ evs.flatMap lineL).take (m - 3) = (toksL (headToks n)).take (m - 3) := List.take_append_of_le_length (by omega)
      rw [ht2] at hb2 hc
      have h4 : hd4 s = { adv ((toksL (headToks n)).take (m - 3)) ⟨3, 1, 4, 0⟩ with err := 20 } := by
        rw [hd_toks s n, hw]
        have := runT_cut (s := s) (c := ⟨3, 1, 4, 0⟩) (headToks n) (headToks_ok hn) rfl (by show 3 ≤ _; omega) (by show _ < 3 + _; omega) (by rw [hz]; exact hb2)
        rw [hz] at this
        exact this
      have e4 := adv_in (headB_plain n) ⟨3, 1, 4, 0⟩ (m := m - 3) (by rw [← head_body]; exact hh)
      rw [← head_body, ← hc] at e4
      rw [← hc] at h4
      have hp : parseLog s = ⟨0, [], c.line, c.col, 20⟩ := by
        unfold parseLog
        rw [h4]
        exact parse_stop (c := { c with err := 20 }) (show (20 : Nat) ≠ 0 by decide)
      rw [hp]
      refine ⟨fun h => ?_, fun _ => ⟨rfl, rfl, Nat.le_refl _⟩⟩
      have h5 : c.line = 1 := e4.2
      omega
    · -- behind the head
      have ht2 : (toksL (headToks n) ++ evs.flatMap lineL).take (m - 3) = toksL (headToks n) ++ (evs.flatMap lineL).take (m - 3 - (toksL (headToks n)).length) := by
        rw [List.take_append, List.take_of_length_le (by omega)]
      rw [ht2] at hb2 hc
      have hhb : Bears s 0 (logW ++ toksL (headToks n)) := by
        rw [ht2, ← List.append_assoc] at hb
        exact hb.left
      obtain ⟨h1, h2⟩ := head_at hn hhb (by rw [List.length_append]; omega)
      rw [adv_append, ← h2] at hc
      have hp4 : (hd4 s).pos = 3 + (toksL (headToks n)).length := by rw [h2, adv_pos]
      have hb3 := hb2.right
      rw [← hp4] at hb3
      have e3 : s.size - (hd4 s).pos = m - 3 - (toksL (headToks n)).length := by rw [hz, hp4]; omega
      rw [← e3] at hb3 hc
      have hlen : (logL n evs).length = 3 + ((toksL (headToks n)).length + (evs.flatMap lineL).length) := by rw [← h03, List.length_append, List.length_append, hw3]
      have e5 := adv_end (headB_plain n) ⟨3, 1, 4, 0⟩
      rw [← head_body, ← h2] at e5
      have hr := parse_cut_evs (s := s) (n := n) evs [] (hd4 s) (s.size + 1) hx (by rw [h2, adv_err]) (by rw [hp4]; omega) e5.1 (by rw [hp4]; omega) hb3 (fun i _ => by rw [List.nil_append]; exact check_take i hl hok) (by omega)
      rw [← hc] at hr
      have hln : 2 ≤ c.line := by rw [hc]; have h6 := adv_line ((evs.flatMap lineL).take (s.size - (hd4 s).pos)) (hd4 s); have h7 : (hd4 s).line = 2 := e5.2; omega
      have hpl : parseLog s = parseEvs s n (s.size + 1) [] (hd4 s) := by unfold parseLog; rw [h1]
      rw [hpl]
      rcases hr with ⟨r1, r2⟩ | ⟨r1, r2⟩
      · exact ⟨fun _ => r2, fun h => absurd ⟨by omega, r1⟩ h⟩
      · rw [r2]
        exact ⟨fun h => absurd h.2 r1, fun _ => ⟨rfl, rfl, Nat.le_refl _⟩⟩

end Go.Proofs.YtnffjafddbbjaaaGreatDoor

/-
  Slices of lives: how they lie in memory; parts of them; append.
-/
namespace Go.Proofs.YtnffjafddbbjaaaGreatDoor
open Go.RowKit

/-- A life: its edge, from, to. As a value, as cells; lives in a slice. -/
abbrev Lf := Eg × Int × Int
def lifeV (x : Lf) : Value := .agg #[.int .u32 (x.1.1 : Int), .int .u32 (x.1.2 : Int), .int .i64 x.2.1, .int .i64 x.2.2]
def encL (x : Lf) : List Value := [.int .u32 (x.1.1 : Int), .int .u32 (x.1.2 : Int), .int .i64 x.2.1, .int .i64 x.2.2]
def lrow (xs : List Lf) : List Value := xs.flatMap encL
def RdL (w : World) (v : Value) (xs : List Lf) : Prop := HoldsN 4 w v xs.length (lrow xs)
def OwnL (w : World) (v : Value) (xs : List Lf) : Prop := w.ownsRow 0 82 4 v xs.length (lrow xs)
/-- The numbers fit. -/
def LfFit (x : Lf) : Prop := (x.1.1 < 4294967296 ∧ x.1.2 < 4294967296) ∧ (-9223372036854775808 ≤ x.2.1 ∧ x.2.1 ≤ 9223372036854775807) ∧ (-9223372036854775808 ≤ x.2.2 ∧ x.2.2 ≤ 9223372036854775807)

theorem lrow_length (xs : List Lf) : (lrow xs).length = xs.length * 4 := by
  induction xs with
  | nil => rfl
  | cons p ps ih => simp [lrow, encL] at ih ⊢; omega
theorem lrow_append (a b : List Lf) : lrow (a ++ b) = lrow a ++ lrow b := by simp [lrow]
theorem lrow_drop : ∀ (ps : List Lf) (n : Nat), (lrow ps).drop (n * 4) = lrow (ps.drop n)
  | [], n => by simp [lrow]
  | p :: ps, 0 => by simp [lrow]
  | p :: ps, n + 1 => by
    have := lrow_drop ps n
    simp only [lrow, List.flatMap_cons, List.drop_succ_cons] at this ⊢
    rw [Nat.succ_mul, List.drop_append, List.drop_eq_nil_of_le (by simp [encL])]
    simp [this, encL]
theorem lrow_take : ∀ (ps : List Lf) (n : Nat), (lrow ps).take (n * 4) = lrow (ps.take n)
  | [], n => by simp [lrow]
  | p :: ps, 0 => by simp [lrow]
  | p :: ps, n + 1 => by
    have := lrow_take ps n
    simp only [lrow, List.flatMap_cons, List.take_succ_cons] at this ⊢
    rw [Nat.succ_mul, List.take_append, List.take_of_length_le (by simp [encL])]
    simp [this, encL]
theorem lrow_one (ps : List Lf) : ∀ u ∈ lrow ps, u.oneCell' = true := by
  intro u hu
  simp only [lrow, List.mem_flatMap] at hu
  obtain ⟨p, hp, hu⟩ := hu
  simp [encL] at hu
  rcases hu with rfl | rfl | rfl | rfl <;> rfl
theorem lrow_get (ps : List Lf) (i : Nat) (p : Lf) (h : ps[i]? = some p) : (lrow ps)[i * 4]? = some (.int .u32 (p.1.1 : Int)) ∧ (lrow ps)[i * 4 + 1]? = some (.int .u32 (p.1.2 : Int)) ∧ (lrow ps)[i * 4 + 2]? = some (.int .i64 p.2.1) ∧ (lrow ps)[i * 4 + 3]? = some (.int .i64 p.2.2) := by
  have hd := lrow_drop ps i
  have hi : i < ps.length := (List.getElem?_eq_some_iff.1 h).1
  have e : ps.drop i = p :: ps.drop (i + 1) := by
    rw [List.drop_eq_getElem_cons hi]
    rw [List.getElem?_eq_getElem hi] at h
    simp only [Option.some.injEq] at h
    rw [h]
  rw [e] at hd
  have h0 : ((lrow ps).drop (i * 4))[0]? = some (.int .u32 (p.1.1 : Int)) := by rw [hd]; rfl
  have h1 : ((lrow ps).drop (i * 4))[1]? = some (.int .u32 (p.1.2 : Int)) := by rw [hd]; rfl
  have h2 : ((lrow ps).drop (i * 4))[2]? = some (.int .i64 p.2.1) := by rw [hd]; rfl
  have h3 : ((lrow ps).drop (i * 4))[3]? = some (.int .i64 p.2.2) := by rw [hd]; rfl
  rw [List.getElem?_drop] at h0 h1 h2 h3
  exact ⟨h0, h1, h2, h3⟩

theorem RdL.keep {w w' : World} {v : Value} {ps : List Lf} (h : RdL w v ps) (f : Fr w w' (fun _ => False)) : RdL w' v ps := HoldsN.keep h f
theorem RdL.frame {w w' : World} {v : Value} {es : List Lf} {S : Nat → Prop} (h : RdL w v es) (f : Fr w w' S) (hs : 0 < es.length → ∀ k, v.ownBlock = some k → ¬ S k) : RdL w' v es := HoldsN.frame h f hs
theorem RdL.form {w : World} {v : Value} {ps : List Lf} (h : RdL w v ps) : ∃ ao cap, v = .slice ao ps.length cap ∧ ps.length ≤ cap := by
  obtain ⟨-, ao, cap, h1, h2, -⟩ := h
  exact ⟨ao, cap, h1, h2⟩
theorem RdL.get {w : World} {v : Value} {ps : List Lf} (h : RdL w v ps) (i : Nat) (p : Lf) (hi : ps[i]? = some p) :
    ∃ b off cap, v = .slice (some ⟨b, off, none⟩) ps.length cap ∧ b < w.heap.size ∧ ∀ x, Fr w x (fun k => k ≠ b) → x.cell? ⟨b, off + i * 4, none⟩ = some (.int .u32 (p.1.1 : Int)) ∧ x.cell? ⟨b, off + i * 4 + 1, none⟩ = some (.int .u32 (p.1.2 : Int)) ∧ x.cell? ⟨b, off + i * 4 + 2, none⟩ = some (.int .i64 p.2.1) ∧ x.cell? ⟨b, off + i * 4 + 3, none⟩ = some (.int .i64 p.2.2) := by
  obtain ⟨-, ao, cap, rfl, h2, hc⟩ := h
  have hil := (List.getElem?_eq_some_iff.1 hi).1
  obtain ⟨b, off, rfl, hcell⟩ := hc (by omega)
  obtain ⟨g0, g1, g2, g3⟩ := lrow_get ps i p hi
  have c0 := hcell _ _ g0
  have c1 := hcell _ _ g1
  have c2 := hcell _ _ g2
  have c3 := hcell _ _ g3
  have hb := World.block_lt_of_cell? _ _ c0
  refine ⟨b, off, cap, rfl, hb, fun x hx => ?_⟩
  have hbk := hx.block b hb (fun h => h rfl)
  refine ⟨(World.cell?_of_block (w := w) hbk).trans c0, (World.cell?_of_block (w := w) hbk).trans ?_, (World.cell?_of_block (w := w) hbk).trans ?_, (World.cell?_of_block (w := w) hbk).trans ?_⟩
  · rw [Nat.add_assoc]; exact c1
  · rw [Nat.add_assoc]; exact c2
  · rw [Nat.add_assoc]; exact c3
theorem RdL.take {w : World} {ao : Option Addr} {len cap : Nat} {xs : List Lf} (h : RdL w (.slice ao len cap) xs) (hl : xs.length = len) (n : Nat) (hn : n ≤ len) : RdL w (.slice ao n cap) (xs.take n) := by
  subst hl
  have := HoldsN.take (size := 4) h n hn
  rw [lrow_take] at this
  unfold RdL
  rw [List.length_take, Nat.min_eq_left hn]
  exact this
theorem RdL.drop {w : World} {ao : Option Addr} {len cap : Nat} {xs : List Lf} (h : RdL w (.slice ao len cap) xs) (hl : xs.length = len) (n : Nat) (hn : n ≤ len) : RdL w (.slice (if cap = n then ao else Option.map (fun x => x.add (n * 4)) ao) (len - n) (cap - n)) (xs.drop n) := by
  subst hl
  have := HoldsN.drop (size := 4) h n hn
  rw [lrow_drop] at this
  unfold RdL
  rw [List.length_drop]
  exact this
theorem OwnL.nil (w : World) : OwnL w (.slice none 0 0) [] := World.ownsRow_nil _ _ _ _
theorem OwnL.rd {w : World} {v : Value} {es : List Lf} (h : OwnL w v es) : RdL w v es := holdsN_own h
theorem RdL.nil (w : World) : RdL w (.slice none 0 0) [] := (OwnL.nil w).rd
theorem OwnL.lt {w : World} {v : Value} {es : List Lf} (h : OwnL w v es) : ∀ k, v.ownBlock = some k → k < w.heap.size := fun k hk => (World.ownsRow.lt h k hk).2
theorem OwnL.alloc {w : World} {v : Value} {es : List Lf} (h : OwnL w v es) (o : Obj) : OwnL (w.alloc o) v es := World.ownsRow.alloc h o
theorem OwnL.frame {w w' : World} {v : Value} {es : List Lf} {S : Nat → Prop} (h : OwnL w v es) (f : Fr w w' S) (hs : ∀ k, v.ownBlock = some k → ¬ S k) : OwnL w' v es := f.owns h hs

theorem infoLife : (Tryz.prog.info? 82).map (fun i => (i.zero, i.size, i.bytes)) = some (some (.agg #[.int .u32 0, .int .u32 0, .int .i64 0, .int .i64 0]), 4, 24) := by kernel_rfl
theorem app_lives (w : World) (v u : Value) (es fs : List Lf) (h : OwnL w v es) (hu : RdL w u fs) (hb : es.length + fs.length ≤ 100000000000) :
    ∃ v' w', (Builtin.append_ #[51, 51] 51 #[v, u]).run Tryz.prog w = .ok v' w' ∧ OwnL w' v' (es ++ fs) ∧ Fr w w' (fun k => v.ownBlock = some k) ∧ Moved w v v' := by
  obtain ⟨i0, hi, hz0, hz1, hz2⟩ := info_parts infoLife
  obtain ⟨v', w', h1, h2, h3, h4⟩ := run_append_wide (P := Tryz.prog) w 51 51 82 i0 _ 4 24 Tryz.underlying51 hi hz0 hz1 hz2 rfl (by decide) (by decide) v _ _ h u _ _ hu (lrow_one fs) hb
  refine ⟨v', w', h1, ?_, h3, h4⟩
  unfold OwnL
  rw [List.length_append, lrow_append]
  exact h2
theorem lit_life (w : World) (x : Lf) : RdL (w.alloc (.cells #[.int .u32 (x.1.1 : Int), .int .u32 (x.1.2 : Int), .int .i64 x.2.1, .int .i64 x.2.2] 82)) (.slice (some ⟨w.heap.size, 0, none⟩) 1 1) [x] :=
  holdsN_lit 4 w 82 1 (lrow [x]) (by simp [lrow, encL]) (by omega)
theorem app_life (w : World) (v : Value) (es : List Lf) (x : Lf) (h : OwnL w v es) (hb : es.length ≤ 10000000) :
    ∃ v' w', (Builtin.append_ #[51, 51] 51 #[v, .slice (some ⟨w.heap.size, 0, none⟩) 1 1]).run Tryz.prog (w.alloc (.cells #[.int .u32 (x.1.1 : Int), .int .u32 (x.1.2 : Int), .int .i64 x.2.1, .int .i64 x.2.2] 82)) = .ok v' w' ∧ OwnL w' v' (es ++ [x]) ∧ Fr (w.alloc (.cells #[.int .u32 (x.1.1 : Int), .int .u32 (x.1.2 : Int), .int .i64 x.2.1, .int .i64 x.2.2] 82)) w' (fun k => v.ownBlock = some k) ∧ Moved w v v' := by
  obtain ⟨v', w', h1, h2, h3, h4⟩ := app_lives _ v _ es [x] (h.alloc _) (lit_life w x) (by simp; omega)
  exact ⟨v', w', h1, h2, h3, h4.mono' (by simp)⟩

theorem app_lives_nil (w : World) (u : Value) (fs : List Lf) (N : Nat) (hN : N ≤ w.heap.size) (hu : RdL w u fs) (hb : fs.length ≤ 100000000000) :
    ∃ v' w', (Builtin.append_ #[51, 51] 51 #[.slice none 0 0, u]).run Tryz.prog w = .ok v' w' ∧ OwnL w' v' fs ∧ Fr w w' (fun k => N ≤ k) ∧ (∀ k, v'.ownBlock = some k → N ≤ k) := by
  obtain ⟨v', w', h1, h2, h3, h4⟩ := app_lives w (.slice none 0 0) u [] fs (OwnL.nil w) hu (by simpa using hb)
  refine ⟨v', w', h1, by simpa using h2, h3.mono (fun i _ hi => by simp [Value.ownBlock] at hi), fun k hk => ?_⟩
  rcases h4 k hk with h | h
  · simp [Value.ownBlock] at h
  · omega
theorem app_lives_new (w : World) (v u : Value) (es fs : List Lf) (N : Nat) (hN : N ≤ w.heap.size) (h : OwnL w v es) (hv : ∀ k, v.ownBlock = some k → N ≤ k) (hu : RdL w u fs) (hb : es.length + fs.length ≤ 100000000000) :
    ∃ v' w', (Builtin.append_ #[51, 51] 51 #[v, u]).run Tryz.prog w = .ok v' w' ∧ OwnL w' v' (es ++ fs) ∧ Fr w w' (fun k => N ≤ k) ∧ (∀ k, v'.ownBlock = some k → N ≤ k) := by
  obtain ⟨v', w', h1, h2, h3, h4⟩ := app_lives w v u es fs h hu hb
  refine ⟨v', w', h1, h2, h3.mono (fun i _ hi => hv i hi), fun k hk => ?_⟩
  rcases h4 k hk with h | h
  · exact hv k h
  · omega

end Go.Proofs.YtnffjafddbbjaaaGreatDoor

/-
  What LifeCheck answers. Plain mathematics.
-/
namespace Go.Proofs.YtnffjafddbbjaaaGreatDoor
open Go.RowKit

/-- Out of order, or too near. -/
def lOrd (p x : Lf) : Bool := !eLess p.1 x.1 && !(decide (p.1 = x.1) && decide (0 ≤ p.2.2) && decide (p.2.2 < x.2.1))
def lchkF (n : Nat) : Option Lf → Nat → List Lf → Nat × Nat
  | _, _, [] => (0, 0)
  | pv, i, x :: r =>
    if x.2.1 < 0 ∨ 4611686018427387903 < x.2.1 ∨ 4611686018427387903 < x.2.2 then (i, 26)
    else if eRight x.1.1 x.1.2 n = false then (i, 24)
    else if 0 ≤ x.2.2 ∧ x.2.2 ≤ x.2.1 then (i, 23)
    else if (pv.any fun p => lOrd p x) = true then (i, 23)
    else lchkF n (some x) (i + 1) r
/-- LifeCheck's answer (of lives that aren't too many). -/
def lifeCheckF (n : Nat) (l : List Lf) : Nat × Nat := if 4294967296 < n then (0, 26) else lchkF n none 0 l
/-- The life ahead of a place. -/
def prevL (l : List Lf) : Nat → Option Lf
  | 0 => none
  | i + 1 => l[i]?
theorem lchk_limit {n : Nat} {pv : Option Lf} {i : Nat} {x : Lf} {r : List Lf} (h : x.2.1 < 0 ∨ 4611686018427387903 < x.2.1 ∨ 4611686018427387903 < x.2.2) : lchkF n pv i (x :: r) = (i, 26) := by
  rw [lchkF, if_pos h]
theorem lchk_vertex {n : Nat} {pv : Option Lf} {i : Nat} {x : Lf} {r : List Lf} (h : ¬ (x.2.1 < 0 ∨ 4611686018427387903 < x.2.1 ∨ 4611686018427387903 < x.2.2)) (h1 : eRight x.1.1 x.1.2 n = false) : lchkF n pv i (x :: r) = (i, 24) := by
  rw [lchkF, if_neg h, if_pos h1]
theorem lchk_to {n : Nat} {pv : Option Lf} {i : Nat} {x : Lf} {r : List Lf} (h : ¬ (x.2.1 < 0 ∨ 4611686018427387903 < x.2.1 ∨ 4611686018427387903 < x.2.2)) (h1 : eRight x.1.1 x.1.2 n = true) (h2 : 0 ≤ x.2.2 ∧ x.2.2 ≤ x.2.1) : lchkF n pv i (x :: r) = (i, 23) := by
  rw [lchkF, if_neg h, if_neg (by rw [h1]; simp), if_pos h2]
theorem lchk_order {n : Nat} {pv : Option Lf} {i : Nat} {x : Lf} {r : List Lf} (h : ¬ (x.2.1 < 0 ∨ 4611686018427387903 < x.2.1 ∨ 4611686018427387903 < x.2.2)) (h1 : eRight x.1.1 x.1.2 n = true) (h2 : ¬ (0 ≤ x.2.2 ∧ x.2.2 ≤ x.2.1)) (h3 : (pv.any fun p => lOrd p x) = true) : lchkF n pv i (x :: r) = (i, 23) := by
  rw [lchkF, if_neg h, if_neg (by rw [h1]; simp), if_neg h2, if_pos h3]
theorem lchk_step {n : Nat} {pv : Option Lf} {i : Nat} {x : Lf} {r : List Lf} (h : ¬ (x.2.1 < 0 ∨ 4611686018427387903 < x.2.1 ∨ 4611686018427387903 < x.2.2)) (h1 : eRight x.1.1 x.1.2 n = true) (h2 : ¬ (0 ≤ x.2.2 ∧ x.2.2 ≤ x.2.1)) (h3 : (pv.any fun p => lOrd p x) = false) : lchkF n pv i (x :: r) = lchkF n (some x) (i + 1) r := by
  rw [lchkF, if_neg h, if_neg (by rw [h1]; simp), if_neg h2, if_neg (by rw [h3]; simp)]

end Go.Proofs.YtnffjafddbbjaaaGreatDoor

/-
  An event laid in. Plain mathematics.
-/
namespace Go.Proofs.YtnffjafddbbjaaaGreatDoor
open Go.RowKit

/-- With an event laid in behind the last that isn't behind it. -/
def insP (l : List Ev) (e : Ev) : List Ev := l.take (insK l e l.length) ++ e :: l.drop (insK l e l.length)
theorem insP_length (l : List Ev) (e : Ev) : (insP l e).length = l.length + 1 := by
  unfold insP
  rw [List.length_append, List.length_cons, List.length_take, List.length_drop]
  have := insK_le l e l.length
  omega

end Go.Proofs.YtnffjafddbbjaaaGreatDoor

/-
  What Back answers. Plain mathematics.
-/
namespace Go.Proofs.YtnffjafddbbjaaaGreatDoor
open Go.RowKit

/-- The events of lives, laid in one by one. -/
def backE : List Ev → List Lf → List Ev
  | h, [] => h
  | h, x :: r => backE (if 0 ≤ x.2.2 then insP (insP h (x.2.1, x.1, true)) (x.2.2, x.1, false) else insP h (x.2.1, x.1, true)) r
def backF (n : Nat) (l : List Lf) : Nat × List Ev × Nat := if (lifeCheckF n l).2 = 0 then (n, backE [] l, 0) else (0, [], (lifeCheckF n l).2)

end Go.Proofs.YtnffjafddbbjaaaGreatDoor

/-
  The table of a history's lives: its text, and what is read of a text. Plain mathematics.
-/
namespace Go.Proofs.YtnffjafddbbjaaaGreatDoor
open Go.RowKit

def toTok (z : Int) : Tok := if 0 ≤ z then .num z.toNat maxT else .byte 45
def lfHead (x : Lf) : List Tok := [.num x.1.1 maxV, .byte 32, .num x.1.2 maxV, .byte 32, .num x.2.1.toNat maxT, .byte 32]
def lfToks (x : Lf) : List Tok := lfHead x ++ [toTok x.2.2, .byte 10]
def lineT (x : Lf) : List Nat := toksL (lfToks x)
def tabW : List Nat := [116, 97, 98, 108, 101]
def tabL (n : Nat) (ls : List Lf) : List Nat := tabW ++ (toksL (headToks n) ++ ls.flatMap lineT)
def LfIn (x : Lf) : Prop := x.1.1 ≤ maxV ∧ x.1.2 ≤ maxV ∧ 0 ≤ x.2.1 ∧ x.2.1 ≤ 4611686018427387903 ∧ -1 ≤ x.2.2 ∧ x.2.2 ≤ 4611686018427387903
theorem toksL_append : ∀ (a b : List Tok), toksL (a ++ b) = toksL a ++ toksL b
  | [], _ => rfl
  | t :: a, b => by rw [List.cons_append, toksL_cons, toksL_append a b, toksL_cons, List.append_assoc]
theorem lfHead_ok {x : Lf} (h : LfIn x) : TokOk (lfHead x) := by
  obtain ⟨h1, h2, h3, h4, -, -⟩ := h
  exact ⟨h1, ⟨32, _, rfl, by decide⟩, by decide, h2, ⟨32, _, rfl, by decide⟩, by decide, by show _ ≤ 4611686018427387903; omega, ⟨32, _, rfl, by decide⟩, by decide, trivial⟩
theorem lfToks_ok {x : Lf} (h : LfIn x) : TokOk (lfToks x) := by
  obtain ⟨h1, h2, h3, h4, h5, h6⟩ := h
  have ht : TokOk [toTok x.2.2, .byte 10] := by
    unfold toTok
    split
    · exact ⟨by show _ ≤ 4611686018427387903; omega, ⟨10, _, rfl, by decide⟩, by decide, trivial⟩
    · exact ⟨by decide, by decide, trivial⟩
  exact ⟨h1, ⟨32, _, rfl, by decide⟩, by decide, h2, ⟨32, _, rfl, by decide⟩, by decide, by show _ ≤ 4611686018427387903; omega, ⟨32, _, rfl, by decide⟩, by decide, ht⟩

def lf2 (s : ByteArray) (c : Sc) : Sc := scByte s 32 (scNum s maxV c)
def lf4 (s : ByteArray) (c : Sc) : Sc := scByte s 32 (scNum s maxV (lf2 s c))
def lf6 (s : ByteArray) (c : Sc) : Sc := scByte s 32 (scNum s maxT (lf4 s c))
def lfTo (s : ByteArray) (c : Sc) : Sc := if scNext s c = (45, true) then scByte s 45 c else scNum s maxT c
def lfToV (s : ByteArray) (c : Sc) : Int := if scNext s c = (45, true) then -1 else (scNumVal s maxT c : Int)
def lfEnd (s : ByteArray) (c : Sc) : Sc := scByte s 10 (lfTo s (lf6 s c))
def lfVal (s : ByteArray) (c : Sc) : Lf := ((scNumVal s maxV c, scNumVal s maxV (lf2 s c)), (scNumVal s maxT (lf4 s c) : Int), lfToV s (lf6 s c))
def parseLfs (s : ByteArray) (n : Nat) : Nat → List Lf → Sc → LogR
  | 0, _, c => ⟨0, [], c.line, c.col, 99⟩
  | k + 1, ls, c =>
    if c.err ≠ 0 then ⟨0, [], c.line, c.col, c.err⟩
    else if (scNext s c).2 = false then ⟨(backF n ls).1, (backF n ls).2.1, 0, 0, 0⟩
    else if (lfEnd s c).err ≠ 0 then ⟨0, [], (lfEnd s c).line, (lfEnd s c).col, (lfEnd s c).err⟩
    else if (lifeCheckF n (ls ++ [lfVal s c])).2 ≠ 0 then ⟨0, [], c.line, c.col, (lifeCheckF n (ls ++ [lfVal s c])).2⟩
    else parseLfs s n k (ls ++ [lfVal s c]) (lfEnd s c)
def th2 (s : ByteArray) : Sc := scByte s 32 (scWord s (strOf tabW) ⟨0, 1, 1, 0⟩)
def th4 (s : ByteArray) : Sc := scByte s 10 (scNum s maxN (th2 s))
def parseTab (s : ByteArray) : LogR := parseLfs s (scNumVal s maxN (th2 s)) (s.size + 1) [] (th4 s)

theorem to_stop {s : ByteArray} {c : Sc} (h : c.err ≠ 0) : lfTo s c = c := by
  unfold lfTo
  split
  · exact (scByte_stop h).2
  · exact (scNum_stop' h).2
theorem toTok_run (s : ByteArray) (z : Int) (c : Sc) : runT s [toTok z] c = if 0 ≤ z then scNum s maxT c else scByte s 45 c := by
  unfold toTok
  split <;> rfl
/-- The end of a life, where it stands, or where the text ends. -/
theorem to_is {s : ByteArray} {c : Sc} (z : Int) (hp : c.err = 0 → c.pos ≤ s.size) (h : c.err ≠ 0 ∨ s.size ≤ c.pos ∨ (if 0 ≤ z then isDig (chAt s c.pos) = true else chAt s c.pos = 45)) : lfTo s c = runT s [toTok z] c := by
  rw [toTok_run]
  by_cases he : c.err = 0
  · by_cases hpe : s.size ≤ c.pos
    · unfold lfTo
      rw [scNext_end hpe, if_neg (by simp), (num_end he (by have := hp he; omega)).2]
      split
      · rfl
      · rw [(scByte_end he hpe).2]
    · have hc : (if 0 ≤ z then isDig (chAt s c.pos) = true else chAt s c.pos = 45) := by rcases h with h | h | h <;> first | exact h | omega
      unfold lfTo
      rw [scNext_in he (by omega)]
      by_cases hz : 0 ≤ z
      · rw [if_pos hz] at hc ⊢
        have hne : chAt s c.pos ≠ 45 := fun e => by rw [e] at hc; exact absurd hc (by decide)
        rw [if_neg (by simp [hne])]
      · rw [if_neg hz] at hc ⊢
        rw [hc, if_pos rfl]
  · rw [to_stop he]
    split
    · exact (scNum_stop' he).2.symm
    · exact (scByte_stop he).2.symm
theorem toTok_head (z : Int) : ∃ b r, (toTok z).bytes = b :: r ∧ (if 0 ≤ z then isDig b = true else b = 45) := by
  unfold toTok
  split
  · have h1 := decL_pos z.toNat
    have h2 := decL_dig z.toNat
    have h3 : (Tok.bytes (.num z.toNat maxT)) = decL z.toNat := rfl
    rw [h3]
    cases hd : decL z.toNat with
    | nil => rw [hd] at h1; simp at h1
    | cons b r => exact ⟨b, r, rfl, h2 b (by rw [hd]; exact List.mem_cons_self ..)⟩
  · exact ⟨45, [], rfl, rfl⟩
theorem lf6_run (s : ByteArray) (x : Lf) (c : Sc) : lf6 s c = runT s (lfHead x) c := rfl
/-- A life's end, token by token, as far as the text goes. -/
theorem lf_toks {s : ByteArray} {c : Sc} {x : Lf} (hx : LfIn x) (he : c.err = 0) (hp : c.pos ≤ s.size) (hb : Bears s c.pos ((lineT x).take (s.size - c.pos))) : lfEnd s c = runT s (lfToks x) c := by
  have hk := lfHead_ok hx
  obtain ⟨b, r, hbr, hbz⟩ := toTok_head x.2.2
  have hl : lineT x = toksL (lfHead x) ++ (b :: (r ++ [10])) := by
    unfold lineT lfToks
    rw [toksL_append, toksL_cons, hbr]
    rfl
  have key : lfTo s (lf6 s c) = runT s [toTok x.2.2] (lf6 s c) := by
    rw [hl] at hb
    by_cases hin : (toksL (lfHead x)).length ≤ s.size - c.pos
    · obtain ⟨h1, h2⟩ := take_bears hb hin
      have e6 : lf6 s c = adv (toksL (lfHead x)) c := by rw [lf6_run s x]; exact runT_at _ hk he h1 (by omega)
      refine to_is _ (fun _ => by rw [e6, adv_pos]; omega) ?_
      by_cases hz : s.size - c.pos - (toksL (lfHead x)).length = 0
      · exact .inr (.inl (by rw [e6, adv_pos]; omega))
      · obtain ⟨m, hm⟩ : ∃ m, s.size - c.pos - (toksL (lfHead x)).length = m + 1 := ⟨_, (Nat.succ_pred hz).symm⟩
        rw [hm, List.take_succ_cons] at h2
        refine .inr (.inr ?_)
        rw [e6, adv_pos, h2.head]
        exact hbz
    · have e6 : lf6 s c = { adv ((toksL (lfHead x)).take (s.size - c.pos)) c with err := 20 } := by
        rw [lf6_run s x]
        exact runT_cut _ hk he hp (by omega) (by rw [List.take_append_of_le_length (by omega)] at hb; exact hb)
      have h0 : (lf6 s c).err ≠ 0 := by rw [e6]; show (20 : Nat) ≠ 0; decide
      exact to_is _ (fun h => absurd h h0) (.inl h0)
  unfold lfEnd
  rw [key, lf6_run s x]
  unfold lfToks
  rw [runT_append]
  show scByte s 10 (runT s [toTok x.2.2] _) = runT s ([toTok x.2.2] ++ [.byte 10]) _
  rw [runT_append]
  rfl
set_option maxHeartbeats 1000000 in
theorem lf_at {s : ByteArray} {c : Sc} {x : Lf} (hx : LfIn x) (he : c.err = 0) (hb : Bears s c.pos (lineT x)) (hs : c.pos + (lineT x).length ≤ s.size) : lfVal s c = x ∧ lfEnd s c = adv (lineT x) c := by
  have hlt : (lineT x).take (s.size - c.pos) = lineT x := List.take_of_length_le (by omega)
  have h1 := lf_toks (s := s) (c := c) hx he (by omega) (by rw [hlt]; exact hb)
  have h2 := runT_at (lfToks x) (lfToks_ok hx) he hb hs
  refine ⟨?_, h1.trans h2⟩
  have hk := lfHead_ok hx
  obtain ⟨⟨u, v⟩, f, t⟩ := x
  obtain ⟨h3, h4, h5, h6, h7, h8⟩ := hx
  dsimp only at h3 h4 h5 h6 h7 h8
  have hl0 : lineT ((u, v), f, t) = toksL (.num u maxV :: .byte 32 :: [.num v maxV, .byte 32, .num f.toNat maxT, .byte 32, toTok t, .byte 10]) := rfl
  have hl2 : lineT ((u, v), f, t) = toksL [.num u maxV, .byte 32] ++ toksL (.num v maxV :: .byte 32 :: [.num f.toNat maxT, .byte 32, toTok t, .byte 10]) := by rw [← toksL_append]; rfl
  have hl4 : lineT ((u, v), f, t) = toksL [.num u maxV, .byte 32, .num v maxV, .byte 32] ++ toksL (.num f.toNat maxT :: .byte 32 :: [toTok t, .byte 10]) := by rw [← toksL_append]; rfl
  have hl6 : lineT ((u, v), f, t) = toksL (lfHead ((u, v), f, t)) ++ toksL [toTok t, .byte 10] := by rw [← toksL_append]; rfl
  have hU : scNumVal s maxV c = u := num_val he h3 (show isDig 32 = false by decide) (by rw [← hl0]; exact hb) (by rw [← hl0]; exact hs)
  have b2 := hb
  have s2 := hs
  rw [hl2] at b2 s2
  rw [List.length_append] at s2
  have e2 : lf2 s c = adv (toksL [.num u maxV, .byte 32]) c := by
    have := runT_at (s := s) (c := c) [.num u maxV, .byte 32] ⟨h3, ⟨32, _, rfl, by decide⟩, by decide, trivial⟩ he b2.left (by omega)
    exact this
  have hV : scNumVal s maxV (lf2 s c) = v := num_val (by rw [e2, adv_err]; exact he) h4 (show isDig 32 = false by decide) (by rw [e2, adv_pos]; exact b2.right) (by rw [e2, adv_pos]; omega)
  have b4 := hb
  have s4 := hs
  rw [hl4] at b4 s4
  rw [List.length_append] at s4
  have e4 : lf4 s c = adv (toksL [.num u maxV, .byte 32, .num v maxV, .byte 32]) c := by
    have := runT_at (s := s) (c := c) [.num u maxV, .byte 32, .num v maxV, .byte 32] ⟨h3, ⟨32, _, rfl, by decide⟩, by decide, h4, ⟨32, _, rfl, by decide⟩, by decide, trivial⟩ he b4.left (by omega)
    exact this
  have hF : scNumVal s maxT (lf4 s c) = f.toNat := num_val (by rw [e4, adv_err]; exact he) (by show _ ≤ 4611686018427387903; omega) (show isDig 32 = false by decide) (by rw [e4, adv_pos]; exact b4.right) (by rw [e4, adv_pos]; omega)
  have b6 := hb
  have s6 := hs
  rw [hl6] at b6 s6
  rw [List.length_append] at s6
  have e6 : lf6 s c = adv (toksL (lfHead ((u, v), f, t))) c := by rw [lf6_run s ((u, v), f, t)]; exact runT_at _ hk he b6.left (by omega)
  have z6 : (lf6 s c).err = 0 := by rw [e6, adv_err]; exact he
  have b7 := b6.right
  have hp6 : (lf6 s c).pos = c.pos + (toksL (lfHead ((u, v), f, t))).length := by rw [e6, adv_pos]
  rw [← hp6] at b7
  have hT : lfToV s (lf6 s c) = t := by
    have hlen : 0 < (toksL [toTok t, .byte 10]).length := by rw [toksL_cons, List.length_append]; show 0 < _ + 1; omega
    unfold lfToV
    rw [scNext_in z6 (by omega)]
    by_cases hz : 0 ≤ t
    · have ht : toTok t = .num t.toNat maxT := if_pos hz
      rw [ht] at b7 s6
      have hd : chAt s (lf6 s c).pos ≠ 45 := by
        obtain ⟨b, r, hb1, hb2⟩ := toTok_head t
        rw [if_pos hz] at hb2
        rw [ht] at hb1
        rw [toksL_cons, hb1] at b7
        rw [b7.head]
        intro e
        rw [e] at hb2
        exact absurd hb2 (by decide)
      rw [if_neg (by simp [hd])]
      have : scNumVal s maxT (lf6 s c) = t.toNat := num_val (b := 10) (r := []) z6 (by show _ ≤ 4611686018427387903; omega) (show isDig 10 = false by decide) b7 (by rw [hp6]; omega)
      rw [this, Int.toNat_of_nonneg hz]
    · have ht : toTok t = .byte 45 := if_neg hz
      rw [ht] at b7
      have : chAt s (lf6 s c).pos = 45 := b7.head
      rw [this, if_pos rfl]
      omega
  unfold lfVal
  rw [hU, hV, hF, hT, Int.toNat_of_nonneg h5]
set_option maxHeartbeats 1000000 in
/-- What stood there, where a life was read. -/
theorem lf_inv {s : ByteArray} {c : Sc} (he : c.err = 0) (hp : c.pos ≤ s.size) (h : (lfEnd s c).err = 0) : LfIn (lfVal s c) ∧ Bears s c.pos (lineT (lfVal s c)) ∧ c.pos + (lineT (lfVal s c)).length ≤ s.size := by
  have z7 : (lfTo s (lf6 s c)).err = 0 := Decidable.byContradiction fun hn => hn (by rw [show lfEnd s c = scByte s 10 (lfTo s (lf6 s c)) from rfl, (scByte_stop hn).2] at h; exact absurd h hn)
  have z6 : (lf6 s c).err = 0 := Decidable.byContradiction fun hn => by rw [to_stop hn] at z7; exact hn z7
  have z5 : (scNum s maxT (lf4 s c)).err = 0 := Decidable.byContradiction fun hn => by rw [show lf6 s c = scByte s 32 (scNum s maxT (lf4 s c)) from rfl, (scByte_stop hn).2] at z6; exact hn z6
  have z4 : (lf4 s c).err = 0 := Decidable.byContradiction fun hn => by rw [(scNum_stop' hn).2] at z5; exact hn z5
  have z3 : (scNum s maxV (lf2 s c)).err = 0 := Decidable.byContradiction fun hn => by rw [show lf4 s c = scByte s 32 (scNum s maxV (lf2 s c)) from rfl, (scByte_stop hn).2] at z4; exact hn z4
  have z2 : (lf2 s c).err = 0 := Decidable.byContradiction fun hn => by rw [(scNum_stop' hn).2] at z3; exact hn z3
  have z1 : (scNum s maxV c).err = 0 := Decidable.byContradiction fun hn => by rw [show lf2 s c = scByte s 32 (scNum s maxV c) from rfl, (scByte_stop hn).2] at z2; exact hn z2
  obtain ⟨d1, m1, a1⟩ := num_inv he hp z1
  obtain ⟨q2, b2, a2⟩ := byte_inv z1 (by decide) (show (scByte s 32 (scNum s maxV c)).err = 0 from z2)
  have a2' : lf2 s c = adv [32] (scNum s maxV c) := a2
  have p2 : (lf2 s c).pos ≤ s.size := by rw [a2', adv_pos]; simp only [List.length_singleton] <;> omega
  obtain ⟨d3, m3, a3⟩ := num_inv z2 p2 z3
  obtain ⟨q4, b4, a4⟩ := byte_inv z3 (by decide) (show (scByte s 32 (scNum s maxV (lf2 s c))).err = 0 from z4)
  have a4' : lf4 s c = adv [32] (scNum s maxV (lf2 s c)) := a4
  have p4 : (lf4 s c).pos ≤ s.size := by rw [a4', adv_pos]; simp only [List.length_singleton] <;> omega
  obtain ⟨d5, m5, a5⟩ := num_inv z4 p4 z5
  obtain ⟨q6, b6, a6⟩ := byte_inv z5 (by decide) (show (scByte s 32 (scNum s maxT (lf4 s c))).err = 0 from z6)
  have a6' : lf6 s c = adv [32] (scNum s maxT (lf4 s c)) := a6
  have p6 : (lf6 s c).pos ≤ s.size := by rw [a6', adv_pos]; simp only [List.length_singleton] <;> omega
  -- the end of the life
  obtain ⟨z, hz, hzl, hzm, hbz, hfz, a7⟩ : ∃ z, lfToV s (lf6 s c) = z ∧ -1 ≤ z ∧ z ≤ 4611686018427387903 ∧ Bears s (lf6 s c).pos (toTok z).bytes ∧ (lf6 s c).pos + (toTok z).bytes.length ≤ s.size ∧ lfTo s (lf6 s c) = adv (toTok z).bytes (lf6 s c) := by
    by_cases hn : scNext s (lf6 s c) = (45, true)
    · have e1 : lfTo s (lf6 s c) = scByte s 45 (lf6 s c) := if_pos hn
      rw [e1] at z7
      obtain ⟨q, b, a⟩ := byte_inv z6 (by decide) z7
      exact ⟨-1, if_pos hn, by decide, by decide, Bears.one b, q, e1.trans a⟩
    · have e1 : lfTo s (lf6 s c) = scNum s maxT (lf6 s c) := if_neg hn
      rw [e1] at z7
      obtain ⟨d7, m7, a7⟩ := num_inv z6 p6 z7
      have m7' : scNumVal s maxT (lf6 s c) ≤ 4611686018427387903 := m7
      have ht : (toTok (scNumVal s maxT (lf6 s c) : Int)).bytes = decL (scNumVal s maxT (lf6 s c)) := by
        unfold toTok
        rw [if_pos (by omega), Int.toNat_natCast]
        rfl
      refine ⟨(scNumVal s maxT (lf6 s c) : Int), if_neg hn, by omega, by omega, ?_, ?_, ?_⟩
      · rw [ht]; exact d7.bears
      · rw [ht]; exact d7.fits
      · rw [ht, e1]; exact a7
  obtain ⟨q8, b8, a8⟩ := byte_inv z7 (by decide) (show (scByte s 10 (lfTo s (lf6 s c))).err = 0 from h)
  have m5' : scNumVal s maxT (lf4 s c) ≤ 4611686018427387903 := m5
  have hl : lineT (lfVal s c) = decL (scNumVal s maxV c) ++ ([32] ++ (decL (scNumVal s maxV (lf2 s c)) ++ ([32] ++ (decL (scNumVal s maxT (lf4 s c)) ++ ([32] ++ ((toTok z).bytes ++ [10])))))) := by
    unfold lineT lfToks lfHead lfVal
    rw [hz]
    simp [toksL, Tok.bytes]
  have P1 : (scNum s maxV c).pos = c.pos + (decL (scNumVal s maxV c)).length := by rw [a1, adv_pos]
  have P2 : (lf2 s c).pos = (scNum s maxV c).pos + 1 := by rw [a2', adv_pos]; rfl
  have P3 : (scNum s maxV (lf2 s c)).pos = (lf2 s c).pos + (decL (scNumVal s maxV (lf2 s c))).length := by conv => lhs; rw [a3, adv_pos]
  have P4 : (lf4 s c).pos = (scNum s maxV (lf2 s c)).pos + 1 := by rw [a4', adv_pos]; rfl
  have P5 : (scNum s maxT (lf4 s c)).pos = (lf4 s c).pos + (decL (scNumVal s maxT (lf4 s c))).length := by conv => lhs; rw [a5, adv_pos]
  have P6 : (lf6 s c).pos = (scNum s maxT (lf4 s c)).pos + 1 := by rw [a6', adv_pos]; rfl
  have P7 : (lfTo s (lf6 s c)).pos = (lf6 s c).pos + (toTok z).bytes.length := by rw [a7, adv_pos]
  refine ⟨⟨m1, m3, ?_, ?_, ?_, ?_⟩, ?_, ?_⟩
  · show (0 : Int) ≤ (scNumVal s maxT (lf4 s c) : Int); omega
  · show (scNumVal s maxT (lf4 s c) : Int) ≤ _; omega
  · show -1 ≤ lfToV s (lf6 s c); rw [hz]; exact hzl
  · show lfToV s (lf6 s c) ≤ _; rw [hz]; exact hzm
  · rw [hl]
    refine d1.bears.append ?_
    rw [← P1]
    refine (Bears.one b2).append ?_
    rw [List.length_singleton, ← P2]
    refine d3.bears.append ?_
    rw [← P3]
    refine (Bears.one b4).append ?_
    rw [List.length_singleton, ← P4]
    refine d5.bears.append ?_
    rw [← P5]
    refine (Bears.one b6).append ?_
    rw [List.length_singleton, ← P6]
    refine hbz.append ?_
    rw [← P7]
    exact Bears.one b8
  · rw [hl]
    simp only [List.length_append, List.length_singleton]
    omega

end Go.Proofs.YtnffjafddbbjaaaGreatDoor

/-
  What is read of a table: a printed one is its lives' history; a text that is read is its lives' table; a table that is cut is short. Plain mathematics.
-/
namespace Go.Proofs.YtnffjafddbbjaaaGreatDoor
open Go.RowKit

/-- What a table's lives make. -/
def endT (n : Nat) (ls : List Lf) : LogR := ⟨(backF n ls).1, (backF n ls).2.1, 0, 0, 0⟩
def lineTB (x : Lf) : List Nat := toksL (lfHead x ++ [toTok x.2.2])
theorem lineT_body (x : Lf) : lineT x = lineTB x ++ [10] := by
  unfold lineT lineTB lfToks
  rw [show lfHead x ++ [toTok x.2.2, .byte 10] = (lfHead x ++ [toTok x.2.2]) ++ [.byte 10] by rw [List.append_assoc]; rfl, toksL_append]
  rfl
theorem lineTB_plain (x : Lf) : ∀ y ∈ lineTB x, y ≠ 10 := fun y hy => by
  have hl : lineTB x = decL x.1.1 ++ ([32] ++ (decL x.1.2 ++ ([32] ++ (decL x.2.1.toNat ++ ([32] ++ (toTok x.2.2).bytes))))) := by simp [lineTB, lfHead, toksL, Tok.bytes]
  rw [hl] at hy
  simp only [List.mem_append, List.mem_cons, List.not_mem_nil, or_false] at hy
  have ht : ∀ y ∈ (toTok x.2.2).bytes, y ≠ 10 := fun y hy => by
    unfold toTok at hy
    split at hy
    · exact dig_ne (decL_dig _ y hy)
    · simp [Tok.bytes] at hy; omega
  rcases hy with hy | rfl | hy | rfl | hy | rfl | hy
  · exact dig_ne (decL_dig _ y hy)
  · decide
  · exact dig_ne (decL_dig _ y hy)
  · decide
  · exact dig_ne (decL_dig _ y hy)
  · decide
  · exact ht y hy
theorem lchk_take (n : Nat) : ∀ (l : List Lf) (pv : Option Lf) (i c : Nat), (lchkF n pv i l).2 = 0 → (lchkF n pv i (l.take c)).2 = 0
  | [], _, _, c, h => by rw [List.take_nil]; exact h
  | x :: l, pv, i, 0, h => by rw [List.take_zero, lchkF]
  | x :: l, pv, i, c + 1, h => by
    rw [List.take_succ_cons]
    rw [lchkF] at h ⊢
    split at h
    · simp at h
    · rename_i h1
      rw [if_neg h1]
      split at h
      · simp at h
      · rename_i h2
        rw [if_neg h2]
        split at h
        · simp at h
        · rename_i h3
          rw [if_neg h3]
          split at h
          · simp at h
          · rename_i h4
            rw [if_neg h4]
            exact lchk_take n l _ _ c h
theorem lcheck_take {n : Nat} {l : List Lf} (i : Nat) (h : (lifeCheckF n l).2 = 0) : (lifeCheckF n (l.take i)).2 = 0 := by
  unfold lifeCheckF at h ⊢
  split at h
  · simp at h
  · rename_i h1
    rw [if_neg h1]
    exact lchk_take n l none 0 i h
theorem lcheck_nil {n : Nat} (hn : n ≤ maxN) : (lifeCheckF n []).2 = 0 := by
  have hn' : n ≤ 4294967296 := hn
  unfold lifeCheckF
  rw [if_neg (by omega), lchkF]

theorem tparse_stop {s : ByteArray} {n k : Nat} {evs : List Lf} {c : Sc} (h : c.err ≠ 0) : parseLfs s n (k + 1) evs c = ⟨0, [], c.line, c.col, c.err⟩ := by rw [parseLfs, if_pos h]
theorem tparse_end {s : ByteArray} {n k : Nat} {evs : List Lf} {c : Sc} (he : c.err = 0) (h : s.size ≤ c.pos) : parseLfs s n (k + 1) evs c = endT n evs := by
  rw [parseLfs, if_neg (by simp [he]), scNext_end h, if_pos rfl]
  rfl
theorem tparse_err {s : ByteArray} {n k : Nat} {evs : List Lf} {c : Sc} (he : c.err = 0) (hp : c.pos < s.size) (h : (lfEnd s c).err ≠ 0) : parseLfs s n (k + 1) evs c = ⟨0, [], (lfEnd s c).line, (lfEnd s c).col, (lfEnd s c).err⟩ := by
  rw [parseLfs, if_neg (by simp [he]), scNext_in he hp, if_neg (by simp), if_pos h]
theorem tparse_bad {s : ByteArray} {n k : Nat} {evs : List Lf} {c : Sc} (he : c.err = 0) (hp : c.pos < s.size) (h : (lfEnd s c).err = 0) (hc : (lifeCheckF n (evs ++ [lfVal s c])).2 ≠ 0) : parseLfs s n (k + 1) evs c = ⟨0, [], c.line, c.col, (lifeCheckF n (evs ++ [lfVal s c])).2⟩ := by
  rw [parseLfs, if_neg (by simp [he]), scNext_in he hp, if_neg (by simp), if_neg (by simp [h]), if_pos hc]
theorem tparse_step {s : ByteArray} {n k : Nat} {evs : List Lf} {c : Sc} (he : c.err = 0) (hp : c.pos < s.size) (h : (lfEnd s c).err = 0) (hc : (lifeCheckF n (evs ++ [lfVal s c])).2 = 0) : parseLfs s n (k + 1) evs c = parseLfs s n k (evs ++ [lfVal s c]) (lfEnd s c) := by
  rw [parseLfs, if_neg (by simp [he]), scNext_in he hp, if_neg (by simp), if_neg (by simp [h]), if_neg (by simp [hc])]
theorem lineT_pos (x : Lf) : 0 < (lineT x).length := by rw [lineT_body, List.length_append, List.length_singleton]; omega

/-- Lines of events that may be. -/
theorem tparse_lines {s : ByteArray} {n : Nat} : ∀ (evs evs0 : List Lf) (c : Sc) (k : Nat), (∀ x ∈ evs, LfIn x) → c.err = 0 → Bears s c.pos (evs.flatMap lineT) → c.pos + (evs.flatMap lineT).length ≤ s.size → (∀ i, i ≤ evs.length → (lifeCheckF n (evs0 ++ evs.take i)).2 = 0) → s.size - c.pos < k →
    ∃ k', s.size - (adv (evs.flatMap lineT) c).pos < k' ∧ parseLfs s n k evs0 c = parseLfs s n k' (evs0 ++ evs) (adv (evs.flatMap lineT) c)
  | [], evs0, c, k, _, _, _, _, _, hk => ⟨k, hk, by simp [adv]⟩
  | x :: evs, evs0, c, 0, _, _, _, _, _, hk => by omega
  | x :: evs, evs0, c, k + 1, hx, he, hb, hs, hc, hk => by
    rw [List.flatMap_cons] at hb hs
    rw [List.length_append] at hs
    have hpos := lineT_pos x
    obtain ⟨e1, e2⟩ := lf_at (hx x (List.mem_cons_self ..)) he hb.left (by omega)
    have hstep : parseLfs s n (k + 1) evs0 c = parseLfs s n k (evs0 ++ [lfVal s c]) (lfEnd s c) := tparse_step he (by omega) (by rw [e2, adv_err]; exact he) (by rw [e1]; exact hc 1 (by simp))
    rw [hstep, e1, e2, List.flatMap_cons, adv_append]
    obtain ⟨k', h1, h2⟩ := tparse_lines evs (evs0 ++ [x]) (adv (lineT x) c) k (fun y hy => hx y (List.mem_cons_of_mem _ hy)) (by rw [adv_err]; exact he) (by rw [adv_pos]; exact hb.right) (by rw [adv_pos]; omega) (fun i hi => by
      have := hc (i + 1) (by simp; omega)
      rwa [List.take_succ_cons, ← List.singleton_append, ← List.append_assoc] at this) (by rw [adv_pos]; omega)
    exact ⟨k', h1, by rw [h2, List.append_assoc]; rfl⟩

theorem tabL_lt {n : Nat} {evs : List Lf} (hn : n ≤ maxN) (hx : ∀ x ∈ evs, LfIn x) : ∀ y ∈ tabL n evs, y < 256 := by
  intro y hy
  unfold tabL at hy
  rw [List.mem_append, List.mem_append] at hy
  rcases hy with hy | hy | hy
  · simp [tabW] at hy; omega
  · exact tok_lt (headToks_ok hn) y hy
  · rw [List.mem_flatMap] at hy
    obtain ⟨x, hx1, hy⟩ := hy
    exact tok_lt (lfToks_ok (hx x hx1)) y hy


/-- A word at the head. -/
theorem wordErr_inv (s v : ByteArray) (pos : Nat) : ∀ (n i : Nat), wordErr s v pos i n = 0 → ∀ j, j < n → pos + i + j < s.size ∧ chAt s (pos + i + j) = chAt v (i + j)
  | 0, _, _, j, hj => by omega
  | n + 1, i, h, j, hj => by
    rw [wordErr] at h
    split at h
    · omega
    · rename_i h1
      split at h
      · rename_i h2
        match j with
        | 0 => exact ⟨by omega, h2⟩
        | j + 1 =>
          have := wordErr_inv s v pos n (i + 1) h j (by omega)
          rw [show pos + i + (j + 1) = pos + (i + 1) + j by omega, show i + (j + 1) = i + 1 + j by omega]
          exact this
      · omega
theorem gword_at {s : ByteArray} {W : List Nat} (hW : ∀ x ∈ W, x < 256) (h : Bears s 0 W) (hs : W.length ≤ s.size) : scWord s (strOf W) ⟨0, 1, 1, 0⟩ = adv W ⟨0, 1, 1, 0⟩ := by
  have hw : wordErr s (strOf W) 0 0 (strOf W).size = 0 := by
    rw [strOf_length]
    refine wordErr_hit _ _ 0 W.length 0 (fun j hj => ⟨by omega, ?_⟩)
    rw [show 0 + 0 + j = 0 + j by omega, h j hj, Nat.zero_add, chAt_strOf W j hj hW]
  unfold scWord
  rw [if_pos rfl]
  show (if wordErr s (strOf W) 0 0 (strOf W).size = 0 then _ else _) = _
  rw [if_pos hw, strOf_length]
  exact move_adv s W ⟨0, 1, 1, 0⟩ h
theorem gword_inv {s : ByteArray} {W : List Nat} (hW : ∀ x ∈ W, x < 256) (h : (scWord s (strOf W) ⟨0, 1, 1, 0⟩).err = 0) : Bears s 0 W ∧ W.length ≤ s.size := by
  have hw : wordErr s (strOf W) 0 0 (strOf W).size = 0 := by
    unfold scWord at h
    rw [if_pos rfl] at h
    refine Decidable.byContradiction fun hn => ?_
    have h' : (if wordErr s (strOf W) 0 0 (strOf W).size = 0 then scMove s ⟨0, 1, 1, 0⟩ (strOf W).size else { (⟨0, 1, 1, 0⟩ : Sc) with err := wordErr s (strOf W) 0 0 (strOf W).size }).err = 0 := h
    rw [if_neg hn] at h'
    exact hn h'
  have hi := wordErr_inv s (strOf W) 0 (strOf W).size 0 hw
  rw [strOf_length] at hi
  refine ⟨fun j hj => ?_, ?_⟩
  · have h1 := (hi j hj).2
    rw [show 0 + 0 + j = 0 + j by omega, show 0 + j = j by omega, chAt_strOf W j hj hW] at h1
    rw [show 0 + j = j by omega]
    exact h1
  · rcases Nat.eq_zero_or_pos W.length with h0 | h0
    · omega
    · have := (hi (W.length - 1) (by omega)).1
      omega
theorem tabW_lt : ∀ x ∈ tabW, x < 256 := by decide
theorem tword_at {s : ByteArray} (h : Bears s 0 tabW) (hs : 5 ≤ s.size) : scWord s (strOf tabW) ⟨0, 1, 1, 0⟩ = ⟨5, 1, 6, 0⟩ := gword_at tabW_lt h hs
theorem tword_inv {s : ByteArray} (h : (scWord s (strOf tabW) ⟨0, 1, 1, 0⟩).err = 0) : Bears s 0 tabW ∧ 5 ≤ s.size := gword_inv tabW_lt h
theorem tabW_size : (strOf tabW).size = 5 := by rw [strOf_length]; rfl
theorem tabW_at (j : Nat) (h : j < 5) : chAt (strOf tabW) j = tabW.getD j 0 := chAt_strOf tabW j h tabW_lt

theorem th_toks (s : ByteArray) (n : Nat) : th4 s = runT s (headToks n) (scWord s (strOf tabW) ⟨0, 1, 1, 0⟩) := rfl
/-- A log that begins as n's. -/
theorem thead_at {s : ByteArray} {n : Nat} (hn : n ≤ maxN) (hb : Bears s 0 (tabW ++ toksL (headToks n))) (hs : (tabW ++ toksL (headToks n)).length ≤ s.size) : scNumVal s maxN (th2 s) = n ∧ th4 s = adv (toksL (headToks n)) ⟨5, 1, 6, 0⟩ := by
  rw [List.length_append] at hs
  have hw : tabW.length = 5 := rfl
  have h1 := tword_at hb.left (by omega)
  have hr := hb.right
  rw [hw] at hr
  have h2 : th4 s = adv (toksL (headToks n)) ⟨5, 1, 6, 0⟩ := by
    rw [th_toks s n, h1]
    exact runT_at _ (headToks_ok hn) rfl hr (by show 5 + _ ≤ _; omega)
  refine ⟨?_, h2⟩
  have h3 : th2 s = adv [32] ⟨5, 1, 6, 0⟩ := by
    unfold th2
    rw [h1]
    have hl : toksL (headToks n) = toksL [.byte 32] ++ toksL [.num n maxN, .byte 10] := by simp [headToks, toksL, Tok.bytes]
    rw [hl] at hr hs
    rw [List.length_append] at hs
    have : runT s [.byte 32] ⟨5, 1, 6, 0⟩ = adv (toksL [.byte 32]) ⟨5, 1, 6, 0⟩ := runT_at _ ⟨by decide, trivial⟩ rfl hr.left (by show 5 + _ ≤ _; omega)
    exact this
  have hl : toksL (headToks n) = toksL [.byte 32] ++ toksL [.num n maxN, .byte 10] := by simp [headToks, toksL, Tok.bytes]
  rw [hl] at hr hs
  rw [List.length_append] at hs
  have h32 : (toksL [.byte 32]).length = 1 := rfl
  exact num_val (r := []) (by rw [h3]; rfl) hn (show isDig 10 = false by decide) (by rw [h3, adv_pos]; exact hr.right) (by rw [h3, adv_pos]; show 5 + 1 + _ ≤ _; omega)

/-- The log of a history is read as the history. -/
theorem tparse_print {s : ByteArray} {n : Nat} {evs : List Lf} (hn : n ≤ maxN) (hx : ∀ x ∈ evs, LfIn x) (hc : (lifeCheckF n evs).2 = 0) (hs : s = strOf (tabL n evs)) : parseTab s = endT n evs := by
  have hb : Bears s 0 (tabL n evs) := by rw [hs]; exact bears_str (tabL_lt hn hx)
  have hz : s.size = (tabL n evs).length := by rw [hs, strOf_length]
  unfold tabL at hb hz
  rw [← List.append_assoc] at hb hz
  rw [List.length_append] at hz
  obtain ⟨h1, h2⟩ := thead_at hn hb.left (by omega)
  have hp : (th4 s).pos = (tabW ++ toksL (headToks n)).length := by rw [h2, adv_pos, List.length_append]; rfl
  have hr := hb.right
  rw [Nat.zero_add, ← hp] at hr
  obtain ⟨k', hk, he⟩ := tparse_lines (n := n) evs [] (th4 s) (s.size + 1) hx (by rw [h2, adv_err]) hr (by omega) (fun i _ => by rw [List.nil_append]; exact lcheck_take i hc) (by omega)
  unfold parseTab
  rw [h1, he]
  obtain ⟨k, rfl⟩ : ∃ k, k' = k + 1 := ⟨k' - 1, by omega⟩
  rw [List.nil_append]
  exact tparse_end (by rw [adv_err, h2, adv_err]) (by rw [adv_pos]; omega)

/-- What is read is a history, whose log the text is. -/
theorem tparse_lines_inv {s : ByteArray} {n : Nat} : ∀ (k : Nat) (evs0 : List Lf) (c : Sc), c.err = 0 → c.pos ≤ s.size → s.size - c.pos < k → (lifeCheckF n evs0).2 = 0 → (parseLfs s n k evs0 c).err = 0 →
    ∃ evs, parseLfs s n k evs0 c = endT n (evs0 ++ evs) ∧ Bears s c.pos (evs.flatMap lineT) ∧ c.pos + (evs.flatMap lineT).length = s.size ∧ (lifeCheckF n (evs0 ++ evs)).2 = 0 ∧ ∀ x ∈ evs, LfIn x
  | 0, _, _, _, _, hk, _, _ => by omega
  | k + 1, evs0, c, he, hp, hk, hc, h => by
    by_cases hend : s.size ≤ c.pos
    · exact ⟨[], by rw [tparse_end he hend, List.append_nil], Bears.nil _ _, by simp; omega, by rw [List.append_nil]; exact hc, fun x hx => by simp at hx⟩
    · by_cases h1 : (lfEnd s c).err = 0
      · by_cases h2 : (lifeCheckF n (evs0 ++ [lfVal s c])).2 = 0
        · rw [tparse_step he (by omega) h1 h2] at h ⊢
          obtain ⟨i1, i2, i3⟩ := lf_inv he hp h1
          have i4 : lfEnd s c = adv (lineT (lfVal s c)) c := (lf_at i1 he i2 i3).2
          have hpos := lineT_pos (lfVal s c)
          have e5 : (lfEnd s c).pos = c.pos + (lineT (lfVal s c)).length := by rw [i4, adv_pos]
          obtain ⟨evs, g1, g2, g3, g4, g5⟩ := tparse_lines_inv k (evs0 ++ [lfVal s c]) (lfEnd s c) h1 (by omega) (by omega) h2 h
          refine ⟨lfVal s c :: evs, by rw [g1, List.append_assoc]; rfl, ?_, ?_, by rw [List.append_assoc] at g4; exact g4, fun x hx => ?_⟩
          · rw [List.flatMap_cons]
            exact i2.append (by rw [← e5]; exact g2)
          · rw [List.flatMap_cons, List.length_append]
            omega
          · rcases List.mem_cons.1 hx with rfl | hx
            · exact i1
            · exact g5 x hx
        · rw [tparse_bad he (by omega) h1 h2] at h
          exact absurd h h2
      · rw [tparse_err he (by omega) h1] at h
        exact absurd h h1
theorem tparse_inv {s : ByteArray} (h : (parseTab s).err = 0) : ∃ n evs, parseTab s = endT n evs ∧ s = strOf (tabL n evs) ∧ (lifeCheckF n evs).2 = 0 ∧ n ≤ maxN ∧ (∀ x ∈ evs, LfIn x) := by
  have z4 : (th4 s).err = 0 := Decidable.byContradiction fun hn => by
    unfold parseTab at h
    rw [tparse_stop hn] at h
    exact hn h
  have z3 : (scNum s maxN (th2 s)).err = 0 := Decidable.byContradiction fun hn => hn (by rw [show th4 s = scByte s 10 (scNum s maxN (th2 s)) from rfl, (scByte_stop hn).2] at z4; exact absurd z4 hn)
  have z2 : (th2 s).err = 0 := Decidable.byContradiction fun hn => by rw [(scNum_stop' hn).2] at z3; exact hn z3
  have z1 : (scWord s (strOf tabW) ⟨0, 1, 1, 0⟩).err = 0 := Decidable.byContradiction fun hn => by rw [show th2 s = scByte s 32 (scWord s (strOf tabW) ⟨0, 1, 1, 0⟩) from rfl, (scByte_stop hn).2] at z2; exact hn z2
  obtain ⟨w1, w2⟩ := tword_inv z1
  have ew := tword_at w1 w2
  obtain ⟨q2, b2, a2⟩ := byte_inv z1 (by decide) (show (scByte s 32 (scWord s (strOf tabW) ⟨0, 1, 1, 0⟩)).err = 0 from z2)
  have a2' : th2 s = adv [32] (scWord s (strOf tabW) ⟨0, 1, 1, 0⟩) := a2
  rw [ew] at q2 b2 a2'
  have p2 : (th2 s).pos = 6 := by rw [a2']; rfl
  have q2' : 5 < s.size := q2
  obtain ⟨d3, m3, a3⟩ := num_inv z2 (by omega) z3
  obtain ⟨q4, b4, a4⟩ := byte_inv z3 (by decide) (show (scByte s 10 (scNum s maxN (th2 s))).err = 0 from z4)
  have a4' : th4 s = adv [10] (scNum s maxN (th2 s)) := a4
  obtain ⟨n, hn⟩ : ∃ n, n = scNumVal s maxN (th2 s) := ⟨_, rfl⟩
  rw [← hn] at d3 m3 a3
  have p3 : (scNum s maxN (th2 s)).pos = 6 + (decL n).length := by rw [a3, adv_pos, p2]
  have p4 : (th4 s).pos = 7 + (decL n).length := by rw [a4', adv_pos, p3]; simp; omega
  have hb3 := d3.bears
  rw [p2] at hb3
  rw [p3] at q4 b4
  have hhead : Bears s 0 (tabW ++ toksL (headToks n)) := by
    refine w1.append ?_
    have : toksL (headToks n) = [32] ++ (decL n ++ [10]) := by simp [headToks, toksL, Tok.bytes]
    rw [this]
    refine (Bears.one (show chAt s (0 + tabW.length) = 32 from b2)).append ?_
    refine Bears.append (show Bears s (0 + tabW.length + [32].length) (decL n) from hb3) ?_
    exact Bears.one (show chAt s (0 + tabW.length + [32].length + (decL n).length) = 10 by rw [show 0 + tabW.length + [32].length + (decL n).length = 6 + (decL n).length from rfl]; exact b4)
  unfold parseTab at h ⊢
  rw [← hn] at h ⊢
  have m3' : n ≤ maxN := m3
  obtain ⟨evs, g1, g2, g3, g4, g5⟩ := tparse_lines_inv (n := n) (s.size + 1) [] (th4 s) z4 (by omega) (by omega) (lcheck_nil m3') h
  rw [List.nil_append] at g1 g4
  have hlen : (tabW ++ toksL (headToks n)).length = 7 + (decL n).length := by
    have : toksL (headToks n) = [32] ++ (decL n ++ [10]) := by simp [headToks, toksL, Tok.bytes]
    rw [this]
    simp [tabW]
    omega
  refine ⟨n, evs, g1, ?_, g4, m3', g5⟩
  refine str_ext ?_ ?_ (tabL_lt m3' g5)
  · unfold tabL
    rw [← List.append_assoc, List.length_append, hlen]
    omega
  · unfold tabL
    rw [← List.append_assoc]
    refine hhead.append ?_
    rw [Nat.zero_add, hlen, ← p4]
    exact g2

theorem tparse_cut_lfs {s : ByteArray} {n : Nat} : ∀ (l evs0 : List Lf) (c : Sc) (k : Nat), (∀ x ∈ l, LfIn x) → c.err = 0 → c.pos ≤ s.size → c.col = 1 → s.size ≤ c.pos + (l.flatMap lineT).length → Bears s c.pos ((l.flatMap lineT).take (s.size - c.pos)) → (∀ i, i ≤ l.length → (lifeCheckF n (evs0 ++ l.take i)).2 = 0) → s.size - c.pos < k →
    ((adv ((l.flatMap lineT).take (s.size - c.pos)) c).col = 1 ∧ (parseLfs s n k evs0 c).err = 0) ∨ ((adv ((l.flatMap lineT).take (s.size - c.pos)) c).col ≠ 1 ∧ parseLfs s n k evs0 c = ⟨0, [], (adv ((l.flatMap lineT).take (s.size - c.pos)) c).line, (adv ((l.flatMap lineT).take (s.size - c.pos)) c).col, 20⟩)
  | _, _, _, 0, _, _, _, _, _, _, _, hk => by omega
  | [], evs0, c, k + 1, _, he, hp, h1, hs, _, _, _ => by
    rw [List.flatMap_nil] at hs
    rw [List.flatMap_nil, List.take_nil]
    exact .inl ⟨h1, by rw [tparse_end he (by simpa using hs)]; rfl⟩
  | x :: l, evs0, c, k + 1, hx, he, hp, h1, hs, hb, hc, hk => by
    by_cases hend : s.size ≤ c.pos
    · rw [show s.size - c.pos = 0 by omega, List.take_zero]
      exact .inl ⟨h1, by rw [tparse_end he hend]; rfl⟩
    · have hpos := lineT_pos x
      have hxi := hx x (List.mem_cons_self ..)
      rw [List.flatMap_cons] at hb hs ⊢
      rw [List.length_append] at hs
      by_cases hin : (lineT x).length ≤ s.size - c.pos
      · obtain ⟨b1, b2⟩ := take_bears hb hin
        obtain ⟨e1, e2⟩ := lf_at hxi he b1 (by omega)
        have e3 : s.size - (adv (lineT x) c).pos = s.size - c.pos - (lineT x).length := by rw [adv_pos]; omega
        have hstep : parseLfs s n (k + 1) evs0 c = parseLfs s n k (evs0 ++ [x]) (adv (lineT x) c) := by
          rw [tparse_step he (by omega) (by rw [e2, adv_err]; exact he) (by rw [e1]; have := hc 1 (by simp); simpa using this), e1, e2]
        have ih := tparse_cut_lfs (s := s) (n := n) l (evs0 ++ [x]) (adv (lineT x) c) k (fun y hy => hx y (List.mem_cons_of_mem _ hy)) (by rw [adv_err]; exact he) (by rw [adv_pos]; omega) (by rw [lineT_body]; exact (adv_end (lineTB_plain x) c).1) (by rw [adv_pos]; omega) (by rw [e3, adv_pos]; exact b2) (fun i hi => by
          have := hc (i + 1) (by simp; omega)
          rwa [List.take_succ_cons, ← List.singleton_append, ← List.append_assoc] at this) (by rw [e3]; omega)
        rw [e3, ← adv_append] at ih
        rw [hstep, List.take_append, List.take_of_length_le hin]
        exact ih
      · have hlt : s.size - c.pos < (lineT x).length := by omega
        have ht : (lineT x ++ l.flatMap lineT).take (s.size - c.pos) = (lineT x).take (s.size - c.pos) := List.take_append_of_le_length (by omega)
        rw [ht] at hb ⊢
        have e1 := lf_toks hxi he hp hb
        have e2 : runT s (lfToks x) c = { adv ((lineT x).take (s.size - c.pos)) c with err := 20 } := runT_cut (lfToks x) (lfToks_ok hxi) he hp (by show _ < c.pos + (lineT x).length; omega) hb
        rw [e2] at e1
        have e3 := tparse_err (s := s) (n := n) (k := k) (evs := evs0) he (by omega) (by rw [e1]; show (20 : Nat) ≠ 0; decide)
        rw [e1] at e3
        have e4 := adv_in (lineTB_plain x) c (m := s.size - c.pos) (by rw [← lineT_body]; exact hlt)
        rw [← lineT_body] at e4
        refine .inr ⟨by rw [e4.1]; omega, e3⟩

theorem tparse_cut {n : Nat} {evs : List Lf} {m : Nat} {s : ByteArray} {c : Sc} (hok : (lifeCheckF n evs).2 = 0) (hn : n ≤ maxN) (hx : ∀ x ∈ evs, LfIn x) (hm : m < (tabL n evs).length) (hs : s = strOf ((tabL n evs).take m)) (hc : c = adv ((tabL n evs).take m) ⟨0, 1, 1, 0⟩) :
    (1 < c.line ∧ c.col = 1 → (parseTab s).err = 0) ∧ (¬ (1 < c.line ∧ c.col = 1) → (parseTab s).err = 20 ∧ (parseTab s).line = c.line ∧ (parseTab s).col ≤ c.col) := by
  have hb : Bears s 0 ((tabL n evs).take m) := by rw [hs]; exact bears_take (tabL_lt hn hx) m
  have hz : s.size = m := by rw [hs, strOf_length, List.length_take, Nat.min_eq_left (by omega)]
  have hw3 : tabW.length = 5 := rfl
  by_cases h3 : m < 5
  · -- the word is cut
    have ht : (tabL n evs).take m = tabW.take m := by unfold tabL; exact List.take_append_of_le_length (by omega)
    rw [ht] at hb hc
    have hw : scWord s (strOf tabW) ⟨0, 1, 1, 0⟩ = ⟨0, 1, 1, 20⟩ := by
      have he : wordErr s (strOf tabW) 0 0 (strOf tabW).size = 20 := by
        rw [tabW_size]
        refine wordErr_short s (strOf tabW) 0 m 5 0 h3 (fun j hj => ⟨by omega, ?_⟩) (by omega)
        have h1 := hb j (by rw [List.length_take]; omega)
        rw [show 0 + 0 + j = 0 + j by omega, h1, Nat.zero_add, tabW_at j (by omega), List.getD_eq_getElem?_getD, List.getD_eq_getElem?_getD, List.getElem?_take_of_lt hj]
      unfold scWord
      rw [if_pos rfl]
      show (if wordErr s (strOf tabW) 0 0 (strOf tabW).size = 0 then _ else _) = _
      rw [he]
      rfl
    have h4 : th4 s = ⟨0, 1, 1, 20⟩ := by
      rw [th_toks s n, hw]
      exact runT_stop _ (by decide)
    have hp : parseTab s = ⟨0, [], 1, 1, 20⟩ := by
      unfold parseTab
      rw [h4]
      exact tparse_stop (by decide)
    have hpl : ∀ y ∈ tabW.take m, y ≠ 10 := fun y hy => by have := List.mem_of_mem_take hy; simp [tabW] at this; omega
    rw [adv_plain _ _ hpl] at hc
    rw [hp, hc]
    refine ⟨fun h => ?_, fun _ => ⟨rfl, rfl, ?_⟩⟩
    · dsimp only at h; omega
    · dsimp only; omega
  · have h03 : tabW ++ (toksL (headToks n) ++ evs.flatMap lineT) = tabL n evs := rfl
    have ht : (tabL n evs).take m = tabW ++ (toksL (headToks n) ++ evs.flatMap lineT).take (m - 5) := by
      rw [← h03, List.take_append, List.take_of_length_le (by omega), hw3]
    rw [ht] at hb hc
    have hw := tword_at hb.left (by omega)
    have hb2 := hb.right
    rw [hw3, Nat.zero_add] at hb2
    have hc3 : adv tabW ⟨0, 1, 1, 0⟩ = ⟨5, 1, 6, 0⟩ := rfl
    rw [adv_append, hc3] at hc
    by_cases hh : m - 5 < (toksL (headToks n)).length
    · -- the head is cut
      have ht2 : (toksL (headToks n) ++ evs.flatMap lineT).take (m - 5) = (toksL (headToks n)).take (m - 5) := List.take_append_of_le_length (by omega)
      rw [ht2] at hb2 hc
      have h4 : th4 s = { adv ((toksL (headToks n)).take (m - 5)) ⟨5, 1, 6, 0⟩ with err := 20 } := by
        rw [th_toks s n, hw]
        have := runT_cut (s := s) (c := ⟨5, 1, 6, 0⟩) (headToks n) (headToks_ok hn) rfl (by show 5 ≤ _; omega) (by show _ < 5 + _; omega) (by rw [hz]; exact hb2)
        rw [hz] at this
        exact this
      have e4 := adv_in (headB_plain n) ⟨5, 1, 6, 0⟩ (m := m - 5) (by rw [← head_body]; exact hh)
      rw [← head_body, ← hc] at e4
      rw [← hc] at h4
      have hp : parseTab s = ⟨0, [], c.line, c.col, 20⟩ := by
        unfold parseTab
        rw [h4]
        exact tparse_stop (c := { c with err := 20 }) (show (20 : Nat) ≠ 0 by decide)
      rw [hp]
      refine ⟨fun h => ?_, fun _ => ⟨rfl, rfl, Nat.le_refl _⟩⟩
      have h5 : c.line = 1 := e4.2
      omega
    · -- behind the head
      have ht2 : (toksL (headToks n) ++ evs.flatMap lineT).take (m - 5) = toksL (headToks n) ++ (evs.flatMap lineT).take (m - 5 - (toksL (headToks n)).length) := by
        rw [List.take_append, List.take_of_length_le (by omega)]
      rw [ht2] at hb2 hc
      have hhb : Bears s 0 (tabW ++ toksL (headToks n)) := by
        rw [ht2, ← List.append_assoc] at hb
        exact hb.left
      obtain ⟨h1, h2⟩ := thead_at hn hhb (by rw [List.length_append]; omega)
      rw [adv_append, ← h2] at hc
      have hp4 : (th4 s).pos = 5 + (toksL (headToks n)).length := by rw [h2, adv_pos]
      have hb3 := hb2.right
      rw [← hp4] at hb3
      have e3 : s.size - (th4 s).pos = m - 5 - (toksL (headToks n)).length := by rw [hz, hp4]; omega
      rw [← e3] at hb3 hc
      have hlen : (tabL n evs).length = 5 + ((toksL (headToks n)).length + (evs.flatMap lineT).length) := by rw [← h03, List.length_append, List.length_append, hw3]
      have e5 := adv_end (headB_plain n) ⟨5, 1, 6, 0⟩
      rw [← head_body, ← h2] at e5
      have hr := tparse_cut_lfs (s := s) (n := n) evs [] (th4 s) (s.size + 1) hx (by rw [h2, adv_err]) (by rw [hp4]; omega) e5.1 (by rw [hp4]; omega) hb3 (fun i _ => by rw [List.nil_append]; exact lcheck_take i hok) (by omega)
      rw [← hc] at hr
      have hln : 2 ≤ c.line := by rw [hc]; have h6 := adv_line ((evs.flatMap lineT).take (s.size - (th4 s).pos)) (th4 s); have h7 : (th4 s).line = 2 := e5.2; omega
      have hpl : parseTab s = parseLfs s n (s.size + 1) [] (th4 s) := by unfold parseTab; rw [h1]
      rw [hpl]
      rcases hr with ⟨r1, r2⟩ | ⟨r1, r2⟩
      · exact ⟨fun _ => r2, fun h => absurd ⟨by omega, r1⟩ h⟩
      · rw [r2]
        exact ⟨fun h => absurd h.2 r1, fun _ => ⟨rfl, rfl, Nat.le_refl _⟩⟩

end Go.Proofs.YtnffjafddbbjaaaGreatDoor

/-
  Lives in order. Plain mathematics.
-/
namespace Go.Proofs.YtnffjafddbbjaaaGreatDoor
open Go.RowKit

/-- Ahead: by edge, then by from. -/
def lLess (a b : Lf) : Bool := eLess a.1 b.1 || (decide (a.1 = b.1) && decide (a.2.1 < b.2.1))

end Go.Proofs.YtnffjafddbbjaaaGreatDoor

/-
  Lives of a history: plain mathematics.
-/
namespace Go.Proofs.YtnffjafddbbjaaaGreatDoor
open Go.RowKit

/-- Insertion from behind. -/
def gK {α : Type} (b : α → α → Bool) (l : List α) (e : α) : Nat → Nat
  | 0 => 0
  | k + 1 => if (l[k]?.map (fun x => b e x)).getD false = true then gK b l e k else k + 1
def gIns {α : Type} (b : α → α → Bool) (l : List α) (e : α) : List α := l.take (gK b l e l.length) ++ e :: l.drop (gK b l e l.length)
theorem gK_le {α : Type} (b : α → α → Bool) (l : List α) (e : α) : ∀ k, gK b l e k ≤ k
  | 0 => Nat.le_refl _
  | k + 1 => by
    rw [gK]
    split
    · exact Nat.le_succ_of_le (gK_le b l e k)
    · exact Nat.le_refl _
theorem gK_after {α : Type} (b : α → α → Bool) (l : List α) (e : α) : ∀ k j x, gK b l e k ≤ j → j < k → l[j]? = some x → b e x = true
  | 0, _, _, _, h, _ => by omega
  | k + 1, j, x, h1, h2, hx => by
    rw [gK] at h1
    split at h1
    · rename_i hb
      by_cases hj : j < k
      · exact gK_after b l e k j x h1 hj hx
      · have : j = k := by omega
        subst this
        rw [hx] at hb
        exact hb
    · omega
theorem gK_stop {α : Type} (b : α → α → Bool) (l : List α) (e : α) : ∀ k j x, gK b l e k = j + 1 → l[j]? = some x → b e x = false
  | 0, _, _, h, _ => by cases h
  | k + 1, j, x, h, hx => by
    rw [gK] at h
    split at h
    · exact gK_stop b l e k j x h hx
    · rename_i hb
      have : k = j := by omega
      subst this
      rw [hx] at hb
      simpa using hb
theorem gIns_perm {α : Type} (b : α → α → Bool) (l : List α) (e : α) : (gIns b l e).Perm (e :: l) := by
  unfold gIns
  refine List.perm_middle.trans ?_
  rw [List.take_append_drop]
theorem gIns_sorted {α : Type} {b : α → α → Bool} {l : List α} {e : α} (tr : ∀ x y z, b x y = true → b y z = true → b x z = true) (h : l.Pairwise (fun x y => b x y = true)) (he : ∀ x ∈ l, b e x = false → b x e = true) :
    (gIns b l e).Pairwise (fun x y => b x y = true) := by
  unfold gIns
  have hk := gK_le b l e l.length
  have ha := gK_after b l e l.length
  have hst := gK_stop b l e l.length
  generalize gK b l e l.length = k at hk ha hst
  have hdrop : ∀ z ∈ l.drop k, b e z = true := fun z hz => by
    obtain ⟨i, hi⟩ := List.getElem?_of_mem hz
    rw [List.getElem?_drop] at hi
    exact ha _ _ (by omega) (List.getElem?_eq_some_iff.1 hi).1 hi
  have htake : ∀ a ∈ l.take k, b a e = true := fun a hat => by
    obtain ⟨i, hi⟩ := List.getElem?_of_mem hat
    rw [List.getElem?_take] at hi
    split at hi
    · rename_i hik
      cases k with
      | zero => omega
      | succ k =>
        have hkl : k < l.length := by omega
        have hx : l[k]? = some l[k] := List.getElem?_eq_getElem hkl
        have hb : b l[k] e = true := he _ (List.getElem_mem hkl) (hst k _ rfl hx)
        by_cases hik2 : i = k
        · subst hik2
          rw [hx] at hi
          simp only [Option.some.injEq] at hi
          rw [← hi]
          exact hb
        · have hil : i < l.length := by omega
          rw [List.getElem?_eq_getElem hil] at hi
          simp only [Option.some.injEq] at hi
          rw [← hi]
          exact tr _ _ _ (List.pairwise_iff_getElem.1 h i k hil hkl (by omega)) hb
    · cases hi
  rw [List.pairwise_append]
  refine ⟨h.sublist (List.take_sublist _ _), List.pairwise_cons.2 ⟨hdrop, h.sublist (List.drop_sublist _ _)⟩, fun a hat z hz => ?_⟩
  rcases List.mem_cons.1 hz with rfl | hz
  · exact htake a hat
  · exact tr _ _ _ (htake a hat) (hdrop z hz)
theorem insK_is (l : List Ev) (e : Ev) : ∀ k, insK l e k = gK eBef l e k
  | 0 => rfl
  | k + 1 => by rw [insK, gK, insK_is l e k]; rfl
theorem insP_is (l : List Ev) (e : Ev) : insP l e = gIns eBef l e := by unfold insP gIns; rw [insK_is]

/-- Of two that aren't alike one is ahead. -/
def Cmp {α : Type} (b : α → α → Bool) (x y : α) : Prop := b x y = true ∨ b y x = true
/-- Many put in, one by one. -/
theorem all_sorted {α : Type} {b : α → α → Bool} (tr : ∀ x y z, b x y = true → b y z = true → b x z = true) : ∀ (es h : List α), h.Pairwise (fun x y => b x y = true) → (h ++ es).Pairwise (Cmp b) →
    (es.foldl (gIns b) h).Pairwise (fun x y => b x y = true) ∧ (es.foldl (gIns b) h).Perm (h ++ es)
  | [], h, hs, _ => by rw [List.append_nil]; exact ⟨hs, .refl _⟩
  | e :: es, h, hs, hc => by
    have hp := gIns_perm b h e
    have hp2 : (gIns b h e ++ es).Perm (h ++ e :: es) := by
      refine (hp.append_right es).trans ?_
      rw [List.cons_append]
      exact List.perm_middle.symm
    have hc2 : (gIns b h e ++ es).Pairwise (Cmp b) := (List.Perm.pairwise_iff (fun {x y} hxy => hxy.symm) hp2).2 hc
    have he : ∀ x ∈ h, b e x = false → b x e = true := fun x hx hf => by
      have := (List.pairwise_append.1 hc).2.2 x hx e (List.mem_cons_self ..)
      rcases this with h1 | h1
      · exact h1
      · rw [hf] at h1; cases h1
    obtain ⟨h1, h2⟩ := all_sorted tr es _ (gIns_sorted tr hs he) hc2
    exact ⟨h1, h2.trans hp2⟩
theorem sorted_unique {α : Type} {b : α → α → Bool} (asy : ∀ x y, b x y = true → b y x = false) {l m : List α} (hl : l.Pairwise (fun x y => b x y = true)) (hm : m.Pairwise (fun x y => b x y = true)) (hp : l.Perm m) : l = m :=
  List.Perm.eq_of_pairwise (fun x y _ _ h k => by rw [asy x y h] at k; cases k) hl hm hp

theorem lLess_iff {a b : Lf} : lLess a b = true ↔ eLess a.1 b.1 = true ∨ (a.1 = b.1 ∧ a.2.1 < b.2.1) := by unfold lLess; simp
theorem lLess_trans (a b c : Lf) (h : lLess a b = true) (k : lLess b c = true) : lLess a c = true := by
  rw [lLess_iff] at *
  rcases h with h | ⟨h1, h2⟩
  · rcases k with k | ⟨k1, k2⟩
    · exact .inl (eLess_trans h k)
    · exact .inl (k1 ▸ h)
  · rcases k with k | ⟨k1, k2⟩
    · exact .inl (h1 ▸ k)
    · exact .inr ⟨h1.trans k1, by omega⟩
theorem lLess_asymm (a b : Lf) (h : lLess a b = true) : lLess b a = false := by
  rw [Bool.eq_false_iff]
  intro k
  rw [lLess_iff] at *
  rcases h with h | ⟨h1, h2⟩
  · rcases k with k | ⟨k1, k2⟩
    · rw [eLess_asymm h] at k; cases k
    · rw [k1, eLess_irrefl] at h; cases h
  · rcases k with k | ⟨k1, k2⟩
    · rw [h1, eLess_irrefl] at k; cases k
    · omega
theorem lLess_cmp {a b : Lf} (h : ¬ (a.1 = b.1 ∧ a.2.1 = b.2.1)) : Cmp lLess a b := by
  unfold Cmp
  rw [lLess_iff, lLess_iff]
  by_cases h1 : a.1 = b.1
  · have h2 : a.2.1 ≠ b.2.1 := fun h2 => h ⟨h1, h2⟩
    rcases Int.lt_or_gt_of_ne h2 with h3 | h3
    · exact .inl (.inr ⟨h1, h3⟩)
    · exact .inr (.inr ⟨h1.symm, h3⟩)
  · cases h2 : eLess a.1 b.1 with
    | true => exact .inl (.inl rfl)
    | false => exact .inr (.inl (eLess_ne h2 h1))

/-- When an edge goes next; the lives of events, as they come; put in order. -/
def endF (e : Eg) : List Ev → Int
  | [] => -1
  | x :: r => if x.2.1 = e then x.1 else endF e r
def addsL : List Ev → List Lf
  | [] => []
  | x :: r => if x.2.2 = true then (x.2.1, x.1, endF x.2.1 r) :: addsL r else addsL r
def livesE : List Lf → List Ev → List Lf
  | out, [] => out
  | out, x :: r => livesE (if x.2.2 = true then gIns lLess out (x.2.1, x.1, endF x.2.1 r) else out) r
def livesF (n : Nat) (evs : List Ev) : List Lf × Nat := if (checkF n evs).2 = 0 then (livesE [] evs, 0) else ([], (checkF n evs).2)
theorem livesE_fold : ∀ (evs : List Ev) (out : List Lf), livesE out evs = (addsL evs).foldl (gIns lLess) out
  | [], out => rfl
  | x :: r, out => by
    rw [livesE, addsL]
    split
    · rw [livesE_fold r, List.foldl_cons]
    · exact livesE_fold r out
theorem endF_ne {e : Eg} {x : Ev} {r : List Ev} (h : x.2.1 ≠ e) : endF e (x :: r) = endF e r := if_neg h
theorem endF_eq {e : Eg} {x : Ev} {r : List Ev} (h : x.2.1 = e) : endF e (x :: r) = x.1 := if_pos h
theorem endF_mem (e : Eg) : ∀ (r : List Ev), endF e r = -1 ∨ ∃ y ∈ r, y.2.1 = e ∧ y.1 = endF e r
  | [] => .inl rfl
  | x :: r => by
    by_cases h : x.2.1 = e
    · exact .inr ⟨x, List.mem_cons_self .., h, (endF_eq h).symm⟩
    · rw [endF_ne h]
      rcases endF_mem e r with h1 | ⟨y, h1, h2, h3⟩
      · exact .inl h1
      · exact .inr ⟨y, List.mem_cons_of_mem _ h1, h2, h3⟩

theorem mem_adds : ∀ {evs : List Ev} {z : Lf}, z ∈ addsL evs → ∃ y ∈ evs, y.2.1 = z.1 ∧ y.1 = z.2.1 ∧ y.2.2 = true
  | [], z, h => by cases h
  | x :: r, z, h => by
    rw [addsL] at h
    split at h
    · rename_i ha
      rcases List.mem_cons.1 h with rfl | h
      · exact ⟨x, List.mem_cons_self .., rfl, rfl, ha⟩
      · obtain ⟨y, h1, h2⟩ := mem_adds h
        exact ⟨y, List.mem_cons_of_mem _ h1, h2⟩
    · obtain ⟨y, h1, h2⟩ := mem_adds h
      exact ⟨y, List.mem_cons_of_mem _ h1, h2⟩
/-- Of one edge: the later event is later. -/
theorem srt_same {x y : Ev} {r : List Ev} (h : Srt (x :: r)) (hy : y ∈ r) (he : y.2.1 = x.2.1) : x.1 < y.1 := by
  have := (List.pairwise_cons.1 h).1 y hy
  rw [eBef_iff, he, eLess_irrefl] at this
  rcases this with h1 | ⟨-, h1⟩
  · exact h1
  · cases h1
theorem adds_end : ∀ {evs : List Ev}, Srt evs → ∀ z ∈ addsL evs, z.2.2 = -1 ∨ (z.2.1 < z.2.2 ∧ ∃ y ∈ evs, y.2.1 = z.1 ∧ y.1 = z.2.2)
  | [], _, z, h => by cases h
  | x :: r, hs, z, h => by
    rw [addsL] at h
    have ih : z ∈ addsL r → z.2.2 = -1 ∨ (z.2.1 < z.2.2 ∧ ∃ y ∈ x :: r, y.2.1 = z.1 ∧ y.1 = z.2.2) := fun h => by
      rcases adds_end (List.pairwise_cons.1 hs).2 z h with h1 | ⟨h1, y, h2, h3⟩
      · exact .inl h1
      · exact .inr ⟨h1, y, List.mem_cons_of_mem _ h2, h3⟩
    split at h
    · rcases List.mem_cons.1 h with rfl | h
      · rcases endF_mem x.2.1 r with h1 | ⟨y, h1, h2, h3⟩
        · exact .inl h1
        · refine .inr ⟨?_, y, List.mem_cons_of_mem _ h1, h2, h3⟩
          have := srt_same hs h1 h2
          show x.1 < endF x.2.1 r
          omega
      · exact ih h
    · exact ih h
/-- What is there goes ahead of coming again. -/
theorem there_goes {n : Nat} : ∀ {evs : List Ev} {now : List Eg}, Good n now evs → Srt evs → ∀ e ∈ now, ∀ z ∈ addsL evs, z.1 = e → 0 ≤ endF e evs ∧ endF e evs < z.2.1
  | [], _, _, _, e, _, z, h, _ => by cases h
  | x :: r, now, hg, hs, e, he, z, h, hz => by
    obtain ⟨⟨ht, -, -⟩, now', ht', hg'⟩ := hg
    have hs' := (List.pairwise_cons.1 hs).2
    obtain ⟨t, f, ad⟩ := x
    dsimp only at ht ht'
    rw [addsL] at h
    dsimp only at h
    by_cases hef : f = e
    · subst hef
      rw [endF_eq (x := (t, f, ad)) (r := r) rfl]
      cases ad with
      | true => exact absurd he (turn_come ht').1
      | false =>
        rw [if_neg (by simp)] at h
        obtain ⟨y, h1, h2, h3, -⟩ := mem_adds h
        have := srt_same hs h1 (h2.trans hz)
        dsimp only at this ⊢
        omega
    · rw [endF_ne (x := (t, f, ad)) (r := r) hef]
      have hem : e ∈ now' := (mem_turn ht' e).2 (.inl ⟨he, fun h => hef h.symm⟩)
      have hz' : z ∈ addsL r := by
        split at h
        · rcases List.mem_cons.1 h with rfl | h
          · exact absurd hz hef
          · exact h
        · exact h
      exact there_goes hg' hs' e hem z hz' hz
/-- Of two lives of an edge the one goes ahead of the other one's coming. -/
theorem lives_apart {n : Nat} : ∀ {evs : List Ev} {now : List Eg}, Good n now evs → Srt evs → ∀ p ∈ addsL evs, ∀ z ∈ addsL evs, p.1 = z.1 → p.2.1 < z.2.1 → 0 ≤ p.2.2 ∧ p.2.2 < z.2.1
  | [], _, _, _, p, hp, _, _, _, _ => by cases hp
  | x :: r, now, hg, hs, p, hp, z, hz, he, hlt => by
    obtain ⟨-, now', ht', hg'⟩ := hg
    have hs' := (List.pairwise_cons.1 hs).2
    obtain ⟨t, f, ad⟩ := x
    dsimp only at ht'
    rw [addsL] at hp hz
    dsimp only at hp hz
    cases ad with
    | false =>
      rw [if_neg (by simp)] at hp hz
      exact lives_apart hg' hs' p hp z hz he hlt
    | true =>
      rw [if_pos rfl] at hp hz
      rcases List.mem_cons.1 hp with rfl | hp
      · rcases List.mem_cons.1 hz with rfl | hz
        · dsimp only at hlt; omega
        · exact there_goes hg' hs' f ((mem_turn ht' f).2 (.inr ⟨rfl, rfl⟩)) z hz he.symm
      · rcases List.mem_cons.1 hz with rfl | hz
        · obtain ⟨y, h1, h2, h3, -⟩ := mem_adds hp
          have := srt_same hs h1 (h2.trans he)
          dsimp only at this hlt
          omega
        · exact lives_apart hg' hs' p hp z hz he hlt
theorem adds_cmp : ∀ {evs : List Ev}, Srt evs → (addsL evs).Pairwise (Cmp lLess)
  | [], _ => List.Pairwise.nil
  | x :: r, hs => by
    have ih := adds_cmp (List.pairwise_cons.1 hs).2
    rw [addsL]
    split
    · refine List.pairwise_cons.2 ⟨fun z hz => lLess_cmp fun h => ?_, ih⟩
      obtain ⟨y, h1, h2, h3, -⟩ := mem_adds hz
      have := srt_same hs h1 (h2.trans h.1.symm)
      have h4 := h.2
      dsimp only at h4
      omega
    · exact ih
theorem lives_sorted {evs : List Ev} (h : Srt evs) : (livesE [] evs).Pairwise (fun a b => lLess a b = true) ∧ (livesE [] evs).Perm (addsL evs) := by
  rw [livesE_fold]
  exact all_sorted lLess_trans (addsL evs) [] List.Pairwise.nil (by simpa using adds_cmp h)
/-- The lives are the only ones in order. -/
theorem lives_only {evs : List Ev} (h : Srt evs) {l : List Lf} (hl : l.Pairwise (fun a b => lLess a b = true)) (hp : l.Perm (addsL evs)) : l = livesE [] evs :=
  sorted_unique lLess_asymm hl (lives_sorted h).1 (hp.trans (lives_sorted h).2.symm)

/-- Lives that may be, each. -/
theorem life_ok {n : Nat} {evs : List Ev} {now : List Eg} (hg : Good n now evs) (hs : Srt evs) {z : Lf} (hz : z ∈ addsL evs) : 0 ≤ z.2.1 ∧ z.2.1 ≤ 4611686018427387903 ∧ z.2.2 ≤ 4611686018427387903 ∧ -1 ≤ z.2.2 ∧ eRight z.1.1 z.1.2 n = true ∧ ¬ (0 ≤ z.2.2 ∧ z.2.2 ≤ z.2.1) := by
  obtain ⟨y, h1, h2, h3, -⟩ := mem_adds hz
  obtain ⟨g1, g2, g3⟩ := good_times hg y h1
  rw [h2] at g3
  rcases adds_end hs z hz with h4 | ⟨h4, y', h5, h6, h7⟩
  · exact ⟨by omega, by omega, by omega, by omega, g3, by omega⟩
  · obtain ⟨k1, k2, -⟩ := good_times hg y' h5
    exact ⟨by omega, by omega, by omega, by omega, g3, by omega⟩
theorem lchk_good (n : Nat) : ∀ (l : List Lf) (pv : Option Lf) (i : Nat), (∀ z ∈ l, 0 ≤ z.2.1 ∧ z.2.1 ≤ 4611686018427387903 ∧ z.2.2 ≤ 4611686018427387903 ∧ -1 ≤ z.2.2 ∧ eRight z.1.1 z.1.2 n = true ∧ ¬ (0 ≤ z.2.2 ∧ z.2.2 ≤ z.2.1)) → l.Pairwise (fun a b => lOrd a b = false) → (∀ p, pv = some p → ∀ z ∈ l, lOrd p z = false) → lchkF n pv i l = (0, 0)
  | [], _, _, _, _, _ => rfl
  | x :: r, pv, i, h, hp, hv => by
    obtain ⟨h1, h2, h3, h4, h5, h6⟩ := h x (List.mem_cons_self ..)
    have hp := List.pairwise_cons.1 hp
    rw [lchk_step (by omega) h5 h6 (by
      cases pv with
      | none => rfl
      | some p => exact hv p rfl x (List.mem_cons_self ..))]
    exact lchk_good n r (some x) (i + 1) (fun z hz => h z (List.mem_cons_of_mem _ hz)) hp.2 (fun p hpp z hz => by
      simp only [Option.some.injEq] at hpp
      subst hpp
      exact hp.1 z hz)
theorem lives_check {n : Nat} {evs : List Ev} (h : (checkF n evs).2 = 0) : lifeCheckF n (livesE [] evs) = (0, 0) := by
  obtain ⟨h1, -, hg, hs⟩ := good_check h
  obtain ⟨k1, k2⟩ := lives_sorted hs
  unfold lifeCheckF
  rw [if_neg (by omega)]
  refine lchk_good n _ none 0 (fun z hz => life_ok hg hs (k2.mem_iff.1 hz)) ?_ (fun p hp => by cases hp)
  refine List.Pairwise.imp_of_mem (fun {a b} ha hb hab => ?_) k1
  rw [lLess_iff] at hab
  unfold lOrd
  rcases hab with h2 | ⟨h2, h3⟩
  · rw [h2]; rfl
  · obtain ⟨g1, g2⟩ := lives_apart hg hs a (k2.mem_iff.1 ha) b (k2.mem_iff.1 hb) h2 h3
    simp [h2, g1, g2]

/-- The events of a life; of lives. -/
def lEv (x : Lf) : List Ev := (x.2.1, x.1, true) :: if 0 ≤ x.2.2 then [(x.2.2, x.1, false)] else []
theorem backE_fold : ∀ (L : List Lf) (h : List Ev), backE h L = (L.flatMap lEv).foldl (gIns eBef) h
  | [], h => rfl
  | x :: r, h => by
    rw [backE, backE_fold r, List.flatMap_cons, List.foldl_append]
    unfold lEv
    split <;> simp [insP_is]
def endsL (now : List Eg) (evs : List Ev) : List Ev := now.flatMap (fun e => if 0 ≤ endF e evs then [(endF e evs, e, false)] else [])
theorem endsL_perm {l m : List Eg} (h : l.Perm m) (evs : List Ev) : (endsL l evs).Perm (endsL m evs) := h.flatMap_right _
theorem endsL_skip {now : List Eg} {x : Ev} {r : List Ev} (h : x.2.1 ∉ now) : endsL now (x :: r) = endsL now r := by
  unfold endsL
  induction now with
  | nil => rfl
  | cons e l ih =>
    rw [List.flatMap_cons, List.flatMap_cons, ih (fun hm => h (List.mem_cons_of_mem _ hm)), endF_ne (fun he => h (by rw [he]; exact List.mem_cons_self ..))]
theorem evs_perm {n : Nat} : ∀ {evs : List Ev} {now : List Eg}, Good n now evs → evs.Perm (endsL now evs ++ (addsL evs).flatMap lEv)
  | [], now, hn => by
    have : endsL now [] = [] := by
      clear hn
      unfold endsL
      induction now with
      | nil => rfl
      | cons e l ih => rw [List.flatMap_cons, ih]; rfl
    rw [this]
    exact .refl _
  | x :: r, now, hg => by
    obtain ⟨⟨h0, -, -⟩, now', ht', hg'⟩ := hg
    have ih := evs_perm hg'
    obtain ⟨t, f, ad⟩ := x
    dsimp only at ht' h0
    cases ad with
    | true =>
      obtain ⟨h1, h2⟩ := turn_come ht'
      rw [endsL_skip h1]
      have e1 : addsL ((t, f, true) :: r) = (f, t, endF f r) :: addsL r := if_pos rfl
      rw [e1, List.flatMap_cons]
      have e2 : lEv (f, t, endF f r) = (t, f, true) :: (if 0 ≤ endF f r then [(endF f r, f, false)] else []) := rfl
      rw [e2]
      generalize (addsL r).flatMap lEv = F at ih
      have h3 := endsL_perm h2 r
      have e3 : endsL (f :: now) r = (if 0 ≤ endF f r then [(endF f r, f, false)] else []) ++ endsL now r := List.flatMap_cons
      rw [e3] at h3
      generalize (if 0 ≤ endF f r then [(endF f r, f, false)] else []) = I at h3
      refine (List.Perm.cons _ (ih.trans (h3.append_right F))).trans ?_
      rw [List.append_assoc, List.cons_append]
      exact (List.Perm.cons _ (List.perm_append_comm_assoc I (endsL now r) F)).trans List.perm_middle.symm
    | false =>
      obtain ⟨h1, h2, h3⟩ := turn_go ht'
      have e1 : addsL ((t, f, false) :: r) = addsL r := if_neg (by simp)
      rw [e1]
      have h4 := endsL_perm h3 ((t, f, false) :: r)
      have e2 : endsL (f :: now') ((t, f, false) :: r) = (t, f, false) :: endsL now' r := by
        rw [← endsL_skip (x := (t, f, false)) (r := r) h2]
        show (if 0 ≤ endF f ((t, f, false) :: r) then [(endF f ((t, f, false) :: r), f, false)] else []) ++ endsL now' ((t, f, false) :: r) = _
        rw [endF_eq (x := (t, f, false)) rfl, if_pos h0]
        rfl
      rw [e2] at h4
      exact (List.Perm.cons _ ih).trans (h4.symm.append_right _)
/-- Whose lives they are. -/
theorem lives_back {n : Nat} {evs : List Ev} (h : (checkF n evs).2 = 0) : backE [] (livesE [] evs) = evs := by
  obtain ⟨-, -, hg, hs⟩ := good_check h
  obtain ⟨k1, k2⟩ := lives_sorted hs
  have hp : ((livesE [] evs).flatMap lEv).Perm evs := (k2.flatMap_right lEv).trans (evs_perm hg).symm
  have hc : ([] ++ (livesE [] evs).flatMap lEv).Pairwise (Cmp eBef) := (List.Perm.pairwise_iff (fun {x y} hxy => hxy.symm) hp).2 (List.Pairwise.imp (fun {a b} hab => .inl hab) hs)
  obtain ⟨h1, h2⟩ := all_sorted (b := eBef) (fun x y z => eBef_trans) _ [] List.Pairwise.nil hc
  rw [backE_fold]
  exact sorted_unique (fun x y => eBef_asymm) h1 hs (h2.trans hp)

/-- Is there, by a life. -/
def thereL (t : Int) (z : Lf) : Bool := decide (z.2.1 ≤ t) && (decide (z.2.2 < 0) || decide (t < z.2.2))
def stays (evs : List Ev) (t : Int) (e : Eg) : Bool := decide (endF e evs < 0) || decide (t < endF e evs)
theorem stays_skip {now : List Eg} {x : Ev} {r : List Ev} {t : Int} (h : x.2.1 ∉ now) : now.filter (stays (x :: r) t) = now.filter (stays r t) :=
  List.filter_congr (fun e he => by unfold stays; rw [endF_ne (fun hx => h (hx ▸ he))])
theorem upto_none {x : Ev} {r : List Ev} {t : Int} (h : t < x.1) : uptoF (x :: r) t = 0 := by
  unfold uptoF
  rw [List.takeWhile_cons, if_neg (by simp; omega)]
  rfl
theorem upto_one {x : Ev} {r : List Ev} {t : Int} (h : x.1 ≤ t) : uptoF (x :: r) t = uptoF r t + 1 := by
  unfold uptoF
  rw [List.takeWhile_cons, if_pos (by simpa using h)]
  rfl
theorem there_perm {n : Nat} {t : Int} : ∀ {evs : List Ev} {now : List Eg}, Good n now evs → Srt evs → (now.filter (stays evs t) ++ ((addsL evs).filter (thereL t)).map (·.1)).Perm (aftF now (evs.take (uptoF evs t)))
  | [], now, _, _ => by
    have : now.filter (stays [] t) = now := List.filter_eq_self.2 (fun e _ => by unfold stays endF; simp)
    rw [this]
    simp [addsL, aftF, uptoF]
  | x :: r, now, hg, hs => by
    obtain ⟨⟨h0, -, -⟩, now', ht', hg'⟩ := hg
    have hs' := List.pairwise_cons.1 hs
    have ih := there_perm (t := t) hg' hs'.2
    by_cases hx : x.1 ≤ t
    · rw [upto_one hx, List.take_succ_cons, aftF, ht', Option.getD_some]
      refine List.Perm.trans ?_ ih
      obtain ⟨t0, f, ad⟩ := x
      dsimp only at ht' h0 hx
      cases ad with
      | true =>
        obtain ⟨h1, h2⟩ := turn_come ht'
        rw [stays_skip (x := (t0, f, true)) (r := r) h1]
        have e1 : addsL ((t0, f, true) :: r) = (f, t0, endF f r) :: addsL r := if_pos rfl
        have h3 := h2.filter (stays r t)
        rw [e1]
        have e2 : thereL t (f, t0, endF f r) = stays r t f := by unfold thereL stays; simp [hx]
        rw [List.filter_cons, e2]
        rw [List.filter_cons] at h3
        cases hst : stays r t f with
        | false =>
          rw [hst] at h3
          exact (h3.symm.append_right _)
        | true =>
          rw [hst] at h3
          rw [if_pos rfl, List.map_cons]
          refine List.perm_middle.trans ?_
          exact (h3.symm.append_right _)
      | false =>
        obtain ⟨h1, h2, h3⟩ := turn_go ht'
        have e1 : addsL ((t0, f, false) :: r) = addsL r := if_neg (by simp)
        rw [e1]
        have h4 := h3.filter (stays ((t0, f, false) :: r) t)
        have e2 : stays ((t0, f, false) :: r) t f = false := by
          unfold stays
          rw [endF_eq (x := (t0, f, false)) rfl]
          simp
          omega
        rw [List.filter_cons, e2, if_neg (by simp), stays_skip (x := (t0, f, false)) (r := r) h2] at h4
        exact h4.append_right _
    · have hx : t < x.1 := by omega
      have hall : ∀ y ∈ x :: r, t < y.1 := fun y hy => by
        rcases List.mem_cons.1 hy with rfl | hy
        · exact hx
        · have := hs'.1 y hy
          rw [eBef_iff] at this
          omega
      rw [upto_none hx, List.take_zero, aftF]
      have e1 : now.filter (stays (x :: r) t) = now := List.filter_eq_self.2 (fun e _ => by
        unfold stays
        rcases endF_mem e (x :: r) with h | ⟨y, h1, -, h2⟩
        · simp [h]
        · have := hall y h1
          rw [h2] at this
          simp [this])
      have e2 : (addsL (x :: r)).filter (thereL t) = [] := List.filter_eq_nil_iff.2 (fun z hz => by
        obtain ⟨y, h1, -, h2, -⟩ := mem_adds hz
        have := hall y h1
        unfold thereL
        simp
        omega)
      rw [e1, e2]
      simp
/-- How many lives are there then; and of which edges. -/
theorem lives_there {n : Nat} {evs : List Ev} (t : Int) (h : (checkF n evs).2 = 0) : (((livesE [] evs).filter (thereL t)).map (·.1)).Perm (atF n evs t).1 := by
  obtain ⟨-, -, hg, hs⟩ := good_check h
  unfold atF afterF
  rw [if_pos h]
  have := there_perm (t := t) hg hs
  simp only [List.filter_nil, List.nil_append] at this
  refine (((lives_sorted hs).2.filter _).map _).trans ?_
  simpa using this

/-- How many come, how many go. -/
theorem adds_count (evs : List Ev) : (addsL evs).length = evs.countP (fun x => x.2.2) := by
  induction evs with
  | nil => rfl
  | cons x r ih =>
    rw [addsL, List.countP_cons]
    split <;> simp_all
theorem flat_count (L : List Lf) : (L.flatMap lEv).countP (fun x => !x.2.2) = L.countP (fun z => decide (0 ≤ z.2.2)) := by
  induction L with
  | nil => rfl
  | cons z r ih =>
    rw [List.flatMap_cons, List.countP_append, ih, List.countP_cons]
    unfold lEv
    by_cases h : 0 ≤ z.2.2 <;> simp [h, Nat.add_comm]
theorem lives_count {n : Nat} {evs : List Ev} (h : (checkF n evs).2 = 0) : (livesE [] evs).length = evs.countP (fun x => x.2.2) ∧ (livesE [] evs).countP (fun z => decide (0 ≤ z.2.2)) = evs.countP (fun x => !x.2.2) := by
  obtain ⟨-, -, hg, hs⟩ := good_check h
  have hp := (lives_sorted hs).2
  refine ⟨by rw [hp.length_eq, adds_count], ?_⟩
  rw [hp.countP_eq, ← flat_count]
  exact ((evs_perm hg).countP_eq _).symm
theorem lives_length (evs : List Ev) (h : Srt evs) : (livesE [] evs).length ≤ evs.length := by
  rw [(lives_sorted h).2.length_eq, adds_count]
  exact List.countP_le_length
theorem livesF_length (n : Nat) (evs : List Ev) : (livesF n evs).1.length ≤ evs.length := by
  unfold livesF
  split
  · rename_i h
    exact lives_length evs (good_check h).2.2.2
  · simp
theorem lives_fit {n : Nat} {evs : List Ev} (hg : Good n [] evs) (hs : Srt evs) (hn : n ≤ 4294967296) : ∀ x ∈ livesE [] evs, LfFit x := fun x hx => by
  obtain ⟨h1, h2, h3, h4, h5, -⟩ := life_ok hg hs ((lives_sorted hs).2.mem_iff.1 hx)
  unfold eRight at h5
  have h6 := of_decide_eq_true h5
  unfold LfFit
  omega
theorem fold_perm {α : Type} (b : α → α → Bool) : ∀ (es h : List α), (es.foldl (gIns b) h).Perm (h ++ es)
  | [], h => by rw [List.append_nil]; exact .refl _
  | e :: es, h => by
    refine (fold_perm b es _).trans (((gIns_perm b h e).append_right es).trans ?_)
    rw [List.cons_append]
    exact List.perm_middle.symm
theorem backE_length (L : List Lf) : (backE [] L).length = (L.flatMap lEv).length := by
  rw [backE_fold, (fold_perm eBef _ []).length_eq, List.nil_append]
theorem flat_length (L : List Lf) : (L.flatMap lEv).length ≤ 2 * L.length := by
  induction L with
  | nil => simp
  | cons z r ih =>
    rw [List.flatMap_cons, List.length_append, List.length_cons]
    have : (lEv z).length ≤ 2 := by unfold lEv; split <;> simp
    omega
theorem backF_length (n : Nat) (l : List Lf) : (backF n l).2.1.length ≤ 2 * l.length := by
  unfold backF
  split
  · dsimp only
    rw [backE_length]
    exact flat_length l
  · simp

end Go.Proofs.YtnffjafddbbjaaaGreatDoor

/-
  The order of the events that lives make. Plain mathematics.
-/
namespace Go.Proofs.YtnffjafddbbjaaaGreatDoor
open Go.RowKit

/-- What is so of a life that may be; of one behind another. -/
def LfOk (x : Lf) : Prop := ¬ (0 ≤ x.2.2 ∧ x.2.2 ≤ x.2.1)
def LfBehind (p x : Lf) : Prop := eLess p.1 x.1 = true ∨ (p.1 = x.1 ∧ 0 ≤ p.2.2 ∧ p.2.2 < x.2.1)
theorem behind_iff {p x : Lf} : lOrd p x = false ↔ LfBehind p x := by
  unfold lOrd LfBehind
  cases eLess p.1 x.1 <;> simp [and_assoc]
theorem behind_trans {p x y : Lf} (hx : LfOk x) (h : LfBehind p x) (k : LfBehind x y) : LfBehind p y := by
  unfold LfBehind LfOk at *
  rcases h with h | ⟨h1, h2, h3⟩
  · rcases k with k | ⟨k1, -, -⟩
    · exact .inl (eLess_trans h k)
    · exact .inl (k1 ▸ h)
  · rcases k with k | ⟨k1, k2, k3⟩
    · exact .inl (h1 ▸ k)
    · exact .inr ⟨h1.trans k1, h2, by omega⟩
theorem lchk_ok (n : Nat) : ∀ (l : List Lf) (pv : Option Lf) (i : Nat), (lchkF n pv i l).2 = 0 → (∀ x ∈ l, LfOk x) ∧ l.Pairwise LfBehind ∧ (∀ p, pv = some p → LfOk p → ∀ x ∈ l, LfBehind p x)
  | [], _, _, _ => ⟨fun _ h => (by cases h), List.Pairwise.nil, fun _ _ _ _ h => (by cases h)⟩
  | x :: r, pv, i, h => by
    rw [lchkF] at h
    split at h
    · cases h
    · split at h
      · cases h
      · split at h
        · cases h
        · rename_i h4
          split at h
          · cases h
          · rename_i h5
            obtain ⟨h1, h2, h3⟩ := lchk_ok n r (some x) (i + 1) h
            have hx : LfOk x ∧ (pv.any fun p => lOrd p x) = false := ⟨h4, by simpa using h5⟩
            have hr := h3 x rfl hx.1
            refine ⟨fun y hy => ?_, List.pairwise_cons.2 ⟨hr, h2⟩, fun p hp hpo y hy => ?_⟩
            · rcases List.mem_cons.1 hy with rfl | hy
              · exact hx.1
              · exact h1 y hy
            · have hpx : LfBehind p x := by
                have := hx.2
                rw [hp] at this
                exact behind_iff.1 (by simpa using this)
              rcases List.mem_cons.1 hy with rfl | hy
              · exact hpx
              · exact behind_trans hx.1 hpx (hr y hy)
theorem eBef_cmp {a b : Ev} (h : ¬ (a.1 = b.1 ∧ a.2.1 = b.2.1)) : Cmp eBef a b := by
  unfold Cmp
  rw [eBef_iff, eBef_iff]
  by_cases h1 : a.1 = b.1
  · have h2 : a.2.1 ≠ b.2.1 := fun h2 => h ⟨h1, h2⟩
    cases h3 : eLess a.2.1 b.2.1 with
    | true => exact .inl (.inr ⟨h1, rfl⟩)
    | false => exact .inr (.inr ⟨h1.symm, eLess_ne h3 h2⟩)
  · rcases Int.lt_or_gt_of_ne h1 with h2 | h2
    · exact .inl (.inl h2)
    · exact .inr (.inl h2)
theorem mem_lEv {x : Lf} {a : Ev} (h : a ∈ lEv x) : a.2.1 = x.1 ∧ (a.1 = x.2.1 ∨ (0 ≤ x.2.2 ∧ a.1 = x.2.2)) := by
  unfold lEv at h
  rcases List.mem_cons.1 h with rfl | h
  · exact ⟨rfl, .inl rfl⟩
  · split at h
    · rename_i h0
      simp only [List.mem_singleton] at h
      subst h
      exact ⟨rfl, .inr ⟨h0, rfl⟩⟩
    · cases h
theorem events_cmp {n : Nat} {l : List Lf} (h : (lifeCheckF n l).2 = 0) : (l.flatMap lEv).Pairwise (Cmp eBef) := by
  have h0 : (lchkF n none 0 l).2 = 0 := by
    unfold lifeCheckF at h
    split at h
    · cases h
    · exact h
  obtain ⟨h1, h2, -⟩ := lchk_ok n l none 0 h0
  rw [List.pairwise_flatMap]
  refine ⟨fun x hx => ?_, h2.imp_of_mem (fun {p x} hp hx hb a ha b hb' => eBef_cmp fun he => ?_)⟩
  · have hok := h1 x hx
    unfold LfOk at hok
    unfold lEv
    split
    · refine List.pairwise_cons.2 ⟨fun y hy => ?_, List.pairwise_singleton _ _⟩
      simp only [List.mem_singleton] at hy
      subst hy
      exact eBef_cmp fun he => by have := he.1; dsimp only at this; omega
    · exact List.pairwise_singleton _ _
  · obtain ⟨a1, a2⟩ := mem_lEv ha
    obtain ⟨b1, b2⟩ := mem_lEv hb'
    have hpo := h1 p hp
    have hxo := h1 x hx
    unfold LfOk at hpo hxo
    rcases hb with hb | ⟨hb1, hb2, hb3⟩
    · rw [← a1, ← b1, he.2, eLess_irrefl] at hb
      cases hb
    · have := he.1
      omega
/-- The only order of the events. -/
theorem back_only {n : Nat} {l : List Lf} (h : (lifeCheckF n l).2 = 0) {evs : List Ev} (hp : evs.Perm (l.flatMap lEv)) (hs : evs.Pairwise (fun a b => eBef b a = false)) : evs = backE [] l := by
  have hc := events_cmp h
  have hc2 : evs.Pairwise (Cmp eBef) := (List.Perm.pairwise_iff (fun {x y} hxy => hxy.symm) hp).2 hc
  have hs2 : evs.Pairwise (fun a b => eBef a b = true) := (hs.and hc2).imp (fun {a b} hab => by
    rcases hab.2 with h1 | h1
    · exact h1
    · rw [hab.1] at h1; cases h1)
  obtain ⟨k1, k2⟩ := all_sorted (b := eBef) (fun x y z => eBef_trans) (l.flatMap lEv) [] List.Pairwise.nil (by simpa using hc)
  rw [backE_fold]
  exact sorted_unique (fun x y => eBef_asymm) hs2 k1 (hp.trans (by simpa using k2.symm))

end Go.Proofs.YtnffjafddbbjaaaGreatDoor

/-
  What Back makes of lives that may be is a history that may be, and its lives are these. Plain mathematics.
-/
namespace Go.Proofs.YtnffjafddbbjaaaGreatDoor
open Go.RowKit

/-- What is so of one life that may be. -/
def LfRng (n : Nat) (x : Lf) : Prop := 0 ≤ x.2.1 ∧ x.2.1 ≤ 4611686018427387903 ∧ x.2.2 ≤ 4611686018427387903 ∧ eRight x.1.1 x.1.2 n = true
theorem lchk_rng (n : Nat) : ∀ (l : List Lf) (pv : Option Lf) (i : Nat), (lchkF n pv i l).2 = 0 → ∀ x ∈ l, LfRng n x
  | [], _, _, _ => fun _ h => by cases h
  | x :: r, pv, i, h => by
    rw [lchkF] at h
    split at h
    · cases h
    · rename_i h1
      split at h
      · cases h
      · rename_i h2
        split at h
        · cases h
        · split at h
          · cases h
          · intro y hy
            rcases List.mem_cons.1 hy with rfl | hy
            · exact ⟨by omega, by omega, by omega, by simpa using h2⟩
            · exact lchk_rng n r (some x) (i + 1) h y hy
theorem lcheck_lchk {n : Nat} {l : List Lf} (h : (lifeCheckF n l).2 = 0) : n ≤ 4294967296 ∧ (lchkF n none 0 l).2 = 0 := by
  unfold lifeCheckF at h
  split at h
  · cases h
  · rename_i h1
    exact ⟨by omega, h⟩
theorem chk_good (n : Nat) : ∀ (evs : List Ev) (now : List Eg) (pv : Option Ev) (i : Nat), Good n now evs → Srt evs → (∀ p, pv = some p → ∀ x ∈ evs, eBef p x = true) → chkF n now pv i evs = (0, 0)
  | [], _, _, _, _, _, _ => rfl
  | x :: r, now, pv, i, hg, hs, hp => by
    obtain ⟨⟨h1, h2, h3⟩, now', h4, h5⟩ := hg
    obtain ⟨s1, s2⟩ := List.pairwise_cons.1 hs
    rw [chkF, if_neg (by omega), if_neg (by rw [h3]; decide), if_neg (by
      cases pv with
      | none => simp
      | some p => simp [hp p rfl x (List.mem_cons_self ..)]), h4]
    exact chk_good n r now' (some x) (i + 1) h5 s2 (fun p hpp y hy => by cases hpp; exact s1 y hy)
theorem ev_lt {a b : Ev} (h : eBef a b = true) (he : a.2.1 = b.2.1) : a.1 < b.1 := by
  rw [eBef_iff, he, eLess_irrefl] at h
  rcases h with h | ⟨-, h⟩
  · exact h
  · cases h
theorem start_mem {L : List Lf} {z : Lf} (h : z ∈ L) : (z.2.1, z.1, true) ∈ L.flatMap lEv := List.mem_flatMap.2 ⟨z, h, by unfold lEv; exact List.mem_cons_self ..⟩
theorem end_mem {L : List Lf} {z : Lf} (h : z ∈ L) (h0 : 0 ≤ z.2.2) : (z.2.2, z.1, false) ∈ L.flatMap lEv := List.mem_flatMap.2 ⟨z, h, by unfold lEv; rw [if_pos h0]; exact List.mem_cons_of_mem _ (List.mem_singleton.2 rfl)⟩
/-- Where an event of lives comes from. -/
theorem ev_from {L : List Lf} {x : Ev} (h : x ∈ L.flatMap lEv) : ∃ z ∈ L, x = (z.2.1, z.1, true) ∨ (0 ≤ z.2.2 ∧ x = (z.2.2, z.1, false)) := by
  obtain ⟨z, hz, hx⟩ := List.mem_flatMap.1 h
  refine ⟨z, hz, ?_⟩
  unfold lEv at hx
  rcases List.mem_cons.1 hx with rfl | hx
  · exact .inl rfl
  · split at hx
    · rename_i h0
      exact .inr ⟨h0, List.mem_singleton.1 hx⟩
    · cases hx
theorem two_lives {L : List Lf} (hp : L.Pairwise LfBehind) {a b : Lf} (ha : a ∈ L) (hb : b ∈ L) (h : a ≠ b) : LfBehind a b ∨ LfBehind b a := by
  induction hp with
  | nil => cases ha
  | @cons c l h1 _ ih =>
    rcases List.mem_cons.1 ha with e1 | k1
    · rcases List.mem_cons.1 hb with e2 | k2
      · exact absurd (e1.trans e2.symm) h
      · exact .inl (e1 ▸ h1 b k2)
    · rcases List.mem_cons.1 hb with e2 | k2
      · exact .inr (e2 ▸ h1 a k1)
      · exact ih k1 k2
theorem sub_perm : ∀ (M L : List Lf), M.Nodup → (∀ x ∈ M, x ∈ L) → L.length ≤ M.length → M.Perm L
  | [], L, _, _, hl => by
    rw [List.eq_nil_of_length_eq_zero (l := L) (by simpa using hl)]
  | x :: M, L, hn, hs, hl => by
    obtain ⟨h1, h2⟩ := List.nodup_cons.1 hn
    have hx := hs x (List.mem_cons_self ..)
    have hp := List.perm_cons_erase hx
    have ih := sub_perm M (L.erase x) h2 (fun y hy => (List.mem_erase_of_ne (fun e : y = x => h1 (by rw [← e]; exact hy))).2 (hs y (List.mem_cons_of_mem _ hy))) (by
      rw [List.length_erase_of_mem hx]
      rw [List.length_cons] at hl
      omega)
    exact (ih.cons x).trans hp.symm
/-- Of one edge: the one ends ahead of the other's beginning. -/
theorem two_same {L : List Lf} (hp : L.Pairwise LfBehind) {a b : Lf} (ha : a ∈ L) (hb : b ∈ L) (h : a ≠ b) (he : a.1 = b.1) : (0 ≤ a.2.2 ∧ a.2.2 < b.2.1) ∨ (0 ≤ b.2.2 ∧ b.2.2 < a.2.1) := by
  rcases two_lives hp ha hb h with h1 | h1
  · rcases h1 with h1 | h1
    · rw [he, eLess_irrefl] at h1; cases h1
    · exact .inl h1.2
  · rcases h1 with h1 | h1
    · rw [he, eLess_irrefl] at h1; cases h1
    · exact .inr h1.2

/-- An edge that is there: a life of it has begun, and not ended. -/
def Now (L : List Lf) (R : List Ev) (e : Eg) : Prop := ∃ z ∈ L, z.1 = e ∧ (z.2.1, e, true) ∉ R ∧ (0 ≤ z.2.2 → (z.2.2, e, false) ∈ R)
theorem good_back {n : Nat} {L : List Lf} (hk : ∀ x ∈ L, LfOk x) (hp : L.Pairwise LfBehind) (hr : ∀ x ∈ L, LfRng n x) : ∀ (R : List Ev) (now : List Eg), (∀ x ∈ R, x ∈ L.flatMap lEv) → Srt R → (∀ y ∈ L.flatMap lEv, y ∈ R ∨ ∀ x ∈ R, eBef y x = true) → eRising now = true → (∀ e, e ∈ now ↔ Now L R e) → Good n now R
  | [], _, _, _, _, _, _ => trivial
  | x :: R, now, hm, hs, hu, hn, hi => by
    obtain ⟨s1, s2⟩ := List.pairwise_cons.1 hs
    have hxn : x ∉ R := fun h => by
      have := s1 x h
      rw [eBef_asymm this] at this
      cases this
    have hu' : ∀ y ∈ L.flatMap lEv, y ∈ R ∨ ∀ z ∈ R, eBef y z = true := fun y hy => by
      rcases hu y hy with h | h
      · rcases List.mem_cons.1 h with rfl | h
        · exact .inr s1
        · exact .inl h
      · exact .inr (fun z hz => h z (List.mem_cons_of_mem _ hz))
    obtain ⟨z, hz, hx⟩ := ev_from (hm x (List.mem_cons_self ..))
    obtain ⟨r1, r2, r3, r4⟩ := hr z hz
    have hkz := hk z hz
    unfold LfOk at hkz
    rcases hx with rfl | ⟨h0, rfl⟩
    · have hne : z.1 ∉ now := fun hin => by
        obtain ⟨z', hz', e1, e2, e3⟩ := (hi z.1).1 hin
        have hzz : z' ≠ z := fun e => by rw [e] at e2; exact e2 (List.mem_cons_self ..)
        have hk' := hk z' hz'
        unfold LfOk at hk'
        rcases two_same hp hz' hz hzz e1 with ⟨h1, h2⟩ | ⟨h1, h2⟩
        · rcases List.mem_cons.1 (e3 h1) with h3 | h3
          · simp at h3
          · have := ev_lt (s1 _ h3) rfl
            dsimp only at this
            omega
        · rcases hu (z'.2.1, z.1, true) (by have := start_mem hz'; rwa [e1] at this) with h3 | h3
          · exact e2 h3
          · have := ev_lt (h3 _ (List.mem_cons_self ..)) rfl
            dsimp only at this
            omega
      obtain ⟨now', ht⟩ := turn_some (add := true) hn (show true = !decide (z.1 ∈ now) by rw [decide_eq_false hne]; rfl)
      refine ⟨⟨r1, r2, r4⟩, now', ht, good_back hk hp hr R now' (fun y hy => hm y (List.mem_cons_of_mem _ hy)) s2 hu' (turn_rising ht) (fun e => ?_)⟩
      rw [(turn_come ht).2.mem_iff, List.mem_cons, hi e]
      constructor
      · rintro (rfl | ⟨y, hy, e1, e2, e3⟩)
        · refine ⟨z, hz, rfl, hxn, fun h0 => ?_⟩
          rcases hu _ (end_mem hz h0) with h3 | h3
          · rcases List.mem_cons.1 h3 with h4 | h4
            · simp at h4
            · exact h4
          · have := ev_lt (h3 _ (List.mem_cons_self ..)) rfl
            dsimp only at this
            omega
        · refine ⟨y, hy, e1, fun h => e2 (List.mem_cons_of_mem _ h), fun h0 => ?_⟩
          rcases List.mem_cons.1 (e3 h0) with h4 | h4
          · simp at h4
          · exact h4
      · rintro ⟨y, hy, e1, e2, e3⟩
        by_cases hst : (y.2.1, e, true) = (z.2.1, z.1, true)
        · simp only [Prod.mk.injEq] at hst
          exact .inl hst.2.1
        · refine .inr ⟨y, hy, e1, fun h => ?_, fun h0 => List.mem_cons_of_mem _ (e3 h0)⟩
          rcases List.mem_cons.1 h with h | h
          · exact hst h
          · exact e2 h
    · have hin : z.1 ∈ now := (hi z.1).2 ⟨z, hz, rfl, fun h => by
        rcases List.mem_cons.1 h with h | h
        · simp at h
        · have := ev_lt (s1 _ h) rfl
          dsimp only at this
          omega, fun _ => List.mem_cons_self ..⟩
      obtain ⟨now', ht⟩ := turn_some (add := false) hn (show false = !decide (z.1 ∈ now) by rw [decide_eq_true hin]; rfl)
      obtain ⟨g1, g2, g3⟩ := turn_go ht
      refine ⟨⟨by show 0 ≤ z.2.2; omega, by show z.2.2 ≤ _; omega, r4⟩, now', ht, good_back hk hp hr R now' (fun y hy => hm y (List.mem_cons_of_mem _ hy)) s2 hu' (turn_rising ht) (fun e => ?_)⟩
      have hmem : e ∈ now' ↔ e ∈ now ∧ e ≠ z.1 := by
        rw [g3.mem_iff, List.mem_cons]
        constructor
        · exact fun h => ⟨.inr h, fun e1 => g2 (e1 ▸ h)⟩
        · rintro ⟨h | h, h2⟩
          · exact absurd h h2
          · exact h
      rw [hmem, hi e]
      constructor
      · rintro ⟨⟨y, hy, e1, e2, e3⟩, hez⟩
        refine ⟨y, hy, e1, fun h => e2 (List.mem_cons_of_mem _ h), fun h0 => ?_⟩
        rcases List.mem_cons.1 (e3 h0) with h4 | h4
        · simp only [Prod.mk.injEq] at h4
          exact absurd h4.2.1 hez
        · exact h4
      · rintro ⟨y, hy, e1, e2, e3⟩
        have hst : (y.2.1, e, true) ∉ (z.2.2, z.1, false) :: R := fun h => by
          rcases List.mem_cons.1 h with h | h
          · simp at h
          · exact e2 h
        refine ⟨⟨y, hy, e1, hst, fun h0 => List.mem_cons_of_mem _ (e3 h0)⟩, fun hez => ?_⟩
        subst hez
        have hky := hk y hy
        unfold LfOk at hky
        by_cases hyz : y = z
        · subst hyz
          exact hxn (e3 h0)
        · rcases two_same hp hy hz hyz e1 with ⟨h1, h2⟩ | ⟨h1, h2⟩
          · have := ev_lt (s1 _ (e3 h1)) rfl
            dsimp only at this
            omega
          · rcases hu (y.2.1, z.1, true) (by have := start_mem hy; rwa [e1] at this) with h3 | h3
            · exact hst h3
            · have := ev_lt (h3 _ (List.mem_cons_self ..)) rfl
              dsimp only at this
              omega
/-- When an edge goes next. -/
theorem endF_none {e : Eg} : ∀ {R : List Ev}, (∀ y ∈ R, y.2.1 ≠ e) → endF e R = -1
  | [], _ => rfl
  | x :: r, h => by rw [endF, if_neg (h x (List.mem_cons_self ..))]; exact endF_none (fun y hy => h y (List.mem_cons_of_mem _ hy))
theorem endF_at {e : Eg} {T : Int} : ∀ {R : List Ev}, Srt R → (∀ y ∈ R, y.2.1 = e → T ≤ y.1) → (∃ y ∈ R, y.2.1 = e ∧ y.1 = T) → endF e R = T
  | [], _, _, ⟨y, hy, _⟩ => by cases hy
  | x :: r, hs, h, ⟨y, hy, h1, h2⟩ => by
    obtain ⟨s1, s2⟩ := List.pairwise_cons.1 hs
    rw [endF]
    by_cases hx : x.2.1 = e
    · rw [if_pos hx]
      have h3 := h x (List.mem_cons_self ..) hx
      rcases List.mem_cons.1 hy with rfl | hy
      · exact h2
      · have := ev_lt (s1 y hy) (hx.trans h1.symm)
        omega
    · rw [if_neg hx]
      rcases List.mem_cons.1 hy with rfl | hy
      · exact absurd h1 hx
      · exact endF_at s2 (fun y hy => h y (List.mem_cons_of_mem _ hy)) ⟨y, hy, h1, h2⟩
theorem adds_back {n : Nat} {L : List Lf} (hk : ∀ x ∈ L, LfOk x) (hp : L.Pairwise LfBehind) (hr : ∀ x ∈ L, LfRng n x) (hto : ∀ x ∈ L, -1 ≤ x.2.2) : ∀ (R : List Ev), (∀ x ∈ R, x ∈ L.flatMap lEv) → Srt R → (∀ y ∈ L.flatMap lEv, y ∈ R ∨ ∀ x ∈ R, eBef y x = true) → ∀ p ∈ addsL R, p ∈ L
  | [], _, _, _ => fun p h => by cases h
  | x :: R, hm, hs, hu => by
    obtain ⟨s1, s2⟩ := List.pairwise_cons.1 hs
    have hu' : ∀ y ∈ L.flatMap lEv, y ∈ R ∨ ∀ z ∈ R, eBef y z = true := fun y hy => by
      rcases hu y hy with h | h
      · rcases List.mem_cons.1 h with rfl | h
        · exact .inr s1
        · exact .inl h
      · exact .inr (fun z hz => h z (List.mem_cons_of_mem _ hz))
    have ih := adds_back hk hp hr hto R (fun y hy => hm y (List.mem_cons_of_mem _ hy)) s2 hu'
    intro p hpm
    rw [addsL] at hpm
    split at hpm
    · rename_i had
      rcases List.mem_cons.1 hpm with rfl | hpm
      · obtain ⟨z, hz, hx⟩ := ev_from (hm x (List.mem_cons_self ..))
        have hkz := hk z hz
        have hrz := hr z hz
        have htz := hto z hz
        unfold LfOk at hkz
        unfold LfRng at hrz
        rcases hx with rfl | ⟨-, rfl⟩
        · dsimp only
          have hall : ∀ y ∈ R, y.2.1 = z.1 → 0 ≤ z.2.2 ∧ z.2.2 ≤ y.1 := fun y hy he => by
            have hlt := ev_lt (s1 y hy) he.symm
            dsimp only at hlt
            obtain ⟨z', hz', hy'⟩ := ev_from (hm y (List.mem_cons_of_mem _ hy))
            have hk' := hk z' hz'
            unfold LfOk at hk'
            have he' : z'.1 = z.1 := by rcases hy' with rfl | ⟨-, rfl⟩ <;> exact he
            by_cases hzz : z' = z
            · subst hzz
              rcases hy' with rfl | ⟨h0, rfl⟩
              · dsimp only at hlt; omega
              · exact ⟨h0, Int.le_refl _⟩
            · rcases two_same hp hz' hz hzz he' with ⟨h1, h2⟩ | ⟨h1, h2⟩
              · rcases hy' with rfl | ⟨h0, rfl⟩ <;> dsimp only at hlt <;> omega
              · rcases hy' with rfl | ⟨h0, rfl⟩ <;> dsimp only at hlt ⊢ <;> omega
          have hend : endF z.1 R = z.2.2 := by
            by_cases h0 : 0 ≤ z.2.2
            · refine endF_at s2 (fun y hy he => (hall y hy he).2) ⟨(z.2.2, z.1, false), ?_, rfl, rfl⟩
              rcases hu _ (end_mem hz h0) with h3 | h3
              · rcases List.mem_cons.1 h3 with h4 | h4
                · simp at h4
                · exact h4
              · have := ev_lt (h3 _ (List.mem_cons_self ..)) rfl
                dsimp only at this
                omega
            · rw [endF_none (fun y hy he => h0 (hall y hy he).1)]
              omega
          rw [hend]
          exact hz
        · cases had
      · exact ih p hpm
    · exact ih p hpm
theorem start_count (L : List Lf) : (L.flatMap lEv).countP (fun x => x.2.2) = L.length := by
  induction L with
  | nil => rfl
  | cons z r ih =>
    rw [List.flatMap_cons, List.countP_append, ih, List.length_cons]
    unfold lEv
    by_cases h : 0 ≤ z.2.2 <;> simp [h, Nat.add_comm]
/-- Back, and then the lives. -/
theorem round_back {n : Nat} {L : List Lf} (h : (lifeCheckF n L).2 = 0) (hl : L.length ≤ 1000000) (hto : ∀ x ∈ L, -1 ≤ x.2.2) : checkF n (backE [] L) = (0, 0) ∧ livesE [] (backE [] L) = L := by
  obtain ⟨hn, h0⟩ := lcheck_lchk h
  obtain ⟨hk, hp, -⟩ := lchk_ok n L none 0 h0
  have hr := lchk_rng n L none 0 h0
  obtain ⟨k1, k2⟩ := all_sorted (b := eBef) (fun x y z => eBef_trans) (L.flatMap lEv) [] List.Pairwise.nil (by simpa using events_cmp h)
  rw [← backE_fold] at k1 k2
  have k2' : (backE [] L).Perm (L.flatMap lEv) := by simpa using k2
  have hs : Srt (backE [] L) := k1
  have hm : ∀ x ∈ backE [] L, x ∈ L.flatMap lEv := fun x hx => k2'.mem_iff.1 hx
  have hu : ∀ y ∈ L.flatMap lEv, y ∈ backE [] L ∨ ∀ x ∈ backE [] L, eBef y x = true := fun y hy => .inl (k2'.mem_iff.2 hy)
  have hg : Good n [] (backE [] L) := good_back hk hp hr _ [] hm hs hu rfl (fun e => ⟨fun h => by (cases h), fun ⟨z, hz, e1, e2, _⟩ => absurd (k2'.mem_iff.2 (start_mem hz)) (by rw [e1]; exact e2)⟩)
  have hlen : (backE [] L).length ≤ 2147483648 := by have h1 := flat_length L; rw [backE_length]; omega
  have hc : checkF n (backE [] L) = (0, 0) := by
    unfold checkF
    rw [if_neg (by omega)]
    exact chk_good n _ [] none 0 hg hs (fun p hp => by cases hp)
  refine ⟨hc, ?_⟩
  obtain ⟨m1, m2⟩ := lives_sorted hs
  have hsub : ∀ p ∈ livesE [] (backE [] L), p ∈ L := fun p hp' => adds_back hk hp hr hto _ hm hs hu p (m2.mem_iff.1 hp')
  have hL : L.Pairwise (fun a b => lLess a b = true) := hp.imp_of_mem (fun {a b} ha hb hab => by
    have hka := hk a ha
    unfold LfOk at hka
    rw [lLess_iff]
    rcases hab with h1 | ⟨h1, h2, h3⟩
    · exact .inl h1
    · exact .inr ⟨h1, by omega⟩)
  have hnd : (livesE [] (backE [] L)).Nodup := m1.imp (fun {a b} hab e => by
    subst e
    rw [lLess_asymm a a hab] at hab
    cases hab)
  have hle : (livesE [] (backE [] L)).length = L.length := by
    rw [(lives_count (n := n) (by rw [hc])).1, k2'.countP_eq, start_count]
  have hperm : (livesE [] (backE [] L)).Perm L := sub_perm _ _ hnd hsub (by omega)
  exact sorted_unique lLess_asymm m1 hL hperm

end Go.Proofs.YtnffjafddbbjaaaGreatDoor

/-
  The table of a history: how long it is, and what is read of it again. Plain mathematics.
-/
namespace Go.Proofs.YtnffjafddbbjaaaGreatDoor
open Go.RowKit

/-- A history's table, or nothing. -/
def prTab (n : Nat) (evs : List Ev) : ByteArray := if (checkF n evs).2 = 0 then strOf (tabL n (livesE [] evs)) else ⟨#[]⟩
/-- How a life's end is written. -/
def toB (z : Int) : List Nat := (toTok z).bytes
theorem toB_yes {z : Int} (h : 0 ≤ z) : toB z = decL z.toNat := by unfold toB toTok; rw [if_pos h]; rfl
theorem toB_no {z : Int} (h : ¬ 0 ≤ z) : toB z = [45] := by unfold toB toTok; rw [if_neg h]; rfl
theorem lineT_is (x : Lf) : lineT x = decL x.1.1 ++ ([32] ++ (decL x.1.2 ++ ([32] ++ (decL x.2.1.toNat ++ ([32] ++ (toB x.2.2 ++ [10])))))) := by simp [lineT, lfToks, lfHead, toksL, Tok.bytes, toB]
theorem tabL_step {n : Nat} {ls : List Lf} {i : Nat} {x : Lf} (h : ls[i]? = some x) : tabL n (ls.take (i + 1)) = tabL n (ls.take i) ++ lineT x := by
  unfold tabL
  rw [List.take_add_one, h, List.flatMap_append]
  simp
theorem lineT_len {x : Lf} (h : LfIn x) : (lineT x).length ≤ 90 := by
  obtain ⟨h3, h4, h1, h2, h5, h6⟩ := h
  have h3' : x.1.1 ≤ 4294967295 := h3
  have h4' : x.1.2 ≤ 4294967295 := h4
  have e1 := decL_len20 x.1.1 (by omega)
  have e2 := decL_len20 x.1.2 (by omega)
  have e3 := decL_len20 x.2.1.toNat (by omega)
  have e4 : (toB x.2.2).length ≤ 20 := by
    by_cases h0 : 0 ≤ x.2.2
    · rw [toB_yes h0]; exact decL_len20 _ (by omega)
    · rw [toB_no h0]; decide
  rw [lineT_is]
  simp only [List.length_append, List.length_cons, List.length_nil]
  omega
theorem tabL_len0 (n : Nat) (h : n < 18446744073709551616) : (tabL n []).length ≤ 30 := by
  have e1 := decL_len20 n h
  unfold tabL headToks
  simp [toksL, Tok.bytes, tabW]
  omega
theorem tabL_head (n : Nat) : (⟨#[116, 97, 98, 108, 101, 32]⟩ : ByteArray) ++ strOf (decL n) ++ ⟨#[10]⟩ = strOf (tabL n []) := by
  have e1 : (⟨#[116, 97, 98, 108, 101, 32]⟩ : ByteArray) = strOf [116, 97, 98, 108, 101, 32] := rfl
  have e2 : (⟨#[10]⟩ : ByteArray) = strOf [10] := rfl
  rw [e1, e2, strOf_append, strOf_append]
  congr 1
  simp [tabL, headToks, toksL, Tok.bytes, tabW]
theorem tline_str (l : List Nat) (x : Lf) : strOf l ++ strOf (decL x.1.1) ++ ⟨#[32]⟩ ++ strOf (decL x.1.2) ++ ⟨#[32]⟩ ++ strOf (decL x.2.1.toNat) ++ ⟨#[32]⟩ ++ strOf (toB x.2.2) ++ ⟨#[10]⟩ = strOf (l ++ lineT x) := by
  have e1 : (⟨#[32]⟩ : ByteArray) = strOf [32] := rfl
  have e2 : (⟨#[10]⟩ : ByteArray) = strOf [10] := rfl
  rw [e1, e2]
  simp only [strOf_append]
  congr 1
  rw [lineT_is]
  simp

/-- The lives of a history that may be. -/
theorem lives_in {n : Nat} {evs : List Ev} (h : (checkF n evs).2 = 0) : ∀ x ∈ livesE [] evs, LfIn x := fun x hx => by
  obtain ⟨hn, -, hg, hs⟩ := good_check h
  obtain ⟨h1, h2, h3, h4, h5, -⟩ := life_ok hg hs ((lives_sorted hs).2.mem_iff.1 hx)
  unfold eRight at h5
  have h6 := of_decide_eq_true h5
  exact ⟨by show _ ≤ 4294967295; omega, by show _ ≤ 4294967295; omega, h1, h2, h4, h3⟩
theorem tflat_len : ∀ {ls : List Lf}, (∀ x ∈ ls, LfIn x) → (ls.flatMap lineT).length ≤ 90 * ls.length
  | [], _ => by simp
  | x :: ls, h => by
    have h1 := lineT_len (h x (List.mem_cons_self ..))
    have h2 := tflat_len (ls := ls) (fun y hy => h y (List.mem_cons_of_mem _ hy))
    rw [List.flatMap_cons, List.length_append, List.length_cons]
    omega
theorem tabL_len {n : Nat} {ls : List Lf} (hn : n ≤ maxN) (h : ∀ x ∈ ls, LfIn x) : (tabL n ls).length ≤ 30 + 90 * ls.length := by
  have h0 := tabL_len0 n (by have : n ≤ 4294967296 := hn; omega)
  have h1 := tflat_len h
  unfold tabL at h0 ⊢
  rw [List.flatMap_nil] at h0
  simp only [List.length_append, List.length_nil] at h0 ⊢
  omega
theorem prTab_ok {n : Nat} {evs : List Ev} (h : (checkF n evs).2 = 0) : prTab n evs = strOf (tabL n (livesE [] evs)) := by unfold prTab; rw [if_pos h]
theorem prTab_size (n : Nat) (evs : List Ev) : (prTab n evs).size ≤ 30 + 90 * evs.length := by
  by_cases h : (checkF n evs).2 = 0
  · rw [prTab_ok h, strOf_length]
    have h1 := tabL_len (n := n) (check_in h).1 (lives_in h)
    have h2 := lives_length evs (good_check h).2.2.2
    omega
  · unfold prTab
    rw [if_neg h]
    exact Nat.zero_le _
theorem endT_lives {n : Nat} {evs : List Ev} (h : (checkF n evs).2 = 0) : endT n (livesE [] evs) = ⟨n, evs, 0, 0, 0⟩ := by
  unfold endT backF
  rw [if_pos (by rw [lives_check h]), lives_back h]
theorem prTab_parse {n : Nat} {evs : List Ev} (h : (checkF n evs).2 = 0) : parseTab (prTab n evs) = ⟨n, evs, 0, 0, 0⟩ := by
  rw [tparse_print (check_in h).1 (lives_in h) (by rw [lives_check h]) (prTab_ok h), endT_lives h]
theorem parseLfs_none {s : ByteArray} {n : Nat} : ∀ (k : Nat) (ls : List Lf) (c : Sc), (parseLfs s n k ls c).err ≠ 0 → (parseLfs s n k ls c).n = 0 ∧ (parseLfs s n k ls c).evs = []
  | 0, _, _, _ => ⟨rfl, rfl⟩
  | k + 1, evs, c, h => by
    rw [parseLfs] at h ⊢
    split at h
    · rename_i h1
      rw [if_pos h1]
      exact ⟨rfl, rfl⟩
    · rename_i h1
      rw [if_neg h1]
      split at h
      · exact absurd rfl h
      · rename_i h2
        rw [if_neg h2]
        split at h
        · rename_i h3
          rw [if_pos h3]
          exact ⟨rfl, rfl⟩
        · rename_i h3
          rw [if_neg h3]
          split at h
          · rename_i h4
            rw [if_pos h4]
            exact ⟨rfl, rfl⟩
          · rename_i h4
            rw [if_neg h4]
            exact parseLfs_none k _ _ h
theorem tflat_ge : ∀ (ls : List Lf), ls.length ≤ (ls.flatMap lineT).length
  | [] => Nat.le_refl _
  | x :: ls => by
    have h1 := lineT_pos x
    have h2 := tflat_ge ls
    rw [List.flatMap_cons, List.length_append, List.length_cons]
    omega
/-- What is read of a text: nothing, or what prints the text again. -/
theorem tparse_back (s : ByteArray) (hsz : s.size ≤ 1000000) : (parseTab s).n < 18446744073709551616 ∧ (parseTab s).evs.length ≤ 2 * s.size ∧ (∀ x ∈ (parseTab s).evs, EvFit x) ∧ ((parseTab s).err = 0 → prTab (parseTab s).n (parseTab s).evs = s ∧ (checkF (parseTab s).n (parseTab s).evs).2 = 0) := by
  by_cases h : (parseTab s).err = 0
  · obtain ⟨n, ls, h1, h2, h3, h4, h5⟩ := tparse_inv h
    have h6 : n ≤ 4294967296 := h4
    have hll : ls.length ≤ s.size := by
      have h7 := tflat_ge ls
      rw [h2, strOf_length]
      unfold tabL
      simp only [List.length_append]
      omega
    obtain ⟨r1, r2⟩ := round_back h3 (by omega) (fun x hx => (h5 x hx).2.2.2.2.1)
    have he : endT n ls = ⟨n, backE [] ls, 0, 0, 0⟩ := by unfold endT backF; rw [if_pos h3]
    have hlen : (backE [] ls).length ≤ 2 * ls.length := by rw [backE_length]; exact flat_length ls
    rw [h1, he]
    dsimp only
    refine ⟨by omega, by omega, fun x hx => ?_, fun _ => ⟨by rw [prTab_ok (by rw [r1]), r2, h2], by rw [r1]⟩⟩
    obtain ⟨k1, k2, k3, k4⟩ := (check_in (n := n) (evs := backE [] ls) (by rw [r1])).2 x hx
    have k3' : x.2.1.1 ≤ 4294967295 := k3
    have k4' : x.2.1.2 ≤ 4294967295 := k4
    unfold EvFit
    omega
  · have h1 : (parseTab s).n = 0 ∧ (parseTab s).evs = [] := parseLfs_none _ _ _ h
    rw [h1.1, h1.2]
    exact ⟨by omega, Nat.zero_le _, fun x hx => by simp at hx, fun he => absurd he h⟩

end Go.Proofs.YtnffjafddbbjaaaGreatDoor

/-
  A table of lives that may not be: which error is told, and where; two lines that change places; an edge that comes again. Plain mathematics.
-/
namespace Go.Proofs.YtnffjafddbbjaaaGreatDoor
open Go.RowKit

theorem lchk_app (n : Nat) (m : List Lf) : ∀ (l : List Lf) (pv : Option Lf) (i : Nat), (lchkF n pv i l).2 = 0 → lchkF n pv i (l ++ m) = lchkF n (l.getLast?.or pv) (i + l.length) m
  | [], pv, i, _ => by simp
  | x :: r, pv, i, h => by
    rw [lchkF] at h
    split at h
    · cases h
    · rename_i h1
      split at h
      · cases h
      · rename_i h2
        split at h
        · cases h
        · rename_i h3
          split at h
          · cases h
          · rename_i h4
            have ih := lchk_app n m r (some x) (i + 1) h
            rw [List.cons_append, lchkF, if_neg h1, if_neg h2, if_neg h3, if_neg h4, ih, List.length_cons, show i + 1 + r.length = i + (r.length + 1) by omega]
            congr 1
            rw [List.getLast?_cons]
            cases r.getLast? <;> rfl
theorem lcheck_app {n : Nat} {l m : List Lf} (h : (lifeCheckF n l).2 = 0) : lifeCheckF n (l ++ m) = lchkF n l.getLast? l.length m := by
  obtain ⟨hn, h0⟩ := lcheck_lchk h
  unfold lifeCheckF
  rw [if_neg (by omega), lchk_app n m l none 0 h0, Nat.zero_add]
  cases l.getLast? <;> rfl

theorem tadv_lines : ∀ (l : List Lf) (c : Sc), (adv (l.flatMap lineT) c).line = c.line + l.length ∧ (c.col = 1 → (adv (l.flatMap lineT) c).col = 1)
  | [], c => ⟨rfl, fun h => h⟩
  | x :: l, c => by
    rw [List.flatMap_cons, adv_append]
    obtain ⟨h1, h2⟩ := tadv_lines l (adv (lineT x) c)
    have h3 := adv_end (lineTB_plain x) c
    rw [← lineT_body] at h3
    rw [h1, List.length_cons, h3.2]
    exact ⟨by omega, fun _ => h2 h3.1⟩
/-- Behind a table's own lines. -/
theorem tparse_tail {s : ByteArray} {n : Nat} {ls : List Lf} {tail : List Nat} (hn : n ≤ maxN) (hx : ∀ x ∈ ls, LfIn x) (hok : (lifeCheckF n ls).2 = 0) (ht : ∀ y ∈ tail, y < 256) (hs : s = strOf (tabL n ls ++ tail)) :
    ∃ k c, parseTab s = parseLfs s n (k + 1) ls c ∧ c.err = 0 ∧ c.pos + tail.length = s.size ∧ Bears s c.pos tail ∧ c.line = ls.length + 2 ∧ c.col = 1 := by
  have hb : Bears s 0 (tabL n ls ++ tail) := by
    rw [hs]
    refine bears_str (fun y hy => ?_)
    rcases List.mem_append.1 hy with h | h
    · exact tabL_lt hn hx y h
    · exact ht y h
  have hz : s.size = (tabL n ls).length + tail.length := by rw [hs, strOf_length, List.length_append]
  have hlog : tabL n ls = (tabW ++ toksL (headToks n)) ++ ls.flatMap lineT := by rw [List.append_assoc]; rfl
  rw [hlog, List.append_assoc] at hb
  rw [hlog, List.length_append] at hz
  obtain ⟨h1, h2⟩ := thead_at hn hb.left (by omega)
  have hp : (th4 s).pos = (tabW ++ toksL (headToks n)).length := by rw [h2, adv_pos, List.length_append]; rfl
  have hr := hb.right
  rw [Nat.zero_add, ← hp] at hr
  have e5 := adv_end (headB_plain n) ⟨5, 1, 6, 0⟩
  rw [← head_body, ← h2] at e5
  obtain ⟨k', hk, he⟩ := tparse_lines (n := n) ls [] (th4 s) (s.size + 1) hx (by rw [h2, adv_err]) hr.left (by omega) (fun i _ => by rw [List.nil_append]; exact lcheck_take i hok) (by omega)
  obtain ⟨k, rfl⟩ : ∃ k, k' = k + 1 := ⟨k' - 1, by omega⟩
  have h6 := tadv_lines ls (th4 s)
  refine ⟨k, adv (ls.flatMap lineT) (th4 s), ?_, by rw [adv_err, h2, adv_err], by rw [adv_pos]; omega, by rw [adv_pos]; exact hr.right, ?_, h6.2 e5.1⟩
  · unfold parseTab
    rw [h1, he, List.nil_append]
  · have h7 : (th4 s).line = 2 := e5.2
    rw [h6.1, h7]
    omega
theorem lineT_lt {x : Lf} (hx : LfIn x) : ∀ y ∈ lineT x, y < 256 := tok_lt (lfToks_ok hx)
/-- The first life that may not be. -/
theorem tparse_bad_at {s : ByteArray} {n : Nat} {ls : List Lf} {i : Nat} {y : Lf} (hn : n ≤ maxN) (hx : ∀ x ∈ ls, LfIn x) (hi : ls[i]? = some y) (hok : (lifeCheckF n (ls.take i)).2 = 0) (hbad : (lifeCheckF n (ls.take i ++ [y])).2 ≠ 0) (hs : s = strOf (tabL n ls)) : parseTab s = ⟨0, [], i + 2, 1, (lifeCheckF n (ls.take i ++ [y])).2⟩ := by
  have hil := (List.getElem?_eq_some_iff.1 hi).1
  have hlen : (ls.take i).length = i := by rw [List.length_take, Nat.min_eq_left (by omega)]
  have hd : ls = ls.take i ++ (y :: ls.drop (i + 1)) := by
    have h1 := List.take_append_drop i ls
    rw [List.drop_eq_getElem_cons hil] at h1
    have h2 : ls[i] = y := by rw [List.getElem?_eq_getElem hil] at hi; exact Option.some.inj hi
    rw [h2] at h1
    exact h1.symm
  have ht : tabL n ls = tabL n (ls.take i) ++ (lineT y ++ (ls.drop (i + 1)).flatMap lineT) := by
    conv => lhs; rw [hd]
    unfold tabL
    rw [List.flatMap_append, List.flatMap_cons]
    simp only [List.append_assoc]
  have hy : LfIn y := hx y (List.mem_of_getElem? hi)
  obtain ⟨k, c, h1, h2, h3, h4, h5, h6⟩ := tparse_tail (s := s) (tail := lineT y ++ (ls.drop (i + 1)).flatMap lineT) hn (fun x h => hx x (List.mem_of_mem_take h)) hok (fun z hz => by
    rcases List.mem_append.1 hz with h | h
    · exact lineT_lt hy z h
    · obtain ⟨x, hxm, hxz⟩ := List.mem_flatMap.1 h
      exact lineT_lt (hx x (List.mem_of_mem_drop hxm)) z hxz) (by rw [hs, ht])
  rw [List.length_append] at h3
  have hpos := lineT_pos y
  obtain ⟨e1, e2⟩ := lf_at hy h2 h4.left (by omega)
  rw [h1, tparse_bad h2 (by omega) (by rw [e2, adv_err]; exact h2) (by rw [e1]; exact hbad), e1, h5, h6, hlen]

/-- Two lives of one edge, as text: which is wrong. -/
theorem open_one {n a b : Nat} {e : Eg} (hn : n ≤ 4294967296) (he : eRight e.1 e.2 n = true) (ha : a ≤ 4611686018427387903) (hb : b ≤ a) : (lifeCheckF n [(e, (a : Int), (b : Int))]).2 = 23 := by
  unfold lifeCheckF
  rw [if_neg (by omega), lchk_to (by dsimp only; omega) he ⟨by dsimp only; omega, by dsimp only; omega⟩]
theorem open_fine {n a : Nat} {t : Int} {e : Eg} (hn : n ≤ 4294967296) (he : eRight e.1 e.2 n = true) (ha : a ≤ 4611686018427387903) (ht : t ≤ 4611686018427387903) (hb : ¬ (0 ≤ t ∧ t ≤ (a : Int))) : (lifeCheckF n [(e, (a : Int), t)]).2 = 0 := by
  unfold lifeCheckF
  rw [if_neg (by omega), lchk_step (by dsimp only; omega) he hb rfl, lchkF]
theorem open_two {n a c : Nat} {t u : Int} {e : Eg} (hn : n ≤ 4294967296) (he : eRight e.1 e.2 n = true) (ha : a ≤ 4611686018427387903) (hc : c ≤ 4611686018427387903) (ht : t ≤ 4611686018427387903) (hu : u ≤ 4611686018427387903) (hb : ¬ (0 ≤ t ∧ t ≤ (a : Int))) (hd : ¬ (0 ≤ u ∧ u ≤ (c : Int))) (ho : t < 0 ∨ (c : Int) ≤ t) : (lifeCheckF n [(e, (a : Int), t), (e, (c : Int), u)]).2 = 23 := by
  have h0 := open_fine (n := n) (e := e) hn he ha ht hb
  have h1 := lcheck_app (m := [(e, (c : Int), u)]) h0
  rw [show [(e, (a : Int), t)] ++ [(e, (c : Int), u)] = [(e, (a : Int), t), (e, (c : Int), u)] from rfl] at h1
  rw [h1, lchk_order (by dsimp only; omega) he hd (by
    show lOrd (e, (a : Int), t) (e, (c : Int), u) = true
    unfold lOrd
    dsimp only
    rw [eLess_irrefl, decide_eq_true rfl]
    rcases ho with ho | ho
    · rw [decide_eq_false (p := (0 : Int) ≤ t) (by omega)]; rfl
    · rw [decide_eq_false (p := t < (c : Int)) (by omega), Bool.and_false]; rfl)]
theorem open_both {n a c : Nat} {t u : Int} {e : Eg} (hn : n ≤ 4294967296) (he : eRight e.1 e.2 n = true) (ha : a ≤ 4611686018427387903) (hc : c ≤ 4611686018427387903) (ht : t ≤ 4611686018427387903) (hu : u ≤ 4611686018427387903) (hb : ¬ (0 ≤ t ∧ t ≤ (a : Int))) (hd : ¬ (0 ≤ u ∧ u ≤ (c : Int))) (ho : 0 ≤ t ∧ t < (c : Int)) : (lifeCheckF n [(e, (a : Int), t), (e, (c : Int), u)]).2 = 0 := by
  have h0 := open_fine (n := n) (e := e) hn he ha ht hb
  have h1 := lcheck_app (m := [(e, (c : Int), u)]) h0
  rw [show [(e, (a : Int), t)] ++ [(e, (c : Int), u)] = [(e, (a : Int), t), (e, (c : Int), u)] from rfl] at h1
  rw [h1, lchk_step (by dsimp only; omega) he hd (by
    show lOrd (e, (a : Int), t) (e, (c : Int), u) = false
    unfold lOrd
    dsimp only
    rw [eLess_irrefl, decide_eq_true rfl, decide_eq_true ho.1, decide_eq_true ho.2]
    rfl), lchkF]
theorem open_back {n a b c : Nat} {e : Eg} (h : (lifeCheckF n [(e, (a : Int), (b : Int)), (e, (c : Int), -1)]).2 = 0) (hab : a < b) (hbc : b < c) : endT n [(e, (a : Int), (b : Int)), (e, (c : Int), -1)] = ⟨n, [((a : Int), e, true), ((b : Int), e, false), ((c : Int), e, true)], 0, 0, 0⟩ := by
  have hf : [(e, (a : Int), (b : Int)), (e, (c : Int), -1)].flatMap lEv = [((a : Int), e, true), ((b : Int), e, false), ((c : Int), e, true)] := by
    simp only [List.flatMap_cons, List.flatMap_nil, List.append_nil]
    unfold lEv
    dsimp only
    rw [if_pos (by omega), if_neg (by omega)]
    rfl
  have hno : ∀ {x y : Ev}, x.1 < y.1 → eBef y x = false := fun {x y} hxy => by
    rw [Bool.eq_false_iff]
    intro hh
    rw [eBef_iff] at hh
    rcases hh with hh | ⟨hh, -⟩ <;> omega
  have hb := back_only h (evs := [((a : Int), e, true), ((b : Int), e, false), ((c : Int), e, true)]) (by rw [hf]) (by
    refine List.pairwise_cons.2 ⟨fun y hy => ?_, List.pairwise_cons.2 ⟨fun y hy => ?_, List.pairwise_singleton _ _⟩⟩
    · simp only [List.mem_cons, List.not_mem_nil, or_false] at hy
      rcases hy with rfl | rfl <;> exact hno (by dsimp only; omega)
    · simp only [List.mem_cons, List.not_mem_nil, or_false] at hy
      subst hy
      exact hno (by dsimp only; omega))
  unfold endT backF
  rw [if_pos h, ← hb]

/-- Two of the lives have changed places: the one behind the first is out of order. -/
theorem swap_bad {n : Nat} {L : List Lf} {a b : Nat} {x y : Lf} (h : (lifeCheckF n L).2 = 0) (hab : a < b) (hb : L[b]? = some y) (hx : L[a]? = some x) : ∃ z, ((L.set a y).set b x)[a + 1]? = some z ∧ (lifeCheckF n (((L.set a y).set b x).take (a + 1))).2 = 0 ∧ (lifeCheckF n (((L.set a y).set b x).take (a + 1) ++ [z])).2 = 23 := by
  have hbl := (List.getElem?_eq_some_iff.1 hb).1
  obtain ⟨hn, h0⟩ := lcheck_lchk h
  obtain ⟨hk, hp, -⟩ := lchk_ok n L none 0 h0
  have hr := lchk_rng n L none 0 h0
  have hym : y ∈ L := List.mem_of_getElem? hb
  have htake : ((L.set a y).set b x).take (a + 1) = L.take a ++ [y] := by
    rw [List.take_add_one, List.take_set, List.take_set, List.set_eq_of_length_le (by rw [List.length_set, List.length_take]; omega), List.set_eq_of_length_le (by rw [List.length_take]; omega), List.getElem?_set_ne (by omega), List.getElem?_set_self (by omega)]
    rfl
  have hbeh : ∀ i z, L[i]? = some z → i < b → LfBehind z y := fun i z hz hib => by
    have hzl := (List.getElem?_eq_some_iff.1 hz).1
    have := List.pairwise_iff_getElem.1 hp i b hzl hbl hib
    rw [List.getElem?_eq_getElem hzl] at hz
    rw [List.getElem?_eq_getElem hbl] at hb
    rw [Option.some.inj hz, Option.some.inj hb] at this
    exact this
  have hpre : (lifeCheckF n (L.take a)).2 = 0 := lcheck_take a h
  obtain ⟨hy1, hy2, hy3, hy4⟩ := hr y hym
  have hy5 := hk y hym
  have hfirst : (lifeCheckF n (L.take a ++ [y])).2 = 0 := by
    rw [lcheck_app hpre, lchk_step (by omega) hy4 hy5 (by
      cases hg : (L.take a).getLast? with
      | none => rfl
      | some z =>
        show lOrd z y = false
        rw [behind_iff]
        obtain ⟨i, hi⟩ := List.getElem?_of_mem (List.mem_of_getLast? hg)
        rw [List.getElem?_take] at hi
        split at hi
        · exact hbeh i z hi (by omega)
        · cases hi), lchkF]
  obtain ⟨z, hz, hzb, hzm⟩ : ∃ z, ((L.set a y).set b x)[a + 1]? = some z ∧ LfBehind z y ∧ z ∈ L := by
    by_cases he : a + 1 = b
    · refine ⟨x, ?_, hbeh a x hx hab, List.mem_of_getElem? hx⟩
      rw [he, List.getElem?_set_self (by rw [List.length_set]; omega)]
    · have hl : a + 1 < L.length := by omega
      refine ⟨L[a + 1], ?_, hbeh (a + 1) _ (List.getElem?_eq_getElem hl) (by omega), List.getElem_mem hl⟩
      rw [List.getElem?_set_ne (by omega), List.getElem?_set_ne (by omega), List.getElem?_eq_getElem hl]
  refine ⟨z, hz, by rw [htake]; exact hfirst, ?_⟩
  obtain ⟨hz1, hz2, hz3, hz4⟩ := hr z hzm
  have hz5 := hk z hzm
  rw [htake, lcheck_app hfirst, List.getLast?_append]
  rw [lchk_order (by omega) hz4 hz5 (by
    show lOrd y z = true
    cases ho : lOrd y z with
    | true => rfl
    | false =>
      rw [behind_iff] at ho
      exfalso
      unfold LfBehind at ho hzb
      unfold LfOk at hy5 hz5
      rcases ho with ho | ⟨ho1, ho2, ho3⟩
      · rcases hzb with hzb | ⟨hzb1, -, -⟩
        · rw [eLess_asymm ho] at hzb; cases hzb
        · rw [hzb1, eLess_irrefl] at ho; cases ho
      · rcases hzb with hzb | ⟨-, hzb2, hzb3⟩
        · rw [ho1, eLess_irrefl] at hzb; cases hzb
        · omega)]

end Go.Proofs.YtnffjafddbbjaaaGreatDoor
