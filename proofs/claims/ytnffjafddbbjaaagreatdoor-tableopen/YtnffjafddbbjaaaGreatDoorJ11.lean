/-
  Texts of ours, joined: TLogD FScan TTabD TbRead TbEnd TbTake PlaceR TbRd.
-/
import Derived.Test.YtnffjafddbbjaaaGreatDoorJ3
import Derived.Test.YtnffjafddbbjaaaGreatDoorJ8
import Derived.Test.YtnffjafddbbjaaaGreatDoorQWord
import Derived.Test.YtnffjafddbbjaaaGreatDoorJ2
import Derived.Test.YtnffjafddbbjaaaGreatDoorJ10

/-
  Numbers a scanner reads are no greater than they may be. Plain mathematics (parted from TLogE).
-/
namespace Go.Proofs.YtnffjafddbbjaaaGreatDoor
open Go.RowKit

theorem numVal_le (s : ByteArray) (pos most : Nat) : ∀ (k i v : Nat), v ≤ most → (numVal s pos most i v k).getD 0 ≤ most
  | 0, i, v, h => by rw [numVal]; exact h
  | k + 1, i, v, h => by
    rw [numVal]
    split
    · exact Nat.zero_le _
    · exact numVal_le s pos most k (i + 1) _ (by omega)
theorem scNumVal_le (s : ByteArray) (most : Nat) (c : Sc) : scNumVal s most c ≤ most := by
  unfold scNumVal
  split
  · split
    · exact Nat.zero_le _
    · split
      · exact Nat.zero_le _
      · exact numVal_le s c.pos most _ 0 0 (Nat.zero_le _)
  · exact Nat.zero_le _
theorem scByte_ok {s : ByteArray} {c : Sc} (h : ScOk s c) (b : Nat) : ScOk s (scByte s b c) := scWord_ok h _

end Go.Proofs.YtnffjafddbbjaaaGreatDoor

/-
  The program's scanner as its own packages call it: the calls with literals; what holds where no error came.
-/
namespace Go.Proofs.YtnffjafddbbjaaaGreatDoor
open Go.RowKit

theorem sNum (m : Nat) (m' : Int) (hm : (m : Int) = m') (hlt : m < 18446744073709551616) (p : Nat) (s : ByteArray) (c : Sc) (w : World) (h : LSc w p s c) (hok : ScOk s c) (hs : s.size ≤ 1000000000) (hK : KVar w) : Calls Tryz.prog 63 #[.pointer (some ⟨p, 0, none⟩), .int .u64 m'] w fun r w' =>
    r = .returned (.int .u64 (scNumVal s m c : Int)) ∧ LSc w' p s (scNum s m c) ∧ Fr w w' (fun k => k = p) := by
  subst hm
  exact scanNumber_any p m s c w h hok hs hlt hK
theorem sB (b : Nat) (b' : Int) (hb : (b : Int) = b') (p : Nat) (s : ByteArray) (c : Sc) (w : World) (h : LSc w p s c) (hok : ScOk s c) (hs : s.size ≤ 1000000000) : Calls Tryz.prog 62 #[.pointer (some ⟨p, 0, none⟩), .int .u8 b'] w fun r w' =>
    r = .returned (.bool (scByteOk s b c)) ∧ LSc w' p s (scByte s b c) ∧ Fr w w' (fun k => k = p) := by
  subst hb
  exact scanByte_any p b s c w h hok hs
theorem byte_ok {s : ByteArray} {c : Sc} {b : Nat} (h : (scByte s b c).err = 0) : c.err = 0 ∧ scByteOk s b c = true := by
  by_cases he : c.err = 0
  · refine ⟨he, ?_⟩
    unfold scByte scWord at h
    rw [if_pos he] at h
    unfold scByteOk scWordOk
    by_cases hw : wordErr s (strOf [b]) c.pos 0 (strOf [b]).size = 0
    · rw [he, hw]; rfl
    · rw [if_neg hw] at h
      exact absurd h hw
  · rw [(scByte_stop he).2] at h
    exact absurd h he
theorem num_ok {s : ByteArray} {c : Sc} {m : Nat} (h : (scNum s m c).err = 0) : c.err = 0 := by
  by_cases he : c.err = 0
  · exact he
  · rw [(scNum_stop' he).2] at h
    exact absurd h he
theorem next_minus {s : ByteArray} {c : Sc} (h : (scNext s c).1 = 45) : scNext s c = (45, true) := by
  unfold scNext at h ⊢
  split at h
  · rename_i hc
    rw [if_pos hc]
    exact Prod.ext h rfl
  · simp at h
/-- Where a line has no error, its sign was read as it stands. -/
theorem ev_plus {s : ByteArray} {c : Sc} (h : (evEnd s c).err = 0) : evPlus s (ev2 s c) = decide ((scNext s (ev2 s c)).1 ≠ 45) := by
  have h1 := (byte_ok (num_ok (byte_ok (num_ok (byte_ok h).1)).1)).1
  unfold evPlus
  unfold evSg at h1
  by_cases hc : scNext s (ev2 s c) = (45, true)
  · rw [if_pos hc, hc]; rfl
  · rw [if_neg hc] at h1 ⊢
    rw [(byte_ok h1).2]
    rw [eq_comm, decide_eq_true_iff]
    exact fun h => hc (next_minus h)
theorem sg_sign (s : ByteArray) (c : Sc) : evSg s c = if (scNext s c).1 = 45 then scByte s 45 c else scByte s 43 c := by
  unfold evSg
  by_cases hc : scNext s c = (45, true)
  · rw [if_pos hc, hc]; rfl
  · rw [if_neg hc, if_neg (fun h => hc (next_minus h))]

end Go.Proofs.YtnffjafddbbjaaaGreatDoor

/-
  What a line of a table may be, and where the scanner stands behind it. Plain mathematics (parted from TTabP).
-/
namespace Go.Proofs.YtnffjafddbbjaaaGreatDoor
open Go.RowKit

/-- Events lie in no block of two cells. -/
theorem rdV_apart {x : World} {v u0 u1 : Value} {evs : List Ev} {b : Nat} {T : TypeId} (h : RdV x v evs) (hl : 0 < evs.length) (hb : x.heap[b]? = some (.cells #[u0, u1] T (0, 0))) : v.ownBlock ≠ some b := fun he => by
  obtain ⟨e, r, rfl⟩ : ∃ e r, evs = e :: r := by cases evs with | nil => simp at hl | cons e r => exact ⟨e, r, rfl⟩
  obtain ⟨g, off, cap, rfl, -, hc⟩ := h.get 0 e rfl
  obtain ⟨-, -, -, h3⟩ := hc x (Fr.refl _ _)
  have hg : g = b := by simpa [Value.ownBlock] using he
  subst hg
  have h4 : (#[u0, u1] : Array Value)[off + 0 * 4 + 3]? = none := Array.getElem?_eq_none (by show 2 ≤ _; omega)
  rw [World.cell?, hb] at h3
  simp only [h4] at h3
  cases h3
theorem lfVal_fit (s : ByteArray) (c : Sc) : LfFit (lfVal s c) := by
  have h1 : scNumVal s maxT (lf4 s c) ≤ 4611686018427387903 := scNumVal_le s maxT (lf4 s c)
  have h2 : scNumVal s maxV c ≤ 4294967295 := scNumVal_le s maxV c
  have h3 : scNumVal s maxV (lf2 s c) ≤ 4294967295 := scNumVal_le s maxV (lf2 s c)
  have h4 : scNumVal s maxT (lf6 s c) ≤ 4611686018427387903 := scNumVal_le s maxT (lf6 s c)
  unfold lfVal
  refine ⟨⟨by show scNumVal s maxV c < 4294967296; omega, by show scNumVal s maxV (lf2 s c) < 4294967296; omega⟩, ⟨by show (-9223372036854775808 : Int) ≤ (scNumVal s maxT (lf4 s c) : Int); omega, by show (scNumVal s maxT (lf4 s c) : Int) ≤ 9223372036854775807; omega⟩, ?_⟩
  show (-9223372036854775808 : Int) ≤ lfToV s (lf6 s c) ∧ lfToV s (lf6 s c) ≤ 9223372036854775807
  unfold lfToV
  split <;> omega
theorem lfEnd_pos {s : ByteArray} {c : Sc} (he : c.err = 0) (hp : c.pos ≤ s.size) (h : (lfEnd s c).err = 0) : c.pos + 1 ≤ (lfEnd s c).pos ∧ (lfEnd s c).pos ≤ s.size := by
  obtain ⟨i1, i2, i3⟩ := lf_inv he hp h
  have i4 := (lf_at i1 he i2 i3).2
  have := lineT_pos (lfVal s c)
  rw [i4, adv_pos]
  omega
theorem lfEnd_ok {s : ByteArray} {c : Sc} (h : ScOk s c) : ScOk s (lfEnd s c) := by
  unfold lfEnd lfTo lf6 lf4 lf2
  split
  · exact scByte_ok (scByte_ok (scByte_ok (scNum_ok (scByte_ok (scNum_ok (scByte_ok (scNum_ok h _) _) _) _) _) _) _) _
  · exact scByte_ok (scNum_ok (scByte_ok (scNum_ok (scByte_ok (scNum_ok (scByte_ok (scNum_ok h _) _) _) _) _) _) _) _

end Go.Proofs.YtnffjafddbbjaaaGreatDoor

/-
  A table that is read whole, and checked behind its last line, tells what one tells that is checked line by line. Plain mathematics.
-/
namespace Go.Proofs.YtnffjafddbbjaaaGreatDoor
open Go.RowKit

/-- The whole lines, up to the end or the first error. -/
def readT (s : ByteArray) : Nat → List Lf → Sc → List Lf × Sc
  | 0, ls, c => (ls, c)
  | k + 1, ls, c =>
    if (scNext s c).2 = false then (ls, c)
    else if (lfEnd s c).err ≠ 0 then (ls, lfEnd s c)
    else readT s k (ls ++ [lfVal s c]) (lfEnd s c)
def toldT (n : Nat) (p : List Lf × Sc) : LogR :=
  if (lifeCheckF n p.1).2 ≠ 0 then ⟨0, [], (lifeCheckF n p.1).1 + 2, 1, (lifeCheckF n p.1).2⟩
  else if p.2.err ≠ 0 then ⟨0, [], p.2.line, p.2.col, p.2.err⟩ else endT n p.1

theorem readT_stop {s : ByteArray} {ls : List Lf} {c : Sc} (k : Nat) (h : (scNext s c).2 = false) : readT s k ls c = (ls, c) := by
  cases k with
  | zero => rfl
  | succ k => rw [readT, if_pos h]
theorem readT_err {s : ByteArray} {ls : List Lf} {c : Sc} {k : Nat} (hn : (scNext s c).2 = true) (h : (lfEnd s c).err ≠ 0) (j : Nat) : readT s (k + 1) ls c = readT s j ls (lfEnd s c) := by
  rw [readT, if_neg (by rw [hn]; decide), if_pos h, readT_stop j (by rw [scNext_stop h])]
theorem readT_step {s : ByteArray} {ls : List Lf} {c : Sc} {k : Nat} (hn : (scNext s c).2 = true) (h : (lfEnd s c).err = 0) : readT s (k + 1) ls c = readT s k (ls ++ [lfVal s c]) (lfEnd s c) := by
  rw [readT, if_neg (by rw [hn]; decide), if_neg (by rw [h]; decide)]
theorem nextT_in {s : ByteArray} {c : Sc} (h : (scNext s c).2 = true) : c.err = 0 ∧ c.pos < s.size := by
  unfold scNext at h
  split at h
  · assumption
  · simp at h
/-- Where a line was read, the scanner stands at the next one's beginning. -/
theorem lfEnd_at {s : ByteArray} {c : Sc} (he : c.err = 0) (hp : c.pos ≤ s.size) (h : (lfEnd s c).err = 0) : (lfEnd s c).line = c.line + 1 ∧ (lfEnd s c).col = 1 ∧ c.pos < (lfEnd s c).pos ∧ (lfEnd s c).pos ≤ s.size := by
  obtain ⟨i1, i2, i3⟩ := lf_inv he hp h
  have i4 : lfEnd s c = adv (lineT (lfVal s c)) c := (lf_at i1 he i2 i3).2
  have h3 := adv_end (lineTB_plain (lfVal s c)) c
  rw [← lineT_body, ← i4] at h3
  have hpos := lineT_pos (lfVal s c)
  have e5 : (lfEnd s c).pos = c.pos + (lineT (lfVal s c)).length := by rw [i4, adv_pos]
  exact ⟨h3.2, h3.1, by omega, by omega⟩
theorem readT_more (s : ByteArray) : ∀ (k : Nat) (ls : List Lf) (c : Sc), ls.length ≤ c.pos → c.pos ≤ s.size → ∃ r, (readT s k ls c).1 = ls ++ r ∧ ls.length + r.length ≤ s.size
  | 0, ls, c, h1, h2 => ⟨[], by rw [readT, List.append_nil], by simp; omega⟩
  | k + 1, ls, c, h1, h2 => by
    by_cases hn : (scNext s c).2 = false
    · exact ⟨[], by rw [readT_stop _ hn, List.append_nil], by simp; omega⟩
    · have hn' : (scNext s c).2 = true := by simpa using hn
      obtain ⟨he, hp⟩ := nextT_in hn'
      by_cases h : (lfEnd s c).err = 0
      · obtain ⟨-, -, q1, q2⟩ := lfEnd_at he (Nat.le_of_lt hp) h
        obtain ⟨r, g1, g2⟩ := readT_more s k (ls ++ [lfVal s c]) (lfEnd s c) (by rw [List.length_append, List.length_singleton]; omega) q2
        refine ⟨lfVal s c :: r, by rw [readT_step hn' h, g1, List.append_assoc]; rfl, ?_⟩
        rw [List.length_append, List.length_singleton] at g2
        rw [List.length_cons]
        omega
      · exact ⟨[], by rw [readT_err hn' h 0, readT, List.append_nil], by simp; omega⟩
theorem lchk_two (n : Nat) (pv : Option Lf) (i : Nat) (x : Lf) : (∃ e, e ≠ 0 ∧ ∀ r, lchkF n pv i (x :: r) = (i, e)) ∨ (∀ r, lchkF n pv i (x :: r) = lchkF n (some x) (i + 1) r) := by
  by_cases h : x.2.1 < 0 ∨ 4611686018427387903 < x.2.1 ∨ 4611686018427387903 < x.2.2
  · exact .inl ⟨26, by decide, fun r => lchk_limit h⟩
  · by_cases h1 : eRight x.1.1 x.1.2 n = false
    · exact .inl ⟨24, by decide, fun r => lchk_vertex h h1⟩
    · have h1' : eRight x.1.1 x.1.2 n = true := by simpa using h1
      by_cases h2 : 0 ≤ x.2.2 ∧ x.2.2 ≤ x.2.1
      · exact .inl ⟨23, by decide, fun r => lchk_to h h1' h2⟩
      · by_cases h3 : (pv.any fun p => lOrd p x) = true
        · exact .inl ⟨23, by decide, fun r => lchk_order h h1' h2 h3⟩
        · exact .inr (fun r => lchk_step h h1' h2 (by simpa using h3))
theorem lchk_len (n : Nat) : ∀ (l : List Lf) (pv : Option Lf) (i : Nat), (lchkF n pv i l).1 ≤ i + l.length
  | [], pv, i => by rw [lchkF]; exact Nat.zero_le _
  | x :: r, pv, i => by
    rcases lchk_two n pv i x with ⟨e, -, h⟩ | h
    · rw [h r]
      exact Nat.le_add_right _ _
    · rw [h r]
      have := lchk_len n r (some x) (i + 1)
      rw [List.length_cons]
      omega
theorem lcheck_len (n : Nat) (l : List Lf) : (lifeCheckF n l).1 ≤ l.length := by
  unfold lifeCheckF
  split
  · exact Nat.zero_le _
  · have := lchk_len n l none 0
    omega
theorem lcheck_last {n : Nat} {l : List Lf} {x : Lf} (h : (lifeCheckF n l).2 = 0) (hb : (lifeCheckF n (l ++ [x])).2 ≠ 0) : (lifeCheckF n (l ++ [x])).1 = l.length ∧ ∀ r, lifeCheckF n ((l ++ [x]) ++ r) = lifeCheckF n (l ++ [x]) := by
  have e1 := lcheck_app (m := [x]) h
  rw [e1] at hb
  rcases lchk_two n l.getLast? l.length x with ⟨e, -, h1⟩ | h1
  · refine ⟨by rw [e1, h1], fun r => ?_⟩
    rw [List.append_assoc, lcheck_app h, e1, h1]
    exact h1 r
  · rw [h1, lchkF] at hb
    exact absurd rfl hb
theorem toldT_is {s : ByteArray} {n : Nat} (hs : s.size ≤ 100000) : ∀ (k j : Nat) (ls : List Lf) (c : Sc), s.size - c.pos < k → s.size - c.pos < j → (lifeCheckF n ls).2 = 0 → ls.length ≤ c.pos → c.pos ≤ s.size → (c.err = 0 → c.line = ls.length + 2 ∧ c.col = 1) → parseLfs s n k ls c = toldT n (readT s j ls c)
  | 0, _, _, _, hk, _, _, _, _, _ => by omega
  | k + 1, 0, _, _, _, hj, _, _, _, _ => by omega
  | k + 1, j + 1, ls, c, hk, hj, hc, hl, hp, hat => by
    by_cases he : c.err = 0
    · by_cases hend : s.size ≤ c.pos
      · rw [tparse_end he hend, readT_stop _ (by rw [scNext_end hend])]
        unfold toldT
        rw [if_neg (by rw [hc]; decide), if_neg (by rw [he]; decide)]
      · have hn : (scNext s c).2 = true := by rw [scNext_in he (by omega)]
        by_cases h1 : (lfEnd s c).err = 0
        · obtain ⟨q0, q1, q2, q3⟩ := lfEnd_at he hp h1
          obtain ⟨a1, a2⟩ := hat he
          by_cases h2 : (lifeCheckF n (ls ++ [lfVal s c])).2 = 0
          · rw [tparse_step he (by omega) h1 h2, readT_step hn h1]
            refine toldT_is hs k j _ _ (by omega) (by omega) h2 (by rw [List.length_append, List.length_singleton]; omega) q3 (fun _ => ⟨?_, q1⟩)
            rw [List.length_append, List.length_singleton, q0, a1]
          · rw [tparse_bad he (by omega) h1 h2, readT_step hn h1]
            obtain ⟨r, g1, g2⟩ := readT_more s j (ls ++ [lfVal s c]) (lfEnd s c) (by rw [List.length_append, List.length_singleton]; omega) q3
            obtain ⟨l1, l2⟩ := lcheck_last hc h2
            unfold toldT
            rw [g1, l2 r, if_pos h2, l1, a1, a2]
        · rw [tparse_err he (by omega) h1, readT_err hn h1 0, readT]
          unfold toldT
          rw [if_neg (by rw [hc]; decide), if_pos h1]
    · rw [tparse_stop he, readT_stop _ (by rw [scNext_stop he])]
      unfold toldT
      rw [if_neg (by rw [hc]; decide), if_pos he]
theorem th_at {s : ByteArray} (z4 : (th4 s).err = 0) : (th4 s).line = 2 ∧ (th4 s).col = 1 := by
  have z3 : (scNum s maxN (th2 s)).err = 0 := Decidable.byContradiction fun hn => hn (by rw [show th4 s = scByte s 10 (scNum s maxN (th2 s)) from rfl, (scByte_stop hn).2] at z4; exact absurd z4 hn)
  have z2 : (th2 s).err = 0 := Decidable.byContradiction fun hn => by rw [(scNum_stop' hn).2] at z3; exact hn z3
  have z1 : (scWord s (strOf tabW) ⟨0, 1, 1, 0⟩).err = 0 := Decidable.byContradiction fun hn => by rw [show th2 s = scByte s 32 (scWord s (strOf tabW) ⟨0, 1, 1, 0⟩) from rfl, (scByte_stop hn).2] at z2; exact hn z2
  obtain ⟨w1, w2⟩ := tword_inv z1
  have ew := tword_at w1 w2
  obtain ⟨q2, b2, a2⟩ := byte_inv z1 (by decide) (show (scByte s 32 (scWord s (strOf tabW) ⟨0, 1, 1, 0⟩)).err = 0 from z2)
  have a2' : th2 s = adv [32] (scWord s (strOf tabW) ⟨0, 1, 1, 0⟩) := a2
  rw [ew] at q2 b2 a2'
  have q2' : 5 < s.size := q2
  have p2 : (th2 s).pos = 6 := by rw [a2']; rfl
  obtain ⟨d3, m3, a3⟩ := num_inv z2 (by omega) z3
  obtain ⟨q4, b4, a4⟩ := byte_inv z3 (by decide) (show (scByte s 10 (scNum s maxN (th2 s))).err = 0 from z4)
  have a4' : th4 s = adv [10] (scNum s maxN (th2 s)) := a4
  obtain ⟨n, hn⟩ : ∃ n, n = scNumVal s maxN (th2 s) := ⟨_, rfl⟩
  rw [← hn] at d3 m3 a3
  have e : th4 s = adv (headB n ++ [10]) ⟨5, 1, 6, 0⟩ := by
    unfold headB
    rw [a4', a3, a2', adv_append, adv_append]
  have h := adv_end (headB_plain n) ⟨5, 1, 6, 0⟩
  rw [← e] at h
  exact ⟨h.2, h.1⟩
theorem tab_told {s : ByteArray} (hs : s.size ≤ 100000) (hok : ScOk s (th4 s)) (j : Nat) (hj : s.size < j) : parseTab s = toldT (scNumVal s maxN (th2 s)) (readT s j [] (th4 s)) := by
  unfold parseTab
  refine toldT_is hs _ _ _ _ (by omega) (by omega) (lcheck_nil (scNumVal_le s maxN _)) (by simp) ?_ (fun he => by rw [List.length_nil]; exact th_at he)
  exact hok.1
/-- A life's end, by the byte that stands there. -/
theorem to45 (s : ByteArray) (c : Sc) : lfTo s c = (if (scNext s c).1 = 45 then scByte s 45 c else scNum s maxT c) ∧ lfToV s c = (if (scNext s c).1 = 45 then -1 else (scNumVal s maxT c : Int)) := by
  have h45 : (scNext s c).1 = 45 → scNext s c = (45, true) := fun h => by
    unfold scNext at h ⊢
    split at h
    · rename_i hc
      rw [if_pos hc]
      exact Prod.ext h rfl
    · simp at h
  unfold lfTo lfToV
  by_cases h : (scNext s c).1 = 45
  · rw [if_pos h, if_pos h, if_pos (h45 h), if_pos (h45 h)]
    exact ⟨rfl, rfl⟩
  · have h' : ¬ scNext s c = (45, true) := fun e => h (by rw [e])
    rw [if_neg h, if_neg h, if_neg h', if_neg h']
    exact ⟨rfl, rfl⟩
theorem byteT_iff {s : ByteArray} {c : Sc} {b : Nat} (hb : b < 256) : scByteOk s b c = decide ((scByte s b c).err = 0) := by
  by_cases he : c.err = 0
  · by_cases hp : s.size ≤ c.pos
    · rw [(scByte_end he hp).1, (scByte_end he hp).2]; rfl
    · have hp' : c.pos < s.size := by omega
      by_cases h : chAt s c.pos = b
      · rw [(scByte_hit he hp' hb h).1, (scByte_hit he hp' hb h).2, step_adv h, adv_err, he]; rfl
      · rw [(scByte_miss he hp' hb h).1, (scByte_miss he hp' hb h).2]; rfl
  · rw [(scByte_stop he).1, (scByte_stop he).2, decide_eq_false he]

end Go.Proofs.YtnffjafddbbjaaaGreatDoor

/-
  The contract of table's end: the time a life ends at, or none.
-/
namespace Go.Proofs.YtnffjafddbbjaaaGreatDoor
open Go.RowKit

set_option maxRecDepth 4000 in
set_option maxHeartbeats 3200000 in
theorem tabEnd_any (p : Nat) (s : ByteArray) (c : Sc) (w : World) (h : LSc w p s c) (hok : ScOk s c) (hs : s.size ≤ 1000000000) (hK : KVar w) : Calls Tryz.prog 97 #[.pointer (some ⟨p, 0, none⟩)] w fun r w' =>
    r = .returned (.int .i64 (lfToV s c)) ∧ LSc w' p s (lfTo s c) ∧ Fr w w' (fun k => k = p) := by
  obtain ⟨sg, pl⟩ := to45 s c
  have kn := fun z hz => scanNext_any p s c z hz
  have k3m := fun z hz => sB 45 45 rfl p s c z hz hok hs
  have k3p := fun z hz hk => sNum 4611686018427387903 4611686018427387903 rfl (by decide) p s c z hz hok hs hk
  have hT2 : scNumVal s maxT c ≤ 4611686018427387903 := scNumVal_le s maxT c
  change ∀ z, _ → _ → Calls _ _ _ _ fun r w' => r = .returned (.int .u64 (scNumVal s maxT c : Int)) ∧ LSc w' p s (scNum s maxT c) ∧ Fr z w' (fun k => k = p) at k3p
  obtain ⟨NB, hNB⟩ : ∃ x, x = (scNext s c).1 := ⟨_, rfl⟩
  obtain ⟨NO, hNO⟩ : ∃ x, x = (scNext s c).2 := ⟨_, rfl⟩
  obtain ⟨T, hT⟩ : ∃ x, x = scNumVal s maxT c := ⟨_, rfl⟩
  obtain ⟨O3m, hO3m⟩ : ∃ x, x = scByteOk s 45 c := ⟨_, rfl⟩
  rw [← hNB, ← hNO] at kn
  rw [← hNB] at sg pl
  rw [← hT] at k3p pl hT2
  rw [← hO3m] at k3m
  have wT : IntKind.i64.wrap (T : Int) = (T : Int) := IntWalk.i64_in _ (by omega)
  have H : Hid (LSc w p s c) := h
  have HK : Hid (KVar w) := hK
  have Hsg : Hid _ := sg
  have Hpl : Hid _ := pl
  have K3p : Hid _ := k3p
  have K3m : Hid _ := k3m
  clear hNB hNO hT hT2 hO3m sg pl k3p k3m h hK
  go_enter Tryz.func97, Tryz.ntmps97
  have kk := kn w H.out
  clear kn
  go_wp2_with fail
  refine kk.mono ?_
  rintro r w1 ⟨rfl, f⟩
  have H1 : Hid (LSc w1 p s c) := f.kept H.out (fun h => h)
  have HK1 : Hid (KVar w1) := HK.out.keep f
  have Hf1 : Hid (Fr w w1 (fun k => k = p)) := f.mono (fun _ _ h => h.elim)
  clear kk f H
  by_cases hm : NB = 45
  · have Hs2 : Hid (lfTo s c = scByte s 45 c) := by show _ = _; rw [Hsg.out, if_pos hm]
    have Hp2 : Hid (lfToV s c = -1) := by show _ = _; rw [Hpl.out, if_pos hm]
    subst hm
    have kk := K3m.out w1 H1.out
    go_wp2_with fail
    refine kk.mono ?_
    rintro r w2 ⟨rfl, h2, f⟩
    have H2 : Hid (LSc w2 p s (scByte s 45 c)) := h2
    have Hf2 : Hid (Fr w w2 (fun k => k = p)) := Hf1.out.trans f (fun _ _ h => h)
    clear kk h2 f
    go_wp2
    go_ret
    exact ⟨by rw [Hp2.out]; rfl, by rw [Hs2.out]; exact H2.out, Hf2.out⟩
  · have e43 : ((NB : Int) == 45) = false := by rw [beq_eq_false_iff_ne]; omega
    have e43n : (NB == 45) = false := by rw [beq_eq_false_iff_ne]; exact hm
    have Hs2 : Hid (lfTo s c = scNum s maxT c) := by show _ = _; rw [Hsg.out, if_neg hm]
    have Hp2 : Hid (lfToV s c = (T : Int)) := by show _ = _; rw [Hpl.out, if_neg hm]
    clear hm
    have kk := K3p.out w1 H1.out HK1.out
    go_wp2_with fail
    refine kk.mono ?_
    rintro r w2 ⟨rfl, h2, f⟩
    have H2 : Hid (LSc w2 p s (scNum s maxT c)) := h2
    have Hf2 : Hid (Fr w w2 (fun k => k = p)) := Hf1.out.trans f (fun _ _ h => h)
    clear kk h2 f
    go_wp2
    go_ret
    exact ⟨by rw [Hp2.out]; rfl, by rw [Hs2.out]; exact H2.out, Hf2.out⟩

end Go.Proofs.YtnffjafddbbjaaaGreatDoor

/-
  The contract of table's take: one line read; true where it is whole.
-/
namespace Go.Proofs.YtnffjafddbbjaaaGreatDoor
open Go.RowKit

theorem results_ctT {fn : Func} {p q : Tmp} {ty : TypeId} (h : fn.results = #[.cell p ty, .tmp q]) {tmps : Array Value} {P : Program} {w : World} {b o : Nat} {v u : Value} (hp : tmps.getD p undef = .pointer (some ⟨b, o, none⟩)) (hu : tmps.getD q undef = u) (hl : (loadVar ty ⟨b, o, none⟩).run P w = .ok v w) :
    (results fn tmps).run P w = .ok (.tuple #[v, u]) w := by
  have hp' : tmps[p]?.getD undef = .pointer (some ⟨b, o, none⟩) := by rw [← hp]; simp
  have hu' : tmps[q]?.getD undef = u := by rw [← hu]; simp
  simp [results, h, asAddr, hp', hu', hl]
theorem lfSz4 : (Tryz.prog.info? 82).map (·.size) = some 4 := by kernel_rfl
theorem to_ok {s : ByteArray} {c : Sc} (h : ScOk s c) : ScOk s (lfTo s c) := by
  unfold lfTo
  split
  · exact scByte_ok h _
  · exact scNum_ok h _
set_option maxRecDepth 4000 in
set_option maxHeartbeats 3200000 in
theorem tabTake_any (p : Nat) (s : ByteArray) (c : Sc) (w : World) (h : LSc w p s c) (hok : ScOk s c) (hs : s.size ≤ 1000000000) (hK : ∀ z, Fr w z (fun k => k = p) → KVar z) : Calls Tryz.prog 65 #[.pointer (some ⟨p, 0, none⟩)] w fun r w' =>
    (∃ X, r = .returned (.tuple #[lifeV X, .bool (decide ((lfEnd s c).err = 0))]) ∧ LfFit X ∧ ((lfEnd s c).err = 0 → X = lfVal s c)) ∧ LSc w' p s (lfEnd s c) ∧ Fr w w' (fun k => k = p) := by
  obtain ⟨U, hU⟩ : ∃ x, x = scNumVal s maxV c := ⟨_, rfl⟩
  obtain ⟨V, hV⟩ : ∃ x, x = scNumVal s maxV (lf2 s c) := ⟨_, rfl⟩
  obtain ⟨T, hT⟩ : ∃ x, x = scNumVal s maxT (lf4 s c) := ⟨_, rfl⟩
  obtain ⟨TO, hTO⟩ : ∃ x, x = lfToV s (lf6 s c) := ⟨_, rfl⟩
  have hT2 : T ≤ 4611686018427387903 := by rw [hT]; exact scNumVal_le s maxT _
  have hU2 : U ≤ 4294967295 := by rw [hU]; exact scNumVal_le s maxV _
  have hV2 : V ≤ 4294967295 := by rw [hV]; exact scNumVal_le s maxV _
  have hfit := lfVal_fit s c
  have hval : ((U, V), (T : Int), TO) = lfVal s c := by
    unfold lfVal
    rw [← hT, ← hU, ← hV, ← hTO]
  have Hval : Hid _ := hval
  have Hfit : Hid (LfFit ((U, V), (T : Int), TO)) := by show LfFit _; rw [hval]; exact hfit
  have wT : IntKind.i64.wrap (T : Int) = (T : Int) := IntWalk.i64_in _ (by omega)
  have wU : IntKind.u32.wrap (U : Int) = (U : Int) := by rw [IntKind.wrap_u32]; omega
  have wV : IntKind.u32.wrap (V : Int) = (V : Int) := by rw [IntKind.wrap_u32]; omega
  have ok1 : ScOk s (scNum s maxV c) := scNum_ok hok _
  have ok2 : ScOk s (lf2 s c) := scByte_ok ok1 _
  have ok3 : ScOk s (scNum s maxV (lf2 s c)) := scNum_ok ok2 _
  have ok4 : ScOk s (lf4 s c) := scByte_ok ok3 _
  have ok5 : ScOk s (scNum s maxT (lf4 s c)) := scNum_ok ok4 _
  have ok6 : ScOk s (lf6 s c) := scByte_ok ok5 _
  have ok7 : ScOk s (lfTo s (lf6 s c)) := to_ok ok6
  have k1 := fun z hz hk => sNum 4294967295 4294967295 rfl (by decide) p s c z hz hok hs hk
  have k2 := fun z hz => sB 32 32 rfl p s (scNum s maxV c) z hz ok1 hs
  have k3 := fun z hz hk => sNum 4294967295 4294967295 rfl (by decide) p s (lf2 s c) z hz ok2 hs hk
  have k4 := fun z hz => sB 32 32 rfl p s (scNum s maxV (lf2 s c)) z hz ok3 hs
  have k5 := fun z hz hk => sNum 4611686018427387903 4611686018427387903 rfl (by decide) p s (lf4 s c) z hz ok4 hs hk
  have k6 := fun z hz => sB 32 32 rfl p s (scNum s maxT (lf4 s c)) z hz ok5 hs
  have k7 := fun z hz hk => tabEnd_any p s (lf6 s c) z hz ok6 hs hk
  have k8 := fun z hz => sB 10 10 rfl p s (lfTo s (lf6 s c)) z hz ok7 hs
  rw [byteT_iff (b := 10) (by decide)] at k8
  change ∀ z, _ → _ → Calls _ _ _ _ fun r w' => r = .returned (.int .u64 (scNumVal s maxV c : Int)) ∧ LSc w' p s (scNum s maxV c) ∧ Fr z w' (fun k => k = p) at k1
  change ∀ z, _ → _ → Calls _ _ _ _ fun r w' => r = .returned (.int .u64 (scNumVal s maxV (lf2 s c) : Int)) ∧ LSc w' p s (scNum s maxV (lf2 s c)) ∧ Fr z w' (fun k => k = p) at k3
  change ∀ z, _ → _ → Calls _ _ _ _ fun r w' => r = .returned (.int .u64 (scNumVal s maxT (lf4 s c) : Int)) ∧ LSc w' p s (scNum s maxT (lf4 s c)) ∧ Fr z w' (fun k => k = p) at k5
  change ∀ z, _ → Calls _ _ _ _ fun r w' => _ ∧ LSc w' p s (lf2 s c) ∧ _ at k2
  change ∀ z, _ → Calls _ _ _ _ fun r w' => _ ∧ LSc w' p s (lf4 s c) ∧ _ at k4
  change ∀ z, _ → Calls _ _ _ _ fun r w' => _ ∧ LSc w' p s (lf6 s c) ∧ _ at k6
  change ∀ z, _ → Calls _ _ _ _ fun r w' => r = .returned (.bool (decide ((lfEnd s c).err = 0))) ∧ LSc w' p s (lfEnd s c) ∧ _ at k8
  rw [← hU] at k1
  rw [← hV] at k3
  rw [← hT] at k5
  rw [← hTO] at k7
  obtain ⟨O2, hO2⟩ : ∃ x, x = scByteOk s 32 (scNum s maxV c) := ⟨_, rfl⟩
  obtain ⟨O4, hO4⟩ : ∃ x, x = scByteOk s 32 (scNum s maxV (lf2 s c)) := ⟨_, rfl⟩
  obtain ⟨O6, hO6⟩ : ∃ x, x = scByteOk s 32 (scNum s maxT (lf4 s c)) := ⟨_, rfl⟩
  rw [← hO2] at k2
  rw [← hO4] at k4
  rw [← hO6] at k6
  obtain ⟨e8, he8⟩ : ∃ x, x = lfEnd s c := ⟨_, rfl⟩
  rw [← he8] at k8 ⊢
  obtain ⟨OK, hOK⟩ : ∃ x, x = decide (e8.err = 0) := ⟨_, rfl⟩
  rw [← hOK] at k8 ⊢
  have HOK : Hid _ := hOK
  have H : Hid (LSc w p s c) := h
  have HK : Hid (∀ z, Fr w z (fun k => k = p) → KVar z) := hK
  have K1 : Hid _ := k1
  have K2 : Hid _ := k2
  have K3 : Hid _ := k3
  have K4 : Hid _ := k4
  have K5 : Hid _ := k5
  have K6 : Hid _ := k6
  have K7 : Hid _ := k7
  have K8 : Hid _ := k8
  clear k1 k2 k3 k4 k5 k6 k7 k8 h hK hok ok1 ok2 ok3 ok4 ok5 ok6 ok7 hT hU hV hTO hO2 hO4 hO6 hOK he8 hT2 hU2 hV2 hval hfit
  go_enter Tryz.func65, Tryz.ntmps65
  go_upto_region 1 with fail
  obtain ⟨q, hq⟩ : ∃ q, q = w.heap.size := ⟨_, rfl⟩
  obtain ⟨w1, hw1⟩ : ∃ x, x = w.alloc (.cells #[.int .u32 0, .int .u32 0, .int .i64 0, .int .i64 0] 82) := ⟨_, rfl⟩
  rw [← hw1, ← hq]
  have Hq1 : Hid (w1.heap[q]? = some (.cells #[.int .u32 0, .int .u32 0, .int .i64 0, .int .i64 0] 82 (0, 0))) := by show _ = _; rw [hw1, hq]; exact heap_alloc_new _ _
  have Hf1 : Hid (Fr w w1 (fun k => k = p)) := by show Fr _ _ _; rw [hw1]; exact (Fr.refl _ _).alloc _
  have Hqp : Hid (q ≠ p) := by show _ ≠ _; have := lt_of_block H.out; omega
  have Hqw : Hid (w.heap.size ≤ q) := by show _ ≤ _; omega
  have Hr1 : Hid (LSc w1 p s c) := by show LSc _ _ _ _; rw [hw1]; exact blk_alloc _ H.out
  clear hw1 hq H
  have kk := K1.out w1 Hr1.out (HK.out _ Hf1.out)
  go_wp2_with fail
  refine kk.mono ?_
  rintro r w2 ⟨rfl, r2, f2⟩
  have Hr2 : Hid (LSc w2 p s (scNum s maxV c)) := r2
  have Hq2 : Hid (w2.heap[q]? = some (.cells #[.int .u32 0, .int .u32 0, .int .i64 0, .int .i64 0] 82 (0, 0))) := f2.kept Hq1.out (fun h => Hqp.out h)
  have Hf2 : Hid (Fr w w2 (fun k => k = p)) := Hf1.out.trans f2 (fun _ _ h => h)
  clear kk r2 f2
  have kk := K2.out w2 Hr2.out 
  go_wp2_with fail
  refine kk.mono ?_
  rintro r w3 ⟨rfl, r2, f2⟩
  have Hr3 : Hid (LSc w3 p s (lf2 s c)) := r2
  have Hq3 : Hid (w3.heap[q]? = some (.cells #[.int .u32 0, .int .u32 0, .int .i64 0, .int .i64 0] 82 (0, 0))) := f2.kept Hq2.out (fun h => Hqp.out h)
  have Hf3 : Hid (Fr w w3 (fun k => k = p)) := Hf2.out.trans f2 (fun _ _ h => h)
  clear kk r2 f2
  have kk := K3.out w3 Hr3.out (HK.out _ Hf3.out)
  go_wp2_with fail
  refine kk.mono ?_
  rintro r w4 ⟨rfl, r2, f2⟩
  have Hr4 : Hid (LSc w4 p s (scNum s maxV (lf2 s c))) := r2
  have Hq4 : Hid (w4.heap[q]? = some (.cells #[.int .u32 0, .int .u32 0, .int .i64 0, .int .i64 0] 82 (0, 0))) := f2.kept Hq3.out (fun h => Hqp.out h)
  have Hf4 : Hid (Fr w w4 (fun k => k = p)) := Hf3.out.trans f2 (fun _ _ h => h)
  clear kk r2 f2
  have kk := K4.out w4 Hr4.out 
  go_wp2_with fail
  refine kk.mono ?_
  rintro r w5 ⟨rfl, r2, f2⟩
  have Hr5 : Hid (LSc w5 p s (lf4 s c)) := r2
  have Hq5 : Hid (w5.heap[q]? = some (.cells #[.int .u32 0, .int .u32 0, .int .i64 0, .int .i64 0] 82 (0, 0))) := f2.kept Hq4.out (fun h => Hqp.out h)
  have Hf5 : Hid (Fr w w5 (fun k => k = p)) := Hf4.out.trans f2 (fun _ _ h => h)
  clear kk r2 f2
  have kk := K5.out w5 Hr5.out (HK.out _ Hf5.out)
  go_wp2_with fail
  refine kk.mono ?_
  rintro r w6 ⟨rfl, r2, f2⟩
  have Hr6 : Hid (LSc w6 p s (scNum s maxT (lf4 s c))) := r2
  have Hq6 : Hid (w6.heap[q]? = some (.cells #[.int .u32 0, .int .u32 0, .int .i64 0, .int .i64 0] 82 (0, 0))) := f2.kept Hq5.out (fun h => Hqp.out h)
  have Hf6 : Hid (Fr w w6 (fun k => k = p)) := Hf5.out.trans f2 (fun _ _ h => h)
  clear kk r2 f2
  have kk := K6.out w6 Hr6.out 
  go_wp2_with fail
  refine kk.mono ?_
  rintro r w7 ⟨rfl, r2, f2⟩
  have Hr7 : Hid (LSc w7 p s (lf6 s c)) := r2
  have Hq7 : Hid (w7.heap[q]? = some (.cells #[.int .u32 0, .int .u32 0, .int .i64 0, .int .i64 0] 82 (0, 0))) := f2.kept Hq6.out (fun h => Hqp.out h)
  have Hf7 : Hid (Fr w w7 (fun k => k = p)) := Hf6.out.trans f2 (fun _ _ h => h)
  clear kk r2 f2
  have kk := K7.out w7 Hr7.out (HK.out _ Hf7.out)
  go_wp2_with fail
  refine kk.mono ?_
  rintro r w8 ⟨rfl, r2, f2⟩
  have Hr8 : Hid (LSc w8 p s (lfTo s (lf6 s c))) := r2
  have Hq8 : Hid (w8.heap[q]? = some (.cells #[.int .u32 0, .int .u32 0, .int .i64 0, .int .i64 0] 82 (0, 0))) := f2.kept Hq7.out (fun h => Hqp.out h)
  have Hf8 : Hid (Fr w w8 (fun k => k = p)) := Hf7.out.trans f2 (fun _ _ h => h)
  clear kk r2 f2
  have kk := K8.out w8 Hr8.out 
  go_wp2_with fail
  refine kk.mono ?_
  rintro r w9 ⟨rfl, r2, f2⟩
  have Hr9 : Hid (LSc w9 p s (e8)) := r2
  have Hq9 : Hid (w9.heap[q]? = some (.cells #[.int .u32 0, .int .u32 0, .int .i64 0, .int .i64 0] 82 (0, 0))) := f2.kept Hq8.out (fun h => Hqp.out h)
  have Hf9 : Hid (Fr w w9 (fun k => k = p)) := Hf8.out.trans f2 (fun _ _ h => h)
  clear kk r2 f2
  cases OK
  · have Hne : Hid (e8.err ≠ 0) := fun h => by have := HOK.out; rw [decide_eq_true h] at this; cases this
    obtain ⟨z0, z1, z2, z3⟩ := four_cells Hq9.out
    have y0 := four_free (k := 0) Hq9.out
    have y1 := four_free (k := 1) Hq9.out
    have y2 := four_free (k := 2) Hq9.out
    have y3 := four_free (k := 3) Hq9.out
    have Hrow : Hid _ := four_setD (four_setC (four_setB (four_setA Hq9.out (u := .int .u32 0)) (u := .int .u32 0)) (u := .int .i64 0)) (u := .int .i64 0)
    have hfz : Fr w9 ((((w9.setCell ⟨q, 0, none⟩ (.int .u32 0)).setCell ⟨q, 1, none⟩ (.int .u32 0)).setCell ⟨q, 2, none⟩ (.int .i64 0)).setCell ⟨q, 3, none⟩ (.int .i64 0)) (fun k => k = q) := (((fr_put _ _ _ _).trans (fr_put _ _ _ _) (fun _ _ h => h)).trans (fr_put _ _ _ _) (fun _ _ h => h)).trans (fr_put _ _ _ _) (fun _ _ h => h)
    have Hrz : Hid (LSc ((((w9.setCell ⟨q, 0, none⟩ (.int .u32 0)).setCell ⟨q, 1, none⟩ (.int .u32 0)).setCell ⟨q, 2, none⟩ (.int .i64 0)).setCell ⟨q, 3, none⟩ (.int .i64 0)) p s e8) := hfz.kept Hr9.out (fun h => Hqp.out h.symm)
    have Hfz : Hid (Fr w ((((w9.setCell ⟨q, 0, none⟩ (.int .u32 0)).setCell ⟨q, 1, none⟩ (.int .u32 0)).setCell ⟨q, 2, none⟩ (.int .i64 0)).setCell ⟨q, 3, none⟩ (.int .i64 0)) (fun k => k = p)) := Hf9.out.newer hfz (fun k hk => by rw [hk]; exact Hqw.out)
    clear hfz
    go_wp2_with fail
    refine bodyPost_ret (results_ctT rfl rfl rfl (run_loadVar_row _ _ 82 _ _ (0, 0) _ Hrow.out Tryz.underlying82 rfl lfSz4)) rfl ?_
    exact ⟨⟨((0, 0), 0, 0), rfl, ⟨⟨by decide, by decide⟩, ⟨by decide, by decide⟩, by decide, by decide⟩, fun h => absurd h Hne.out⟩, Hrz.out, Hfz.out⟩
  · skip
    obtain ⟨z0, z1, z2, z3⟩ := four_cells Hq9.out
    have y0 := four_free (k := 0) Hq9.out
    have y1 := four_free (k := 1) Hq9.out
    have y2 := four_free (k := 2) Hq9.out
    have y3 := four_free (k := 3) Hq9.out
    have Hrow : Hid _ := four_setD (four_setC (four_setB (four_setA Hq9.out (u := .int .u32 (U : Int))) (u := .int .u32 (V : Int))) (u := .int .i64 (T : Int))) (u := .int .i64 TO)
    have hfz : Fr w9 ((((w9.setCell ⟨q, 0, none⟩ (.int .u32 (U : Int))).setCell ⟨q, 1, none⟩ (.int .u32 (V : Int))).setCell ⟨q, 2, none⟩ (.int .i64 (T : Int))).setCell ⟨q, 3, none⟩ (.int .i64 TO)) (fun k => k = q) := (((fr_put _ _ _ _).trans (fr_put _ _ _ _) (fun _ _ h => h)).trans (fr_put _ _ _ _) (fun _ _ h => h)).trans (fr_put _ _ _ _) (fun _ _ h => h)
    have Hrz : Hid (LSc ((((w9.setCell ⟨q, 0, none⟩ (.int .u32 (U : Int))).setCell ⟨q, 1, none⟩ (.int .u32 (V : Int))).setCell ⟨q, 2, none⟩ (.int .i64 (T : Int))).setCell ⟨q, 3, none⟩ (.int .i64 TO)) p s e8) := hfz.kept Hr9.out (fun h => Hqp.out h.symm)
    have Hfz : Hid (Fr w ((((w9.setCell ⟨q, 0, none⟩ (.int .u32 (U : Int))).setCell ⟨q, 1, none⟩ (.int .u32 (V : Int))).setCell ⟨q, 2, none⟩ (.int .i64 (T : Int))).setCell ⟨q, 3, none⟩ (.int .i64 TO)) (fun k => k = p)) := Hf9.out.newer hfz (fun k hk => by rw [hk]; exact Hqw.out)
    clear hfz
    go_wp2_with fail
    refine bodyPost_ret (results_ctT rfl rfl rfl (run_loadVar_row _ _ 82 _ _ (0, 0) _ Hrow.out Tryz.underlying82 rfl lfSz4)) rfl ?_
    exact ⟨⟨_, rfl, Hfit.out, fun _ => Hval.out⟩, Hrz.out, Hfz.out⟩

end Go.Proofs.YtnffjafddbbjaaaGreatDoor

/-
  What a parser answers, as values.
-/
namespace Go.Proofs.YtnffjafddbbjaaaGreatDoor
open Go.RowKit

theorem results_cct {fn : Func} {p q u : Tmp} {ty ty' : TypeId} (h : fn.results = #[.cell p ty, .cell q ty', .tmp u]) {tmps : Array Value} {P : Program} {w : World} {b b' : Nat} {v v' : Value} (hp : tmps.getD p undef = .pointer (some ⟨b, 0, none⟩)) (hq : tmps.getD q undef = .pointer (some ⟨b', 0, none⟩)) (hl : (loadVar ty ⟨b, 0, none⟩).run P w = .ok v w) (hl' : (loadVar ty' ⟨b', 0, none⟩).run P w = .ok v' w) :
    (results fn tmps).run P w = .ok (.tuple #[v, v', tmps.getD u undef]) w := by
  have hp' : tmps[p]?.getD undef = .pointer (some ⟨b, 0, none⟩) := by rw [← hp]; simp
  have hq' : tmps[q]?.getD undef = .pointer (some ⟨b', 0, none⟩) := by rw [← hq]; simp
  simp only [results, h]
  simp [Sem.run_bind, asAddr, hp', hq', hl, hl', Result.andThen]
theorem placeSize2 : (Tryz.prog.info? 38).map (·.size) = some 2 := by kernel_rfl
/-- A log's answer, as values. -/
def placeR (R : LogR) : Value := .agg #[.int .i64 (R.line : Int), .int .i64 (R.col : Int)]

end Go.Proofs.YtnffjafddbbjaaaGreatDoor

/-
  The contract of table's read: the whole lines, up to the end or the first error.
-/
namespace Go.Proofs.YtnffjafddbbjaaaGreatDoor
open Go.RowKit

theorem sWordTab (p : Nat) (s : ByteArray) (c : Sc) (w : World) (h : LSc w p s c) (hok : ScOk s c) (hs : s.size ≤ 1000000000) : Calls Tryz.prog 61 #[.pointer (some ⟨p, 0, none⟩), .string ⟨#[116, 97, 98, 108, 101]⟩] w fun r w' => r = .returned (.bool (scWordOk s (strOf tabW) c)) ∧ LSc w' p s (scWord s (strOf tabW) c) ∧ Fr w w' (fun k => k = p) :=
  scanWord_any p s (strOf tabW) c w h hok hs
theorem sNumNT (p : Nat) (s : ByteArray) (c : Sc) (w : World) (h : LSc w p s c) (hok : ScOk s c) (hs : s.size ≤ 1000000000) (hK : KVar w) : Calls Tryz.prog 63 #[.pointer (some ⟨p, 0, none⟩), .int .u64 4294967296] w fun r w' => r = .returned (.int .u64 (scNumVal s maxN c : Int)) ∧ LSc w' p s (scNum s maxN c) ∧ Fr w w' (fun k => k = p) :=
  sNum 4294967296 4294967296 rfl (by decide) p s c w h hok hs hK
theorem th4_ok (s : ByteArray) : ScOk s (th4 s) := by
  unfold th4 th2
  exact scByte_ok (scNum_ok (scByte_ok (scWord_ok (scNew_ok s) _) _) _) _

set_option maxRecDepth 4000 in
set_option maxHeartbeats 6400000 in
theorem tabRead_any (p : Nat) (s : ByteArray) (w : World) (h : LSc w p s ⟨0, 1, 1, 0⟩) (hs : s.size ≤ 100000) (hK : ∀ z, Fr w z (fun k => k = p) → KVar z) : Calls Tryz.prog 33 #[.pointer (some ⟨p, 0, none⟩)] w fun r w' =>
    (∃ v', r = .returned (.tuple #[.int .u64 (scNumVal s maxN (th2 s) : Int), v']) ∧ RdL w' v' (readT s (s.size + 2) [] (th4 s)).1 ∧ ∀ k, v'.ownBlock = some k → w.heap.size ≤ k) ∧ (∀ x ∈ (readT s (s.size + 2) [] (th4 s)).1, LfFit x) ∧ LSc w' p s (readT s (s.size + 2) [] (th4 s)).2 ∧ Fr w w' (fun k => k = p) := by
  obtain ⟨R, hR⟩ : ∃ R, R = readT s (s.size + 2) [] (th4 s) := ⟨_, rfl⟩
  rw [← hR]
  have hs9 : s.size ≤ 1000000000 := by omega
  have Hs9 : Hid _ := hs9
  have Hs : Hid _ := hs
  have HK : Hid (∀ z, Fr w z (fun k => k = p) → KVar z) := hK
  obtain ⟨c1, hc1⟩ : ∃ x, x = scWord s (strOf tabW) ⟨0, 1, 1, 0⟩ := ⟨_, rfl⟩
  obtain ⟨c2, hc2⟩ : ∃ x, x = th2 s := ⟨_, rfl⟩
  obtain ⟨n, hn⟩ : ∃ x, x = scNumVal s maxN c2 := ⟨_, rfl⟩
  obtain ⟨c3, hc3⟩ : ∃ x, x = scNum s maxN c2 := ⟨_, rfl⟩
  obtain ⟨c4, hc4⟩ : ∃ x, x = th4 s := ⟨_, rfl⟩
  have e2 : c2 = scByte s 32 c1 := by rw [hc2, hc1]; rfl
  have e4 : c4 = scByte s 10 c3 := by rw [hc4, hc3, hc2]; rfl
  have ok0 := scNew_ok s
  have ok1 : ScOk s c1 := by rw [hc1]; exact scWord_ok ok0 _
  have ok2 : ScOk s c2 := by rw [e2]; exact scByte_ok ok1 _
  have ok3 : ScOk s c3 := by rw [hc3]; exact scNum_ok ok2 _
  have Ok4 : Hid (ScOk s c4) := by show ScOk _ _; rw [e4]; exact scByte_ok ok3 _
  rw [← hc4] at hR
  rw [← hc2, ← hn]
  have Hpar : Hid (R = readT s (s.size + 2) [] c4) := hR
  obtain ⟨O1, hO1⟩ : ∃ x, x = scWordOk s (strOf tabW) ⟨0, 1, 1, 0⟩ := ⟨_, rfl⟩
  obtain ⟨O2, hO2⟩ : ∃ x, x = scByteOk s 32 c1 := ⟨_, rfl⟩
  obtain ⟨O4, hO4⟩ : ∃ x, x = scByteOk s 10 c3 := ⟨_, rfl⟩
  have k1 := fun z hz => sWordTab p s ⟨0, 1, 1, 0⟩ z hz ok0 hs9
  have k2 := fun z hz => sB 32 32 rfl p s c1 z hz ok1 hs9
  have k3 := fun z hz hk => sNumNT p s c2 z hz ok2 hs9 hk
  have k4 := fun z hz => sB 10 10 rfl p s c3 z hz ok3 hs9
  rw [← hO1, ← hc1] at k1
  rw [← hO2, ← e2] at k2
  rw [← hn, ← hc3] at k3
  rw [← hO4, ← e4] at k4
  have Hr0 : Hid (LSc w p s ⟨0, 1, 1, 0⟩) := h
  have Hf0 : Hid (Fr w w (fun k => k = p)) := Fr.refl _ _
  have Hpw : Hid (p < w.heap.size) := lt_of_block h
  clear hR hc1 hc2 hn hc3 hc4 e2 e4 hO1 hO2 hO4 ok0 ok1 ok2 ok3 h hK
  go_enter Tryz.func33, Tryz.ntmps33
  have kk := k1 w Hr0.out 
  clear k1
  go_wp2_with fail
  refine kk.mono ?_
  rintro r w1 ⟨rfl, r2, f2⟩
  have Hr1 : Hid (LSc w1 p s c1) := r2
  have Hf1 : Hid (Fr w w1 (fun k => k = p)) := Hf0.out.trans f2 (fun _ _ h => h)
  clear kk r2 f2
  have kk := k2 w1 Hr1.out 
  clear k2
  go_wp2_with fail
  refine kk.mono ?_
  rintro r w2 ⟨rfl, r2, f2⟩
  have Hr2 : Hid (LSc w2 p s c2) := r2
  have Hf2 : Hid (Fr w w2 (fun k => k = p)) := Hf1.out.trans f2 (fun _ _ h => h)
  clear kk r2 f2
  have kk := k3 w2 Hr2.out (HK.out _ Hf2.out)
  clear k3
  go_wp2_with fail
  refine kk.mono ?_
  rintro r w3 ⟨rfl, r2, f2⟩
  have Hr3 : Hid (LSc w3 p s c3) := r2
  have Hf3 : Hid (Fr w w3 (fun k => k = p)) := Hf2.out.trans f2 (fun _ _ h => h)
  clear kk r2 f2
  have kk := k4 w3 Hr3.out 
  clear k4
  go_wp2_with fail
  refine kk.mono ?_
  rintro r w4 ⟨rfl, r2, f2⟩
  have Hr4 : Hid (LSc w4 p s c4) := r2
  have Hf4 : Hid (Fr w w4 (fun k => k = p)) := Hf3.out.trans f2 (fun _ _ h => h)
  clear kk r2 f2
  go_wp2_with fail
  go_loopg [5] (s.size + 2) (fun g U wr => ∃ (c : Sc) (ls : List Lf) (a0 : Option Addr) (m0 c0 : Nat), U = .slice a0 m0 c0 ∧ (c.err = 0 → s.size - c.pos < g) ∧ 0 < g ∧ readT s g ls c = R ∧ LSc wr p s c ∧ ScOk s c ∧ OwnL wr (.slice a0 m0 c0) ls ∧ (∀ k, (Value.slice a0 m0 c0).ownBlock = some k → w.heap.size ≤ k) ∧ (c.err = 0 → ls.length ≤ c.pos) ∧ (∀ x ∈ ls, LfFit x) ∧ Fr w wr (fun k => k = p))
  case atStart => exact ⟨c4, [], _, _, _, rfl, fun _ => by omega, by omega, Hpar.out.symm, Hr4.out, Ok4.out, OwnL.nil _, fun k hk => (by simp [Value.ownBlock] at hk), fun _ => by simp, fun x hx => (by simp at hx), Hf4.out⟩
  case round =>
    obtain ⟨c, ls, a0, m0, c0, rfl, hg, h0, hpar, hr, hok, hov, hvn, hel, hfit, hf⟩ := hrel
    obtain ⟨k, rfl⟩ : ∃ k, gk = k + 1 := ⟨gk - 1, by omega⟩
    have Hg : Hid (c.err = 0 → s.size - c.pos < k + 1) := hg
    have Hpe : Hid (readT s (k + 1) ls c = R) := hpar
    have Hr : Hid (LSc wr p s c) := hr
    have Hok : Hid (ScOk s c) := hok
    have Hov : Hid (OwnL wr (.slice a0 m0 c0) ls) := hov
    have Hvn : Hid (∀ k, (Value.slice a0 m0 c0).ownBlock = some k → w.heap.size ≤ k) := hvn
    have Hel : Hid (c.err = 0 → ls.length ≤ c.pos) := hel
    have Hfit : Hid _ := hfit
    have Hf : Hid (Fr w wr (fun k => k = p)) := hf
    clear hg h0 hpar hr hok hov hvn hel hfit hf
    have kn := scanNext_any p s c wr Hr.out
    obtain ⟨NB, hNB⟩ : ∃ x, x = (scNext s c).1 := ⟨_, rfl⟩
    obtain ⟨NO, hNO⟩ : ∃ x, x = (scNext s c).2 := ⟨_, rfl⟩
    rw [← hNB, ← hNO] at kn
    have HNO : Hid _ := hNO
    clear hNB hNO
    cases NO
    · have HRR : Hid (R = (ls, c)) := by show _ = _; rw [← Hpe.out, readT_stop _ HNO.out.symm]
      go_wp2_with fail
      refine kn.mono ?_
      rintro r x1 ⟨rfl, g⟩
      have Hr1 : Hid (LSc x1 p s c) := g.kept Hr.out (fun h => h)
      have Hox : Hid (OwnL x1 (.slice a0 m0 c0) ls) := Hov.out.frame g (fun _ _ h => h)
      have Hfx : Hid (Fr w x1 (fun k => k = p)) := Hf.out.trans g (fun _ _ h => h.elim)
      clear kn g
      go_wp2
      obtain rfl := HRR.out
      go_ret2
      exact ⟨⟨_, rfl, Hox.out.rd, Hvn.out⟩, Hfit.out, Hr1.out, Hfx.out⟩
    have hin : c.err = 0 ∧ c.pos < s.size := nextT_in HNO.out.symm
    have Hin : Hid (c.err = 0 ∧ c.pos < s.size) := hin
    clear hin
    go_wp2_with fail
    refine kn.mono ?_
    rintro r x1 ⟨rfl, g⟩
    have Hr1 : Hid (LSc x1 p s c) := g.kept Hr.out (fun h => h)
    have Hov1 : Hid (OwnL x1 (.slice a0 m0 c0) ls) := Hov.out.frame g (fun _ _ h => h)
    have Hf1' : Hid (Fr w x1 (fun k => k = p)) := Hf.out.trans g (fun _ _ h => h.elim)
    clear kn g Hr Hov Hf
    obtain ⟨c', hc'⟩ : ∃ x, x = lfEnd s c := ⟨_, rfl⟩
    have ke := tabTake_any p s c x1 Hr1.out Hok.out Hs9.out (fun z hz => HK.out z (Hf1'.out.trans hz (fun _ _ h => h)))
    rw [← hc'] at ke
    have Hc' : Hid _ := hc'
    clear hc'
    obtain ⟨OK, hOK⟩ : ∃ x, x = decide (c'.err = 0) := ⟨_, rfl⟩
    rw [← hOK] at ke
    have HOK : Hid _ := hOK
    clear hOK
    go_wp2_with fail
    refine ke.mono ?_
    rintro r x3 ⟨⟨⟨⟨u, vv⟩, fr, tt⟩, rfl, hEf, hval⟩, r3, g⟩
    have HEf : Hid (LfFit ((u, vv), fr, tt)) := hEf
    have Hval : Hid (c'.err = 0 → ((u, vv), fr, tt) = lfVal s c) := hval
    clear hEf hval
    unfold lifeV
    dsimp only
    have Hr3' : Hid (LSc x3 p s c') := r3
    have Hov3 : Hid (OwnL x3 (.slice a0 m0 c0) ls) := Hov1.out.frame g (fun k hk h => by have h1 := Hvn.out k hk; have h2 := Hpw.out; omega)
    have Hf3' : Hid (Fr w x3 (fun k => k = p)) := Hf1'.out.trans g (fun _ _ h => h)
    clear ke r3 g Hr1 Hov1 Hf1'
    go_upto_region 10 with fail
    obtain ⟨q10, hq10⟩ : ∃ q, q = x3.heap.size := ⟨_, rfl⟩
    obtain ⟨x4, hx4⟩ : ∃ x, x = x3.alloc (.cells #[.int .u32 (u : Int), .int .u32 (vv : Int), .int .i64 fr, .int .i64 tt] 82) := ⟨_, rfl⟩
    rw [← hx4, ← hq10]
    have g : Fr x3 x4 (fun _ => False) := by rw [hx4]; exact (Fr.refl _ _).alloc _
    have Hq10 : Hid (x4.heap[q10]? = some (.cells #[.int .u32 (u : Int), .int .u32 (vv : Int), .int .i64 fr, .int .i64 tt] 82 (0, 0))) := by show _ = _; rw [hx4, hq10]; exact heap_alloc_new _ _
    have Hr4' : Hid (LSc x4 p s c') := g.kept Hr3'.out (fun h => h)
    have Hov4 : Hid (OwnL x4 (.slice a0 m0 c0) ls) := Hov3.out.frame g (fun _ _ h => h)
    have Hf4' : Hid (Fr w x4 (fun k => k = p)) := Hf3'.out.trans g (fun _ _ h => h.elim)
    have Hok' : Hid (ScOk s c') := by show ScOk _ _; rw [Hc'.out]; exact lfEnd_ok Hok.out
    clear g hq10 hx4 Hr3' Hov3 Hf3'
    cases OK
    · have Hne : Hid (c'.err ≠ 0) := fun h => by have := HOK.out; rw [decide_eq_true h] at this; cases this
      have Hst : Hid (readT s k ls c' = R) := by
        show _ = _
        rw [← Hpe.out, readT_err HNO.out.symm (by rw [← Hc'.out]; exact Hne.out) k, ← Hc'.out]
      go_wp2_with fail
      go_roundg k
      case rel => exact ⟨c', ls, _, _, _, rfl, fun h => absurd h Hne.out, by have h1 := Hg.out Hin.out.1; have h2 := Hin.out.2; omega, Hst.out, Hr4'.out, Hok'.out, Hov4.out, Hvn.out, fun h => absurd h Hne.out, Hfit.out, Hf4'.out⟩
      case measure => omega
    have he' : c'.err = 0 := of_decide_eq_true HOK.out.symm
    have He' : Hid (c'.err = 0) := he'
    clear he'
    have HE : Hid (((u, vv), fr, tt) = lfVal s c) := Hval.out He'.out
    obtain ⟨i0, i1, i2, i3⟩ := four_cells Hq10.out
    have hel5 : ls.length ≤ 900000 := by have h1 := Hel.out Hin.out.1; have h2 := Hin.out.2; have h3 := Hs.out; omega
    obtain ⟨v5, x5, hrun5, ho5, hf5, hm5⟩ := app_life x4 _ ls ((u, vv), fr, tt) Hov4.out (by omega)
    obtain ⟨a5, c5, hv5, -⟩ := ho5.rd.form
    obtain ⟨m5, hm5'⟩ : ∃ m, m = (ls ++ [((u, vv), fr, tt)]).length := ⟨_, rfl⟩
    rw [← hm5'] at hv5
    subst hv5
    have g45 : Fr x4 x5 (fun k => (Value.slice a0 m0 c0).ownBlock = some k) := ((Fr.refl x4 (fun k => (Value.slice a0 m0 c0).ownBlock = some k)).alloc _).trans hf5 (fun _ _ h => h)
    have Hr5 : Hid (LSc x5 p s c') := g45.kept Hr4'.out (fun h => by have h1 := Hvn.out _ h; have h2 := Hpw.out; omega)
    have Ho5 : Hid (OwnL x5 (.slice a5 m5 c5) (ls ++ [((u, vv), fr, tt)])) := ho5
    have Hvn5 : Hid (∀ k, (Value.slice a5 m5 c5).ownBlock = some k → w.heap.size ≤ k) := fun k hk => by
      rcases hm5 k hk with h2 | h2
      · exact Hvn.out k h2
      · have h3 := Hf4'.out.size; omega
    have Hf5' : Hid (Fr w x5 (fun k => k = p)) := Hf4'.out.newer g45 (fun k hk => Hvn.out k hk)
    clear ho5 hf5 hm5 hm5' g45 hel5
    have Hfit6 : Hid (∀ x ∈ ls ++ [((u, vv), fr, tt)], LfFit x) := fun x hx => by
      rcases List.mem_append.1 hx with hx | hx
      · exact Hfit.out x hx
      · rw [List.mem_singleton] at hx; rw [hx]; exact HEf.out
    have Hst : Hid (readT s k (ls ++ [((u, vv), fr, tt)]) c' = R) := by
      show _ = _
      rw [← Hpe.out, readT_step HNO.out.symm (by rw [← Hc'.out]; exact He'.out), ← HE.out, ← Hc'.out]
    have Hpos : Hid (c.pos + 1 ≤ c'.pos ∧ c'.pos ≤ s.size) := by
      obtain ⟨-, -, j1, j2⟩ := lfEnd_at Hin.out.1 (Nat.le_of_lt Hin.out.2) (by rw [← Hc'.out]; exact He'.out)
      rw [← Hc'.out] at j1 j2
      exact ⟨j1, j2⟩
    go_wp2_with (at_builtin; refine wpList_append_run rfl (.tmp 33) (.tmp 35) 51 rfl rfl rfl hrun5 ?_)
    go_roundg k
    case rel => exact ⟨c', _, _, _, _, rfl, fun _ => by have h1 := Hg.out Hin.out.1; have h2 := Hpos.out; have h3 := Hin.out.2; omega, by have h1 := Hg.out Hin.out.1; have h2 := Hin.out.2; omega, Hst.out, Hr5.out, Hok'.out, Ho5.out, Hvn5.out, fun _ => by have h1 := Hel.out Hin.out.1; have h2 := Hpos.out; rw [List.length_append, List.length_singleton]; omega, Hfit6.out, Hf5'.out⟩
    case measure => omega

end Go.Proofs.YtnffjafddbbjaaaGreatDoor
