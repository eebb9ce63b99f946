/-
  Texts of ours, joined: TOk QText QPre Four QScan QPass.
-/
import Derived.Test.YtnffjafddbbjaaaGreatDoorJ1
import Derived.Lib.Strings
import Derived.Lib.ParseIntBCases
import Derived.Laws.Rows
import Derived.Lib.ConvBytes

/-
  The numbers of a scanner's state stay within the text's length: plain mathematics.
-/
namespace Go.Proofs.YtnffjafddbbjaaaGreatDoor
open Go.RowKit

/-- A place, as a value. -/
def placeV (c : Sc) : Value := .agg #[.int .i64 (c.line : Int), .int .i64 (c.col : Int)]

theorem scMove_ok (s : ByteArray) : ∀ (n : Nat) (c : Sc), ScOk s c → c.pos + n ≤ s.size → ScOk s (scMove s c n)
  | 0, c, h, _ => h
  | n + 1, c, h, hn => by
    rw [scMove]
    refine scMove_ok s n _ ?_ (by rw [scStep_pos]; omega)
    unfold ScOk at h ⊢
    unfold scStep
    split <;> dsimp only <;> omega
theorem scFail_ok {s : ByteArray} {c : Sc} (h : ScOk s c) (e : Nat) : ScOk s (scFail c e) := by
  unfold scFail
  split
  · exact h
  · exact h
theorem scWord_ok {s : ByteArray} {c : Sc} (h : ScOk s c) (v : ByteArray) : ScOk s (scWord s v c) := by
  unfold scWord
  split
  · split
    case isTrue hw => exact scMove_ok s _ c h (by have := wordErr_fits s v c.pos v.size 0 (by have := h.1; omega) hw; omega)
    case isFalse => exact h
  · exact h
theorem scNum_ok {s : ByteArray} {c : Sc} (h : ScOk s c) (most : Nat) : ScOk s (scNum s most c) := by
  unfold scNum
  split
  · split
    · exact h
    · split
      · exact h
      · cases numVal s c.pos most 0 0 (scDigs s c) with
        | none => exact h
        | some x => exact scMove_ok s _ c h (by have := digN_le s (s.size - c.pos) c.pos; have := h.1; unfold scDigs; omega)
  · exact h
theorem scNew_ok (s : ByteArray) : ScOk s ⟨0, 1, 1, 0⟩ := ⟨Nat.zero_le _, Nat.le_refl _, Nat.le_refl _⟩

end Go.Proofs.YtnffjafddbbjaaaGreatDoor

/-
  What stands in a text from a place on; words and digits by lists of bytes: plain mathematics.
-/
namespace Go.Proofs.YtnffjafddbbjaaaGreatDoor
open Go.RowKit

theorem chAt_data (s : ByteArray) (i : Nat) : chAt s i = ((s.data.toList[i]?).getD 0).toNat := by
  unfold chAt
  by_cases h : i < s.size
  · rw [ByteArray.getElem?_lt' s i h]
    have hl : i < s.data.toList.length := by rw [← Lib.size_eq]; exact h
    rw [List.getElem?_eq_getElem hl]
    rfl
  · have hl : s.data.toList.length ≤ i := by rw [← Lib.size_eq]; omega
    rw [List.getElem?_eq_none hl]
    have h2 : s[i]? = none := by
      simp only [getElem?_def, dif_neg h]
    rw [h2]
/-- What stands from the place on. -/
def scLeft (s : ByteArray) (p : Nat) : ByteArray := s.extract p s.size
theorem extract_list (s : ByteArray) (a b : Nat) : (s.extract a b).data.toList = (s.data.toList.drop a).take (b - a) := by
  rw [← Lib.toList_data, Lib.extract_toList]
theorem left_list (s : ByteArray) (p : Nat) : (scLeft s p).data.toList = s.data.toList.drop p := by
  unfold scLeft
  rw [extract_list, List.take_of_length_le]
  exact Nat.le_of_eq (by rw [List.length_drop, ← Lib.size_eq])
theorem left_size (s : ByteArray) (p : Nat) : (scLeft s p).size = s.size - p := by
  rw [Lib.size_eq, left_list, List.length_drop, ← Lib.size_eq]
theorem bytes_ext {a b : ByteArray} (h : a.data.toList = b.data.toList) : a = b := by
  obtain ⟨⟨l⟩⟩ := a
  obtain ⟨⟨r⟩⟩ := b
  cases (show l = r from h)
  rfl
theorem left_zero (s : ByteArray) : scLeft s 0 = s := bytes_ext (by rw [left_list, List.drop_zero])
theorem left_left (s : ByteArray) (p n : Nat) : (scLeft s p).extract n (scLeft s p).size = scLeft s (p + n) := bytes_ext (by
  show (scLeft (scLeft s p) n).data.toList = _
  rw [left_list, left_list, left_list, List.drop_drop])
theorem chAt_left (s : ByteArray) (p i : Nat) : chAt (scLeft s p) i = chAt s (p + i) := by
  rw [chAt_data, chAt_data, left_list, List.getElem?_drop]
theorem chAt_extract (s : ByteArray) (n i : Nat) (h : i < n) : chAt (s.extract 0 n) i = chAt s i := by
  rw [chAt_data, chAt_data, extract_list, List.drop_zero, List.getElem?_take, if_pos (by omega)]
theorem extract_size (s : ByteArray) (n : Nat) (h : n ≤ s.size) : (s.extract 0 n).size = n := by
  have := Lib.size_eq s
  rw [Lib.size_eq, extract_list, List.drop_zero, List.length_take]
  omega
theorem left_pos (s : ByteArray) (p : Nat) (h : p ≤ s.size) : (scLeft s p).size = 0 ↔ p = s.size := by rw [left_size]; omega

/-- Digits. -/
theorem digN_left (s : ByteArray) (p : Nat) : ∀ (k i : Nat), digN (scLeft s p) i k = digN s (p + i) k
  | 0, _ => rfl
  | k + 1, i => by rw [digN, digN, chAt_left, digN_left s p k (i + 1), Nat.add_assoc]
theorem scDigs_left (s : ByteArray) (c : Sc) : digN (scLeft s c.pos) 0 (scLeft s c.pos).size = scDigs s c := by
  rw [digN_left, left_size]
  rfl
theorem digN_stop (s : ByteArray) : ∀ (k i : Nat), digN s i k < k → isDig (chAt s (i + digN s i k)) = false
  | 0, i, h => by omega
  | k + 1, i, h => by
    rw [digN] at h ⊢
    split
    case isTrue hd =>
      rw [if_pos hd] at h
      rw [show i + (digN s (i + 1) k + 1) = i + 1 + digN s (i + 1) k by omega]
      exact digN_stop s k (i + 1) (by omega)
    case isFalse hd => rw [Nat.add_zero]; exact Bool.eq_false_iff.mpr hd

/-- Words, by lists. -/
def wErr : List UInt8 → List UInt8 → Nat
  | _, [] => 0
  | [], _ :: _ => 20
  | a :: l, b :: r => if a = b then wErr l r else 21
theorem wordErr_list (s v : ByteArray) (p : Nat) : ∀ (n i : Nat), i + n = v.size → wordErr s v p i n = wErr (s.data.toList.drop (p + i)) (v.data.toList.drop i)
  | 0, i, h => by
    have hl : v.data.toList.length ≤ i := by rw [← Lib.size_eq]; omega
    rw [List.drop_of_length_le hl]
    rw [wordErr]
    cases s.data.toList.drop (p + i) <;> rfl
  | n + 1, i, h => by
    have hl : i < v.data.toList.length := by rw [← Lib.size_eq]; omega
    rw [wordErr, List.drop_eq_getElem_cons hl]
    by_cases hs : s.size ≤ p + i
    · have hl2 : s.data.toList.length ≤ p + i := by rw [← Lib.size_eq]; exact hs
      rw [if_pos hs, List.drop_of_length_le hl2]
      rfl
    · have hl2 : p + i < s.data.toList.length := by rw [← Lib.size_eq]; omega
      rw [if_neg hs, List.drop_eq_getElem_cons hl2, wErr, wordErr_list s v p n (i + 1) (by omega), chAt_data, chAt_data, List.getElem?_eq_getElem hl2, List.getElem?_eq_getElem hl]
      simp only [Option.getD_some, UInt8.toNat_inj]
      rw [Nat.add_assoc]
theorem wErr_zero : ∀ (l r : List UInt8), (wErr l r = 0) ↔ Lib.hasPrefix l r = true
  | _, [] => by unfold Lib.hasPrefix; simp [wErr]
  | [], _ :: _ => by unfold Lib.hasPrefix; simp [wErr]
  | a :: l, b :: r => by
    have ih := wErr_zero l r
    unfold Lib.hasPrefix at ih ⊢
    rw [wErr, List.isPrefixOf_cons_cons, Bool.and_eq_true, beq_iff_eq]
    by_cases h : a = b
    · rw [if_pos h, ih]
      exact ⟨fun x => ⟨h.symm, x⟩, fun x => x.2⟩
    · rw [if_neg h]
      exact ⟨fun x => absurd x (by decide), fun x => absurd x.1.symm h⟩
theorem wErr_short : ∀ (l r : List UInt8), wErr l r ≠ 0 → wErr l r = if Lib.hasPrefix r l = true then 20 else 21
  | _, [], h => absurd (by simp [wErr]) h
  | [], _ :: _, _ => by unfold Lib.hasPrefix; simp [wErr]
  | a :: l, b :: r, h => by
    have ih := wErr_short l r
    rw [wErr] at h ⊢
    by_cases e : a = b
    · rw [if_pos e] at h ⊢
      rw [ih h]
      unfold Lib.hasPrefix
      rw [List.isPrefixOf_cons_cons, e, beq_self_eq_true, Bool.true_and]
    · rw [if_neg e]
      unfold Lib.hasPrefix
      rw [List.isPrefixOf_cons_cons, beq_eq_false_iff_ne.mpr e, Bool.false_and, if_neg (by decide)]
theorem scWord_zero (s v : ByteArray) (p : Nat) : wordErr s v p 0 v.size = 0 ↔ Lib.hasPrefix (scLeft s p).data.toList v.data.toList = true := by
  rw [wordErr_list s v p v.size 0 (Nat.zero_add _), Nat.add_zero, List.drop_zero, left_list]
  exact wErr_zero _ _
theorem scWord_short (s v : ByteArray) (p : Nat) (h : wordErr s v p 0 v.size ≠ 0) : wordErr s v p 0 v.size = if Lib.hasPrefix v.data.toList (scLeft s p).data.toList = true then 20 else 21 := by
  rw [wordErr_list s v p v.size 0 (Nat.zero_add _), Nat.add_zero, List.drop_zero] at h ⊢
  rw [left_list]
  exact wErr_short _ _ h

/-- The number that so many digits are, without a bound. -/
def decV (s : ByteArray) (p : Nat) : Nat → Nat → Nat → Nat
  | _, v, 0 => v
  | i, v, k + 1 => decV s p (i + 1) (10 * v + (chAt s (p + i) - 48)) k
theorem decV_ge (s : ByteArray) (p : Nat) : ∀ (k i v : Nat), v ≤ decV s p i v k
  | 0, _, _ => Nat.le_refl _
  | k + 1, i, v => by rw [decV]; have := decV_ge s p k (i + 1) (10 * v + (chAt s (p + i) - 48)); omega
theorem numVal_dec (s : ByteArray) (p most : Nat) : ∀ (k i v : Nat), v ≤ most → numVal s p most i v k = if decV s p i v k ≤ most then some (decV s p i v k) else none
  | 0, i, v, h => by rw [numVal, decV, if_pos h]
  | k + 1, i, v, h => by
    rw [numVal, decV]
    have hg := decV_ge s p k (i + 1) (10 * v + (chAt s (p + i) - 48))
    by_cases hc : most < chAt s (p + i) - 48 ∨ (most - (chAt s (p + i) - 48)) / 10 < v
    · rw [if_pos hc, if_neg (by omega)]
    · rw [if_neg hc, numVal_dec s p most k (i + 1) _ (by omega)]
theorem parse_dec (s : ByteArray) (p : Nat) : ∀ (k i v : Nat), (∀ j, j < k → isDig (chAt s (p + (i + j))) = true) → p + i + k ≤ s.size → v ≤ 18446744073709551615 →
    Lib.parseUintM 18446744073709551615 v ((s.data.toList.drop (p + i)).take k) = if decV s p i v k ≤ 18446744073709551615 then .ok (decV s p i v k) else .range
  | 0, i, v, _, _, hv => by rw [List.take_zero, Lib.parseUintM, decV, if_pos hv]
  | k + 1, i, v, hd, hl, hv => by
    have hl2 : p + i < s.data.toList.length := by rw [← Lib.size_eq]; omega
    have h0 := hd 0 (by omega)
    rw [Nat.add_zero] at h0
    have hc : chAt s (p + i) = (s.data.toList[p + i]).toNat := by rw [chAt_data, List.getElem?_eq_getElem hl2]; rfl
    have hg := decV_ge s p k (i + 1) (10 * v + (chAt s (p + i) - 48))
    have ih := parse_dec s p k (i + 1) (10 * v + (chAt s (p + i) - 48)) (fun j hj => by have := hd (j + 1) (by omega); rwa [show i + (j + 1) = i + 1 + j by omega] at this) (by omega)
    rw [List.drop_eq_getElem_cons hl2, List.take_succ_cons, Lib.parseUintM, decV, ← hc]
    have hdd : 48 ≤ chAt s (p + i) ∧ chAt s (p + i) ≤ 57 := by
      unfold isDig at h0
      rw [Bool.and_eq_true, decide_eq_true_eq, decide_eq_true_eq] at h0
      exact h0
    rw [if_pos hdd, show v * 10 + (chAt s (p + i) - 48) = 10 * v + (chAt s (p + i) - 48) by omega]
    by_cases h1 : 1844674407370955162 ≤ v
    · rw [if_pos h1, if_neg (by omega)]
    · rw [if_neg h1]
      by_cases h2 : 18446744073709551615 < 10 * v + (chAt s (p + i) - 48)
      · rw [if_pos h2, if_neg (by omega)]
      · rw [if_neg h2, show p + i + 1 = p + (i + 1) by omega]
        exact ih (by omega)

end Go.Proofs.YtnffjafddbbjaaaGreatDoor

/-
  Beginnings of texts, by the library; why a text doesn't begin with a word; how many digits it begins with.
-/
namespace Go.Proofs.YtnffjafddbbjaaaGreatDoor
open Go.RowKit

set_option maxRecDepth 4000 in
set_option maxHeartbeats 800000 in
theorem slPrefix_any (s p : ByteArray) (w : World) : Calls Tryz.prog 124 #[.string s, .string p] w fun e w' => e = .returned (.bool (Lib.hasPrefix s.data.toList p.data.toList)) ∧ w' = w := by
  rw [← Lib.hasPrefix_of_take, ← Lib.size_eq, ← Lib.size_eq]
  go_enter Tryz.func124, Tryz.ntmps124
  go_wp2
  · rename_i h
    go_ret
    refine ⟨?_, rfl⟩
    show Ending.returned (Value.bool ((s.extract 0 p.size).toList == p.toList)) = _
    rw [Lib.extract_toList, Lib.toList_data]
    simp [h]
  · rename_i h
    go_ret
    refine ⟨?_, rfl⟩
    show Ending.returned (Value.bool false) = _
    simp [h]

set_option maxRecDepth 4000 in
set_option maxHeartbeats 800000 in
theorem prefix_any (s p : ByteArray) (w : World) : Calls Tryz.prog 92 #[.string s, .string p] w fun e w' => e = .returned (.bool (Lib.hasPrefix s.data.toList p.data.toList)) ∧ w' = w := by
  have h0 := slPrefix_any s p w
  generalize Lib.hasPrefix s.data.toList p.data.toList = b at h0 ⊢
  go_enter Tryz.func92, Tryz.ntmps92
  go_wp2_with fail
  refine h0.mono ?_
  rintro e w' ⟨rfl, rfl⟩
  go_wp2_with fail
  go_ret
  exact ⟨rfl, rfl⟩

set_option maxRecDepth 4000 in
set_option maxHeartbeats 800000 in
theorem differs_any (s v : ByteArray) (w : World) : Calls Tryz.prog 94 #[.string s, .string v] w fun e w' => e = .returned (.int .i64 ((if Lib.hasPrefix v.data.toList s.data.toList = true then 20 else 21 : Nat) : Int)) ∧ w' = w := by
  have hp := prefix_any v s w
  generalize Lib.hasPrefix v.data.toList s.data.toList = b at hp ⊢
  cases b
  all_goals
    rw [show ((if _ = true then 20 else 21 : Nat) : Int) = _ from by first | rw [if_pos rfl] | rw [if_neg (by decide)]]
    go_enter Tryz.func94, Tryz.ntmps94
    go_wp2_with fail
    refine hp.mono ?_
    rintro e w' ⟨rfl, rfl⟩
    go_wp2_with fail
    go_ret
    exact ⟨rfl, rfl⟩

set_option maxRecDepth 4000 in
set_option maxHeartbeats 1600000 in
theorem digits_any (s : ByteArray) (w : World) (hs : s.size ≤ 1000000000) : Calls Tryz.prog 125 #[.string s] w fun e w' => e = .returned (.int .i64 (digN s 0 s.size : Int)) ∧ Fr w w' (fun _ => False) := by
  obtain ⟨N, hN⟩ : ∃ N, N = digN s 0 s.size := ⟨_, rfl⟩
  rw [← hN]
  have HN : Hid _ := hN
  clear hN
  go_enter Tryz.func125, Tryz.ntmps125
  go_wp2_with fail
  go_loopg [3] s.size (fun g I wr => ∃ (i : Nat), g = s.size - i ∧ i ≤ s.size ∧ I = .int .i64 (i : Int) ∧ i + digN s i (s.size - i) = N ∧ Fr w wr (fun _ => False))
  case atStart => exact ⟨0, rfl, Nat.zero_le _, rfl, by rw [HN.out, Nat.zero_add]; rfl, Fr.refl _ _⟩
  case round =>
    obtain ⟨i, hg, hi, rfl, hd, hf⟩ := hrel
    have Hg : Hid _ := hg
    have Hd : Hid _ := hd
    have Hf : Hid (Fr w wr (fun _ => False)) := hf
    clear hg hd hf
    by_cases hlt : i < s.size
    · have hin : (i : Int) < (s.size : Int) := by omega
      have hin' : decide (i < s.size) = true := decide_eq_true hlt
      obtain ⟨b, hb⟩ : ∃ b, b = chAt s i := ⟨_, rfl⟩
      have hidx : ∀ z, (Instr.index 9 (.string s) (.int .i64 (i : Int))).run Tryz.prog z = .ok (.int .u8 (b : Int)) z := fun z => by rw [hb]; exact index_any s i hlt z
      have Hdd : Hid (digN s i (s.size - i) = if isDig b then digN s (i + 1) (s.size - (i + 1)) + 1 else 0) := by
        show _ = _
        obtain ⟨m, hm⟩ : ∃ m, s.size - i = m + 1 := ⟨s.size - (i + 1), by omega⟩
        rw [hm, show s.size - (i + 1) = m by omega, digN, hb]
      clear hb
      by_cases h1 : 48 ≤ b
      · have g1 : (48 : Int) ≤ (b : Int) := by omega
        have g1' : decide ((48 : Int) ≤ (b : Int)) = true := decide_eq_true g1
        by_cases h2 : b ≤ 57
        · have g2 : (b : Int) ≤ (57 : Int) := by omega
          have g2' : decide ((b : Int) ≤ (57 : Int)) = true := decide_eq_true g2
          have Hd2 : Hid (i + 1 + digN s (i + 1) (s.size - (i + 1)) = N) := by
            show _ = _
            have h3 := Hd.out
            rw [Hdd.out, if_pos (by unfold isDig; rw [decide_eq_true h1, decide_eq_true h2]; rfl)] at h3
            omega
          go_wp2_with fail
          go_roundg (s.size - (i + 1))
          case rel => exact ⟨i + 1, rfl, by omega, by go_num, Hd2.out, Hf.out⟩
          case measure => rw [Hg.out]; omega
        · have g2 : ¬ (b : Int) ≤ (57 : Int) := by omega
          have g2' : decide ((b : Int) ≤ (57 : Int)) = false := decide_eq_false g2
          have Hd2 : Hid (i = N) := by
            show _ = _
            have h3 := Hd.out
            rw [Hdd.out, if_neg (by unfold isDig; rw [decide_eq_false h2, Bool.and_false]; decide)] at h3
            omega
          clear h1 h2
          go_wp2_with fail
          go_ret
          exact ⟨by rw [Hd2.out]; rfl, Hf.out⟩
      · have g1 : ¬ (48 : Int) ≤ (b : Int) := by omega
        have g1' : decide ((48 : Int) ≤ (b : Int)) = false := decide_eq_false g1
        have Hd2 : Hid (i = N) := by
          show _ = _
          have h3 := Hd.out
          rw [Hdd.out, if_neg (by unfold isDig; rw [decide_eq_false h1, Bool.false_and]; decide)] at h3
          omega
        clear h1
        go_wp2_with fail
        go_ret
        exact ⟨by rw [Hd2.out]; rfl, Hf.out⟩
    · have hin : ¬ (i : Int) < (s.size : Int) := by omega
      have hin' : decide (i < s.size) = false := decide_eq_false hlt
      have Hd2 : Hid (i = N) := by
        show _ = _
        have h3 := Hd.out
        rw [show s.size - i = 0 by omega] at h3
        exact h3
      go_wp2_with fail
      go_ret
      exact ⟨by rw [Hd2.out]; rfl, Hf.out⟩

end Go.Proofs.YtnffjafddbbjaaaGreatDoor

/-
  A block of four cells, one of them written.
-/
namespace Go.Proofs.YtnffjafddbbjaaaGreatDoor
open Go.RowKit

theorem four_setA {w : World} {b : Nat} {x0 x1 x2 x3 u : Value} {T : TypeId} (h : w.heap[b]? = some (.cells #[x0, x1, x2, x3] T (0, 0))) : (w.setCell ⟨b, 0, none⟩ u).heap[b]? = some (.cells #[u, x1, x2, x3] T (0, 0)) := by
  have := heap_setCell_same w b 0 #[x0, x1, x2, x3] T u h
  simpa using this
theorem four_setB {w : World} {b : Nat} {x0 x1 x2 x3 u : Value} {T : TypeId} (h : w.heap[b]? = some (.cells #[x0, x1, x2, x3] T (0, 0))) : (w.setCell ⟨b, 1, none⟩ u).heap[b]? = some (.cells #[x0, u, x2, x3] T (0, 0)) := by
  have := heap_setCell_same w b 1 #[x0, x1, x2, x3] T u h
  simpa using this
theorem four_setC {w : World} {b : Nat} {x0 x1 x2 x3 u : Value} {T : TypeId} (h : w.heap[b]? = some (.cells #[x0, x1, x2, x3] T (0, 0))) : (w.setCell ⟨b, 2, none⟩ u).heap[b]? = some (.cells #[x0, x1, u, x3] T (0, 0)) := by
  have := heap_setCell_same w b 2 #[x0, x1, x2, x3] T u h
  simpa using this
theorem four_setD {w : World} {b : Nat} {x0 x1 x2 x3 u : Value} {T : TypeId} (h : w.heap[b]? = some (.cells #[x0, x1, x2, x3] T (0, 0))) : (w.setCell ⟨b, 3, none⟩ u).heap[b]? = some (.cells #[x0, x1, x2, u] T (0, 0)) := by
  have := heap_setCell_same w b 3 #[x0, x1, x2, x3] T u h
  simpa using this

end Go.Proofs.YtnffjafddbbjaaaGreatDoor

/-
  The program's scanner at a block; its smaller calls.
-/
namespace Go.Proofs.YtnffjafddbbjaaaGreatDoor
open Go.RowKit

theorem results_cell1s {fn : Func} {p : Tmp} {ty : TypeId} (h : fn.results = #[.cell p ty]) {tmps : Array Value} {P : Program} {w : World} {b o : Nat} {v : Value} (hp : tmps.getD p undef = .pointer (some ⟨b, o, none⟩)) (hl : (loadVar ty ⟨b, o, none⟩).run P w = .ok v w) :
    (results fn tmps).run P w = .ok v w := by
  have hp' : tmps[p]?.getD undef = .pointer (some ⟨b, o, none⟩) := by rw [← hp]; simp
  simp [results, h, asAddr, hp', hl]
theorem placeSizeQ : (Tryz.prog.info? 38).map (·.size) = some 2 := by kernel_rfl
/-- The program's scanner at a block: the text from the place on, the place, the error. -/
def LSc (w : World) (p : Nat) (s : ByteArray) (c : Sc) : Prop := w.heap[p]? = some (.cells #[.string (scLeft s c.pos), .int .i64 (c.line : Int), .int .i64 (c.col : Int), .int .i64 (c.err : Int)] 124 (0, 0))
theorem qfour_cells {w : World} {x0 x1 x2 x3 : Value} {T : TypeId} {p : Nat} (h : w.heap[p]? = some (.cells #[x0, x1, x2, x3] T (0, 0))) : w.cell? ⟨p, 0, none⟩ = some x0 ∧ w.cell? ⟨p, 1, none⟩ = some x1 ∧ w.cell? ⟨p, 2, none⟩ = some x2 ∧ w.cell? ⟨p, 3, none⟩ = some x3 := by
  refine ⟨?_, ?_, ?_, ?_⟩ <;> simp [World.cell?, h]
theorem qfour_free {w : World} {x0 x1 x2 x3 : Value} {T : TypeId} {p : Nat} (h : w.heap[p]? = some (.cells #[x0, x1, x2, x3] T (0, 0))) (j : Nat) : w.frozen? ⟨p, j, none⟩ = false := by simp [World.frozen?, h]

set_option maxRecDepth 4000 in
set_option maxHeartbeats 400000 in
theorem scanNew_any (s : ByteArray) (w : World) : Calls Tryz.prog 32 #[.string s] w fun r w' => ∃ p, r = .returned (.pointer (some ⟨p, 0, none⟩)) ∧ w.heap.size ≤ p ∧ LSc w' p s ⟨0, 1, 1, 0⟩ ∧ Fr w w' (fun _ => False) := by
  obtain ⟨S, hS⟩ : ∃ S, S = s := ⟨_, rfl⟩
  have HS : Hid (scLeft s 0 = S) := by show _ = _; rw [left_zero, hS]
  rw [← hS]
  clear hS
  go_enter Tryz.func32, Tryz.ntmps32
  go_wp2_with fail
  go_ret
  refine ⟨w.heap.size, rfl, Nat.le_refl _, ?_, ?_⟩
  · show _ = _
    rw [show scLeft S (⟨0, 1, 1, 0⟩ : Sc).pos = S from left_zero S]
    exact heap_alloc_new w _
  · exact (Fr.refl w _).alloc _

set_option maxRecDepth 4000 in
set_option maxHeartbeats 400000 in
theorem scanFail_any (p e : Nat) (s : ByteArray) (c : Sc) (w : World) (h : LSc w p s c) : Calls Tryz.prog 93 #[.pointer (some ⟨p, 0, none⟩), .int .i64 (e : Int)] w fun r w' => r = .returned (.tuple #[]) ∧ LSc w' p s (scFail c e) ∧ Fr w w' (fun k => k = p) := by
  obtain ⟨C, hC⟩ : ∃ C, C = scFail c e := ⟨_, rfl⟩
  rw [← hC]
  have HC : Hid _ := hC
  have H : Hid (LSc w p s c) := h
  obtain ⟨k0, k1, k2, k3⟩ := qfour_cells h
  have f3 := qfour_free h 3
  clear hC h
  by_cases h0 : c.err = 0
  · have HC2 : Hid (C = { c with err := e }) := by show _ = _; rw [HC.out]; exact if_pos h0
    rw [h0] at k3
    have e0 : ((0 : Nat) : Int) = 0 := rfl
    rw [e0] at k3
    obtain rfl := HC2.out
    have HR : Hid (LSc (w.setCell ⟨p, 3, none⟩ (.int .i64 (e : Int))) p s { c with err := e }) := four_setD H.out
    clear HC HC2 h0
    go_enter Tryz.func93, Tryz.ntmps93
    go_wp2
    go_end0
    exact ⟨rfl, HR.out, fr_put _ _ _ _⟩
  · have HC2 : Hid (C = c) := by show _ = _; rw [HC.out]; exact if_neg h0
    have hb : ((c.err : Int) == 0) = false := by rw [beq_eq_false_iff_ne]; omega
    have hb' : (c.err == 0) = false := by rw [beq_eq_false_iff_ne]; exact h0
    obtain rfl := HC2.out
    clear HC HC2
    go_enter Tryz.func93, Tryz.ntmps93
    go_wp2
    go_end0
    exact ⟨rfl, H.out, Fr.refl _ _⟩

set_option maxRecDepth 4000 in
set_option maxHeartbeats 400000 in
theorem scanErr_any (p : Nat) (s : ByteArray) (c : Sc) (w : World) (h : LSc w p s c) : Calls Tryz.prog 35 #[.pointer (some ⟨p, 0, none⟩)] w fun r w' => r = .returned (.int .i64 (c.err : Int)) ∧ Fr w w' (fun _ => False) := by
  obtain ⟨k0, k1, k2, k3⟩ := qfour_cells h
  clear h
  go_enter Tryz.func35, Tryz.ntmps35
  go_wp2_with fail
  go_ret
  exact ⟨rfl, Fr.refl _ _⟩

set_option maxRecDepth 4000 in
set_option maxHeartbeats 400000 in
theorem scanPlace_any (p : Nat) (s : ByteArray) (c : Sc) (w : World) (h : LSc w p s c) : Calls Tryz.prog 36 #[.pointer (some ⟨p, 0, none⟩)] w fun r w' => r = .returned (placeV c) ∧ Fr w w' (fun _ => False) := by
  have H : Hid (LSc (w.alloc (.cells #[.int .i64 0, .int .i64 0] 38)) p s c) := ((Fr.refl w (fun _ => False)).alloc _).kept h (fun h => h)
  obtain ⟨k0, k1, k2, k3⟩ := qfour_cells H.out
  obtain ⟨w1, hw1⟩ : ∃ x, x = w.alloc (.cells #[.int .i64 0, .int .i64 0] 38) := ⟨_, rfl⟩
  obtain ⟨q, hq⟩ : ∃ x, x = w.heap.size := ⟨_, rfl⟩
  have Hq : Hid (w1.heap[q]? = some (.cells #[.int .i64 0, .int .i64 0] 38 (0, 0))) := by show _ = _; rw [hw1, hq]; exact heap_alloc_new w _
  have Hfr : Hid (Fr w w1 (fun _ => False)) := by show Fr _ _ _; rw [hw1]; exact (Fr.refl w _).alloc _
  have Hnew : Hid (w.heap.size ≤ q) := by show _ ≤ _; rw [hq]; exact Nat.le_refl _
  rw [← hw1] at k0 k1 k2 k3
  have q0 : w1.cell? ⟨q, 0, none⟩ = some (.int .i64 0) := by rw [World.cell?, Hq.out]; rfl
  have q1 : ∀ u, (w1.setCell ⟨q, 0, none⟩ u).cell? ⟨q, 1, none⟩ = some (.int .i64 0) := fun u => by
    have := heap_setCell_same w1 q 0 #[.int .i64 0, .int .i64 0] 38 u Hq.out
    rw [World.cell?, this]; rfl
  have f0 : ∀ j, w1.frozen? ⟨q, j, none⟩ = false := fun j => by simp [World.frozen?, Hq.out]
  have f1 : ∀ u j, (w1.setCell ⟨q, 0, none⟩ u).frozen? ⟨q, j, none⟩ = false := fun u j => by
    have := heap_setCell_same w1 q 0 #[.int .i64 0, .int .i64 0] 38 u Hq.out
    simp [World.frozen?, this]
  have Hrow : Hid (((w1.setCell ⟨q, 0, none⟩ (.int .i64 (c.line : Int))).setCell ⟨q, 1, none⟩ (.int .i64 (c.col : Int))).heap[q]? = some (.cells #[.int .i64 (c.line : Int), .int .i64 (c.col : Int)] 38 (0, 0))) := by
    show _ = _
    have h1 := heap_setCell_same w1 q 0 #[.int .i64 0, .int .i64 0] 38 (.int .i64 (c.line : Int)) Hq.out
    have h2 := heap_setCell_same _ q 1 #[.int .i64 (c.line : Int), .int .i64 0] 38 (.int .i64 (c.col : Int)) (by simpa using h1)
    simpa using h2
  have Hfe : Hid (Fr w ((w1.setCell ⟨q, 0, none⟩ (.int .i64 (c.line : Int))).setCell ⟨q, 1, none⟩ (.int .i64 (c.col : Int))) (fun _ => False)) := (Hfr.out.setCell ⟨q, 0, none⟩ (fun h => by have := Hnew.out; simp at h; omega) _).setCell ⟨q, 1, none⟩ (fun h => by have := Hnew.out; simp at h; omega) _
  clear h
  go_enter Tryz.func36, Tryz.ntmps36
  go_upto_region 1 with fail
  rw [← hw1, ← hq]
  clear hw1 hq
  go_wp2_with fail
  refine bodyPost_ret (results_cell1s rfl rfl (run_loadVar_row _ _ 38 _ _ (0, 0) _ Hrow.out Tryz.underlying38 rfl placeSizeQ)) rfl ?_
  exact ⟨rfl, Hfe.out⟩

set_option maxRecDepth 4000 in
set_option maxHeartbeats 800000 in
theorem scanNext_any (p : Nat) (s : ByteArray) (c : Sc) (w : World) (h : LSc w p s c) : Calls Tryz.prog 64 #[.pointer (some ⟨p, 0, none⟩)] w fun r w' => r = .returned (.tuple #[.int .u8 ((scNext s c).1 : Int), .bool (scNext s c).2]) ∧ Fr w w' (fun _ => False) := by
  obtain ⟨⟨B, O⟩, hR⟩ : ∃ R, R = scNext s c := ⟨_, rfl⟩
  rw [← hR]
  have HR : Hid _ := hR
  have H : Hid (LSc w p s c) := h
  obtain ⟨L, hL⟩ : ∃ L, L = scLeft s c.pos := ⟨_, rfl⟩
  have HL : Hid (L = scLeft s c.pos) := hL
  obtain ⟨k0, k1, k2, k3⟩ := qfour_cells h
  rw [← hL] at k0
  clear hR h hL
  by_cases he : c.err = 0
  · have hb : ((c.err : Int) == 0) = true := by rw [beq_iff_eq]; omega
    have hb' : (c.err == 0) = true := by rw [beq_iff_eq]; exact he
    have hn : ((c.err : Int) != 0) = false := by rw [bne, hb]; rfl
    by_cases hlt : c.pos < s.size
    · have hLs : 0 < L.size := by rw [HL.out, left_size]; omega
      have hne : L ≠ ⟨#[]⟩ := fun e => by rw [e] at hLs; exact absurd hLs (by decide)
      have hemp : L.toList.isEmpty = false := by
        rw [← decide_eq_emptyBytes]
        exact decide_eq_false hne
      have HR2 : Hid ((B, O) = (chAt s c.pos, true)) := by show _ = _; rw [HR.out]; exact if_pos ⟨he, hlt⟩
      have hidx : ∀ z, (Instr.index 9 (.string L) (.int .i64 0)).run Tryz.prog z = .ok (.int .u8 (chAt s c.pos : Int)) z := fun z => by
        have := index_any L 0 hLs z
        rw [HL.out, chAt_left, Nat.add_zero, ← HL.out] at this
        exact this
      generalize chAt s c.pos = b at hidx HR2
      go_enter Tryz.func64, Tryz.ntmps64
      go_wp2_with fail
      go_ret2
      cases HR2.out
      exact ⟨rfl, Fr.refl _ _⟩
    · have hemp : L.toList.isEmpty = true := by
        rw [← decide_eq_emptyBytes]
        refine decide_eq_true (bytes_ext ?_)
        rw [HL.out, left_list, List.drop_of_length_le (by rw [← Lib.size_eq]; omega)]; rfl
      have HR2 : Hid ((B, O) = (0, false)) := by show _ = _; rw [HR.out]; exact if_neg (fun h => hlt h.2)
      go_enter Tryz.func64, Tryz.ntmps64
      go_wp2_with fail
      go_ret2
      cases HR2.out
      exact ⟨rfl, Fr.refl _ _⟩
  · have hb : ((c.err : Int) == 0) = false := by rw [beq_eq_false_iff_ne]; omega
    have hb' : (c.err == 0) = false := by rw [beq_eq_false_iff_ne]; exact he
    have hn : ((c.err : Int) != 0) = true := by rw [bne, hb]; rfl
    have HR2 : Hid ((B, O) = (0, false)) := by show _ = _; rw [HR.out]; exact if_neg (fun h => he h.1)
    go_enter Tryz.func64, Tryz.ntmps64
    go_wp2_with fail
    go_ret2
    cases HR2.out
    exact ⟨rfl, Fr.refl _ _⟩

end Go.Proofs.YtnffjafddbbjaaaGreatDoor

/-
  The program's scanner goes behind so many bytes.
-/
namespace Go.Proofs.YtnffjafddbbjaaaGreatDoor
open Go.RowKit

/-- A string as bytes of a block of its own. -/
theorem str_bytesQ (s : ByteArray) (w : World) : ∃ cap w', (convert 9 26 (.string s)).run Tryz.prog w = .ok (.slice (some ⟨w.heap.size, 0, none⟩) s.size cap) w' ∧ (∀ j, j < s.size → w'.cell? ⟨w.heap.size, j, none⟩ = some (.int .u8 (chAt s j : Int))) ∧ Fr w w' (fun _ => False) := by
  refine ⟨_, _, Lib.run_convert_string_bytes w 9 26 5 s Tryz.underlying9 Tryz.underlying26 Tryz.underlying5, fun j hj => ?_, ?_⟩
  · rw [Lib.bytesWorld_cell w 5 s j hj, chAt_data, List.getD_eq_getElem?_getD]
  · refine ⟨rfl, rfl, rfl, ?_, fun k hk _ => Lib.bytesWorld_at_old w 5 s k hk⟩
    rw [Lib.bytesWorld_size]
    omega

set_option maxRecDepth 4000 in
set_option maxHeartbeats 1600000 in
theorem scanPass_any (p n : Nat) (s : ByteArray) (c : Sc) (w : World) (h : LSc w p s c) (hok : ScOk s c) (hn : c.pos + n ≤ s.size) (hs : s.size ≤ 1000000000) : Calls Tryz.prog 95 #[.pointer (some ⟨p, 0, none⟩), .int .i64 (n : Int)] w fun r w' => r = .returned (.tuple #[]) ∧ LSc w' p s (scMove s c n) ∧ Fr w w' (fun k => k = p) := by
  obtain ⟨L, hL⟩ : ∃ L, L = scLeft s c.pos := ⟨_, rfl⟩
  have HL : Hid (L = scLeft s c.pos) := hL
  have hLs : L.size = s.size - c.pos := by rw [hL, left_size]
  have hnL : n ≤ L.size := by omega
  have h' : w.heap[p]? = some (.cells #[.string L, .int .i64 (c.line : Int), .int .i64 (c.col : Int), .int .i64 (c.err : Int)] 124 (0, 0)) := by rw [hL]; exact h
  have H : Hid _ := h'
  have Hok : Hid (ScOk s c) := hok
  obtain ⟨X, hX⟩ : ∃ X, X = L.extract 0 n := ⟨_, rfl⟩
  have hXs : X.size = n := by rw [hX]; exact extract_size L n hnL
  have HX : Hid (∀ j, j < n → chAt X j = chAt s (c.pos + j)) := by
    show ∀ j, _
    intro j hj
    rw [hX, chAt_extract L n j hj, hL, chAt_left]
  obtain ⟨cap, w1, hcv, hce, hfc⟩ := str_bytesQ X w
  rw [hXs] at hcv hce
  obtain ⟨k0, k1, k2, k3⟩ := qfour_cells h'
  have Hp : Hid (p < w.heap.size) := lt_of_block h'
  obtain ⟨q, hq⟩ : ∃ x, x = w.heap.size := ⟨_, rfl⟩
  rw [← hq] at hcv hce
  have Hce : Hid _ := hce
  have Hfc : Hid (Fr w w1 (fun _ => False)) := hfc
  have Hpq : Hid (p ≠ q) := by show _ ≠ _; have := Hp.out; omega
  have HLe : Hid (L.extract n L.size = scLeft s (c.pos + n)) := by show _ = _; rw [hL]; exact left_left s c.pos n
  have hni : (0 : Int) ≤ (n : Int) := by omega
  have hni2 : (n : Int) ≤ (L.size : Int) := by omega
  clear hL h h' hok hXs hce hfc hq hLs
  go_enter Tryz.func95, Tryz.ntmps95
  rw [hX] at hcv
  go_wp2_with fail
  go_loopg [5, 14] n (fun g B I wr => ∃ (i : Nat) (d : Sc), g = n - i ∧ i ≤ n ∧ I = .int .i64 (i : Int) ∧ d.pos = c.pos + i ∧ ScOk s d ∧ d.err = c.err ∧ wr.heap[p]? = some (.cells #[.string L, .int .i64 (d.line : Int), .int .i64 (d.col : Int), .int .i64 (c.err : Int)] 124 (0, 0)) ∧ (∀ j, j < n → wr.cell? ⟨q, j, none⟩ = some (.int .u8 (chAt X j : Int))) ∧ scMove s d (n - i) = scMove s c n ∧ Fr w wr (fun k => k = p))
  case atStart => exact ⟨0, c, rfl, Nat.zero_le _, rfl, rfl, Hok.out, rfl, Hfc.out.kept H.out (fun h => h), Hce.out, rfl, Hfc.out.mono (fun _ _ h => h.elim)⟩
  case round =>
    obtain ⟨i, d, hg, hi, rfl, hdp, hdo, hde, hr, hb, hst, hf⟩ := hrel
    have Hg : Hid _ := hg
    have Hdo : Hid (ScOk s d) := hdo
    have Hde : Hid (d.err = c.err) := hde
    have Hr : Hid _ := hr
    have Hb : Hid _ := hb
    have Hst : Hid _ := hst
    have Hf : Hid (Fr w wr (fun k => k = p)) := hf
    have Hdp : Hid _ := hdp
    have hd2 : d.line ≤ 1000000000 + 1 ∧ d.col ≤ 1000000000 + 1 := by unfold ScOk at hdo; omega
    obtain ⟨k0, k1, k2, k3⟩ := qfour_cells hr
    have fz := fun j => qfour_free hr j
    clear hg hr hb hst hf hdp hdo hde
    by_cases hlt : i < n
    · have hin : (i : Int) < (n : Int) := by omega
      have hin' : decide (i < n) = true := decide_eq_true hlt
      have hbi := Hb.out i hlt
      have Hst2 : Hid (scMove s (scStep s d) (n - (i + 1)) = scMove s c n) := by
        show _ = _
        rw [← Hst.out]
        obtain ⟨m, hm⟩ : ∃ m, n - i = m + 1 := ⟨n - (i + 1), by omega⟩
        rw [hm, show n - (i + 1) = m by omega]
        rfl
      have Hso : Hid (ScOk s (scStep s d)) := by
        have h1 := Hdo.out
        have h2 := Hdp.out
        show ScOk _ _
        unfold ScOk at h1 ⊢
        unfold scStep
        split <;> dsimp only <;> omega
      have Hdp2 : Hid ((scStep s d).pos = c.pos + (i + 1)) := by show _ = _; rw [scStep_pos, Hdp.out]; omega
      have Hse : Hid ((scStep s d).err = c.err) := by show _ = _; unfold scStep; split <;> exact Hde.out
      have Hch : Hid (chAt s d.pos = chAt X i) := by show _ = _; rw [HX.out i hlt, Hdp.out]
      generalize chAt X i = b at hbi Hch
      by_cases h10 : b = 10
      · have Hstep : Hid (scStep s d = { d with pos := d.pos + 1, line := d.line + 1, col := 1 }) := by show _ = _; unfold scStep; rw [if_pos (by rw [Hch.out]; exact h10)]
        subst h10
        have Hfin : Hid (((wr.setCell ⟨p, 1, none⟩ (.int .i64 ((d.line : Int) + 1))).setCell ⟨p, 2, none⟩ (.int .i64 1)).heap[p]? = some (.cells #[.string L, .int .i64 ((d.line + 1 : Nat) : Int), .int .i64 ((1 : Nat) : Int), .int .i64 (c.err : Int)] 124 (0, 0))) := four_setC (four_setB Hr.out)
        have Hff : Hid (Fr wr ((wr.setCell ⟨p, 1, none⟩ (.int .i64 ((d.line : Int) + 1))).setCell ⟨p, 2, none⟩ (.int .i64 1)) (fun k => k = p)) := (fr_put _ _ _ _).trans (fr_put _ _ _ _) (fun _ _ h => h)
        have z1 := (qfour_cells (four_setB Hr.out (u := .int .i64 ((d.line : Int) + 1)))).2.2.1
        have z2 := fun j => qfour_free (four_setB Hr.out (u := .int .i64 ((d.line : Int) + 1))) j
        have Hbf : Hid (∀ j, j < n → ((wr.setCell ⟨p, 1, none⟩ (.int .i64 ((d.line : Int) + 1))).setCell ⟨p, 2, none⟩ (.int .i64 1)).cell? ⟨q, j, none⟩ = some (.int .u8 (chAt X j : Int))) := by
          show ∀ j, _
          intro j hj
          have h1 := Hb.out j hj
          rw [World.cell?_of_block (w := wr) (Hff.out.block _ (World.block_lt_of_cell? _ _ h1) (fun e => Hpq.out e.symm))]
          exact h1
        go_wp2_with fail
        go_roundg (n - (i + 1))
        case rel => exact ⟨i + 1, scStep s d, rfl, by omega, by go_num, Hdp2.out, Hso.out, Hse.out, by rw [Hstep.out]; exact Hfin.out, Hbf.out, Hst2.out, Hf.out.trans Hff.out (fun _ _ h => h)⟩
        case measure => rw [Hg.out]; omega
      · have hb1 : ((b : Int) == 10) = false := by rw [beq_eq_false_iff_ne]; omega
        have hb2 : (b == 10) = false := by rw [beq_eq_false_iff_ne]; exact h10
        have Hstep : Hid (scStep s d = { d with pos := d.pos + 1, col := d.col + 1 }) := by show _ = _; unfold scStep; rw [if_neg (by rw [Hch.out]; exact h10)]
        have Hfin : Hid ((wr.setCell ⟨p, 2, none⟩ (.int .i64 ((d.col : Int) + 1))).heap[p]? = some (.cells #[.string L, .int .i64 (d.line : Int), .int .i64 ((d.col + 1 : Nat) : Int), .int .i64 (c.err : Int)] 124 (0, 0))) := four_setC Hr.out
        have Hff : Hid (Fr wr (wr.setCell ⟨p, 2, none⟩ (.int .i64 ((d.col : Int) + 1))) (fun k => k = p)) := fr_put _ _ _ _
        have Hbf : Hid (∀ j, j < n → (wr.setCell ⟨p, 2, none⟩ (.int .i64 ((d.col : Int) + 1))).cell? ⟨q, j, none⟩ = some (.int .u8 (chAt X j : Int))) := by
          show ∀ j, _
          intro j hj
          have h1 := Hb.out j hj
          rw [World.cell?_of_block (w := wr) (Hff.out.block _ (World.block_lt_of_cell? _ _ h1) (fun e => Hpq.out e.symm))]
          exact h1
        go_wp2_with fail
        go_roundg (n - (i + 1))
        case rel => exact ⟨i + 1, scStep s d, rfl, by omega, by go_num, Hdp2.out, Hso.out, Hse.out, by rw [Hstep.out]; exact Hfin.out, Hbf.out, Hst2.out, Hf.out.trans Hff.out (fun _ _ h => h)⟩
        case measure => rw [Hg.out]; omega
    · have hin : ¬ (i : Int) < (n : Int) := by omega
      have hin' : decide (i < n) = false := decide_eq_false hlt
      have Hend : Hid (d = scMove s c n) := by
        show _ = _
        rw [← Hst.out, show n - i = 0 by omega]
        rfl
      have Hle : Hid (scLeft s (scMove s c n).pos = L.extract n L.size) := by show _ = _; rw [scMove_pos, HLe.out]
      have Hfin : Hid (LSc (wr.setCell ⟨p, 0, none⟩ (.string (L.extract n L.size))) p s (scMove s c n)) := by
        show _ = _
        have h1 := four_setA Hr.out (u := .string (L.extract n L.size))
        rw [← Hend.out]
        rw [Hle.out.symm, ← Hend.out] at h1
        rw [Hde.out, Hle.out.symm, ← Hend.out]
        exact h1
      have Hff : Hid (Fr w (wr.setCell ⟨p, 0, none⟩ (.string (L.extract n L.size))) (fun k => k = p)) := Hf.out.trans (fr_put _ _ _ _) (fun _ _ h => h)
      go_wp2_with fail
      go_end0
      exact ⟨rfl, Hfin.out, Hff.out⟩

end Go.Proofs.YtnffjafddbbjaaaGreatDoor
