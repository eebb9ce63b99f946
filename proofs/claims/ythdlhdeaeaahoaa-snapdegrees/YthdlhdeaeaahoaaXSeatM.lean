/-
  The seat's histories, out of few numbers: plain mathematics, no program; that they are right.
-/
import Derived.Test.YthdlhdeaeaahoaaJ1
namespace Go.Proofs.Ythdlhdeaeaahoaa
open Go.RowKit

def vertF (k : Nat) : Nat := [8, 5, 2, 4294967296, 300, 12, 1048576, 3].getD (k % 8) 0
theorem vertF_bounds (k : Nat) : 2 ≤ vertF k ∧ vertF k ≤ 4294967296 := by
  unfold vertF
  have h : k % 8 < 8 := Nat.mod_lt _ (by omega)
  generalize k % 8 = m at h
  match m, h with
  | 0, _ => decide
  | 1, _ => decide
  | 2, _ => decide
  | 3, _ => decide
  | 4, _ => decide
  | 5, _ => decide
  | 6, _ => decide
  | 7, _ => decide
def edgeU (a n : Nat) : Nat := if 230 < a then n - 1 - a % min n 9 else a % min n 9
def edgeW (b n : Nat) : Nat := if 240 < b then n - 1 - b % min n 9 else b % min n 9
def seatEdge (a b n : Nat) : Option Eg := if edgeU a n = edgeW b n then none else some (min (edgeU a n) (edgeW b n), max (edgeU a n) (edgeW b n))
theorem edgeU_lt (a n : Nat) (h : 1 ≤ n) : edgeU a n < n := by
  have h1 : a % min n 9 < min n 9 := Nat.mod_lt _ (by omega)
  unfold edgeU
  split <;> omega
theorem edgeW_lt (a n : Nat) (h : 1 ≤ n) : edgeW a n < n := by
  have h1 : a % min n 9 < min n 9 := Nat.mod_lt _ (by omega)
  unfold edgeW
  split <;> omega
theorem seatEdge_right {a b n : Nat} {e : Eg} (hn : 1 ≤ n) (h : seatEdge a b n = some e) : eRight e.1 e.2 n = true := by
  unfold seatEdge at h
  have h1 := edgeU_lt a n hn
  have h2 := edgeW_lt b n hn
  split at h
  · cases h
  · simp only [Option.some.injEq] at h
    subst h
    unfold eRight
    exact decide_eq_true (by dsimp only; omega)

/-- Where an event is put in; is there one of its time and edge? -/
def befAt (l : List Ev) (e : Ev) (k : Nat) : Bool := (l[k]?.map (fun x => eBef e x)).getD false
def insK (l : List Ev) (e : Ev) : Nat → Nat
  | 0 => 0
  | k + 1 => if befAt l e k = true then insK l e k else k + 1
def alike (x e : Ev) : Bool := decide (x.1 = e.1 ∧ x.2.1 = e.2.1)
def sameAt (l : List Ev) (e : Ev) : Nat → Bool
  | 0 => false
  | k + 1 => (l[k]?.map (fun x => alike x e)).getD false
def insF (l : List Ev) (e : Ev) : List Ev := if sameAt l e (insK l e l.length) = true then l else l.take (insK l e l.length) ++ e :: l.drop (insK l e l.length)
theorem insK_le (l : List Ev) (e : Ev) : ∀ k, insK l e k ≤ k
  | 0 => Nat.le_refl _
  | k + 1 => by
    rw [insK]
    split
    · exact Nat.le_succ_of_le (insK_le l e k)
    · exact Nat.le_refl _
theorem insK_after (l : List Ev) (e : Ev) : ∀ k j x, insK l e k ≤ j → j < k → l[j]? = some x → eBef e x = true
  | 0, _, _, _, h, _ => by omega
  | k + 1, j, x, h1, h2, hx => by
    rw [insK] at h1
    split at h1
    · rename_i hb
      by_cases hj : j < k
      · exact insK_after l e k j x h1 hj hx
      · have : j = k := by omega
        subst this
        unfold befAt at hb
        rw [hx] at hb
        exact hb
    · omega
theorem insK_stop (l : List Ev) (e : Ev) : ∀ k j x, insK l e k = j + 1 → l[j]? = some x → eBef e x = false
  | 0, _, _, h, _ => by cases h
  | k + 1, j, x, h, hx => by
    rw [insK] at h
    split at h
    · exact insK_stop l e k j x h hx
    · rename_i hb
      have : k = j := by omega
      subst this
      unfold befAt at hb
      rw [hx] at hb
      simpa using hb
def Srt (l : List Ev) : Prop := l.Pairwise (fun a b => eBef a b = true)
theorem ins_sorted {l : List Ev} (e : Ev) (h : Srt l) : Srt (insF l e) := by
  unfold insF
  split
  · exact h
  · rename_i hs
    have hk := insK_le l e l.length
    have ha := insK_after l e l.length
    have hst := insK_stop l e l.length
    generalize insK l e l.length = k at hs hk ha hst
    have hdrop : ∀ b ∈ l.drop k, eBef e b = true := fun b hb => by
      obtain ⟨i, hi⟩ := List.getElem?_of_mem hb
      rw [List.getElem?_drop] at hi
      exact ha _ _ (by omega) (List.getElem?_eq_some_iff.1 hi).1 hi
    have htake : ∀ a ∈ l.take k, eBef a e = true := fun a hat => by
      obtain ⟨i, hi⟩ := List.getElem?_of_mem hat
      rw [List.getElem?_take] at hi
      split at hi
      · rename_i hik
        cases k with
        | zero => omega
        | succ k =>
          have hkl : k < l.length := by omega
          have hx : l[k]? = some l[k] := List.getElem?_eq_getElem hkl
          have hb : eBef l[k] e = true := by
            refine eBef_ne (hst k _ rfl hx) (fun hh => hs ?_)
            show (l[k]?.map (fun x => alike x e)).getD false = true
            rw [hx]
            exact decide_eq_true hh
          by_cases hik2 : i = k
          · subst hik2
            rw [hx] at hi
            simp only [Option.some.injEq] at hi
            rw [← hi]
            exact hb
          · have hil : i < l.length := by omega
            rw [List.getElem?_eq_getElem hil] at hi
            simp only [Option.some.injEq] at hi
            rw [← hi]
            exact eBef_trans (List.pairwise_iff_getElem.1 h i k hil hkl (by omega)) hb
      · cases hi
    unfold Srt
    rw [List.pairwise_append]
    refine ⟨h.sublist (List.take_sublist _ _), List.pairwise_cons.2 ⟨hdrop, h.sublist (List.drop_sublist _ _)⟩, fun a hat b hb => ?_⟩
    rcases List.mem_cons.1 hb with rfl | hb
    · exact htake a hat
    · exact eBef_trans (htake a hat) (hdrop b hb)
theorem ins_all {P : Ev → Prop} {l : List Ev} {e : Ev} (h : ∀ x ∈ l, P x) (he : P e) : ∀ x ∈ insF l e, P x := fun x hx => by
  unfold insF at hx
  split at hx
  · exact h x hx
  · rcases List.mem_append.1 hx with hx | hx
    · exact h x (List.mem_of_mem_take hx)
    · rcases List.mem_cons.1 hx with rfl | hx
      · exact he
      · exact h x (List.mem_of_mem_drop hx)
theorem ins_length (l : List Ev) (e : Ev) : (insF l e).length ≤ l.length + 1 := by
  unfold insF
  split
  · omega
  · simp; omega

/-- The times: three numbers each. -/
def nextT (t a : Nat) : Nat := t + a % 4 + if 240 < a then 2 ^ (a % 40) else 0
def stepF (n t : Nat) (ts : List Ev) (b c : Nat) : List Ev := match seatEdge b c n with
  | some e => insF ts ((t : Int), e, false)
  | none => ts
def timesF (n : Nat) : Nat → List Ev → List Nat → List Ev
  | t, ts, a :: b :: c :: r => if ts.length < 40 then timesF n (nextT t a) (stepF n (nextT t a) ts b c) r else ts
  | _, ts, _ => ts
/-- What each does: it comes, if it isn't there, else it goes. -/
def secondF : List Eg → List Ev → List Ev
  | _, [] => []
  | now, e :: r => (e.1, e.2.1, !decide (e.2.1 ∈ now)) :: secondF ((turnF now e.2.1 (!decide (e.2.1 ∈ now))).getD []) r
def histE (k : Nat) (l : List Nat) : List Ev := secondF [] (timesF (vertF k) (k % 3) [] l)

theorem nextT_le (t a : Nat) : nextT t a ≤ t + 3 * 1099511627776 := by
  have h : 2 ^ (a % 40) ≤ 2 ^ 39 := Nat.pow_le_pow_right (by omega) (by omega)
  unfold nextT
  split <;> omega
/-- A time, an edge that may be. -/
def TOk (n B : Nat) (x : Ev) : Prop := 0 ≤ x.1 ∧ x.1 ≤ (B : Int) ∧ eRight x.2.1.1 x.2.1.2 n = true
theorem TOk.mono {n B C : Nat} {x : Ev} (h : TOk n B x) (hBC : B ≤ C) : TOk n C x := ⟨h.1, by have := h.2.1; omega, h.2.2⟩
theorem step_good {n t : Nat} {ts : List Ev} {b c : Nat} (hn : 1 ≤ n) (hs : Srt ts) (h : ∀ x ∈ ts, TOk n t x) : Srt (stepF n t ts b c) ∧ (∀ x ∈ stepF n t ts b c, TOk n t x) ∧ (stepF n t ts b c).length ≤ ts.length + 1 := by
  unfold stepF
  split
  · rename_i e he
    exact ⟨ins_sorted _ hs, ins_all h ⟨by omega, Int.le_refl _, seatEdge_right hn he⟩, ins_length _ _⟩
  · exact ⟨hs, h, by omega⟩
theorem times_good (n : Nat) (hn : 1 ≤ n) : ∀ (t : Nat) (ts : List Ev) (l : List Nat), Srt ts → (∀ x ∈ ts, TOk n t x) → ts.length ≤ 40 →
    Srt (timesF n t ts l) ∧ (∀ x ∈ timesF n t ts l, TOk n (t + l.length * 1099511627776) x) ∧ (timesF n t ts l).length ≤ 40
  | t, ts, a :: b :: c :: r, hs, h, hl => by
    rw [timesF]
    split
    · rename_i hlt
      have ht := nextT_le t a
      obtain ⟨s1, s2, s3⟩ := step_good (t := nextT t a) (b := b) (c := c) hn hs (fun x hx => (h x hx).mono (by unfold nextT; omega))
      obtain ⟨g1, g2, g3⟩ := times_good n hn (nextT t a) (stepF n (nextT t a) ts b c) r s1 s2 (by omega)
      exact ⟨g1, fun x hx => (g2 x hx).mono (by simp only [List.length_cons]; omega), g3⟩
    · exact ⟨hs, fun x hx => (h x hx).mono (by omega), hl⟩
  | t, ts, [], hs, h, hl => ⟨hs, fun x hx => (h x hx).mono (by omega), hl⟩
  | t, ts, [_], hs, h, hl => ⟨hs, fun x hx => (h x hx).mono (by omega), hl⟩
  | t, ts, [_, _], hs, h, hl => ⟨hs, fun x hx => (h x hx).mono (by omega), hl⟩
theorem second_length : ∀ (now : List Eg) (l : List Ev), (secondF now l).length = l.length
  | _, [] => rfl
  | now, e :: r => by rw [secondF, List.length_cons, second_length, List.length_cons]
/-- What is so of an event whatever it does. -/
theorem second_all {P : Int → Eg → Prop} : ∀ (now : List Eg) (l : List Ev), (∀ x ∈ l, P x.1 x.2.1) → ∀ x ∈ secondF now l, P x.1 x.2.1
  | _, [], _, x, hx => by cases hx
  | now, e :: r, h, x, hx => by
    rw [secondF] at hx
    rcases List.mem_cons.1 hx with rfl | hx
    · exact h e (List.mem_cons_self ..)
    · exact second_all _ r (fun y hy => h y (List.mem_cons_of_mem _ hy)) x hx
theorem second_sorted : ∀ (now : List Eg) (l : List Ev), Srt l → Srt (secondF now l)
  | _, [], _ => List.Pairwise.nil
  | now, e :: r, h => by
    have h := List.pairwise_cons.1 h
    rw [secondF]
    refine List.pairwise_cons.2 ⟨fun b hb => ?_, second_sorted _ r h.2⟩
    exact second_all (P := fun t g => eBef (e.1, e.2.1, false) (t, g, false) = true) _ r (fun x hx => h.1 x hx) b hb
theorem second_right (n B : Nat) (hB : B ≤ 4611686018427387903) : ∀ (l : List Ev) (now : List Eg) (pv : Option Ev) (i : Nat), eRising now = true → Srt l → (∀ x ∈ l, TOk n B x) → (∀ p, pv = some p → ∀ x ∈ l, eBef p x = true) → chkF n now pv i (secondF now l) = (0, 0)
  | [], _, _, _, _, _, _, _ => by rw [secondF, chkF]
  | e :: r, now, pv, i, hr, hs, hg, hp => by
    have hs := List.pairwise_cons.1 hs
    obtain ⟨g1, g2, g3⟩ := hg e (List.mem_cons_self ..)
    obtain ⟨now', hn'⟩ := turn_some (l := now) (e := e.2.1) (add := !decide (e.2.1 ∈ now)) hr rfl
    rw [secondF, chkF, if_neg (by dsimp only; omega), if_neg (by rw [g3]; simp), if_neg]
    · dsimp only
      rw [hn']
      dsimp only
      rw [Option.getD_some]
      refine second_right n B hB r now' _ (i + 1) (turn_rising hn') hs.2 (fun x hx => hg x (List.mem_cons_of_mem _ hx)) (fun p hp x hx => ?_)
      simp only [Option.some.injEq] at hp
      subst hp
      exact hs.1 x hx
    · cases pv with
      | none => simp
      | some p =>
        have := hp p rfl e (List.mem_cons_self ..)
        simp only [Option.any_some, Bool.not_eq_true']
        rw [show eBef p (e.1, e.2.1, !decide (e.2.1 ∈ now)) = eBef p e from rfl, this]
        simp

theorem hist_times (k : Nat) (l : List Nat) : Srt (timesF (vertF k) (k % 3) [] l) ∧ (∀ x ∈ timesF (vertF k) (k % 3) [] l, TOk (vertF k) (k % 3 + l.length * 1099511627776) x) ∧ (timesF (vertF k) (k % 3) [] l).length ≤ 40 :=
  times_good (vertF k) (by have := vertF_bounds k; omega) (k % 3) [] l List.Pairwise.nil (fun x hx => by cases hx) (by simp)
theorem hist_length (k : Nat) (l : List Nat) : (histE k l).length ≤ 40 := by
  unfold histE
  rw [second_length]
  exact (hist_times k l).2.2
theorem hist_sorted (k : Nat) (l : List Nat) : Srt (histE k l) := second_sorted _ _ (hist_times k l).1
theorem hist_ok (k : Nat) (l : List Nat) : ∀ x ∈ histE k l, TOk (vertF k) (2 + l.length * 1099511627776) x := fun x hx => by
  have := second_all (P := fun t g => TOk (vertF k) (k % 3 + l.length * 1099511627776) (t, g, false)) [] _ (hist_times k l).2.1 x hx
  exact TOk.mono (x := x) this (by omega)
/-- A history of few numbers is right. -/
theorem hist_right (k : Nat) (l : List Nat) (hl : l.length ≤ 1000) : checkF (vertF k) (histE k l) = (0, 0) := by
  have h1 := vertF_bounds k
  have h2 := hist_length k l
  unfold checkF
  rw [if_neg (by omega)]
  exact second_right (vertF k) (k % 3 + l.length * 1099511627776) (by omega) _ [] none 0 rfl (hist_times k l).1 (hist_times k l).2.1 (fun p hp => by cases hp)
theorem sorted_times {l : List Ev} (h : Srt l) : SortedT l := List.Pairwise.imp (fun {a b} hab => by rw [eBef_iff] at hab; omega) h

end Go.Proofs.Ythdlhdeaeaahoaa
