/-
  Texts of ours, joined: XSeatM XAfter XGood XIns LIns XSeat1 XHist LBack LMath.
-/
import Derived.Test.YtanimgfhabkmcaaJ1
import Derived.Test.YtanimgfhabkmcaaJ2
import Derived.Deep.CutRange
import Derived.Deep.LoopGhost
import Derived.Laws.ResultCell
import Derived.Laws.Rows

/-
  The seat's histories, out of few numbers: plain mathematics, no program; that they are right.
-/
namespace Go.Proofs.Ytanimgfhabkmcaa
open Go.RowKit

def vertF (k : Nat) : Nat := [8, 5, 2, 4294967296, 300, 12, 1048576, 3].getD (k % 8) 0
theorem vertF_bounds (k : Nat) : 2 ≤ vertF k ∧ vertF k ≤ 4294967296 := by
  unfold vertF
  have h : k % 8 < 8 := Nat.mod_lt _ (by omega)
  generalize k % 8 = m at h
  match m, h with
  | 0, _ => decide
  | 1, _ => decide
  | 2, _ => decide
  | 3, _ => decide
  | 4, _ => decide
  | 5, _ => decide
  | 6, _ => decide
  | 7, _ => decide
def edgeU (a n : Nat) : Nat := if 230 < a then n - 1 - a % min n 9 else a % min n 9
def edgeW (b n : Nat) : Nat := if 240 < b then n - 1 - b % min n 9 else b % min n 9
def seatEdge (a b n : Nat) : Option Eg := if edgeU a n = edgeW b n then none else some (min (edgeU a n) (edgeW b n), max (edgeU a n) (edgeW b n))
theorem edgeU_lt (a n : Nat) (h : 1 ≤ n) : edgeU a n < n := by
  have h1 : a % min n 9 < min n 9 := Nat.mod_lt _ (by omega)
  unfold edgeU
  split <;> omega
theorem edgeW_lt (a n : Nat) (h : 1 ≤ n) : edgeW a n < n := by
  have h1 : a % min n 9 < min n 9 := Nat.mod_lt _ (by omega)
  unfold edgeW
  split <;> omega
theorem seatEdge_right {a b n : Nat} {e : Eg} (hn : 1 ≤ n) (h : seatEdge a b n = some e) : eRight e.1 e.2 n = true := by
  unfold seatEdge at h
  have h1 := edgeU_lt a n hn
  have h2 := edgeW_lt b n hn
  split at h
  · cases h
  · simp only [Option.some.injEq] at h
    subst h
    unfold eRight
    exact decide_eq_true (by dsimp only; omega)

/-- Where an event is put in; is there one of its time and edge? -/
def befAt (l : List Ev) (e : Ev) (k : Nat) : Bool := (l[k]?.map (fun x => eBef e x)).getD false
def insK (l : List Ev) (e : Ev) : Nat → Nat
  | 0 => 0
  | k + 1 => if befAt l e k = true then insK l e k else k + 1
def alike (x e : Ev) : Bool := decide (x.1 = e.1 ∧ x.2.1 = e.2.1)
def sameAt (l : List Ev) (e : Ev) : Nat → Bool
  | 0 => false
  | k + 1 => (l[k]?.map (fun x => alike x e)).getD false
def insF (l : List Ev) (e : Ev) : List Ev := if sameAt l e (insK l e l.length) = true then l else l.take (insK l e l.length) ++ e :: l.drop (insK l e l.length)
theorem insK_le (l : List Ev) (e : Ev) : ∀ k, insK l e k ≤ k
  | 0 => Nat.le_refl _
  | k + 1 => by
    rw [insK]
    split
    · exact Nat.le_succ_of_le (insK_le l e k)
    · exact Nat.le_refl _
theorem insK_after (l : List Ev) (e : Ev) : ∀ k j x, insK l e k ≤ j → j < k → l[j]? = some x → eBef e x = true
  | 0, _, _, _, h, _ => by omega
  | k + 1, j, x, h1, h2, hx => by
    rw [insK] at h1
    split at h1
    · rename_i hb
      by_cases hj : j < k
      · exact insK_after l e k j x h1 hj hx
      · have : j = k := by omega
        subst this
        unfold befAt at hb
        rw [hx] at hb
        exact hb
    · omega
theorem insK_stop (l : List Ev) (e : Ev) : ∀ k j x, insK l e k = j + 1 → l[j]? = some x → eBef e x = false
  | 0, _, _, h, _ => by cases h
  | k + 1, j, x, h, hx => by
    rw [insK] at h
    split at h
    · exact insK_stop l e k j x h hx
    · rename_i hb
      have : k = j := by omega
      subst this
      unfold befAt at hb
      rw [hx] at hb
      simpa using hb
def Srt (l : List Ev) : Prop := l.Pairwise (fun a b => eBef a b = true)
theorem ins_sorted {l : List Ev} (e : Ev) (h : Srt l) : Srt (insF l e) := by
  unfold insF
  split
  · exact h
  · rename_i hs
    have hk := insK_le l e l.length
    have ha := insK_after l e l.length
    have hst := insK_stop l e l.length
    generalize insK l e l.length = k at hs hk ha hst
    have hdrop : ∀ b ∈ l.drop k, eBef e b = true := fun b hb => by
      obtain ⟨i, hi⟩ := List.getElem?_of_mem hb
      rw [List.getElem?_drop] at hi
      exact ha _ _ (by omega) (List.getElem?_eq_some_iff.1 hi).1 hi
    have htake : ∀ a ∈ l.take k, eBef a e = true := fun a hat => by
      obtain ⟨i, hi⟩ := List.getElem?_of_mem hat
      rw [List.getElem?_take] at hi
      split at hi
      · rename_i hik
        cases k with
        | zero => omega
        | succ k =>
          have hkl : k < l.length := by omega
          have hx : l[k]? = some l[k] := List.getElem?_eq_getElem hkl
          have hb : eBef l[k] e = true := by
            refine eBef_ne (hst k _ rfl hx) (fun hh => hs ?_)
            show (l[k]?.map (fun x => alike x e)).getD false = true
            rw [hx]
            exact decide_eq_true hh
          by_cases hik2 : i = k
          · subst hik2
            rw [hx] at hi
            simp only [Option.some.injEq] at hi
            rw [← hi]
            exact hb
          · have hil : i < l.length := by omega
            rw [List.getElem?_eq_getElem hil] at hi
            simp only [Option.some.injEq] at hi
            rw [← hi]
            exact eBef_trans (List.pairwise_iff_getElem.1 h i k hil hkl (by omega)) hb
      · cases hi
    unfold Srt
    rw [List.pairwise_append]
    refine ⟨h.sublist (List.take_sublist _ _), List.pairwise_cons.2 ⟨hdrop, h.sublist (List.drop_sublist _ _)⟩, fun a hat b hb => ?_⟩
    rcases List.mem_cons.1 hb with rfl | hb
    · exact htake a hat
    · exact eBef_trans (htake a hat) (hdrop b hb)
theorem ins_all {P : Ev → Prop} {l : List Ev} {e : Ev} (h : ∀ x ∈ l, P x) (he : P e) : ∀ x ∈ insF l e, P x := fun x hx => by
  unfold insF at hx
  split at hx
  · exact h x hx
  · rcases List.mem_append.1 hx with hx | hx
    · exact h x (List.mem_of_mem_take hx)
    · rcases List.mem_cons.1 hx with rfl | hx
      · exact he
      · exact h x (List.mem_of_mem_drop hx)
theorem ins_length (l : List Ev) (e : Ev) : (insF l e).length ≤ l.length + 1 := by
  unfold insF
  split
  · omega
  · simp; omega

/-- The times: three numbers each. -/
def nextT (t a : Nat) : Nat := t + a % 4 + if 240 < a then 2 ^ (a % 40) else 0
def stepF (n t : Nat) (ts : List Ev) (b c : Nat) : List Ev := match seatEdge b c n with
  | some e => insF ts ((t : Int), e, false)
  | none => ts
def timesF (n : Nat) : Nat → List Ev → List Nat → List Ev
  | t, ts, a :: b :: c :: r => if ts.length < 40 then timesF n (nextT t a) (stepF n (nextT t a) ts b c) r else ts
  | _, ts, _ => ts
/-- What each does: it comes, if it isn't there, else it goes. -/
def secondF : List Eg → List Ev → List Ev
  | _, [] => []
  | now, e :: r => (e.1, e.2.1, !decide (e.2.1 ∈ now)) :: secondF ((turnF now e.2.1 (!decide (e.2.1 ∈ now))).getD []) r
def histE (k : Nat) (l : List Nat) : List Ev := secondF [] (timesF (vertF k) (k % 3) [] l)

theorem nextT_le (t a : Nat) : nextT t a ≤ t + 3 * 1099511627776 := by
  have h : 2 ^ (a % 40) ≤ 2 ^ 39 := Nat.pow_le_pow_right (by omega) (by omega)
  unfold nextT
  split <;> omega
/-- A time, an edge that may be. -/
def TOk (n B : Nat) (x : Ev) : Prop := 0 ≤ x.1 ∧ x.1 ≤ (B : Int) ∧ eRight x.2.1.1 x.2.1.2 n = true
theorem TOk.mono {n B C : Nat} {x : Ev} (h : TOk n B x) (hBC : B ≤ C) : TOk n C x := ⟨h.1, by have := h.2.1; omega, h.2.2⟩
theorem step_good {n t : Nat} {ts : List Ev} {b c : Nat} (hn : 1 ≤ n) (hs : Srt ts) (h : ∀ x ∈ ts, TOk n t x) : Srt (stepF n t ts b c) ∧ (∀ x ∈ stepF n t ts b c, TOk n t x) ∧ (stepF n t ts b c).length ≤ ts.length + 1 := by
  unfold stepF
  split
  · rename_i e he
    exact ⟨ins_sorted _ hs, ins_all h ⟨by omega, Int.le_refl _, seatEdge_right hn he⟩, ins_length _ _⟩
  · exact ⟨hs, h, by omega⟩
theorem times_good (n : Nat) (hn : 1 ≤ n) : ∀ (t : Nat) (ts : List Ev) (l : List Nat), Srt ts → (∀ x ∈ ts, TOk n t x) → ts.length ≤ 40 →
    Srt (timesF n t ts l) ∧ (∀ x ∈ timesF n t ts l, TOk n (t + l.length * 1099511627776) x) ∧ (timesF n t ts l).length ≤ 40
  | t, ts, a :: b :: c :: r, hs, h, hl => by
    rw [timesF]
    split
    · rename_i hlt
      have ht := nextT_le t a
      obtain ⟨s1, s2, s3⟩ := step_good (t := nextT t a) (b := b) (c := c) hn hs (fun x hx => (h x hx).mono (by unfold nextT; omega))
      obtain ⟨g1, g2, g3⟩ := times_good n hn (nextT t a) (stepF n (nextT t a) ts b c) r s1 s2 (by omega)
      exact ⟨g1, fun x hx => (g2 x hx).mono (by simp only [List.length_cons]; omega), g3⟩
    · exact ⟨hs, fun x hx => (h x hx).mono (by omega), hl⟩
  | t, ts, [], hs, h, hl => ⟨hs, fun x hx => (h x hx).mono (by omega), hl⟩
  | t, ts, [_], hs, h, hl => ⟨hs, fun x hx => (h x hx).mono (by omega), hl⟩
  | t, ts, [_, _], hs, h, hl => ⟨hs, fun x hx => (h x hx).mono (by omega), hl⟩
theorem second_length : ∀ (now : List Eg) (l : List Ev), (secondF now l).length = l.length
  | _, [] => rfl
  | now, e :: r => by rw [secondF, List.length_cons, second_length, List.length_cons]
/-- What is so of an event whatever it does. -/
theorem second_all {P : Int → Eg → Prop} : ∀ (now : List Eg) (l : List Ev), (∀ x ∈ l, P x.1 x.2.1) → ∀ x ∈ secondF now l, P x.1 x.2.1
  | _, [], _, x, hx => by cases hx
  | now, e :: r, h, x, hx => by
    rw [secondF] at hx
    rcases List.mem_cons.1 hx with rfl | hx
    · exact h e (List.mem_cons_self ..)
    · exact second_all _ r (fun y hy => h y (List.mem_cons_of_mem _ hy)) x hx
theorem second_sorted : ∀ (now : List Eg) (l : List Ev), Srt l → Srt (secondF now l)
  | _, [], _ => List.Pairwise.nil
  | now, e :: r, h => by
    have h := List.pairwise_cons.1 h
    rw [secondF]
    refine List.pairwise_cons.2 ⟨fun b hb => ?_, second_sorted _ r h.2⟩
    exact second_all (P := fun t g => eBef (e.1, e.2.1, false) (t, g, false) = true) _ r (fun x hx => h.1 x hx) b hb
theorem second_right (n B : Nat) (hB : B ≤ 4611686018427387903) : ∀ (l : List Ev) (now : List Eg) (pv : Option Ev) (i : Nat), eRising now = true → Srt l → (∀ x ∈ l, TOk n B x) → (∀ p, pv = some p → ∀ x ∈ l, eBef p x = true) → chkF n now pv i (secondF now l) = (0, 0)
  | [], _, _, _, _, _, _, _ => by rw [secondF, chkF]
  | e :: r, now, pv, i, hr, hs, hg, hp => by
    have hs := List.pairwise_cons.1 hs
    obtain ⟨g1, g2, g3⟩ := hg e (List.mem_cons_self ..)
    obtain ⟨now', hn'⟩ := turn_some (l := now) (e := e.2.1) (add := !decide (e.2.1 ∈ now)) hr rfl
    rw [secondF, chkF, if_neg (by dsimp only; omega), if_neg (by rw [g3]; simp), if_neg]
    · dsimp only
      rw [hn']
      dsimp only
      rw [Option.getD_some]
      refine second_right n B hB r now' _ (i + 1) (turn_rising hn') hs.2 (fun x hx => hg x (List.mem_cons_of_mem _ hx)) (fun p hp x hx => ?_)
      simp only [Option.some.injEq] at hp
      subst hp
      exact hs.1 x hx
    · cases pv with
      | none => simp
      | some p =>
        have := hp p rfl e (List.mem_cons_self ..)
        simp only [Option.any_some, Bool.not_eq_true']
        rw [show eBef p (e.1, e.2.1, !decide (e.2.1 ∈ now)) = eBef p e from rfl, this]
        simp

theorem hist_times (k : Nat) (l : List Nat) : Srt (timesF (vertF k) (k % 3) [] l) ∧ (∀ x ∈ timesF (vertF k) (k % 3) [] l, TOk (vertF k) (k % 3 + l.length * 1099511627776) x) ∧ (timesF (vertF k) (k % 3) [] l).length ≤ 40 :=
  times_good (vertF k) (by have := vertF_bounds k; omega) (k % 3) [] l List.Pairwise.nil (fun x hx => by cases hx) (by simp)
theorem hist_length (k : Nat) (l : List Nat) : (histE k l).length ≤ 40 := by
  unfold histE
  rw [second_length]
  exact (hist_times k l).2.2
theorem hist_sorted (k : Nat) (l : List Nat) : Srt (histE k l) := second_sorted _ _ (hist_times k l).1
theorem hist_ok (k : Nat) (l : List Nat) : ∀ x ∈ histE k l, TOk (vertF k) (2 + l.length * 1099511627776) x := fun x hx => by
  have := second_all (P := fun t g => TOk (vertF k) (k % 3 + l.length * 1099511627776) (t, g, false)) [] _ (hist_times k l).2.1 x hx
  exact TOk.mono (x := x) this (by omega)
/-- A history of few numbers is right. -/
theorem hist_right (k : Nat) (l : List Nat) (hl : l.length ≤ 1000) : checkF (vertF k) (histE k l) = (0, 0) := by
  have h1 := vertF_bounds k
  have h2 := hist_length k l
  unfold checkF
  rw [if_neg (by omega)]
  exact second_right (vertF k) (k % 3 + l.length * 1099511627776) (by omega) _ [] none 0 rfl (hist_times k l).1 (hist_times k l).2.1 (fun p hp => by cases hp)
theorem sorted_times {l : List Ev} (h : Srt l) : SortedT l := List.Pairwise.imp (fun {a b} hab => by rw [eBef_iff] at hab; omega) h

end Go.Proofs.Ytanimgfhabkmcaa

/-
  The contracts of the reference's After, At, Degree.
-/
namespace Go.Proofs.Ytanimgfhabkmcaa
open Go.RowKit

/-- What is there behind so many events; at a time; how many edges a vertex has. -/
def afterF (n : Nat) (evs : List Ev) (k : Int) : List Eg × Nat := if (checkF n evs).2 = 0 then (aftF [] (evs.take k.toNat), 0) else ([], (checkF n evs).2)
def atF (n : Nat) (evs : List Ev) (t : Int) : List Eg × Nat := afterF n evs ((uptoF evs t : Nat) : Int)
def hasV (v : Nat) (e : Eg) : Bool := decide (e.1 = v ∨ e.2 = v)
def degF (l : List Eg) (v : Nat) : Nat := (l.filter (hasV v)).length

set_option maxRecDepth 4000 in
set_option maxHeartbeats 1600000 in
theorem refAfter_any (n : Nat) (v : Value) (evs : List Ev) (k : Int) (w : World) (h : RdV w v evs) (hl : evs.length ≤ 1000000) (hfit : ∀ x ∈ evs, EvFit x) (hk : -9223372036854775808 ≤ k ∧ k ≤ 9223372036854775807) : Calls Try.prog 46 #[histV n v, .int .i64 k] w fun r w' => (∃ v', r = .returned (.tuple #[v', .int .i64 ((afterF n evs k).2 : Int)]) ∧ RdE w' v' (afterF n evs k).1 ∧ (∀ b, v'.ownBlock = some b → w.heap.size ≤ b)) ∧ Fr w w' (fun _ => False) := by
  obtain ⟨a0, c0, rfl, hc0⟩ := h.form
  obtain ⟨m, hm⟩ : ∃ m, m = evs.length := ⟨_, rfl⟩
  rw [← hm] at h hl hc0 ⊢
  obtain ⟨⟨R1, R2⟩, hR⟩ : ∃ R, R = afterF n evs k := ⟨_, rfl⟩
  rw [← hR]
  dsimp only
  have HR : Hid _ := hR
  have Hr : Hid (RdV w (.slice a0 m c0) evs) := h
  have Hm : Hid _ := hm
  have Hl : Hid (evs.length ≤ 1000000) := by show _ ≤ _; omega
  have Hfit : Hid _ := hfit
  have Hk : Hid _ := hk
  clear h hm hR hfit hk
  obtain ⟨⟨ci, ce⟩, hC⟩ : ∃ C, C = checkF n evs := ⟨_, rfl⟩
  have HC : Hid _ := hC
  clear hC
  unfold histV
  go_enter Try.func46, Try.ntmps46
  go_wp2_with fail
  obtain ⟨p, hp⟩ : ∃ p, p = w.heap.size := ⟨_, rfl⟩
  obtain ⟨wa, hwa⟩ : ∃ wa, wa = w.alloc (.cells #[.int .u64 (n : Int), .slice a0 m c0] 25) := ⟨_, rfl⟩
  rw [← hwa, ← hp]
  have Hpb : Hid (∀ z, Fr wa z (fun _ => False) → z.heap[p]? = some (.cells #[.int .u64 (n : Int), .slice a0 m c0] 25 (0, 0))) := fun z hz => hz.kept (by rw [hwa, hp]; exact heap_alloc_new _ _) (fun h => h)
  have Hwa : Hid (Fr w wa (fun _ => False)) := by show Fr _ _ _; rw [hwa]; exact (Fr.refl _ _).alloc _
  have Hr : Hid (∀ z, Fr wa z (fun _ => False) → RdV z (.slice a0 m c0) evs) := fun z hz => Hr.out.keep (Hwa.out.none hz)
  clear hp hwa
  refine (refCheck_any n _ evs _ (Hr.out wa (Fr.refl _ _)) Hl.out Hfit.out).mono ?_
  rw [← HC.out]
  rintro r x1 ⟨rfl, g⟩
  have G1 : Hid (Fr wa x1 (fun _ => False)) := g
  clear g
  dsimp only
  by_cases hce : ce = 0
  · subst hce
    have Hres : Hid (aftF [] (evs.take k.toNat) = R1 ∧ R2 = 0) := by
      have := HR.out
      unfold afterF at this
      rw [← HC.out, if_pos rfl] at this
      simp only [Prod.mk.injEq] at this
      exact ⟨this.1.symm, this.2⟩
    obtain rfl := Hres.out.2
    obtain ⟨q, hq⟩ : ∃ q, q = min k.toNat m := ⟨_, rfl⟩
    have hqm : q ≤ m := by omega
    have Hqk : Hid (∀ i : Nat, i < m → (i < q ↔ (i : Int) < k)) := fun i hi => by constructor <;> intro h <;> omega
    have Htk : Hid ((evs.take k.toNat).length = q) := by show _ = _; rw [List.length_take, hq, ← Hm.out]
    clear hq
    go_wp2_with fail
    go_loopg [8, 9] m (fun g S I wr => ∃ (i : Nat) (now : List Eg), g = m - i ∧ i ≤ q ∧ I = .int .i64 (i : Int) ∧ RdE wr S now ∧ now.length ≤ i ∧ (∀ b, S.ownBlock = some b → w.heap.size ≤ b) ∧ aftF now ((evs.take k.toNat).drop i) = R1 ∧ Fr wa wr (fun _ => False))
    case atStart => exact ⟨0, [], by omega, by omega, rfl, RdE.nil _, by simp, fun b hb => (by simp [Value.ownBlock] at hb), by simpa using Hres.out.1, G1.out⟩
    case round =>
      obtain ⟨i, now, hg, hi, rfl, hnow, hnl, hnn, hst, hf⟩ := hrel
      have Hg : Hid _ := hg
      have Hnow : Hid (RdE wr u8 now) := hnow
      have Hnl : Hid _ := hnl
      have Hnn : Hid _ := hnn
      have Hst : Hid _ := hst
      have Hf : Hid (Fr wa wr (fun _ => False)) := hf
      clear hg hnow hnl hnn hst hf
      obtain ⟨ca, cb⟩ : wr.cell? ⟨p, 0, none⟩ = some (.int .u64 (n : Int)) ∧ wr.cell? ⟨p, 1, none⟩ = some (.slice a0 m c0) := ⟨two_cell0 (Hpb.out wr Hf.out), two_cell1 (Hpb.out wr Hf.out)⟩
      by_cases hlt : i < q
      · have him : i < m := by omega
        have hin : (i : Int) < (m : Int) := by omega
        have hin' : decide (i < m) = true := decide_eq_true him
        have hik : (i : Int) < k := (Hqk.out i him).1 hlt
        have hik' : decide ((i : Int) < k) = true := decide_eq_true hik
        obtain ⟨⟨t, ⟨e1, e2⟩, ad⟩, ha⟩ : ∃ a, evs[i]? = some a := ⟨_, List.getElem?_eq_getElem (by rw [← Hm.out]; omega)⟩
        have Hst2 : Hid (aftF ((turnF now (e1, e2) ad).getD []) ((evs.take k.toNat).drop (i + 1)) = R1) := by
          show _ = _
          rw [← Hst.out, drop_at (l := evs.take k.toNat) (i := i) (a := (t, (e1, e2), ad)) (by rw [List.getElem?_take, if_pos (by have h1 := Htk.out; rw [List.length_take] at h1; omega)]; exact ha), aftF]
        obtain ⟨bk, off, cap, e3, hbk, hca⟩ := (Hr.out wa (Fr.refl _ _)).get i _ ha
        simp only [Value.slice.injEq] at e3
        obtain ⟨rfl, -, rfl⟩ := e3
        obtain ⟨k0, k1, k2, k3⟩ := hca wr (Hf.out.mono (fun _ _ h => h.elim))
        have hi0 : (0 : Int) ≤ (i : Int) := by omega
        obtain ⟨TF, hTF⟩ : ∃ T, T = turnF now (e1, e2) ad := ⟨_, rfl⟩
        rw [← hTF] at Hst2
        have HTF : Hid _ := hTF
        clear hca ha hbk hTF
        go_wp2_with fail
        refine (refTurn_any u8 now (t, (e1, e2), ad) _ Hnow.out (by have := Hnl.out; omega)).mono ?_
        rw [show turnF now (t, (e1, e2), ad).2.1 (t, (e1, e2), ad).2.2 = TF from HTF.out.symm]
        rintro r x5 ⟨⟨v5, rfl, hr5, hn5⟩, g⟩
        have Hn5 : Hid (∀ b, v5.ownBlock = some b → w.heap.size ≤ b) := fun b hb => by have h1 := hn5 b hb; have h2 := Hf.out.size; have h3 := Hwa.out.size; omega
        have Hr5 : Hid _ := hr5
        have G5 : Hid (Fr wa x5 (fun _ => False)) := Hf.out.none g
        have Hlen : Hid ((TF.getD []).length ≤ i + 1) := by
          show _ ≤ _
          cases hT : TF with
          | none => simp
          | some z => have h1 := turn_length (HTF.out.symm.trans hT); have h2 := Hnl.out; rw [Option.getD_some]; omega
        obtain ⟨B5, hB5⟩ : ∃ B, B = TF.isSome := ⟨_, rfl⟩
        rw [← hB5]
        clear hr5 hn5 g k0 k1 k2 k3 ca cb hB5
        go_wp2_with fail
        go_roundg (m - (i + 1))
        case rel => exact ⟨i + 1, TF.getD [], rfl, by omega, by go_num, Hr5.out, Hlen.out, Hn5.out, Hst2.out, G5.out⟩
        case measure => rw [Hg.out]; omega
      · have hiq : i = q := by omega
        have Hend : Hid (now = R1) := by
          have := Hst.out
          rw [List.drop_eq_nil_of_le (by rw [Htk.out, hiq]; exact Nat.le_refl _), aftF] at this
          exact this
        have Hfo : Hid (Fr w wr (fun _ => False)) := Hwa.out.none Hf.out
        by_cases him : i < m
        · have hin : (i : Int) < (m : Int) := by omega
          have hin' : decide (i < m) = true := decide_eq_true him
          have hik : ¬ (i : Int) < k := fun h => hlt ((Hqk.out i him).2 h)
          have hik' : decide ((i : Int) < k) = false := decide_eq_false hik
          clear hiq
          go_wp2
          go_ret2
          exact ⟨⟨_, rfl, by rw [← Hend.out]; exact Hnow.out, Hnn.out⟩, Hfo.out⟩
        · have hin : ¬ (i : Int) < (m : Int) := by omega
          have hin' : decide (i < m) = false := decide_eq_false him
          clear hiq
          go_wp2
          go_ret2
          exact ⟨⟨_, rfl, by rw [← Hend.out]; exact Hnow.out, Hnn.out⟩, Hfo.out⟩
  · have f1 : ((ce : Int) != 0) = true := by rw [bne_iff_ne]; omega
    have f1' : ((ce : Int) == 0) = false := by rw [beq_eq_false_iff_ne]; omega
    have f2 : (ce == 0) = false := by rw [beq_eq_false_iff_ne]; exact hce
    obtain ⟨rfl, rfl⟩ : R1 = [] ∧ R2 = ce := by
      have := HR.out
      unfold afterF at this
      rw [← HC.out, if_neg hce] at this
      simpa using this
    have Hfo : Hid (Fr w x1 (fun _ => False)) := Hwa.out.none G1.out
    clear hce
    go_wp2
    go_ret2
    exact ⟨⟨_, rfl, RdE.nil _, fun b hb => by simp [Value.ownBlock] at hb⟩, Hfo.out⟩

set_option maxRecDepth 4000 in
set_option maxHeartbeats 800000 in
theorem refAt_any (n : Nat) (v : Value) (evs : List Ev) (t : Int) (w : World) (h : RdV w v evs) (hl : evs.length ≤ 1000000) (hfit : ∀ x ∈ evs, EvFit x) : Calls Try.prog 22 #[histV n v, .int .i64 t] w fun r w' => (∃ v', r = .returned (.tuple #[v', .int .i64 ((atF n evs t).2 : Int)]) ∧ RdE w' v' (atF n evs t).1 ∧ (∀ b, v'.ownBlock = some b → w.heap.size ≤ b)) ∧ Fr w w' (fun _ => False) := by
  obtain ⟨a0, c0, rfl, hc0⟩ := h.form
  obtain ⟨m, hm⟩ : ∃ m, m = evs.length := ⟨_, rfl⟩
  rw [← hm] at h hl hc0 ⊢
  obtain ⟨⟨R1, R2⟩, hR⟩ : ∃ R, R = atF n evs t := ⟨_, rfl⟩
  rw [← hR]
  dsimp only
  have HR : Hid _ := hR
  have Hr : Hid (RdV w (.slice a0 m c0) evs) := h
  have Hm : Hid _ := hm
  have Hl : Hid (evs.length ≤ 1000000) := by show _ ≤ _; omega
  have Hfit : Hid _ := hfit
  clear h hm hR hfit
  obtain ⟨u, hu⟩ : ∃ u, u = uptoF evs t := ⟨_, rfl⟩
  have HU : Hid _ := hu
  have Hub : Hid (u ≤ 1000000) := by
    show _ ≤ _
    rw [hu]
    unfold uptoF
    exact Nat.le_trans (List.takeWhile_sublist _).length_le Hl.out
  clear hu
  unfold histV
  go_enter Try.func22, Try.ntmps22
  go_upto_region 1 with fail
  obtain ⟨p, hp⟩ : ∃ p, p = w.heap.size := ⟨_, rfl⟩
  obtain ⟨wa, hwa⟩ : ∃ wa, wa = w.alloc (.cells #[.int .u64 (n : Int), .slice a0 m c0] 25) := ⟨_, rfl⟩
  rw [← hwa, ← hp]
  have Hpb : Hid (∀ z, Fr wa z (fun _ => False) → z.heap[p]? = some (.cells #[.int .u64 (n : Int), .slice a0 m c0] 25 (0, 0))) := fun z hz => hz.kept (by rw [hwa, hp]; exact heap_alloc_new _ _) (fun h => h)
  have Hwa : Hid (Fr w wa (fun _ => False)) := by show Fr _ _ _; rw [hwa]; exact (Fr.refl _ _).alloc _
  have Hr : Hid (∀ z, Fr wa z (fun _ => False) → RdV z (.slice a0 m c0) evs) := fun z hz => Hr.out.keep (Hwa.out.none hz)
  clear hp hwa
  obtain ⟨x0, hx0⟩ : ∃ x, x = wa.drew := ⟨_, rfl⟩
  have G0 : Hid (Fr wa x0 (fun _ => False)) := by show Fr _ _ _; rw [hx0]; exact (Fr.refl _ _).drew
  go_wp2_with fail
  refine wp_region_tree (fun _ => False) (.take 0 (.take 1 (.take 2 (.one 3 (.one 4 (.take 5 (.take 6 (.take 7 (.take 8 .nil))))))))) (by kernel_rfl) (by kernel_rfl) (by decide) (by kernel_rfl) ?_
  rw [← hx0]
  clear hx0
  have ka : ∀ z, Fr x0 z (fun _ => False) → z.cell? ⟨p, 0, none⟩ = some (.int .u64 (n : Int)) := fun z hz => two_cell0 (Hpb.out z (G0.out.none hz))
  have kb : ∀ z, Fr x0 z (fun _ => False) → z.cell? ⟨p, 1, none⟩ = some (.slice a0 m c0) := fun z hz => two_cell1 (Hpb.out z (G0.out.none hz))
  repeat (refine wpT_take (v := ?_) rfl rfl (fun x hx => ?_) ?_; rotate_left; (focus (go_simp; with_reducible rfl)); simp only [Act.put, List.setIfInBounds_toArray, List.set_cons_zero, List.set_cons_succ])
  clear ka kb
  refine wpT_one rfl rfl (fun K hK => ?_)
  go_simp
  refine (refUpto_any n _ evs t _ (Hr.out _ G0.out) Hl.out).mono ?_
  rw [← HU.out]
  rintro r x1 ⟨rfl, g⟩
  refine hK _ _ g ?_
  clear hK K
  have G1 : Hid (Fr wa x1 (fun _ => False)) := G0.out.none g
  clear g
  refine wpT_one rfl rfl (fun K hK => ?_)
  go_simp
  refine (refAfter_any n _ evs (u : Int) _ (Hr.out _ G1.out) Hl.out Hfit.out (by have := Hub.out; omega)).mono ?_
  rw [show afterF n evs (u : Int) = (R1, R2) by rw [HR.out, HU.out]; rfl]
  dsimp only
  rintro r x2 ⟨⟨v2, rfl, hr2, hn2⟩, g⟩
  have Hr2 : Hid (RdE x2 v2 R1) := hr2
  have Hn2 : Hid (∀ b, v2.ownBlock = some b → w.heap.size ≤ b) := fun b hb => by have h1 := hn2 b hb; have h2 := G1.out.size; have h3 := Hwa.out.size; omega
  refine hK _ _ g ?_
  clear hK K hr2 hn2
  have Hfo : Hid (Fr w x2 (fun _ => False)) := Hwa.out.none (G1.out.none g)
  clear g
  try simp only [Act.put, List.setIfInBounds_toArray, List.set_cons_zero, List.set_cons_succ]
  repeat (refine wpT_take (v := ?_) rfl rfl (fun x hx => ?_) ?_; rotate_left; (focus (go_simp; with_reducible rfl)); simp only [Act.put, List.setIfInBounds_toArray, List.set_cons_zero, List.set_cons_succ])
  unfold wpT
  go_wp2_with fail
  go_ret2
  exact ⟨⟨_, rfl, Hr2.out, Hn2.out⟩, Hfo.out⟩

end Go.Proofs.Ytanimgfhabkmcaa

/-
  Events that may be: what becomes of the graph; plain mathematics.
-/
namespace Go.Proofs.Ytanimgfhabkmcaa
open Go.RowKit

/-- Events that may be, from a graph on. -/
def Good (n : Nat) : List Eg → List Ev → Prop
  | _, [] => True
  | now, x :: r => (0 ≤ x.1 ∧ x.1 ≤ 4611686018427387903 ∧ eRight x.2.1.1 x.2.1.2 n = true) ∧ ∃ now', turnF now x.2.1 x.2.2 = some now' ∧ Good n now' r
theorem good_of (n : Nat) : ∀ (evs : List Ev) (now : List Eg) (pv : Option Ev) (i : Nat), (chkF n now pv i evs).2 = 0 → Good n now evs ∧ Srt evs ∧ (∀ p, pv = some p → ∀ x ∈ evs, eBef p x = true)
  | [], now, pv, i, _ => ⟨trivial, List.Pairwise.nil, fun _ _ x hx => by cases hx⟩
  | x :: r, now, pv, i, h => by
    rw [chkF] at h
    split at h
    · simp at h
    · rename_i h1
      split at h
      · simp at h
      · rename_i h2
        split at h
        · simp at h
        · rename_i h3
          split at h
          · simp at h
          · rename_i now' h4
            obtain ⟨g1, g2, g3⟩ := good_of n r now' (some x) (i + 1) h
            have hs : Srt (x :: r) := List.pairwise_cons.2 ⟨g3 x rfl, g2⟩
            refine ⟨⟨⟨by omega, by omega, by simpa using h2⟩, now', h4, g1⟩, hs, fun p hp y hy => ?_⟩
            subst hp
            have hpx : eBef p x = true := by simpa using h3
            rcases List.mem_cons.1 hy with rfl | hy
            · exact hpx
            · exact eBef_trans hpx (g3 x rfl y hy)
theorem good_check {n : Nat} {evs : List Ev} (h : (checkF n evs).2 = 0) : n ≤ 4294967296 ∧ evs.length ≤ 2147483648 ∧ Good n [] evs ∧ Srt evs := by
  unfold checkF at h
  split at h
  · cases h
  · rename_i h1
    obtain ⟨g1, g2, -⟩ := good_of n evs [] none 0 h
    exact ⟨by omega, by omega, g1, g2⟩

theorem good_times {n : Nat} : ∀ {evs : List Ev} {now : List Eg}, Good n now evs → ∀ x ∈ evs, 0 ≤ x.1 ∧ x.1 ≤ 4611686018427387903 ∧ eRight x.2.1.1 x.2.1.2 n = true
  | [], _, _, x, hx => by cases hx
  | y :: r, now, h, x, hx => by
    obtain ⟨h1, now', -, h2⟩ := h
    rcases List.mem_cons.1 hx with rfl | hx
    · exact h1
    · exact good_times h2 x hx
theorem turn_add {l l' : List Eg} {e : Eg} {add : Bool} (h : turnF l e add = some l') : eRising l = true ∧ add = !decide (e ∈ l) := by
  unfold turnF at h
  split at h
  · cases h
  · rename_i hn
    refine ⟨?_, ?_⟩
    · cases hh : eRising l with
      | true => rfl
      | false => exact absurd (.inl hh) hn
    · by_cases hm : e ∈ l <;> cases add <;> simp_all
theorem turn_come {l l' : List Eg} {e : Eg} (h : turnF l e true = some l') : e ∉ l ∧ l'.Perm (e :: l) := by
  have h1 := (turn_add h).2
  have hm : e ∉ l := by simpa using h1
  refine ⟨hm, (List.perm_ext_iff_of_nodup (rising_nodup (turn_rising h)) (List.nodup_cons.2 ⟨hm, rising_nodup (turn_add h).1⟩)).2 (fun x => ?_)⟩
  rw [mem_turn h, List.mem_cons]
  constructor
  · rintro (⟨h2, h3⟩ | ⟨-, h2⟩)
    · exact .inr h2
    · exact .inl h2
  · rintro (h2 | h2)
    · exact .inr ⟨rfl, h2⟩
    · exact .inl ⟨h2, fun he => hm (he ▸ h2)⟩
theorem turn_go {l l' : List Eg} {e : Eg} (h : turnF l e false = some l') : e ∈ l ∧ e ∉ l' ∧ l.Perm (e :: l') := by
  have h1 := (turn_add h).2
  have hm : e ∈ l := by simpa using h1
  have hm' : e ∉ l' := fun h2 => by
    rw [mem_turn h] at h2
    rcases h2 with ⟨-, h3⟩ | ⟨h3, -⟩
    · exact h3 rfl
    · cases h3
  refine ⟨hm, hm', (List.perm_ext_iff_of_nodup (rising_nodup (turn_add h).1) (List.nodup_cons.2 ⟨hm', rising_nodup (turn_rising h)⟩)).2 (fun x => ?_)⟩
  rw [List.mem_cons, mem_turn h]
  constructor
  · intro h2
    by_cases hx : x = e
    · exact .inl hx
    · exact .inr (.inl ⟨h2, hx⟩)
  · rintro (h2 | ⟨h2, -⟩ | ⟨h2, -⟩)
    · exact h2 ▸ hm
    · exact h2
    · cases h2

theorem rising_ext {l m : List Eg} (hl : eRising l = true) (hm : eRising m = true) (h : ∀ x, x ∈ l ↔ x ∈ m) : l = m :=
  List.Perm.eq_of_pairwise (le := fun a b => eLess a b = true) (fun x y _ _ h k => by rw [eLess_asymm h] at k; cases k) (eRising_pw.1 hl) (eRising_pw.1 hm) ((List.perm_ext_iff_of_nodup (rising_nodup hl) (rising_nodup hm)).2 h)
theorem turn_there {l l' : List Eg} {e : Eg} {add : Bool} (h : turnF l e add = some l') : decide (e ∈ l') = add := by
  have hm := mem_turn h
  cases add with
  | true => exact decide_eq_true ((hm e).2 (.inr ⟨rfl, rfl⟩))
  | false => exact decide_eq_false (fun hh => by rcases (hm e).1 hh with ⟨-, h2⟩ | ⟨h2, -⟩ <;> simp at h2)
/-- A turn, turned back. -/
theorem turn_back {l l' : List Eg} {e : Eg} {add : Bool} (h : turnF l e add = some l') : turnF l' e (!add) = some l := by
  have hl := (turn_add h).1
  have hl' := turn_rising h
  have hm := mem_turn h
  have hin : decide (e ∈ l') = add := by
    cases add with
    | true => exact decide_eq_true ((hm e).2 (.inr ⟨rfl, rfl⟩))
    | false => exact decide_eq_false (fun hh => by rcases (hm e).1 hh with ⟨-, h2⟩ | ⟨h2, -⟩ <;> simp at h2)
  obtain ⟨l'', h2⟩ := turn_some (l := l') (e := e) (add := !add) hl' (by rw [hin])
  rw [h2]
  have h3 := mem_turn h2
  refine congrArg some (rising_ext (turn_rising h2) hl (fun x => ?_))
  have h4 := (turn_add h).2
  rw [h3, hm]
  by_cases hx : x = e
  · subst hx
    cases add <;> simp_all
  · simp [hx]
theorem aft_rising : ∀ (l : List Ev) (now : List Eg), eRising now = true → eRising (aftF now l) = true
  | [], _, h => h
  | x :: r, now, h => by
    rw [aftF]
    refine aft_rising r _ ?_
    cases ht : turnF now x.2.1 x.2.2 with
    | none => rfl
    | some now' => exact turn_rising ht
theorem aft_length : ∀ (l : List Ev) (now : List Eg), (aftF now l).length ≤ now.length + l.length
  | [], _ => by simp [aftF]
  | x :: r, now => by
    rw [aftF]
    have h1 := aft_length r ((turnF now x.2.1 x.2.2).getD [])
    have h2 : ((turnF now x.2.1 x.2.2).getD []).length ≤ now.length + 1 := by
      cases ht : turnF now x.2.1 x.2.2 with
      | none => simp
      | some now' => exact turn_length ht
    rw [List.length_cons]
    omega
theorem aft_mem : ∀ (l : List Ev) (now : List Eg) (e : Eg), e ∈ aftF now l → e ∈ now ∨ ∃ x ∈ l, x.2.1 = e
  | [], _, e, h => .inl h
  | x :: r, now, e, h => by
    rw [aftF] at h
    rcases aft_mem r _ e h with h1 | ⟨y, h1, h2⟩
    · cases ht : turnF now x.2.1 x.2.2 with
      | none => rw [ht] at h1; cases h1
      | some now' =>
        rw [ht, Option.getD_some] at h1
        rcases (mem_turn ht e).1 h1 with h2 | h2
        · exact .inl h2.1
        · exact .inr ⟨x, List.mem_cons_self .., h2.2.symm⟩
    · exact .inr ⟨y, List.mem_cons_of_mem _ h1, h2⟩
theorem after_err (n : Nat) (evs : List Ev) (k : Int) : (afterF n evs k).2 = (checkF n evs).2 := by
  unfold afterF
  split
  · rename_i h; exact h.symm
  · rfl
theorem at_err (n : Nat) (evs : List Ev) (t : Int) : (atF n evs t).2 = (checkF n evs).2 := after_err n evs _
theorem after_none {n : Nat} {evs : List Ev} {k : Int} (h : (checkF n evs).2 ≠ 0) : (afterF n evs k).1 = [] := by
  unfold afterF
  rw [if_neg h]
theorem after_length (n : Nat) (evs : List Ev) (k : Int) : (afterF n evs k).1.length ≤ evs.length := by
  unfold afterF
  split
  · dsimp only
    refine Nat.le_trans (aft_length _ _) ?_
    rw [List.length_nil, Nat.zero_add, List.length_take]
    exact Nat.min_le_right _ _
  · simp
theorem after_fit {n : Nat} {evs : List Ev} {k : Int} (hf : ∀ x ∈ evs, EvFit x) : ∀ e ∈ (afterF n evs k).1, EgFit e := by
  unfold afterF
  split
  · intro e he
    rcases aft_mem _ _ e he with h | ⟨x, h, rfl⟩
    · cases h
    · exact (hf x (List.mem_of_mem_take h)).2
  · intro e he
    cases he
theorem after_rising (n : Nat) (evs : List Ev) (k : Int) : eRising (afterF n evs k).1 = true := by
  unfold afterF
  split
  · exact aft_rising _ [] rfl
  · rfl
/-- What one event more makes. -/
theorem good_step {n : Nat} : ∀ {evs : List Ev} {now : List Eg} {i : Nat} {x : Ev}, Good n now evs → evs[i]? = some x → turnF (aftF now (evs.take i)) x.2.1 x.2.2 = some (aftF now (evs.take (i + 1)))
  | [], _, _, _, _, hx => by simp at hx
  | y :: r, now, 0, x, hg, hx => by
    obtain ⟨-, now', ht, -⟩ := hg
    simp only [List.getElem?_cons_zero, Option.some.injEq] at hx
    subst hx
    rw [List.take_zero, aftF, List.take_succ_cons, List.take_zero, aftF, aftF, ht, Option.getD_some]
  | y :: r, now, i + 1, x, hg, hx => by
    obtain ⟨-, now', ht, hg'⟩ := hg
    rw [List.take_succ_cons, aftF, ht, Option.getD_some, List.take_succ_cons, aftF, ht, Option.getD_some]
    exact good_step hg' (by simpa using hx)

end Go.Proofs.Ytanimgfhabkmcaa

/-
  The contract of the seat's insert.
-/
namespace Go.Proofs.Ytanimgfhabkmcaa
open Go.RowKit

def befBack (l : List Ev) (e : Ev) : Nat → Bool
  | 0 => false
  | k + 1 => befAt l e k
theorem insK_end {l : List Ev} {e : Ev} {k : Nat} (h : befBack l e k = false) : insK l e k = k := by
  cases k with
  | zero => rfl
  | succ k => rw [insK, if_neg (by rw [show befAt l e k = false from h]; simp)]

set_option maxRecDepth 4000 in
set_option maxHeartbeats 1600000 in
theorem seatInsert_any (v : Value) (evs : List Ev) (x : Ev) (w : World) (h : RdV w v evs) (hl : evs.length ≤ 1000000) : Calls Try.prog 27 #[v, evV x] w fun r w' => (∃ v', r = .returned v' ∧ RdV w' v' (insF evs x)) ∧ Fr w w' (fun _ => False) := by
  obtain ⟨a0, c0, rfl, hc0⟩ := h.form
  obtain ⟨n, hn⟩ : ∃ n, n = evs.length := ⟨_, rfl⟩
  obtain ⟨t, ⟨e1, e2⟩, ad⟩ := x
  rw [← hn] at h hl hc0 ⊢
  have Hr : Hid (RdV w (.slice a0 n c0) evs) := h
  have Hn : Hid _ := hn
  have Hl : Hid (evs.length ≤ 1000000) := by show _ ≤ _; omega
  obtain ⟨R, hR⟩ : ∃ R, R = insF evs (t, (e1, e2), ad) := ⟨_, rfl⟩
  rw [← hR]
  have HR : Hid _ := hR
  clear h hn hR
  unfold evV eventV
  dsimp only
  go_enter Try.func27, Try.ntmps27
  go_wp2_with fail
  obtain ⟨p, hp⟩ : ∃ p, p = w.heap.size := ⟨_, rfl⟩
  obtain ⟨wa, hwa⟩ : ∃ wa, wa = w.alloc (.cells #[.int .i64 t, .int .u32 (e1 : Int), .int .u32 (e2 : Int), .bool ad] 65) := ⟨_, rfl⟩
  rw [← hwa, ← hp]
  have Hpb : Hid (∀ z, Fr wa z (fun _ => False) → z.heap[p]? = some (.cells #[.int .i64 t, .int .u32 (e1 : Int), .int .u32 (e2 : Int), .bool ad] 65 (0, 0))) := fun z hz => hz.kept (by rw [hwa, hp]; exact heap_alloc_new _ _) (fun h => h)
  have Hwa : Hid (Fr w wa (fun _ => False)) := by show Fr _ _ _; rw [hwa]; exact (Fr.refl _ _).alloc _
  have Hr : Hid (∀ z, Fr wa z (fun _ => False) → RdV z (.slice a0 n c0) evs) := fun z hz => Hr.out.keep (Hwa.out.none hz)
  clear hp hwa
  go_loopg [5] n (fun g I wr => ∃ k : Nat, g = k ∧ k ≤ n ∧ I = .int .i64 (k : Int) ∧ insK evs (t, (e1, e2), ad) k = insK evs (t, (e1, e2), ad) evs.length ∧ Fr wa wr (fun _ => False))
  case atStart => exact ⟨n, rfl, Nat.le_refl _, rfl, by rw [← Hn.out], Fr.refl _ _⟩
  case round =>
    obtain ⟨k, hg, hk, rfl, hle, hf⟩ := hrel
    have Hg : Hid _ := hg
    have Hle : Hid _ := hle
    have Hf : Hid (Fr wa wr (fun _ => False)) := hf
    clear hg hle hf
    obtain ⟨B, hB⟩ : ∃ B, B = befBack evs (t, (e1, e2), ad) k := ⟨_, rfl⟩
    have HB : Hid _ := hB
    clear hB
    go_upto_region 2 with fail
    go_cut [18] from 8 to 20 (fun V wx => V = .bool B ∧ Fr wr wx (fun _ => False))
    case first =>
      by_cases h0 : k = 0
      · subst h0
        obtain rfl : B = false := HB.out
        go_wp2_with fail
        refine wp_region_tree (fun _ => False) (.take 0 (.take 1 (.take 2 (.take 3 (.take 4 (.take 5 (.take 6 (.take 7 (.take 8 (.one 9 (.take 10 .nil))))))))))) (by kernel_rfl) (by kernel_rfl) (by decide) (by kernel_rfl) ?_
        iterate 3 (refine wpT_take (v := ?_) rfl rfl (fun x hx => ?_) ?_; rotate_left; (focus (go_simp; with_reducible rfl)); simp only [Act.put, List.setIfInBounds_toArray, List.set_cons_zero, List.set_cons_succ])
        iterate 6 (refine wpT_pass rfl rfl ?_; simp only [Act.put, List.setIfInBounds_toArray, List.set_cons_zero, List.set_cons_succ])
        refine wpT_skip rfl rfl ?_
        simp only [Act.put, List.setIfInBounds_toArray, List.set_cons_zero, List.set_cons_succ]
        repeat (refine wpT_take (v := ?_) rfl rfl (fun x hx => ?_) ?_; rotate_left; (focus (go_simp; with_reducible rfl)); simp only [Act.put, List.setIfInBounds_toArray, List.set_cons_zero, List.set_cons_succ])
        have G3 : Hid (Fr wr wr.drew (fun _ => False)) := (Fr.refl wr (fun _ => False)).drew
        unfold wpT
        go_wp2_with fail
        go_meet
        case rel => exact ⟨rfl, G3.out⟩
      · obtain ⟨k1, hke⟩ : ∃ j, k = j + 1 := ⟨k - 1, by omega⟩
        obtain ⟨⟨s, ⟨f1, f2⟩, ax⟩, ha⟩ : ∃ a, evs[k1]? = some a := ⟨_, List.getElem?_eq_getElem (by rw [← Hn.out]; omega)⟩
        have HB2 : Hid (eBefore t s (e1, e2) (f1, f2) = B) := by
          show _ = _
          rw [HB.out, hke]
          show _ = (evs[k1]?.map (fun x => eBef (t, (e1, e2), ad) x)).getD false
          rw [ha]
          rfl
        obtain ⟨bk, off, cap, e3, hbk, hca⟩ := (Hr.out wa (Fr.refl _ _)).get k1 _ ha
        simp only [Value.slice.injEq] at e3
        obtain ⟨rfl, -, rfl⟩ := e3
        have HG : Hid (Fr wa wr.drew (fun _ => False)) := Hf.out.drew
        have ka : ∀ z, Fr wr.drew z (fun _ => False) → z.cell? ⟨bk, off + k1 * 4, none⟩ = some (.int .i64 s) := fun z hz => (hca z ((HG.out.none hz).mono (fun _ _ h => h.elim))).1
        have kb : ∀ z, Fr wr.drew z (fun _ => False) → z.cell? ⟨bk, off + k1 * 4 + 1, none⟩ = some (.int .u32 (f1 : Int)) := fun z hz => (hca z ((HG.out.none hz).mono (fun _ _ h => h.elim))).2.1
        have kc : ∀ z, Fr wr.drew z (fun _ => False) → z.cell? ⟨bk, off + k1 * 4 + 2, none⟩ = some (.int .u32 (f2 : Int)) := fun z hz => (hca z ((HG.out.none hz).mono (fun _ _ h => h.elim))).2.2.1
        have kd : ∀ z, Fr wr.drew z (fun _ => False) → z.cell? ⟨bk, off + k1 * 4 + 3, none⟩ = some (.bool ax) := fun z hz => (hca z ((HG.out.none hz).mono (fun _ _ h => h.elim))).2.2.2
        have ke : ∀ z, Fr wr.drew z (fun _ => False) → z.cell? ⟨p, 0, none⟩ = some (.int .i64 t) := fun z hz => (four_cells (Hpb.out z (HG.out.none hz))).1
        have kf : ∀ z, Fr wr.drew z (fun _ => False) → z.cell? ⟨p, 1, none⟩ = some (.int .u32 (e1 : Int)) := fun z hz => (four_cells (Hpb.out z (HG.out.none hz))).2.1
        have kg : ∀ z, Fr wr.drew z (fun _ => False) → z.cell? ⟨p, 2, none⟩ = some (.int .u32 (e2 : Int)) := fun z hz => (four_cells (Hpb.out z (HG.out.none hz))).2.2.1
        have kh : ∀ z, Fr wr.drew z (fun _ => False) → z.cell? ⟨p, 3, none⟩ = some (.bool ad) := fun z hz => (four_cells (Hpb.out z (HG.out.none hz))).2.2.2
        have hpos : decide ((0 : Int) < (k : Int)) = true := decide_eq_true (by omega)
        have hpos' : decide (0 < k) = true := decide_eq_true (by omega)
        have hsub : IntKind.i64.wrap ((k : Int) - 1) = (k1 : Int) := by rw [IntWalk.i64_in _ (by omega)]; omega
        have hk1 : (k1 : Int) < (n : Int) := by omega
        have hk10 : (0 : Int) ≤ (k1 : Int) := by omega
        clear hca hbk ha hke
        go_wp2_with fail
        refine wp_region_tree (fun _ => False) (.take 0 (.take 1 (.take 2 (.take 3 (.take 4 (.take 5 (.take 6 (.take 7 (.take 8 (.one 9 (.take 10 .nil))))))))))) (by kernel_rfl) (by kernel_rfl) (by decide) (by kernel_rfl) ?_
        repeat (refine wpT_take (v := ?_) rfl rfl (fun x hx => ?_) ?_; rotate_left; (focus (go_simp; with_reducible rfl)); simp only [Act.put, List.setIfInBounds_toArray, List.set_cons_zero, List.set_cons_succ])
        refine wpT_one rfl rfl (fun K hK => ?_)
        go_simp
        refine (refBefore8_any t s (e1, e2) (f1, f2) ad ax _).mono ?_
        rw [HB2.out]
        rintro r x3 ⟨rfl, g⟩
        refine hK _ _ g ?_
        clear hK K ka kb kc kd ke kf kg kh
        have G3 : Hid (Fr wr x3 (fun _ => False)) := (Fr.refl wr (fun _ => False)).drew.none g
        clear g
        repeat (refine wpT_take (v := ?_) rfl rfl (fun x hx => ?_) ?_; rotate_left; (focus (go_simp; with_reducible rfl)); simp only [Act.put, List.setIfInBounds_toArray, List.set_cons_zero, List.set_cons_succ])
        unfold wpT
        go_wp2_with fail
        go_meet
        case rel => exact ⟨rfl, G3.out⟩
    case rest =>
      obtain ⟨rfl, hfc⟩ := hcut
      rename_i hKc
      refine hKc _ _ ?_
      clear hKc
      have Hfc : Hid (Fr wa wc (fun _ => False)) := Hf.out.none hfc
      clear hfc
      cases B with
      | true =>
        obtain ⟨k1, hke⟩ : ∃ j, k = j + 1 := by
          cases k with
          | zero => have := HB.out; cases this
          | succ j => exact ⟨j, rfl⟩
        have Hle2 : Hid (insK evs (t, (e1, e2), ad) k1 = insK evs (t, (e1, e2), ad) evs.length) := by
          show _ = _
          rw [← Hle.out, hke, insK, if_pos (by have := HB.out; rw [hke] at this; exact this.symm)]
        have hsub : (k : Int) - 1 = (k1 : Int) := by omega
        go_wp2_with fail
        go_roundg k1
        case rel => exact ⟨k1, rfl, by omega, by go_num, Hle2.out, Hfc.out⟩
        case measure => rw [Hg.out]; omega
      | false =>
        have HK : Hid (insK evs (t, (e1, e2), ad) evs.length = k) := by show _ = _; rw [← Hle.out]; exact insK_end HB.out.symm
        obtain ⟨C, hC⟩ : ∃ C, C = sameAt evs (t, (e1, e2), ad) k := ⟨_, rfl⟩
        have HC : Hid _ := hC
        clear hC
        go_upto_region 4 with fail
        go_cut [44] from 21 to 44 (fun V wx => V = .bool C ∧ Fr wc wx (fun _ => False))
        case first =>
          by_cases h0 : k = 0
          · subst h0
            obtain rfl : C = false := HC.out
            go_wp2_with fail
            refine wp_region_tree (fun _ => False) (.take 0 (.take 1 (.take 2 (.take 3 (.take 4 (.take 5 (.take 6 (.take 7 (.take 8 (.take 9 (.take 10 (.take 11 (.take 12 (.take 13 (.take 14 (.take 15 (.take 16 (.take 17 (.take 18 (.take 19 (.take 20 (.take 21 (.take 22 (.take 23 .nil)))))))))))))))))))))))) (by kernel_rfl) (by kernel_rfl) (by decide) (by kernel_rfl) ?_
            iterate 3 (refine wpT_take (v := ?_) rfl rfl (fun x hx => ?_) ?_; rotate_left; (focus (go_simp; with_reducible rfl)); simp only [Act.put, List.setIfInBounds_toArray, List.set_cons_zero, List.set_cons_succ])
            iterate 9 (refine wpT_pass rfl rfl ?_; simp only [Act.put, List.setIfInBounds_toArray, List.set_cons_zero, List.set_cons_succ])
            iterate 2 (refine wpT_take (v := ?_) rfl rfl (fun x hx => ?_) ?_; rotate_left; (focus (go_simp; with_reducible rfl)); simp only [Act.put, List.setIfInBounds_toArray, List.set_cons_zero, List.set_cons_succ])
            iterate 9 (refine wpT_pass rfl rfl ?_; simp only [Act.put, List.setIfInBounds_toArray, List.set_cons_zero, List.set_cons_succ])
            repeat (refine wpT_take (v := ?_) rfl rfl (fun x hx => ?_) ?_; rotate_left; (focus (go_simp; with_reducible rfl)); simp only [Act.put, List.setIfInBounds_toArray, List.set_cons_zero, List.set_cons_succ])
            have G3 : Hid (Fr wc wc.drew (fun _ => False)) := (Fr.refl wc (fun _ => False)).drew
            unfold wpT
            go_wp2_with fail
            go_meet
            case rel => exact ⟨rfl, G3.out⟩
          · obtain ⟨k1, hke⟩ : ∃ j, k = j + 1 := ⟨k - 1, by omega⟩
            obtain ⟨⟨s, ⟨f1, f2⟩, ax⟩, ha⟩ : ∃ a, evs[k1]? = some a := ⟨_, List.getElem?_eq_getElem (by rw [← Hn.out]; omega)⟩
            have HC2 : Hid (C = decide (s = t ∧ (f1, f2) = (e1, e2))) := by
              show _ = _
              rw [HC.out, hke]
              show (evs[k1]?.map (fun x => alike x (t, (e1, e2), ad))).getD false = _
              rw [ha]
              rfl
            obtain ⟨bk, off, cap, e3, hbk, hca⟩ := (Hr.out wa (Fr.refl _ _)).get k1 _ ha
            simp only [Value.slice.injEq] at e3
            obtain ⟨rfl, -, rfl⟩ := e3
            have HG : Hid (Fr wa wc.drew (fun _ => False)) := Hfc.out.drew
            have ka : ∀ z, Fr wc.drew z (fun _ => False) → z.cell? ⟨bk, off + k1 * 4, none⟩ = some (.int .i64 s) := fun z hz => (hca z ((HG.out.none hz).mono (fun _ _ h => h.elim))).1
            have kb : ∀ z, Fr wc.drew z (fun _ => False) → z.cell? ⟨bk, off + k1 * 4 + 1, none⟩ = some (.int .u32 (f1 : Int)) := fun z hz => (hca z ((HG.out.none hz).mono (fun _ _ h => h.elim))).2.1
            have kc : ∀ z, Fr wc.drew z (fun _ => False) → z.cell? ⟨bk, off + k1 * 4 + 2, none⟩ = some (.int .u32 (f2 : Int)) := fun z hz => (hca z ((HG.out.none hz).mono (fun _ _ h => h.elim))).2.2.1
            have ke : ∀ z, Fr wc.drew z (fun _ => False) → z.cell? ⟨p, 0, none⟩ = some (.int .i64 t) := fun z hz => (four_cells (Hpb.out z (HG.out.none hz))).1
            have kf : ∀ z, Fr wc.drew z (fun _ => False) → z.cell? ⟨p, 1, none⟩ = some (.int .u32 (e1 : Int)) := fun z hz => (four_cells (Hpb.out z (HG.out.none hz))).2.1
            have kg : ∀ z, Fr wc.drew z (fun _ => False) → z.cell? ⟨p, 2, none⟩ = some (.int .u32 (e2 : Int)) := fun z hz => (four_cells (Hpb.out z (HG.out.none hz))).2.2.1
            have hpos : decide ((0 : Int) < (k : Int)) = true := decide_eq_true (by omega)
            have hpos' : decide (0 < k) = true := decide_eq_true (by omega)
            have hsub : IntKind.i64.wrap ((k : Int) - 1) = (k1 : Int) := by rw [IntWalk.i64_in _ (by omega)]; omega
            have hk1 : (k1 : Int) < (n : Int) := by omega
            have hk10 : (0 : Int) ≤ (k1 : Int) := by omega
            clear hca hbk ha hke
            by_cases hst : s = t
            · have d1 : (s == t) = true := by simp [hst]
              obtain ⟨D, hD⟩ : ∃ D, D = decide ((f1, f2) = (e1, e2)) := ⟨_, rfl⟩
              have HD : Hid _ := hD
              have HCD : Hid (C = D) := by show _ = _; rw [HC2.out, hD]; simp [hst]
              clear hst hD
              go_wp2_with fail
              refine wp_region_tree (fun _ => False) (.take 0 (.take 1 (.take 2 (.take 3 (.take 4 (.take 5 (.take 6 (.take 7 (.take 8 (.take 9 (.take 10 (.take 11 (.take 12 (.take 13 (.take 14 (.take 15 (.take 16 (.take 17 (.take 18 (.take 19 (.take 20 (.take 21 (.take 22 (.take 23 .nil)))))))))))))))))))))))) (by kernel_rfl) (by kernel_rfl) (by decide) (by kernel_rfl) ?_
              iterate 22 (refine wpT_take (v := ?_) rfl rfl (fun x hx => ?_) ?_; rotate_left; (focus (go_simp; with_reducible rfl)); simp only [Act.put, List.setIfInBounds_toArray, List.set_cons_zero, List.set_cons_succ])
              refine wpT_take (v := .bool D) rfl rfl (fun x hx => ?_) ?_
              · rw [HD.out]
                go_simp
                by_cases h1 : f1 = e1 <;> by_cases h2 : f2 = e2 <;> simp [h1, h2, Int.ofNat_inj]
              simp only [Act.put, List.setIfInBounds_toArray, List.set_cons_zero, List.set_cons_succ]
              clear ka kb kc ke kf kg
              repeat (refine wpT_take (v := ?_) rfl rfl (fun x hx => ?_) ?_; rotate_left; (focus (go_simp; with_reducible rfl)); simp only [Act.put, List.setIfInBounds_toArray, List.set_cons_zero, List.set_cons_succ])
              have G3 : Hid (Fr wc wc.drew (fun _ => False)) := (Fr.refl wc (fun _ => False)).drew
              unfold wpT
              go_wp2_with fail
              go_meet
              case rel => exact ⟨by rw [HCD.out], G3.out⟩
            · have d1 : (s == t) = false := by rw [beq_eq_false_iff_ne]; exact hst
              obtain rfl : C = false := by rw [HC2.out]; exact decide_eq_false (fun h => hst h.1)
              clear hst
              go_wp2_with fail
              refine wp_region_tree (fun _ => False) (.take 0 (.take 1 (.take 2 (.take 3 (.take 4 (.take 5 (.take 6 (.take 7 (.take 8 (.take 9 (.take 10 (.take 11 (.take 12 (.take 13 (.take 14 (.take 15 (.take 16 (.take 17 (.take 18 (.take 19 (.take 20 (.take 21 (.take 22 (.take 23 .nil)))))))))))))))))))))))) (by kernel_rfl) (by kernel_rfl) (by decide) (by kernel_rfl) ?_
              iterate 14 (refine wpT_take (v := ?_) rfl rfl (fun x hx => ?_) ?_; rotate_left; (focus (go_simp; with_reducible rfl)); simp only [Act.put, List.setIfInBounds_toArray, List.set_cons_zero, List.set_cons_succ])
              iterate 9 (refine wpT_pass rfl rfl ?_; simp only [Act.put, List.setIfInBounds_toArray, List.set_cons_zero, List.set_cons_succ])
              repeat (refine wpT_take (v := ?_) rfl rfl (fun x hx => ?_) ?_; rotate_left; (focus (go_simp; with_reducible rfl)); simp only [Act.put, List.setIfInBounds_toArray, List.set_cons_zero, List.set_cons_succ])
              have G3 : Hid (Fr wc wc.drew (fun _ => False)) := (Fr.refl wc (fun _ => False)).drew
              unfold wpT
              go_wp2_with fail
              go_meet
              case rel => exact ⟨rfl, G3.out⟩
        case rest =>
          rename_i wb _ _ _ _ _ _ _ _ _ _ _ _ _ _ _ _ _ _ _ _ _ _ _ _
          obtain ⟨rfl, hfc⟩ := hcut
          rename_i hKc
          refine hKc _ _ ?_
          clear hKc
          have Hfd : Hid (Fr wa wc (fun _ => False)) := Hfc.out.none hfc
          clear hfc
          cases C with
          | true =>
            obtain rfl : R = evs := by rw [HR.out]; unfold insF; rw [HK.out, if_pos HC.out.symm]
            have Hro := Hr.out wc Hfd.out
            have Hfo : Hid (Fr w wc (fun _ => False)) := Hwa.out.none Hfd.out
            have Hro2 : Hid _ := Hro
            clear Hro
            go_wp2
            go_ret
            exact ⟨⟨_, rfl, Hro2.out⟩, Hfo.out⟩
          | false =>
            obtain rfl : R = evs.take k ++ (t, (e1, e2), ad) :: evs.drop k := by rw [HR.out]; unfold insF; rw [HK.out, if_neg (by rw [← HC.out]; simp)]
            obtain ⟨W, hW⟩ : ∃ W, W = wc.drew := ⟨_, rfl⟩
            have HfW : Hid (Fr wa W (fun _ => False)) := by rw [hW]; exact Hfd.out.drew
            have ka : ∀ z, Fr W z (fun k => W.heap.size ≤ k) → z.cell? ⟨p, 0, none⟩ = some (.int .i64 t) := fun z hz => (four_cells (Hpb.out z (HfW.out.none (hz.old (Nat.le_refl _))))).1
            have kb : ∀ z, Fr W z (fun k => W.heap.size ≤ k) → z.cell? ⟨p, 1, none⟩ = some (.int .u32 (e1 : Int)) := fun z hz => (four_cells (Hpb.out z (HfW.out.none (hz.old (Nat.le_refl _))))).2.1
            have kc : ∀ z, Fr W z (fun k => W.heap.size ≤ k) → z.cell? ⟨p, 2, none⟩ = some (.int .u32 (e2 : Int)) := fun z hz => (four_cells (Hpb.out z (HfW.out.none (hz.old (Nat.le_refl _))))).2.2.1
            have kd : ∀ z, Fr W z (fun k => W.heap.size ≤ k) → z.cell? ⟨p, 3, none⟩ = some (.bool ad) := fun z hz => (four_cells (Hpb.out z (HfW.out.none (hz.old (Nat.le_refl _))))).2.2.2
            have hkc : (k : Int) ≤ (c0 : Int) := by omega
            have hkn : (k : Int) ≤ (n : Int) := by omega
            have hk0 : (0 : Int) ≤ (k : Int) := by omega
            obtain ⟨A, hA⟩ : ∃ A, (if c0 = k then a0 else Option.map (fun x => x.add (k * 4)) a0) = A := ⟨_, rfl⟩
            have Hpre : Hid (RdV W (.slice a0 k c0) (evs.take k)) := (Hr.out W HfW.out).take Hn.out.symm k hk
            have Hpost : Hid (RdV W (.slice A (n - k) (c0 - k)) (evs.drop k)) := by rw [← hA]; exact (Hr.out W HfW.out).drop Hn.out.symm k hk
            have Hll : Hid ((evs.take k).length + 1 + (evs.drop k).length ≤ 2000000) := by have := Hl.out; show _ ≤ _; rw [List.length_take, List.length_drop]; omega
            go_wp2_with fail
            refine wp_region_tree (fun k => W.heap.size ≤ k) (.take 0 (.take 1 (.take 2 (.take 4 (.take 7 (.take 8 (.take 9 (.two 3 (.one 5 (.one 6 (.one 10 (.take 11 .nil)))) 5 (.one 3 (.one 6 (.one 10 (.take 11 .nil)))))))))))) (by kernel_rfl) (by kernel_rfl) (by decide) (by kernel_rfl) ?_
            rw [← hW]
            clear hW
            repeat (refine wpT_take (v := ?_) rfl rfl (fun x hx => ?_) ?_; rotate_left; (focus (go_simp; with_reducible rfl)); simp only [Act.put, List.setIfInBounds_toArray, List.set_cons_zero, List.set_cons_succ])
            clear ka kb kc kd
            have e0 : Fr W W (fun k => W.heap.size ≤ k) := Fr.refl _ _
            refine wpT_two rfl rfl rfl rfl (fun K hK => ?_) (fun K hK => ?_)
            · obtain ⟨v4, w4, hrun4, ho4, hf4, hn4⟩ := app_events_nil W (.slice a0 k c0) _ W.heap.size (Nat.le_refl _) Hpre.out (by have := Hll.out; omega)
              refine op_append_run (.const (.slice none 0 0)) (.tmp 48) 23 rfl rfl rfl hrun4 ?_
              refine hK _ _ hf4 ?_
              clear hK K
              simp only [Act.put, List.setIfInBounds_toArray, List.set_cons_zero, List.set_cons_succ]
              refine wpT_one rfl rfl (fun K hK => ?_)
              go_simp
              refine hK _ _ (((Fr.refl w4 (fun _ => False)).alloc _).mono (fun _ _ h => h.elim)) ?_
              clear hK K
              have hfl : Fr W (w4.alloc (.cells #[.int .i64 t, .int .u32 (e1 : Int), .int .u32 (e2 : Int), .bool ad] 65)) (fun k => W.heap.size ≤ k) := hf4.alloc _
              have hlit := lit_event w4 (t, (e1, e2), ad)
              have hof := ho4.alloc (.cells #[.int .i64 t, .int .u32 (e1 : Int), .int .u32 (e2 : Int), .bool ad] 65)
              obtain ⟨v5, w5, hrun5, ho5, hf5, hn5⟩ := app_events_new _ v4 _ _ [(t, (e1, e2), ad)] W.heap.size hfl.size hof hn4 hlit (by have := Hll.out; simp only [List.length_singleton]; omega)
              refine wpT_one rfl rfl (fun K hK => ?_)
              refine op_append_run (.tmp 49) (.tmp 51) 23 rfl rfl rfl hrun5 ?_
              refine hK _ _ hf5 ?_
              clear hK K
              simp only [Act.put, List.setIfInBounds_toArray, List.set_cons_zero, List.set_cons_succ]
              have hf6 : Fr W w5 (fun k => W.heap.size ≤ k) := hfl.trans hf5 (fun _ _ h => h)
              obtain ⟨v6, w6, hrun6, ho6, hf7, hn6⟩ := app_events_new w5 v5 (.slice A (n - k) (c0 - k)) _ _ W.heap.size hf6.size ho5 hn5 (Hpost.out.keep (hf6.old (Nat.le_refl _))) (by have := Hll.out; rw [List.length_append, List.length_singleton]; omega)
              refine wpT_one rfl rfl (fun K hK => ?_)
              refine op_append_run (.tmp 52) (.tmp 55) 23 rfl rfl rfl hrun6 ?_
              refine hK _ _ hf7 ?_
              clear hK K
              simp only [Act.put, List.setIfInBounds_toArray, List.set_cons_zero, List.set_cons_succ]
              repeat (refine wpT_take (v := ?_) rfl rfl (fun x hx => ?_) ?_; rotate_left; (focus (go_simp; with_reducible rfl)); simp only [Act.put, List.setIfInBounds_toArray, List.set_cons_zero, List.set_cons_succ])
              have Hfo : Hid (Fr w w6 (fun _ => False)) := (Hwa.out.none HfW.out).none ((hf6.trans hf7 (fun _ _ h => h)).old (Nat.le_refl _))
              have Ho6 : Hid (OwnV w6 v6 (evs.take k ++ (t, (e1, e2), ad) :: evs.drop k)) := by rw [List.append_assoc] at ho6; exact ho6
              clear hf4 hf5 hf6 hf7 hfl ho4 ho5 ho6 hn4 hn5 hn6 hrun4 hrun5 hrun6 hlit
              unfold wpT
              go_wp2
              go_ret
              exact ⟨⟨_, rfl, Ho6.out.rd⟩, Hfo.out⟩
            · go_simp
              refine hK _ _ (((Fr.refl W (fun _ => False)).alloc _).mono (fun _ _ h => h.elim)) ?_
              clear hK K
              have hfl : Fr W (W.alloc (.cells #[.int .i64 t, .int .u32 (e1 : Int), .int .u32 (e2 : Int), .bool ad] 65)) (fun k => W.heap.size ≤ k) := e0.alloc _
              have hlit := lit_event W (t, (e1, e2), ad)
              obtain ⟨v4, w4, hrun4, ho4, hf4a, hn4a⟩ := app_events_nil _ (.slice a0 k c0) _ (W.heap.size + 1) (by simp) (Hpre.out.keep (hfl.old (Nat.le_refl _))) (by have := Hll.out; omega)
              have hf4 := hf4a.mono (T := fun k => W.heap.size ≤ k) (fun i _ hi => by omega)
              have hn4 : ∀ k, v4.ownBlock = some k → W.heap.size ≤ k := fun k hk => by have := hn4a k hk; omega
              refine wpT_one rfl rfl (fun K hK => ?_)
              refine op_append_run (.const (.slice none 0 0)) (.tmp 48) 23 rfl rfl rfl hrun4 ?_
              refine hK _ _ hf4 ?_
              clear hK K
              simp only [Act.put, List.setIfInBounds_toArray, List.set_cons_zero, List.set_cons_succ]
              have hlit2 := hlit.frame hf4a (fun _ k hk => by simp [Value.ownBlock] at hk; subst hk; omega)
              obtain ⟨v5, w5, hrun5, ho5, hf5, hn5⟩ := app_events_new _ v4 _ _ [(t, (e1, e2), ad)] W.heap.size (hfl.trans hf4 (fun _ _ h => h)).size ho4 hn4 hlit2 (by have := Hll.out; simp only [List.length_singleton]; omega)
              refine wpT_one rfl rfl (fun K hK => ?_)
              refine op_append_run (.tmp 49) (.tmp 51) 23 rfl rfl rfl hrun5 ?_
              refine hK _ _ hf5 ?_
              clear hK K
              simp only [Act.put, List.setIfInBounds_toArray, List.set_cons_zero, List.set_cons_succ]
              have hf6 : Fr W w5 (fun k => W.heap.size ≤ k) := (hfl.trans hf4 (fun _ _ h => h)).trans hf5 (fun _ _ h => h)
              obtain ⟨v6, w6, hrun6, ho6, hf7, hn6⟩ := app_events_new w5 v5 (.slice A (n - k) (c0 - k)) _ _ W.heap.size hf6.size ho5 hn5 (Hpost.out.keep (hf6.old (Nat.le_refl _))) (by have := Hll.out; rw [List.length_append, List.length_singleton]; omega)
              refine wpT_one rfl rfl (fun K hK => ?_)
              refine op_append_run (.tmp 52) (.tmp 55) 23 rfl rfl rfl hrun6 ?_
              refine hK _ _ hf7 ?_
              clear hK K
              simp only [Act.put, List.setIfInBounds_toArray, List.set_cons_zero, List.set_cons_succ]
              repeat (refine wpT_take (v := ?_) rfl rfl (fun x hx => ?_) ?_; rotate_left; (focus (go_simp; with_reducible rfl)); simp only [Act.put, List.setIfInBounds_toArray, List.set_cons_zero, List.set_cons_succ])
              have Hfo : Hid (Fr w w6 (fun _ => False)) := (Hwa.out.none HfW.out).none ((hf6.trans hf7 (fun _ _ h => h)).old (Nat.le_refl _))
              have Ho6 : Hid (OwnV w6 v6 (evs.take k ++ (t, (e1, e2), ad) :: evs.drop k)) := by rw [List.append_assoc] at ho6; exact ho6
              clear hf4 hf5 hf6 hf7 hfl ho4 ho5 ho6 hn4 hn5 hn6 hrun4 hrun5 hrun6 hlit
              unfold wpT
              go_wp2
              go_ret
              exact ⟨⟨_, rfl, Ho6.out.rd⟩, Hfo.out⟩

end Go.Proofs.Ytanimgfhabkmcaa

/-
  The contract of the reference's insert.
-/
namespace Go.Proofs.Ytanimgfhabkmcaa
open Go.RowKit

/-- With an event laid in behind the last that isn't behind it. -/
def insP (l : List Ev) (e : Ev) : List Ev := l.take (insK l e l.length) ++ e :: l.drop (insK l e l.length)
theorem insP_length (l : List Ev) (e : Ev) : (insP l e).length = l.length + 1 := by
  unfold insP
  rw [List.length_append, List.length_cons, List.length_take, List.length_drop]
  have := insK_le l e l.length
  omega

set_option maxRecDepth 4000 in
set_option maxHeartbeats 1600000 in
theorem refInsert_any (v : Value) (evs : List Ev) (x : Ev) (w : World) (h : RdV w v evs) (hl : evs.length ≤ 1000000) : Calls Try.prog 43 #[v, evV x] w fun r w' => (∃ v', r = .returned v' ∧ RdV w' v' (insP evs x)) ∧ Fr w w' (fun _ => False) := by
  obtain ⟨a0, c0, rfl, hc0⟩ := h.form
  obtain ⟨n, hn⟩ : ∃ n, n = evs.length := ⟨_, rfl⟩
  obtain ⟨t, ⟨e1, e2⟩, ad⟩ := x
  rw [← hn] at h hl hc0 ⊢
  have Hr : Hid (RdV w (.slice a0 n c0) evs) := h
  have Hn : Hid _ := hn
  have Hl : Hid (evs.length ≤ 1000000) := by show _ ≤ _; omega
  obtain ⟨R, hR⟩ : ∃ R, R = insP evs (t, (e1, e2), ad) := ⟨_, rfl⟩
  rw [← hR]
  have HR : Hid _ := hR
  clear h hn hR
  unfold evV eventV
  dsimp only
  go_enter Try.func43, Try.ntmps43
  go_wp2_with fail
  obtain ⟨p, hp⟩ : ∃ p, p = w.heap.size := ⟨_, rfl⟩
  obtain ⟨wa, hwa⟩ : ∃ wa, wa = w.alloc (.cells #[.int .i64 t, .int .u32 (e1 : Int), .int .u32 (e2 : Int), .bool ad] 65) := ⟨_, rfl⟩
  rw [← hwa, ← hp]
  have Hpb : Hid (∀ z, Fr wa z (fun _ => False) → z.heap[p]? = some (.cells #[.int .i64 t, .int .u32 (e1 : Int), .int .u32 (e2 : Int), .bool ad] 65 (0, 0))) := fun z hz => hz.kept (by rw [hwa, hp]; exact heap_alloc_new _ _) (fun h => h)
  have Hwa : Hid (Fr w wa (fun _ => False)) := by show Fr _ _ _; rw [hwa]; exact (Fr.refl _ _).alloc _
  have Hr : Hid (∀ z, Fr wa z (fun _ => False) → RdV z (.slice a0 n c0) evs) := fun z hz => Hr.out.keep (Hwa.out.none hz)
  clear hp hwa
  go_loopg [5] n (fun g I wr => ∃ k : Nat, g = k ∧ k ≤ n ∧ I = .int .i64 (k : Int) ∧ insK evs (t, (e1, e2), ad) k = insK evs (t, (e1, e2), ad) evs.length ∧ Fr wa wr (fun _ => False))
  case atStart => exact ⟨n, rfl, Nat.le_refl _, rfl, by rw [← Hn.out], Fr.refl _ _⟩
  case round =>
    obtain ⟨k, hg, hk, rfl, hle, hf⟩ := hrel
    have Hg : Hid _ := hg
    have Hle : Hid _ := hle
    have Hf : Hid (Fr wa wr (fun _ => False)) := hf
    clear hg hle hf
    obtain ⟨B, hB⟩ : ∃ B, B = befBack evs (t, (e1, e2), ad) k := ⟨_, rfl⟩
    have HB : Hid _ := hB
    clear hB
    go_upto_region 2 with fail
    go_cut [18] from 8 to 20 (fun V wx => V = .bool B ∧ Fr wr wx (fun _ => False))
    case first =>
      by_cases h0 : k = 0
      · subst h0
        obtain rfl : B = false := HB.out
        go_wp2_with fail
        refine wp_region_tree (fun _ => False) (.take 0 (.take 1 (.take 2 (.take 3 (.take 4 (.take 5 (.take 6 (.take 7 (.take 8 (.one 9 (.take 10 .nil))))))))))) (by kernel_rfl) (by kernel_rfl) (by decide) (by kernel_rfl) ?_
        iterate 3 (refine wpT_take (v := ?_) rfl rfl (fun x hx => ?_) ?_; rotate_left; (focus (go_simp; with_reducible rfl)); simp only [Act.put, List.setIfInBounds_toArray, List.set_cons_zero, List.set_cons_succ])
        iterate 6 (refine wpT_pass rfl rfl ?_; simp only [Act.put, List.setIfInBounds_toArray, List.set_cons_zero, List.set_cons_succ])
        refine wpT_skip rfl rfl ?_
        simp only [Act.put, List.setIfInBounds_toArray, List.set_cons_zero, List.set_cons_succ]
        repeat (refine wpT_take (v := ?_) rfl rfl (fun x hx => ?_) ?_; rotate_left; (focus (go_simp; with_reducible rfl)); simp only [Act.put, List.setIfInBounds_toArray, List.set_cons_zero, List.set_cons_succ])
        have G3 : Hid (Fr wr wr.drew (fun _ => False)) := (Fr.refl wr (fun _ => False)).drew
        unfold wpT
        go_wp2_with fail
        go_meet
        case rel => exact ⟨rfl, G3.out⟩
      · obtain ⟨k1, hke⟩ : ∃ j, k = j + 1 := ⟨k - 1, by omega⟩
        obtain ⟨⟨s, ⟨f1, f2⟩, ax⟩, ha⟩ : ∃ a, evs[k1]? = some a := ⟨_, List.getElem?_eq_getElem (by rw [← Hn.out]; omega)⟩
        have HB2 : Hid (eBefore t s (e1, e2) (f1, f2) = B) := by
          show _ = _
          rw [HB.out, hke]
          show _ = (evs[k1]?.map (fun x => eBef (t, (e1, e2), ad) x)).getD false
          rw [ha]
          rfl
        obtain ⟨bk, off, cap, e3, hbk, hca⟩ := (Hr.out wa (Fr.refl _ _)).get k1 _ ha
        simp only [Value.slice.injEq] at e3
        obtain ⟨rfl, -, rfl⟩ := e3
        have HG : Hid (Fr wa wr.drew (fun _ => False)) := Hf.out.drew
        have ka : ∀ z, Fr wr.drew z (fun _ => False) → z.cell? ⟨bk, off + k1 * 4, none⟩ = some (.int .i64 s) := fun z hz => (hca z ((HG.out.none hz).mono (fun _ _ h => h.elim))).1
        have kb : ∀ z, Fr wr.drew z (fun _ => False) → z.cell? ⟨bk, off + k1 * 4 + 1, none⟩ = some (.int .u32 (f1 : Int)) := fun z hz => (hca z ((HG.out.none hz).mono (fun _ _ h => h.elim))).2.1
        have kc : ∀ z, Fr wr.drew z (fun _ => False) → z.cell? ⟨bk, off + k1 * 4 + 2, none⟩ = some (.int .u32 (f2 : Int)) := fun z hz => (hca z ((HG.out.none hz).mono (fun _ _ h => h.elim))).2.2.1
        have kd : ∀ z, Fr wr.drew z (fun _ => False) → z.cell? ⟨bk, off + k1 * 4 + 3, none⟩ = some (.bool ax) := fun z hz => (hca z ((HG.out.none hz).mono (fun _ _ h => h.elim))).2.2.2
        have ke : ∀ z, Fr wr.drew z (fun _ => False) → z.cell? ⟨p, 0, none⟩ = some (.int .i64 t) := fun z hz => (four_cells (Hpb.out z (HG.out.none hz))).1
        have kf : ∀ z, Fr wr.drew z (fun _ => False) → z.cell? ⟨p, 1, none⟩ = some (.int .u32 (e1 : Int)) := fun z hz => (four_cells (Hpb.out z (HG.out.none hz))).2.1
        have kg : ∀ z, Fr wr.drew z (fun _ => False) → z.cell? ⟨p, 2, none⟩ = some (.int .u32 (e2 : Int)) := fun z hz => (four_cells (Hpb.out z (HG.out.none hz))).2.2.1
        have kh : ∀ z, Fr wr.drew z (fun _ => False) → z.cell? ⟨p, 3, none⟩ = some (.bool ad) := fun z hz => (four_cells (Hpb.out z (HG.out.none hz))).2.2.2
        have hpos : decide ((0 : Int) < (k : Int)) = true := decide_eq_true (by omega)
        have hpos' : decide (0 < k) = true := decide_eq_true (by omega)
        have hsub : IntKind.i64.wrap ((k : Int) - 1) = (k1 : Int) := by rw [IntWalk.i64_in _ (by omega)]; omega
        have hk1 : (k1 : Int) < (n : Int) := by omega
        have hk10 : (0 : Int) ≤ (k1 : Int) := by omega
        clear hca hbk ha hke
        go_wp2_with fail
        refine wp_region_tree (fun _ => False) (.take 0 (.take 1 (.take 2 (.take 3 (.take 4 (.take 5 (.take 6 (.take 7 (.take 8 (.one 9 (.take 10 .nil))))))))))) (by kernel_rfl) (by kernel_rfl) (by decide) (by kernel_rfl) ?_
        repeat (refine wpT_take (v := ?_) rfl rfl (fun x hx => ?_) ?_; rotate_left; (focus (go_simp; with_reducible rfl)); simp only [Act.put, List.setIfInBounds_toArray, List.set_cons_zero, List.set_cons_succ])
        refine wpT_one rfl rfl (fun K hK => ?_)
        go_simp
        refine (refBefore8_any t s (e1, e2) (f1, f2) ad ax _).mono ?_
        rw [HB2.out]
        rintro r x3 ⟨rfl, g⟩
        refine hK _ _ g ?_
        clear hK K ka kb kc kd ke kf kg kh
        have G3 : Hid (Fr wr x3 (fun _ => False)) := (Fr.refl wr (fun _ => False)).drew.none g
        clear g
        repeat (refine wpT_take (v := ?_) rfl rfl (fun x hx => ?_) ?_; rotate_left; (focus (go_simp; with_reducible rfl)); simp only [Act.put, List.setIfInBounds_toArray, List.set_cons_zero, List.set_cons_succ])
        unfold wpT
        go_wp2_with fail
        go_meet
        case rel => exact ⟨rfl, G3.out⟩
    case rest =>
      obtain ⟨rfl, hfc⟩ := hcut
      rename_i hKc
      refine hKc _ _ ?_
      clear hKc
      have Hfc : Hid (Fr wa wc (fun _ => False)) := Hf.out.none hfc
      clear hfc
      cases B with
      | true =>
        obtain ⟨k1, hke⟩ : ∃ j, k = j + 1 := by
          cases k with
          | zero => have := HB.out; cases this
          | succ j => exact ⟨j, rfl⟩
        have Hle2 : Hid (insK evs (t, (e1, e2), ad) k1 = insK evs (t, (e1, e2), ad) evs.length) := by
          show _ = _
          rw [← Hle.out, hke, insK, if_pos (by have := HB.out; rw [hke] at this; exact this.symm)]
        have hsub : (k : Int) - 1 = (k1 : Int) := by omega
        go_wp2_with fail
        go_roundg k1
        case rel => exact ⟨k1, rfl, by omega, by go_num, Hle2.out, Hfc.out⟩
        case measure => rw [Hg.out]; omega
      | false =>
        have HK : Hid (insK evs (t, (e1, e2), ad) evs.length = k) := by show _ = _; rw [← Hle.out]; exact insK_end HB.out.symm
        obtain rfl : R = evs.take k ++ (t, (e1, e2), ad) :: evs.drop k := by rw [HR.out]; unfold insP; rw [HK.out]
        have Hfd : Hid (Fr wa wc (fun _ => False)) := Hfc.out
        obtain ⟨W, hW⟩ : ∃ W, W = wc.drew := ⟨_, rfl⟩
        have HfW : Hid (Fr wa W (fun _ => False)) := by rw [hW]; exact Hfd.out.drew
        have ka : ∀ z, Fr W z (fun k => W.heap.size ≤ k) → z.cell? ⟨p, 0, none⟩ = some (.int .i64 t) := fun z hz => (four_cells (Hpb.out z (HfW.out.none (hz.old (Nat.le_refl _))))).1
        have kb : ∀ z, Fr W z (fun k => W.heap.size ≤ k) → z.cell? ⟨p, 1, none⟩ = some (.int .u32 (e1 : Int)) := fun z hz => (four_cells (Hpb.out z (HfW.out.none (hz.old (Nat.le_refl _))))).2.1
        have kc : ∀ z, Fr W z (fun k => W.heap.size ≤ k) → z.cell? ⟨p, 2, none⟩ = some (.int .u32 (e2 : Int)) := fun z hz => (four_cells (Hpb.out z (HfW.out.none (hz.old (Nat.le_refl _))))).2.2.1
        have kd : ∀ z, Fr W z (fun k => W.heap.size ≤ k) → z.cell? ⟨p, 3, none⟩ = some (.bool ad) := fun z hz => (four_cells (Hpb.out z (HfW.out.none (hz.old (Nat.le_refl _))))).2.2.2
        have hkc : (k : Int) ≤ (c0 : Int) := by omega
        have hkn : (k : Int) ≤ (n : Int) := by omega
        have hk0 : (0 : Int) ≤ (k : Int) := by omega
        obtain ⟨A, hA⟩ : ∃ A, (if c0 = k then a0 else Option.map (fun x => x.add (k * 4)) a0) = A := ⟨_, rfl⟩
        have Hpre : Hid (RdV W (.slice a0 k c0) (evs.take k)) := (Hr.out W HfW.out).take Hn.out.symm k hk
        have Hpost : Hid (RdV W (.slice A (n - k) (c0 - k)) (evs.drop k)) := by rw [← hA]; exact (Hr.out W HfW.out).drop Hn.out.symm k hk
        have Hll : Hid ((evs.take k).length + 1 + (evs.drop k).length ≤ 2000000) := by have := Hl.out; show _ ≤ _; rw [List.length_take, List.length_drop]; omega
        go_wp2_with fail
        refine wp_region_tree (fun k => W.heap.size ≤ k) (.take 0 (.take 1 (.take 2 (.take 4 (.take 7 (.take 8 (.take 9 (.two 3 (.one 5 (.one 6 (.one 10 (.take 11 .nil)))) 5 (.one 3 (.one 6 (.one 10 (.take 11 .nil)))))))))))) (by kernel_rfl) (by kernel_rfl) (by decide) (by kernel_rfl) ?_
        rw [← hW]
        clear hW
        repeat (refine wpT_take (v := ?_) rfl rfl (fun x hx => ?_) ?_; rotate_left; (focus (go_simp; with_reducible rfl)); simp only [Act.put, List.setIfInBounds_toArray, List.set_cons_zero, List.set_cons_succ])
        clear ka kb kc kd
        have e0 : Fr W W (fun k => W.heap.size ≤ k) := Fr.refl _ _
        refine wpT_two rfl rfl rfl rfl (fun K hK => ?_) (fun K hK => ?_)
        · obtain ⟨v4, w4, hrun4, ho4, hf4, hn4⟩ := app_events_nil W (.slice a0 k c0) _ W.heap.size (Nat.le_refl _) Hpre.out (by have := Hll.out; omega)
          refine op_append_run (.const (.slice none 0 0)) (.tmp 23) 23 rfl rfl rfl hrun4 ?_
          refine hK _ _ hf4 ?_
          clear hK K
          simp only [Act.put, List.setIfInBounds_toArray, List.set_cons_zero, List.set_cons_succ]
          refine wpT_one rfl rfl (fun K hK => ?_)
          go_simp
          refine hK _ _ (((Fr.refl w4 (fun _ => False)).alloc _).mono (fun _ _ h => h.elim)) ?_
          clear hK K
          have hfl : Fr W (w4.alloc (.cells #[.int .i64 t, .int .u32 (e1 : Int), .int .u32 (e2 : Int), .bool ad] 65)) (fun k => W.heap.size ≤ k) := hf4.alloc _
          have hlit := lit_event w4 (t, (e1, e2), ad)
          have hof := ho4.alloc (.cells #[.int .i64 t, .int .u32 (e1 : Int), .int .u32 (e2 : Int), .bool ad] 65)
          obtain ⟨v5, w5, hrun5, ho5, hf5, hn5⟩ := app_events_new _ v4 _ _ [(t, (e1, e2), ad)] W.heap.size hfl.size hof hn4 hlit (by have := Hll.out; simp only [List.length_singleton]; omega)
          refine wpT_one rfl rfl (fun K hK => ?_)
          refine op_append_run (.tmp 24) (.tmp 26) 23 rfl rfl rfl hrun5 ?_
          refine hK _ _ hf5 ?_
          clear hK K
          simp only [Act.put, List.setIfInBounds_toArray, List.set_cons_zero, List.set_cons_succ]
          have hf6 : Fr W w5 (fun k => W.heap.size ≤ k) := hfl.trans hf5 (fun _ _ h => h)
          obtain ⟨v6, w6, hrun6, ho6, hf7, hn6⟩ := app_events_new w5 v5 (.slice A (n - k) (c0 - k)) _ _ W.heap.size hf6.size ho5 hn5 (Hpost.out.keep (hf6.old (Nat.le_refl _))) (by have := Hll.out; rw [List.length_append, List.length_singleton]; omega)
          refine wpT_one rfl rfl (fun K hK => ?_)
          refine op_append_run (.tmp 27) (.tmp 30) 23 rfl rfl rfl hrun6 ?_
          refine hK _ _ hf7 ?_
          clear hK K
          simp only [Act.put, List.setIfInBounds_toArray, List.set_cons_zero, List.set_cons_succ]
          repeat (refine wpT_take (v := ?_) rfl rfl (fun x hx => ?_) ?_; rotate_left; (focus (go_simp; with_reducible rfl)); simp only [Act.put, List.setIfInBounds_toArray, List.set_cons_zero, List.set_cons_succ])
          have Hfo : Hid (Fr w w6 (fun _ => False)) := (Hwa.out.none HfW.out).none ((hf6.trans hf7 (fun _ _ h => h)).old (Nat.le_refl _))
          have Ho6 : Hid (OwnV w6 v6 (evs.take k ++ (t, (e1, e2), ad) :: evs.drop k)) := by rw [List.append_assoc] at ho6; exact ho6
          clear hf4 hf5 hf6 hf7 hfl ho4 ho5 ho6 hn4 hn5 hn6 hrun4 hrun5 hrun6 hlit
          unfold wpT
          go_wp2
          go_ret
          exact ⟨⟨_, rfl, Ho6.out.rd⟩, Hfo.out⟩
        · go_simp
          refine hK _ _ (((Fr.refl W (fun _ => False)).alloc _).mono (fun _ _ h => h.elim)) ?_
          clear hK K
          have hfl : Fr W (W.alloc (.cells #[.int .i64 t, .int .u32 (e1 : Int), .int .u32 (e2 : Int), .bool ad] 65)) (fun k => W.heap.size ≤ k) := e0.alloc _
          have hlit := lit_event W (t, (e1, e2), ad)
          obtain ⟨v4, w4, hrun4, ho4, hf4a, hn4a⟩ := app_events_nil _ (.slice a0 k c0) _ (W.heap.size + 1) (by simp) (Hpre.out.keep (hfl.old (Nat.le_refl _))) (by have := Hll.out; omega)
          have hf4 := hf4a.mono (T := fun k => W.heap.size ≤ k) (fun i _ hi => by omega)
          have hn4 : ∀ k, v4.ownBlock = some k → W.heap.size ≤ k := fun k hk => by have := hn4a k hk; omega
          refine wpT_one rfl rfl (fun K hK => ?_)
          refine op_append_run (.const (.slice none 0 0)) (.tmp 23) 23 rfl rfl rfl hrun4 ?_
          refine hK _ _ hf4 ?_
          clear hK K
          simp only [Act.put, List.setIfInBounds_toArray, List.set_cons_zero, List.set_cons_succ]
          have hlit2 := hlit.frame hf4a (fun _ k hk => by simp [Value.ownBlock] at hk; subst hk; omega)
          obtain ⟨v5, w5, hrun5, ho5, hf5, hn5⟩ := app_events_new _ v4 _ _ [(t, (e1, e2), ad)] W.heap.size (hfl.trans hf4 (fun _ _ h => h)).size ho4 hn4 hlit2 (by have := Hll.out; simp only [List.length_singleton]; omega)
          refine wpT_one rfl rfl (fun K hK => ?_)
          refine op_append_run (.tmp 24) (.tmp 26) 23 rfl rfl rfl hrun5 ?_
          refine hK _ _ hf5 ?_
          clear hK K
          simp only [Act.put, List.setIfInBounds_toArray, List.set_cons_zero, List.set_cons_succ]
          have hf6 : Fr W w5 (fun k => W.heap.size ≤ k) := (hfl.trans hf4 (fun _ _ h => h)).trans hf5 (fun _ _ h => h)
          obtain ⟨v6, w6, hrun6, ho6, hf7, hn6⟩ := app_events_new w5 v5 (.slice A (n - k) (c0 - k)) _ _ W.heap.size hf6.size ho5 hn5 (Hpost.out.keep (hf6.old (Nat.le_refl _))) (by have := Hll.out; rw [List.length_append, List.length_singleton]; omega)
          refine wpT_one rfl rfl (fun K hK => ?_)
          refine op_append_run (.tmp 27) (.tmp 30) 23 rfl rfl rfl hrun6 ?_
          refine hK _ _ hf7 ?_
          clear hK K
          simp only [Act.put, List.setIfInBounds_toArray, List.set_cons_zero, List.set_cons_succ]
          repeat (refine wpT_take (v := ?_) rfl rfl (fun x hx => ?_) ?_; rotate_left; (focus (go_simp; with_reducible rfl)); simp only [Act.put, List.setIfInBounds_toArray, List.set_cons_zero, List.set_cons_succ])
          have Hfo : Hid (Fr w w6 (fun _ => False)) := (Hwa.out.none HfW.out).none ((hf6.trans hf7 (fun _ _ h => h)).old (Nat.le_refl _))
          have Ho6 : Hid (OwnV w6 v6 (evs.take k ++ (t, (e1, e2), ad) :: evs.drop k)) := by rw [List.append_assoc] at ho6; exact ho6
          clear hf4 hf5 hf6 hf7 hfl ho4 ho5 ho6 hn4 hn5 hn6 hrun4 hrun5 hrun6 hlit
          unfold wpT
          go_wp2
          go_ret
          exact ⟨⟨_, rfl, Ho6.out.rd⟩, Hfo.out⟩

end Go.Proofs.Ytanimgfhabkmcaa

/-
  The contracts of the seat's Vertices and Edge.
-/
namespace Go.Proofs.Ytanimgfhabkmcaa
open Go.RowKit

set_option maxRecDepth 4000 in
set_option maxHeartbeats 800000 in
theorem vertices_any (k : Nat) (w : World) : Calls Try.prog 25 #[.int .u8 (k : Int)] w fun r w' => r = .returned (.int .u64 ((vertF k : Nat) : Int)) ∧ Fr w w' (fun _ => False) := by
  have h8 : k % 8 = 0 ∨ k % 8 = 1 ∨ k % 8 = 2 ∨ k % 8 = 3 ∨ k % 8 = 4 ∨ k % 8 = 5 ∨ k % 8 = 6 ∨ k % 8 = 7 := by omega
  rcases h8 with h | h | h | h | h | h | h | h
  · have m1 : (k : Int).tmod 8 = 0 := by rw [Int.tmod_eq_emod_of_nonneg (by omega)]; omega
    have m2 : (k : Int) % 8 = 0 := by omega
    have Hv : Hid (vertF k = 8) := by show _ = _; unfold vertF; rw [h]; rfl
    rw [Hv.out]
    clear h
    go_enter Try.func25, Try.ntmps25
    go_wp2
    go_ret
    exact ⟨rfl, (Fr.refl w _).alloc _⟩
  · have m1 : (k : Int).tmod 8 = 1 := by rw [Int.tmod_eq_emod_of_nonneg (by omega)]; omega
    have m2 : (k : Int) % 8 = 1 := by omega
    have Hv : Hid (vertF k = 5) := by show _ = _; unfold vertF; rw [h]; rfl
    rw [Hv.out]
    clear h
    go_enter Try.func25, Try.ntmps25
    go_wp2
    go_ret
    exact ⟨rfl, (Fr.refl w _).alloc _⟩
  · have m1 : (k : Int).tmod 8 = 2 := by rw [Int.tmod_eq_emod_of_nonneg (by omega)]; omega
    have m2 : (k : Int) % 8 = 2 := by omega
    have Hv : Hid (vertF k = 2) := by show _ = _; unfold vertF; rw [h]; rfl
    rw [Hv.out]
    clear h
    go_enter Try.func25, Try.ntmps25
    go_wp2
    go_ret
    exact ⟨rfl, (Fr.refl w _).alloc _⟩
  · have m1 : (k : Int).tmod 8 = 3 := by rw [Int.tmod_eq_emod_of_nonneg (by omega)]; omega
    have m2 : (k : Int) % 8 = 3 := by omega
    have Hv : Hid (vertF k = 4294967296) := by show _ = _; unfold vertF; rw [h]; rfl
    rw [Hv.out]
    clear h
    go_enter Try.func25, Try.ntmps25
    go_wp2
    go_ret
    exact ⟨rfl, (Fr.refl w _).alloc _⟩
  · have m1 : (k : Int).tmod 8 = 4 := by rw [Int.tmod_eq_emod_of_nonneg (by omega)]; omega
    have m2 : (k : Int) % 8 = 4 := by omega
    have Hv : Hid (vertF k = 300) := by show _ = _; unfold vertF; rw [h]; rfl
    rw [Hv.out]
    clear h
    go_enter Try.func25, Try.ntmps25
    go_wp2
    go_ret
    exact ⟨rfl, (Fr.refl w _).alloc _⟩
  · have m1 : (k : Int).tmod 8 = 5 := by rw [Int.tmod_eq_emod_of_nonneg (by omega)]; omega
    have m2 : (k : Int) % 8 = 5 := by omega
    have Hv : Hid (vertF k = 12) := by show _ = _; unfold vertF; rw [h]; rfl
    rw [Hv.out]
    clear h
    go_enter Try.func25, Try.ntmps25
    go_wp2
    go_ret
    exact ⟨rfl, (Fr.refl w _).alloc _⟩
  · have m1 : (k : Int).tmod 8 = 6 := by rw [Int.tmod_eq_emod_of_nonneg (by omega)]; omega
    have m2 : (k : Int) % 8 = 6 := by omega
    have Hv : Hid (vertF k = 1048576) := by show _ = _; unfold vertF; rw [h]; rfl
    rw [Hv.out]
    clear h
    go_enter Try.func25, Try.ntmps25
    go_wp2
    go_ret
    exact ⟨rfl, (Fr.refl w _).alloc _⟩
  · have m1 : (k : Int).tmod 8 = 7 := by rw [Int.tmod_eq_emod_of_nonneg (by omega)]; omega
    have m2 : (k : Int) % 8 = 7 := by omega
    have Hv : Hid (vertF k = 3) := by show _ = _; unfold vertF; rw [h]; rfl
    rw [Hv.out]
    clear h
    go_enter Try.func25, Try.ntmps25
    go_wp2
    go_ret
    exact ⟨rfl, (Fr.refl w _).alloc _⟩

theorem pair_edge {fn : Func} {p u : Tmp} {ty : TypeId} (h : fn.results = #[.cell p ty, .tmp u]) {tmps : Array Value} {P : Program} {w : World} {b : Nat} {v : Value} (hp : tmps.getD p undef = .pointer (some ⟨b, 0, none⟩)) (hl : (loadVar ty ⟨b, 0, none⟩).run P w = .ok v w) :
    (results fn tmps).run P w = .ok (.tuple #[v, tmps.getD u undef]) w := by
  rw [results_cell_tmp h, hp]
  show ((loadVar ty ⟨b, 0, none⟩).run P w).andThen _ = _
  rw [hl]
  rfl
theorem edgeSize2 : (Try.prog.info? 54).map (·.size) = some 2 := by kernel_rfl

set_option maxRecDepth 4000 in
set_option maxHeartbeats 1600000 in
theorem seatEdge_any (a b n : Nat) (w : World) (ha : a < 256) (hb : b < 256) (hn1 : 2 ≤ n) (hn2 : n ≤ 4294967296) : Calls Try.prog 26 #[.int .u8 (a : Int), .int .u8 (b : Int), .int .u64 (n : Int)] w fun r w' => r = .returned (.tuple #[edgeV ((seatEdge a b n).getD (0, 0)), .bool (seatEdge a b n).isSome]) ∧ Fr w w' (fun _ => False) := by
  obtain ⟨R, hR⟩ : ∃ R, R = seatEdge a b n := ⟨_, rfl⟩
  rw [← hR]
  have HR : Hid _ := hR
  clear hR
  unfold edgeV
  obtain ⟨few, hfew⟩ : ∃ f, f = min n 9 := ⟨_, rfl⟩
  have hf1 : 2 ≤ few ∧ few ≤ n ∧ few ≤ 9 := by omega
  have Hfew : Hid _ := hfew
  clear hfew
  go_enter Try.func26, Try.ntmps26
  go_upto_region 1 with fail
  obtain ⟨p, hp⟩ : ∃ p, p = w.heap.size := ⟨_, rfl⟩
  obtain ⟨wa, hwa⟩ : ∃ wa, wa = w.alloc (.cells #[.int .u32 0, .int .u32 0] 54) := ⟨_, rfl⟩
  rw [← hwa, ← hp]
  have Hpb : Hid (wa.heap[p]? = some (.cells #[.int .u32 0, .int .u32 0] 54 (0, 0))) := by show _ = _; rw [hwa, hp]; exact heap_alloc_new _ _
  have Hwa : Hid (Fr w wa (fun _ => False)) := by show Fr _ _ _; rw [hwa]; exact (Fr.refl _ _).alloc _
  have Hpw : Hid (w.heap.size ≤ p) := by show _ ≤ _; omega
  clear hp hwa
  have HW : Hid (wa = wa) := rfl
  go_cut [8] from 11 to 12 (fun V wx => V = .int .u64 (few : Int) ∧ wx = wa)
  case first =>
    by_cases h9 : n ≤ 9
    · have e1 : decide ((n : Int) ≤ (9 : Int)) = true := decide_eq_true (by omega)
      have e3 : (n : Int) ≤ (9 : Int) := by omega
      obtain rfl : few = n := by have := Hfew.out; omega
      go_wp2_with fail
      go_meet
      case rel => exact ⟨rfl, rfl⟩
    · have e1 : decide ((n : Int) ≤ (9 : Int)) = false := decide_eq_false (by omega)
      have e3 : ¬ (n : Int) ≤ (9 : Int) := by omega
      obtain rfl : few = 9 := by have := Hfew.out; omega
      go_wp2_with fail
      go_meet
      case rel => exact ⟨rfl, rfl⟩
  case rest =>
  obtain ⟨rfl, rfl⟩ := hcut
  rename_i hKc
  refine hKc _ _ ?_
  clear hKc HW
  obtain ⟨ra, hra⟩ : ∃ x, x = a % few := ⟨_, rfl⟩
  obtain ⟨rb, hrb⟩ : ∃ x, x = b % few := ⟨_, rfl⟩
  have hra2 : ra < few := by rw [hra]; exact Nat.mod_lt _ (by omega)
  have hrb2 : rb < few := by rw [hrb]; exact Nat.mod_lt _ (by omega)
  have wa1 : IntKind.u64.wrap (a : Int) = (a : Int) := by rw [IntKind.wrap_u64]; omega
  have wb1 : IntKind.u64.wrap (b : Int) = (b : Int) := by rw [IntKind.wrap_u64]; omega
  have ma : (a : Int).tmod (few : Int) = (ra : Int) := by rw [Int.tmod_eq_emod_of_nonneg (by omega), hra]; simp
  have mb : (b : Int).tmod (few : Int) = (rb : Int) := by rw [Int.tmod_eq_emod_of_nonneg (by omega), hrb]; simp
  have ma' : (a : Int) % (few : Int) = (ra : Int) := by rw [hra]; simp
  have mb' : (b : Int) % (few : Int) = (rb : Int) := by rw [hrb]; simp
  have hz : ¬ few = 0 := by omega
  have hz' : ((few : Int) == 0) = false := by rw [beq_eq_false_iff_ne]; omega
  have hz2 : ¬ (few : Int) = 0 := by omega
  have Hru : Hid (edgeU a n = if 230 < a then n - 1 - ra else ra) := by show _ = _; unfold edgeU; rw [hra, Hfew.out]
  have Hrv : Hid (edgeW b n = if 240 < b then n - 1 - rb else rb) := by show _ = _; unfold edgeW; rw [hrb, Hfew.out]
  have Hsm : Hid (ra < n ∧ rb < n) := by constructor <;> omega
  clear hra hrb
  go_wp2_with fail
  refine wp_region_tree (fun _ => False) (.take 0 (.take 1 (.take 2 (.take 3 (.take 4 (.take 5 (.take 6 (.take 7 (.take 8 (.take 9 .nil)))))))))) (by kernel_rfl) (by kernel_rfl) (by decide) (by kernel_rfl) ?_
  repeat (refine wpT_take (v := ?_) rfl rfl (fun x hx => ?_) ?_; rotate_left; (focus (go_simp; with_reducible rfl)); simp only [Act.put, List.setIfInBounds_toArray, List.set_cons_zero, List.set_cons_succ])
  unfold wpT
  clear wa1 wb1 ma mb ma' mb' hz hz' hz2 hra2 hrb2 hf1
  have Hpb : Hid (wc.drew.heap[p]? = some (.cells #[.int .u32 0, .int .u32 0] 54 (0, 0))) := Hpb.out
  have Hwa : Hid (Fr w wc.drew (fun _ => False)) := Hwa.out.drew
  generalize wc.drew = W at Hpb Hwa ⊢
  obtain ⟨U, hU⟩ : ∃ U, U = edgeU a n := ⟨_, rfl⟩
  obtain ⟨V, hV⟩ : ∃ V, V = edgeW b n := ⟨_, rfl⟩
  have HU : Hid _ := hU
  have HV : Hid _ := hV
  clear hU hV
  rename_i hK3
  refine hK3 _ _ ?_
  refine wp_seq_k (fun K2 hK2 => ?_)
  go_cut [9] from 21 to 26 (fun X wx => X = .int .u64 (U : Int) ∧ wx = W)
  case first =>
    by_cases h : 230 < a
    · have d1 : decide ((230 : Int) < (a : Int)) = true := decide_eq_true (by omega)
      have d1' : decide (230 < a) = true := decide_eq_true h
      have hUe : (U : Int) = (n : Int) - 1 - (ra : Int) := by have := Hru.out; have h3 := HU.out; have h4 := Hsm.out; rw [if_pos h] at this; omega
      have w1 : IntKind.u64.wrap ((n : Int) - 1) = (n : Int) - 1 := by rw [IntKind.wrap_u64]; omega
      have w2 : IntKind.u64.wrap ((n : Int) - 1 - (ra : Int)) = (U : Int) := by rw [hUe, IntKind.wrap_u64]; have := Hsm.out; omega
      clear hUe
      go_wp2_with fail
      go_meet
      case rel => exact ⟨by first | rfl | rw [w2], rfl⟩
    · have d1 : decide ((230 : Int) < (a : Int)) = false := decide_eq_false (by omega)
      have d1' : decide (230 < a) = false := decide_eq_false h
      obtain rfl : U = ra := by have := Hru.out; have h3 := HU.out; rw [if_neg h] at this; omega
      go_wp2_with fail
      go_meet
      case rel => exact ⟨rfl, rfl⟩
  case rest =>
  obtain ⟨rfl, rfl⟩ := hcut
  refine hK2 _ _ ?_
  clear hK2
  refine wp_seq_k (fun K3 hK3 => ?_)
  go_cut [10] from 27 to 32 (fun X wx => X = .int .u64 (V : Int) ∧ wx = wc)
  case first =>
    by_cases h : 240 < b
    · have d1 : decide ((240 : Int) < (b : Int)) = true := decide_eq_true (by omega)
      have d1' : decide (240 < b) = true := decide_eq_true h
      have hUe : (V : Int) = (n : Int) - 1 - (rb : Int) := by have := Hrv.out; have h3 := HV.out; have h4 := Hsm.out; rw [if_pos h] at this; omega
      have w1 : IntKind.u64.wrap ((n : Int) - 1) = (n : Int) - 1 := by rw [IntKind.wrap_u64]; omega
      have w2 : IntKind.u64.wrap ((n : Int) - 1 - (rb : Int)) = (V : Int) := by rw [hUe, IntKind.wrap_u64]; have := Hsm.out; omega
      clear hUe
      go_wp2_with fail
      go_meet
      case rel => exact ⟨by first | rfl | rw [w2], rfl⟩
    · have d1 : decide ((240 : Int) < (b : Int)) = false := decide_eq_false (by omega)
      have d1' : decide (240 < b) = false := decide_eq_false h
      obtain rfl : V = rb := by have := Hrv.out; have h3 := HV.out; rw [if_neg h] at this; omega
      go_wp2_with fail
      go_meet
      case rel => exact ⟨rfl, rfl⟩
  case rest =>
  rename_i wb _ _ _ _ _ _
  obtain ⟨rfl, rfl⟩ := hcut
  refine hK3 _ _ ?_
  clear hK3 Hru Hrv Hsm
  have Hul : Hid (U < 4294967296 ∧ V < 4294967296) := by
    have h1 := edgeU_lt a n (by omega)
    have h2 := edgeW_lt b n (by omega)
    have h3 := HU.out
    have h4 := HV.out
    constructor <;> omega
  obtain ⟨c0, c1⟩ : wc.cell? ⟨p, 0, none⟩ = some (.int .u32 0) ∧ wc.cell? ⟨p, 1, none⟩ = some (.int .u32 0) := ⟨two_cell0 Hpb.out, two_cell1 Hpb.out⟩
  have f0 : wc.frozen? ⟨p, 0, none⟩ = false := two_free Hpb.out 0
  have f1 : wc.frozen? ⟨p, 1, none⟩ = false := two_free Hpb.out 1
  by_cases huv : U = V
  · have d1 : ((U : Int) == (V : Int)) = true := by simp [huv]
    have d1' : (U == V) = true := by simp [huv]
    obtain rfl : R = none := by rw [HR.out]; unfold seatEdge; rw [← HU.out, ← HV.out]; exact if_pos huv
    clear huv
    go_wp2
    refine bodyPost_ret (pair_edge rfl rfl (run_loadVar_row _ _ 54 _ _ (0, 0) _ (two_set1 (two_set0 Hpb.out)) Try.underlying54 rfl edgeSize2)) rfl ?_
    exact ⟨rfl, (Hwa.out.setCell _ (fun h => by have := Hpw.out; dsimp only at h; omega) _).setCell _ (fun h => by have := Hpw.out; dsimp only at h; omega) _⟩
  · have d1 : ((U : Int) == (V : Int)) = false := by rw [beq_eq_false_iff_ne]; omega
    have d1' : (U == V) = false := by rw [beq_eq_false_iff_ne]; exact huv
    have HR2 : Hid (R = some (min U V, max U V)) := by show _ = _; rw [HR.out]; unfold seatEdge; rw [← HU.out, ← HV.out]; exact if_neg huv
    have wU : IntKind.u32.wrap (U : Int) = (U : Int) := by rw [IntKind.wrap_u32]; have := Hul.out; omega
    have wV : IntKind.u32.wrap (V : Int) = (V : Int) := by rw [IntKind.wrap_u32]; have := Hul.out; omega
    rcases Nat.lt_or_gt_of_ne huv with hlt | hlt
    · have e1 : decide ((U : Int) < (V : Int)) = true := decide_eq_true (by omega)
      have e2 : decide ((V : Int) < (U : Int)) = false := decide_eq_false (by omega)
      have e3 : (U : Int) < (V : Int) := by omega
      obtain rfl : R = some (U, V) := by rw [HR2.out, show min U V = U by omega, show max U V = V by omega]
      clear huv
      go_wp2
      refine bodyPost_ret (pair_edge rfl rfl (run_loadVar_row _ _ 54 _ _ (0, 0) _ (two_set1 (two_set0 Hpb.out)) Try.underlying54 rfl edgeSize2)) rfl ?_
      exact ⟨rfl, (Hwa.out.setCell _ (fun h => by have := Hpw.out; dsimp only at h; omega) _).setCell _ (fun h => by have := Hpw.out; dsimp only at h; omega) _⟩
    · have e1 : decide ((U : Int) < (V : Int)) = false := decide_eq_false (by omega)
      have e2 : decide ((V : Int) < (U : Int)) = true := decide_eq_true (by omega)
      have e3 : ¬ (U : Int) < (V : Int) := by omega
      have e4 : (V : Int) < (U : Int) := by omega
      obtain rfl : R = some (V, U) := by rw [HR2.out, show min U V = V by omega, show max U V = U by omega]
      clear huv
      go_wp2
      refine bodyPost_ret (pair_edge rfl rfl (run_loadVar_row _ _ 54 _ _ (0, 0) _ (two_set1 (two_set0 Hpb.out)) Try.underlying54 rfl edgeSize2)) rfl ?_
      exact ⟨rfl, (Hwa.out.setCell _ (fun h => by have := Hpw.out; dsimp only at h; omega) _).setCell _ (fun h => by have := Hpw.out; dsimp only at h; omega) _⟩

end Go.Proofs.Ytanimgfhabkmcaa

/-
  The contract of the seat's History.
-/
namespace Go.Proofs.Ytanimgfhabkmcaa
open Go.RowKit

theorem histSize : (Try.prog.info? 25).map (·.size) = some 2 := by kernel_rfl
theorem results_cell1 {fn : Func} {p : Tmp} {ty : TypeId} (h : fn.results = #[.cell p ty]) {tmps : Array Value} {P : Program} {w : World} {b o : Nat} {v : Value} (hp : tmps.getD p undef = .pointer (some ⟨b, o, none⟩)) (hl : (loadVar ty ⟨b, o, none⟩).run P w = .ok v w) :
    (results fn tmps).run P w = .ok v w := by
  have hp' : tmps[p]?.getD undef = .pointer (some ⟨b, o, none⟩) := by rw [← hp]; simp
  simp [results, h, asAddr, hp', hl]
theorem drop3 {l : List Nat} {i : Nat} (h : i + 2 < l.length) : l.drop i = l.getD i 0 :: l.getD (i + 1) 0 :: l.getD (i + 2) 0 :: l.drop (i + 3) := by
  have g : ∀ j, j < l.length → l.drop j = l.getD j 0 :: l.drop (j + 1) := fun j hj => by
    rw [List.drop_eq_getElem_cons hj, List.getD_eq_getElem?_getD, List.getElem?_eq_getElem hj]
    rfl
  rw [g i (by omega), g (i + 1) (by omega), g (i + 2) (by omega)]
theorem drop_at' {α : Type} {l : List α} {i : Nat} {a : α} (h : l[i]? = some a) : l.drop i = a :: l.drop (i + 1) := by
  obtain ⟨hi, he⟩ := List.getElem?_eq_some_iff.1 h
  rw [List.drop_eq_getElem_cons hi, he]
theorem times_stop {n t : Nat} {ts : List Ev} {l : List Nat} (h : ¬ (2 < l.length ∧ ts.length < 40)) : timesF n t ts l = ts := by
  match l with
  | [] => rfl
  | [_] => rfl
  | [_, _] => rfl
  | a :: b :: c :: r =>
    rw [timesF, if_neg]
    intro hh
    exact h ⟨by simp, hh⟩
theorem fr_cell (w : World) (p k : Nat) (u : Value) : Fr w (w.setCell ⟨p, k, none⟩ u) (fun j => j = p) := Fr.setCell (S := fun j => j = p) (Fr.refl _ _) ⟨p, k, none⟩ (fun _ => rfl) u
theorem four_free {w : World} {cs : Array Value} {T : TypeId} {p k : Nat} (h : w.heap[p]? = some (.cells cs T (0, 0))) : w.frozen? ⟨p, k, none⟩ = false := by simp [World.frozen?, h]
theorem four_put3 {w : World} {x0 x1 x2 x3 : Value} {T : TypeId} {p : Nat} (h : w.heap[p]? = some (.cells #[x0, x1, x2, x3] T (0, 0))) (v : Value) : (w.setCell ⟨p, 3, none⟩ v).heap[p]? = some (.cells #[x0, x1, x2, v] T (0, 0)) := by
  simp [World.setCell, Array.getElem?_modify, h]
theorem four_put0 {w : World} {x0 x1 x2 x3 : Value} {T : TypeId} {p : Nat} (h : w.heap[p]? = some (.cells #[x0, x1, x2, x3] T (0, 0))) (v : Value) : (w.setCell ⟨p, 0, none⟩ v).heap[p]? = some (.cells #[v, x1, x2, x3] T (0, 0)) := by
  simp [World.setCell, Array.getElem?_modify, h]
/-- Events lie in no block that holds a history. -/
theorem RdV.apart {w : World} {v : Value} {es : List Ev} {p : Nat} {T : TypeId} {n : Int} {a : Option Addr} {l c : Nat} (h : RdV w v es) (hp : w.heap[p]? = some (.cells #[.int .u64 n, .slice a l c] T (0, 0))) (h0 : 0 < es.length) : ∀ k, v.ownBlock = some k → ¬ k = p := by
  obtain ⟨x, hx⟩ : ∃ x, es[0]? = some x := ⟨_, List.getElem?_eq_getElem h0⟩
  obtain ⟨b, off, cap, rfl, hb, hc⟩ := h.get 0 x hx
  have h1 := (hc w (Fr.refl _ _)).1
  intro k hk he
  simp only [Value.ownBlock, Option.some.injEq] at hk
  subst hk
  subst he
  simp only [World.cell?, hp] at h1
  match off with
  | 0 => simp at h1
  | 1 => simp at h1
  | off + 2 => simp at h1

set_option maxRecDepth 4000 in
set_option maxHeartbeats 3200000 in
theorem seatHistory_any (k : Nat) (v : Value) (bs : List Nat) (w : World) (h : Reads .u8 w v bs) (hbb : ∀ x ∈ bs, x < 256) (hl : bs.length ≤ 1000) (hk : k < 256) : Calls Try.prog 9 #[.int .u8 (k : Int), v] w fun r w' => (∃ v', r = .returned (histV (vertF k) v') ∧ RdV w' v' (histE k bs) ∧ (∀ b, v'.ownBlock = some b → w.heap.size ≤ b)) ∧ Fr w w' (fun _ => False) := by
  obtain ⟨a0, m, c0, rfl⟩ := h.form
  have hm : m = bs.length := by
    obtain ⟨ao, cap, e, -, -⟩ := h
    simp only [Value.slice.injEq] at e
    rw [e.2.1, length_row]
  have Hr : Hid (Reads .u8 w (.slice a0 m c0) bs) := h
  have Hm : Hid _ := hm
  have Hl : Hid (bs.length ≤ 1000) := hl
  have Hbb : Hid _ := hbb
  have hm1 : m ≤ 1000 := by omega
  obtain ⟨n, hn⟩ : ∃ n, n = vertF k := ⟨_, rfl⟩
  have hnb := vertF_bounds k
  rw [← hn] at hnb
  obtain ⟨RES, hRES⟩ : ∃ R, R = histE k bs := ⟨_, rfl⟩
  rw [← hn, ← hRES]
  have Hn : Hid _ := hn
  have Hnb : Hid _ := hnb
  have HRES : Hid _ := hRES
  clear h hm hl hbb hn hRES hnb
  unfold histV
  go_enter Try.func9, Try.ntmps9
  go_wp2_with fail
  obtain ⟨p4, hp4⟩ : ∃ p, p = w.heap.size := ⟨_, rfl⟩
  rw [← hp4]
  refine (vertices_any k _).mono ?_
  rw [← Hn.out]
  rintro r x1 ⟨rfl, g⟩
  have h4 : x1.heap[p4]? = some (.cells #[.int .u64 0, .slice none 0 0] 25 (0, 0)) := g.kept (by rw [hp4]; exact heap_alloc_new _ _) (fun h => h)
  have Hx1 : Hid (Fr w x1 (fun _ => False)) := ((Fr.refl w (fun _ => False)).alloc _).none g
  have H4 : Hid _ := h4
  have Hp4 : Hid _ := hp4
  clear g h4 hp4
  go_upto_region 2 with fail
  obtain ⟨p5, hp5⟩ : ∃ p, p = x1.heap.size := ⟨_, rfl⟩
  obtain ⟨w5, hw5⟩ : ∃ x, x = x1.alloc (.cells #[.int .u64 (n : Int), .slice none 0 0] 25) := ⟨_, rfl⟩
  rw [← hw5, ← hp5]
  have Hb5 : Hid (∀ z, Fr w5 z (fun _ => False) → z.heap[p5]? = some (.cells #[.int .u64 (n : Int), .slice none 0 0] 25 (0, 0))) := fun z hz => hz.kept (by rw [hw5, hp5]; exact heap_alloc_new _ _) (fun h => h)
  have hlt45 : p4 < p5 := by rw [hp5]; exact lt_of_block H4.out
  have Hb4 : Hid (∀ z, Fr w5 z (fun k => k = p5) → z.heap[p4]? = some (.cells #[.int .u64 0, .slice none 0 0] 25 (0, 0))) := fun z hz => hz.kept (by rw [hw5]; exact blk_alloc _ H4.out) (fun h => by omega)
  have Hw5 : Hid (Fr w w5 (fun _ => False)) := by show Fr _ _ _; rw [hw5]; exact Hx1.out.alloc _
  have Hs5 : Hid (w5.heap.size = p5 + 1) := by show _ = _; rw [hw5, hp5]; simp
  have Hw4 : Hid (w.heap.size ≤ p4) := by have := Hp4.out; exact (by omega : w.heap.size ≤ p4)
  have H45 : Hid (p4 < p5) := hlt45
  have Hrl : Hid (∀ z, Fr w5 z (fun _ => False) → Reads .u8 z (.slice a0 m c0) bs) := fun z hz => Hr.out.keep (Hw5.out.none hz)
  clear hp5 hw5 hlt45 Hx1 H4 Hp4 Hr
  obtain ⟨t0, ht0⟩ : ∃ t, t = k % 3 := ⟨_, rfl⟩
  have mk : (k : Int).tmod 3 = (t0 : Int) := by rw [Int.tmod_eq_emod_of_nonneg (by omega)]; omega
  have mk' : (k : Int) % 3 = (t0 : Int) := by omega
  have wk : IntKind.i64.wrap (t0 : Int) = (t0 : Int) := IntWalk.i64_in _ (by omega)
  have ht3 : t0 ≤ 2 := by omega
  obtain ⟨TS, hTS⟩ : ∃ T, T = timesF n t0 [] bs := ⟨_, rfl⟩
  have HTS : Hid _ := hTS
  have HR2 : Hid (RES = secondF [] TS) := by show _ = _; rw [HRES.out, hTS, ht0, Hn.out]; rfl
  have Hts : Hid (TS.length ≤ 40) := by
    show _ ≤ _
    rw [hTS]
    exact (times_good n (by have := Hnb.out; omega) t0 [] bs List.Pairwise.nil (fun x hx => by cases hx) (by simp)).2.2
  clear hTS ht0 HRES
  go_wp2_with fail
  clear mk mk' wk
  go_loopg [6, 7, 8] (m + 3) (fun g T S I wr => ∃ (i t : Nat) (ts : List Ev), g = m + 3 - i ∧ i ≤ m + 2 ∧ I = .int .i64 (i : Int) ∧ T = .int .i64 (t : Int) ∧ t ≤ 2 + i * 1099511627776 ∧ RdV wr S ts ∧ ts.length ≤ 40 ∧ timesF n t ts (bs.drop i) = TS ∧ Fr w5 wr (fun _ => False))
  case atStart => exact ⟨0, t0, [], by omega, by omega, rfl, rfl, by omega, RdV.nil _, by simp, HTS.out.symm, Fr.refl _ _⟩
  case round =>
    obtain ⟨i, t, ts, hg, hi, rfl, rfl, ht, hts, htl, hst, hf⟩ := hrel
    have Hg : Hid _ := hg
    have Hts2 : Hid (RdV wr u7 ts) := hts
    have Hst : Hid _ := hst
    have Hf : Hid (Fr w5 wr (fun _ => False)) := hf
    have Ht : Hid (t ≤ 2 + i * 1099511627776) := ht
    obtain ⟨a7, c7, rfl, -⟩ := RdV.form hts
    obtain ⟨q, hq⟩ : ∃ q, q = ts.length := ⟨_, rfl⟩
    rw [← hq] at htl Hts2 ⊢
    have Hq : Hid _ := hq
    clear hg hts hst hf ht hq
    obtain ⟨B, hB⟩ : ∃ B, B = decide (i + 2 < m ∧ q < 40) := ⟨_, rfl⟩
    have HB : Hid _ := hB
    have wi2 : IntKind.i64.wrap ((i : Int) + 2) = (((i + 2 : Nat) : Int)) := by rw [IntWalk.i64_in _ (by omega)]; omega
    have wi2' : (i : Int) + 2 = (((i + 2 : Nat) : Int)) := by omega
    clear hB
    obtain ⟨i2, hi2⟩ : ∃ j, j = i + 2 := ⟨_, rfl⟩
    rw [← hi2] at wi2
    have Hi2 : Hid _ := hi2
    clear wi2'
    go_upto_region 5 with fail
    have HW : Hid (wr = wr) := rfl
    go_cut [29] from 20 to 29 (fun V wx => V = .bool B ∧ wx = wr)
    case first =>
      by_cases h1 : i2 < m
      · have d1 : (i2 : Int) < (m : Int) := by omega
        have d1' : decide (i2 < m) = true := decide_eq_true h1
        by_cases h2 : q < 40
        · have d2 : decide ((q : Int) < 40) = true := decide_eq_true (by omega)
          have d2' : decide (q < 40) = true := decide_eq_true h2
          obtain rfl : B = true := by rw [HB.out]; exact decide_eq_true ⟨by omega, h2⟩
          clear hi2 h1
          go_wp2_with fail
          go_meet
          case rel => exact ⟨rfl, rfl⟩
        · have d2 : decide ((q : Int) < 40) = false := decide_eq_false (by omega)
          have d2' : decide (q < 40) = false := decide_eq_false h2
          obtain rfl : B = false := by rw [HB.out]; exact decide_eq_false (fun h => h2 h.2)
          clear hi2 h1
          go_wp2_with fail
          go_meet
          case rel => exact ⟨rfl, rfl⟩
      · have d1 : ¬ (i2 : Int) < (m : Int) := by omega
        have d1' : decide (i2 < m) = false := decide_eq_false h1
        obtain rfl : B = false := by rw [HB.out]; exact decide_eq_false (fun h => h1 (by omega))
        clear hi2 h1
        go_wp2_with fail
        go_meet
        case rel => exact ⟨rfl, rfl⟩
    case rest =>
    obtain ⟨rfl, rfl⟩ := hcut
    rename_i hKc
    refine hKc _ _ ?_
    clear hKc HW wi2
    cases B with
    | true =>
      have hB := of_decide_eq_true HB.out.symm
      have him : i2 < m := by omega
      obtain ⟨ao', cap', e9, -, hcl⟩ := Hrl.out wc Hf.out
      obtain ⟨bb, off, rfl, hcell⟩ := hcl (by rw [length_row, ← Hm.out]; omega)
      simp only [Value.slice.injEq] at e9
      obtain ⟨rfl, -, rfl⟩ := e9
      have ka := hcell i _ (row_get .u8 bs i (by rw [← Hm.out]; omega))
      have kb := hcell (i + 1) _ (row_get .u8 bs (i + 1) (by rw [← Hm.out]; omega))
      have kc := hcell (i + 2) _ (row_get .u8 bs (i + 2) (by rw [← Hm.out]; omega))
      have la := getD_lt (by decide) Hbb.out i
      have lb := getD_lt (by decide) Hbb.out (i + 1)
      have lc := getD_lt (by decide) Hbb.out (i + 2)
      have Hst2 : Hid (timesF n t ts (bs.getD i 0 :: bs.getD (i + 1) 0 :: bs.getD (i + 2) 0 :: bs.drop (i + 3)) = TS) := by show _ = _; rw [← Hst.out, drop3 (l := bs) (i := i) (by rw [← Hm.out]; have := Hi2.out; omega)]
      generalize bs.getD i 0 = a at ka la Hst2
      generalize bs.getD (i + 1) 0 = b at kb lb Hst2
      generalize bs.getD (i + 2) 0 = c at kc lc Hst2
      obtain ⟨t2, ht2⟩ : ∃ x, x = nextT t a := ⟨_, rfl⟩
      have Hst3 : Hid (timesF n t2 (stepF n t2 ts b c) (bs.drop (i + 3)) = TS) := by
        show _ = _
        rw [← Hst2.out, timesF, if_pos (by rw [← Hq.out]; exact hB.2), ht2]
      have Ht2 : Hid (t2 ≤ 2 + (i + 3) * 1099511627776) := by
        have h1 := nextT_le t a
        have h2 := Ht.out
        rw [← ht2] at h1
        show t2 ≤ 2 + (i + 3) * 1099511627776
        omega
      have Hnt : Hid (t2 = t + a % 4 + if 240 < a then 2 ^ (a % 40) else 0) := ht2
      clear ht2 Hst Hst2 hcl hcell hB
      obtain ⟨r4, hr4⟩ : ∃ r, r = a % 4 := ⟨_, rfl⟩
      obtain ⟨t1, ht1⟩ : ∃ x, x = t + r4 := ⟨_, rfl⟩
      have ma : (a : Int).tmod 4 = (r4 : Int) := by rw [Int.tmod_eq_emod_of_nonneg (by omega)]; omega
      have ma' : (a : Int) % 4 = (r4 : Int) := by omega
      have wr4 : IntKind.i64.wrap (r4 : Int) = (r4 : Int) := IntWalk.i64_in _ (by omega)
      have htb : t ≤ 1125899906842624 := by have := Ht.out; omega
      have wt1 : IntKind.i64.wrap ((t : Int) + (r4 : Int)) = (t1 : Int) := by rw [IntWalk.i64_in _ (by omega)]; omega
      have wt1b : (t : Int) + (r4 : Int) = (t1 : Int) := by omega
      have him1 : (i : Int) < (m : Int) := by omega
      have hi0 : (0 : Int) ≤ (i : Int) := by omega
      rw [← hr4, ← ht1] at Hnt
      have Hr4 : Hid (r4 = a % 4) := hr4
      have Ht1 : Hid (t1 = t + r4) := ht1
      clear hr4 ht1 hi2
      go_upto_region 7 with fail
      have HW : Hid (wc = wc) := rfl
      go_cut [6] from 32 to 39 (fun X wx => X = .int .i64 (t1 : Int) ∧ wx = wc)
      case first =>
        clear wt1b
        go_wp2_with fail
        go_meet
        case rel => exact ⟨by first | rfl | rw [wt1] | (have e := Ht1.out; rw [e]; rfl), rfl⟩
      case rest =>
      rename_i wd _ _ _ _ _ _ _ _ _
      obtain ⟨rfl, rfl⟩ := hcut
      rename_i hKc
      refine hKc _ _ ?_
      clear hKc HW ma ma' wr4 wt1 wt1b
      refine wp_seq_k (fun K2 hK2 => ?_)
      have HW : Hid (wc = wc) := rfl
      go_cut [6] from 40 to 52 (fun X wx => X = .int .i64 (t2 : Int) ∧ wx = wc)
      case first =>
        by_cases h240 : 240 < a
        · have d1 : decide ((240 : Int) < (a : Int)) = true := decide_eq_true (by omega)
          have d1' : decide (240 < a) = true := decide_eq_true h240
          obtain ⟨y, hy⟩ : ∃ y, y = a % 40 := ⟨_, rfl⟩
          have mb : (a : Int).tmod 40 = (y : Int) := by rw [Int.tmod_eq_emod_of_nonneg (by omega)]; omega
          have mb' : (a : Int) % 40 = (y : Int) := by omega
          obtain ⟨P, hP⟩ : ∃ P, P = 2 ^ y := ⟨_, rfl⟩
          have hPb : P ≤ 549755813888 := by rw [hP]; exact Nat.pow_le_pow_right (by omega) (show y ≤ 39 by omega)
          have HP1 : Hid ((2 : Int) ^ y = (P : Int)) := by show _ = _; rw [hP]; simp
          have Hsum : Hid (t2 = t1 + P) := by have := Hnt.out; rw [if_pos h240, ← hy, ← hP] at this; exact this
          clear hP
          have t1b : t1 ≤ 1125899906842630 := by have := Ht1.out; have := Hr4.out; omega
          have hy64 : (y : Int) < 64 := by omega
          have hy0 : (0 : Int) ≤ (y : Int) := by omega
          have h240c : Hid (240 < a) := h240
          have hs1 : -9223372036854775808 ≤ (t1 : Int) + (P : Int) ∧ (t1 : Int) + (P : Int) ≤ 9223372036854775807 := by omega
          have hs2 : -9223372036854775808 ≤ (P : Int) ∧ (P : Int) ≤ 9223372036854775807 := by omega
          have hs3 : (t1 : Int) + (P : Int) = (t2 : Int) := by have := Hsum.out; omega
          have hwP : IntKind.i64.wrap (P : Int) = (P : Int) := IntWalk.i64_in _ hs2
          have hwP2 : wrap64 (P : Int) = (P : Int) := IntWalk.wrap64_in _ hs2
          have wsum : IntKind.i64.wrap ((t1 : Int) + (P : Int)) = (t2 : Int) := (IntWalk.i64_in _ hs1).trans hs3
          have wsum2 : wrap64 ((t1 : Int) + (P : Int)) = (t2 : Int) := (IntWalk.wrap64_in _ hs1).trans hs3
          clear hs1 hs2 hs3
          clear hy h240 hPb
          have hsh : wrap64 ((2 : Int) ^ y) = (P : Int) := by rw [HP1.out]; exact hwP2
          have hsh2 : IntKind.i64.wrap ((2 : Int) ^ y) = (P : Int) := by rw [HP1.out]; exact hwP
          go_wp2_with fail
          go_meet
          case rel => exact ⟨by first | rfl | rw [wsum] | rw [wsum2] | (have e := Hsum.out; rw [e]; rfl), rfl⟩
        · have d1 : decide ((240 : Int) < (a : Int)) = false := decide_eq_false (by omega)
          have d1' : decide (240 < a) = false := decide_eq_false h240
          obtain rfl : t2 = t1 := by have := Hnt.out; rw [if_neg h240] at this; exact this
          clear h240
          go_wp2_with fail
          go_meet
          case rel => exact ⟨rfl, rfl⟩
      case rest =>
      rename_i wq _ _ _ _ _ _ _ _ _ _ _ _ _
      obtain ⟨rfl, rfl⟩ := hcut
      refine hK2 _ _ ?_
      clear hK2 HW
      obtain ⟨SE, hSE⟩ : ∃ S, S = seatEdge b c n := ⟨_, rfl⟩
      have HSE : Hid _ := hSE
      obtain ⟨⟨f1, f2⟩, he⟩ : ∃ e, e = SE.getD (0, 0) := ⟨_, rfl⟩
      have He : Hid _ := he
      have Hq40 : Hid (q < 40) := by have := of_decide_eq_true HB.out.symm; exact this.2
      have Hlbc : Hid (b < 256 ∧ c < 256) := ⟨lb, lc⟩
      clear hSE he ka
      go_upto_region 10 with fail
      go_cut [9, 10] from 53 to 68 (fun X Y wx => ∃ p9 : Nat, X = .pointer (some ⟨p9, 0, none⟩) ∧ Y = .bool SE.isSome ∧ wx.heap[p9]? = some (.cells #[.int .u32 (f1 : Int), .int .u32 (f2 : Int)] 54 (0, 0)) ∧ Fr wc wx (fun _ => False))
      case first =>
        obtain ⟨i1, hi1⟩ : ∃ x, x = i + 1 := ⟨_, rfl⟩
        rw [← hi1] at kb
        rw [← Hi2.out] at kc
        have wi1 : IntKind.i64.wrap ((i : Int) + 1) = (i1 : Int) := by rw [IntWalk.i64_in _ (by omega)]; omega
        have wi2 : IntKind.i64.wrap ((i : Int) + 2) = (i2 : Int) := by have := Hi2.out; rw [IntWalk.i64_in _ (by omega)]; omega
        have hi1m : (i1 : Int) < (m : Int) := by have := Hi2.out; omega
        have hi2m : (i2 : Int) < (m : Int) := by omega
        have hi10 : (0 : Int) ≤ (i1 : Int) := by omega
        have hi20 : (0 : Int) ≤ (i2 : Int) := by omega
        have hbk : bb < wc.heap.size := World.block_lt_of_cell? _ _ kb
        have k1 : ∀ z, Fr wc.drew z (fun k => wc.heap.size ≤ k) → z.cell? ⟨bb, off + i1, none⟩ = some (.int .u8 (b : Int)) := fun z hz => by
          rw [World.cell?_of_block (w := wc) (hz.block bb hbk (fun h => by omega))]
          exact kb
        have k2 : ∀ z, Fr wc.drew z (fun k => wc.heap.size ≤ k) → z.cell? ⟨bb, off + i2, none⟩ = some (.int .u8 (c : Int)) := fun z hz => by
          rw [World.cell?_of_block (w := wc) (hz.block bb hbk (fun h => by omega))]
          exact kc
        have k3 : ∀ z, Fr wc.drew z (fun k => wc.heap.size ≤ k) → z.cell? ⟨p5, 0, none⟩ = some (.int .u64 (n : Int)) := fun z hz => two_cell0 (Hb5.out z (Hf.out.drew.none (hz.old (Nat.le_refl _))))
        obtain ⟨N, hN⟩ : ∃ N, N = wc.heap.size := ⟨_, rfl⟩
        rw [← hN] at k1 k2 k3
        have HN : Hid (wc.heap.size = N) := hN.symm
        clear kb kc hbk hN hi1
        go_wp2_with fail
        refine wp_region_tree (fun k => N ≤ k) (.take 0 (.take 1 (.take 2 (.take 3 (.take 4 (.take 5 (.take 6 (.take 7 (.take 8 (.take 9 (.take 10 (.take 11 (.two 12 (.take 13 (.take 14 (.take 15 (.one 16 (.one 17 (.take 18 .nil)))))) 16 (.one 12 (.take 13 (.take 14 (.take 15 (.one 17 (.take 18 .nil))))))))))))))))))) (by kernel_rfl) (by kernel_rfl) (by decide) (by kernel_rfl) ?_
        repeat (refine wpT_take (v := ?_) rfl rfl (fun x hx => ?_) ?_; rotate_left; (focus (go_simp; with_reducible rfl)); simp only [Act.put, List.setIfInBounds_toArray, List.set_cons_zero, List.set_cons_succ])
        clear k1 k2 k3
        refine wpT_two rfl rfl rfl rfl (fun K hK => ?_) (fun K hK => ?_)
        · go_simp
          refine (seatEdge_any b c n _ Hlbc.out.1 Hlbc.out.2 Hnb.out.1 Hnb.out.2).mono ?_
          rw [← HSE.out, ← He.out]
          unfold edgeV
          rintro r x3 ⟨rfl, g⟩
          refine hK _ _ (g.mono (fun _ _ h => h.elim)) ?_
          clear hK K
          have G3 : Hid (Fr wc.drew x3 (fun _ => False)) := g
          clear g
          repeat (refine wpT_take (v := ?_) rfl rfl (fun x hx => ?_) ?_; rotate_left; (focus (go_simp; with_reducible rfl)); simp only [Act.put, List.setIfInBounds_toArray, List.set_cons_zero, List.set_cons_succ])
          refine wpT_one rfl rfl (fun K hK => ?_)
          go_simp
          refine hK _ _ ((Fr.refl x3 _).alloc _) ?_
          clear hK K
          obtain ⟨p9, hp9⟩ : ∃ p, p = x3.heap.size := ⟨_, rfl⟩
          have hA : (x3.alloc (.cells #[.int .u32 0, .int .u32 0] 54)).heap[p9]? = some (.cells #[.int .u32 0, .int .u32 0] 54 (0, 0)) := by rw [hp9]; exact heap_alloc_new _ _
          have G4 : Hid (Fr wc.drew (x3.alloc (.cells #[.int .u32 0, .int .u32 0] 54)) (fun _ => False)) := G3.out.alloc _
          have hpN : N ≤ p9 := by have := G3.out.size; have h2 := HN.out; rw [hp9]; exact h2 ▸ this
          rw [← hp9]
          clear hp9
          generalize x3.alloc (.cells #[.int .u32 0, .int .u32 0] 54) = x4 at hA G4 ⊢
          obtain ⟨c0', c1'⟩ : x4.cell? ⟨p9, 0, none⟩ = some (.int .u32 0) ∧ x4.cell? ⟨p9, 1, none⟩ = some (.int .u32 0) := ⟨two_cell0 hA, two_cell1 hA⟩
          have f0' : x4.frozen? ⟨p9, 0, none⟩ = false := two_free hA 0
          have f1' : x4.frozen? ⟨p9, 1, none⟩ = false := two_free hA 1
          have HA : Hid _ := hA
          have HpN : Hid (N ≤ p9) := hpN
          clear hA hpN
          refine wpT_one rfl rfl (fun K hK => ?_)
          go_simp
          refine hK _ _ (((fr_cell x4 _ _ _).trans (fr_cell _ _ _ _) (fun _ _ h => h)).mono (fun j _ h => by subst h; exact HpN.out)) ?_
          clear hK K c0' c1' f0' f1'
          have hB2 := two_set1 (two_set0 HA.out (u := .int .u32 (f1 : Int))) (u := .int .u32 (f2 : Int))
          have HfB : Hid (Fr wc ((x4.setCell ⟨p9, 0, none⟩ (.int .u32 (f1 : Int))).setCell ⟨p9, 1, none⟩ (.int .u32 (f2 : Int))) (fun _ => False)) := Fr.newer ((Fr.refl wc (fun _ => False)).drew.none G4.out) ((fr_cell x4 _ _ _).trans (fr_cell _ _ _ _) (fun _ _ h => h)) (fun j h => by subst h; rw [HN.out]; exact HpN.out)
          generalize (x4.setCell ⟨p9, 0, none⟩ (.int .u32 (f1 : Int))).setCell ⟨p9, 1, none⟩ (.int .u32 (f2 : Int)) = x5 at hB2 HfB ⊢
          have HB2 : Hid _ := hB2
          clear hB2 HA
          repeat (refine wpT_take (v := ?_) rfl rfl (fun x hx => ?_) ?_; rotate_left; (focus (go_simp; with_reducible rfl)); simp only [Act.put, List.setIfInBounds_toArray, List.set_cons_zero, List.set_cons_succ])
          unfold wpT
          go_wp2_with fail
          go_meet
          case rel => exact ⟨p9, rfl, rfl, HB2.out, HfB.out⟩
        · go_simp
          refine hK _ _ ((Fr.refl wc.drew _).alloc _) ?_
          clear hK K
          obtain ⟨p9, hp9⟩ : ∃ p, p = wc.heap.size := ⟨_, rfl⟩
          have hA0 : (wc.drew.alloc (.cells #[.int .u32 0, .int .u32 0] 54)).heap[p9]? = some (.cells #[.int .u32 0, .int .u32 0] 54 (0, 0)) := by rw [hp9]; exact heap_alloc_new wc.drew _
          have G3 : Hid (Fr wc.drew (wc.drew.alloc (.cells #[.int .u32 0, .int .u32 0] 54)) (fun _ => False)) := (Fr.refl wc.drew _).alloc _
          have hpN : N ≤ p9 := by rw [hp9, HN.out]; exact Nat.le_refl _
          have HA0 : Hid _ := hA0
          rw [← hp9]
          clear hA0 hp9
          refine wpT_one rfl rfl (fun K hK => ?_)
          go_simp
          refine (seatEdge_any b c n _ Hlbc.out.1 Hlbc.out.2 Hnb.out.1 Hnb.out.2).mono ?_
          rw [← HSE.out, ← He.out]
          unfold edgeV
          rintro r x4 ⟨rfl, g⟩
          refine hK _ _ (g.mono (fun _ _ h => h.elim)) ?_
          clear hK K
          have hA : x4.heap[p9]? = some (.cells #[.int .u32 0, .int .u32 0] 54 (0, 0)) := g.kept HA0.out (fun h => h)
          have G4 : Hid (Fr wc.drew x4 (fun _ => False)) := G3.out.none g
          clear g HA0
          repeat (refine wpT_take (v := ?_) rfl rfl (fun x hx => ?_) ?_; rotate_left; (focus (go_simp; with_reducible rfl)); simp only [Act.put, List.setIfInBounds_toArray, List.set_cons_zero, List.set_cons_succ])
          obtain ⟨c0', c1'⟩ : x4.cell? ⟨p9, 0, none⟩ = some (.int .u32 0) ∧ x4.cell? ⟨p9, 1, none⟩ = some (.int .u32 0) := ⟨two_cell0 hA, two_cell1 hA⟩
          have f0' : x4.frozen? ⟨p9, 0, none⟩ = false := two_free hA 0
          have f1' : x4.frozen? ⟨p9, 1, none⟩ = false := two_free hA 1
          have HA : Hid _ := hA
          have HpN : Hid (N ≤ p9) := hpN
          clear hA hpN
          refine wpT_one rfl rfl (fun K hK => ?_)
          go_simp
          refine hK _ _ (((fr_cell x4 _ _ _).trans (fr_cell _ _ _ _) (fun _ _ h => h)).mono (fun j _ h => by subst h; exact HpN.out)) ?_
          clear hK K c0' c1' f0' f1'
          have hB2 := two_set1 (two_set0 HA.out (u := .int .u32 (f1 : Int))) (u := .int .u32 (f2 : Int))
          have HfB : Hid (Fr wc ((x4.setCell ⟨p9, 0, none⟩ (.int .u32 (f1 : Int))).setCell ⟨p9, 1, none⟩ (.int .u32 (f2 : Int))) (fun _ => False)) := Fr.newer ((Fr.refl wc (fun _ => False)).drew.none G4.out) ((fr_cell x4 _ _ _).trans (fr_cell _ _ _ _) (fun _ _ h => h)) (fun j h => by subst h; rw [HN.out]; exact HpN.out)
          generalize (x4.setCell ⟨p9, 0, none⟩ (.int .u32 (f1 : Int))).setCell ⟨p9, 1, none⟩ (.int .u32 (f2 : Int)) = x5 at hB2 HfB ⊢
          have HB2 : Hid _ := hB2
          clear hB2 HA
          repeat (refine wpT_take (v := ?_) rfl rfl (fun x hx => ?_) ?_; rotate_left; (focus (go_simp; with_reducible rfl)); simp only [Act.put, List.setIfInBounds_toArray, List.set_cons_zero, List.set_cons_succ])
          unfold wpT
          go_wp2_with fail
          go_meet
          case rel => exact ⟨p9, rfl, rfl, HB2.out, HfB.out⟩
      case rest =>
      obtain ⟨p9, rfl, rfl, hp9, hfc⟩ := hcut
      rename_i hKc
      refine hKc _ _ ?_
      clear hKc
      rename_i wp _ _ _ _ _ _ _ _ _ _ _ _ _ _ _ _ _ _ _ _ _ _ _ _ _ _ _ _ _ _ _
      have Hfd : Hid (Fr w5 wc (fun _ => False)) := Hf.out.none hfc
      have Htd : Hid (RdV wc (.slice a7 q c7) ts) := Hts2.out.keep hfc
      obtain ⟨c0', c1'⟩ : wc.cell? ⟨p9, 0, none⟩ = some (.int .u32 (f1 : Int)) ∧ wc.cell? ⟨p9, 1, none⟩ = some (.int .u32 (f2 : Int)) := ⟨two_cell0 hp9, two_cell1 hp9⟩
      clear hp9 hfc kb kc la lb lc
      cases SE with
      | none =>
        have Hst4 : Hid (timesF n t2 ts (bs.drop (i + 3)) = TS) := by
          show _ = _
          have := Hst3.out
          unfold stepF at this
          rw [← HSE.out] at this
          exact this
        have Hi3 : Hid (i + 3 ≤ m + 2) := by have := Hi2.out; exact (by omega : i + 3 ≤ m + 2)
        go_wp2_with fail
        go_roundg (m + 3 - (i + 3))
        case rel => exact ⟨i + 3, t2, ts, rfl, Hi3.out, by first | go_num | (rw [IntWalk.wrap64_in _ (by omega)]; rfl), rfl, Ht2.out, Htd.out, by rw [← Hq.out]; omega, Hst4.out, Hfd.out⟩
        case measure => rw [Hg.out]; have := Hi3.out; omega
      | some e0 =>
        obtain rfl : e0 = (f1, f2) := by rw [He.out]; rfl
        have Hst4 : Hid (timesF n t2 (insF ts ((t2 : Int), (f1, f2), false)) (bs.drop (i + 3)) = TS) := by
          show _ = _
          have := Hst3.out
          unfold stepF at this
          rw [← HSE.out] at this
          exact this
        have Hi3 : Hid (i + 3 ≤ m + 2) := by have := Hi2.out; exact (by omega : i + 3 ≤ m + 2)
        go_wp2_with fail
        refine (seatInsert_any _ ts ((t2 : Int), (f1, f2), false) _ Htd.out (by rw [← Hq.out]; omega)).mono ?_
        rintro r x6 ⟨⟨v6, rfl, hr6⟩, g⟩
        have Hr6 : Hid _ := hr6
        have Hf6 : Hid (Fr w5 x6 (fun _ => False)) := Hfd.out.none g
        have Hl6 : Hid ((insF ts ((t2 : Int), (f1, f2), false)).length ≤ 40) := by have h1 := ins_length ts ((t2 : Int), (f1, f2), false); have h2 := Hq40.out; have h3 := Hq.out; exact (by omega : (insF ts ((t2 : Int), (f1, f2), false)).length ≤ 40)
        clear hr6 g c0' c1'
        go_wp2_with fail
        go_roundg (m + 3 - (i + 3))
        case rel => exact ⟨i + 3, t2, _, rfl, Hi3.out, by first | go_num | (rw [IntWalk.wrap64_in _ (by omega)]; rfl), rfl, Ht2.out, Hr6.out, Hl6.out, Hst4.out, Hf6.out⟩
        case measure => rw [Hg.out]; have := Hi3.out; omega
    | false =>
      have hTS : TS = ts := by
        rw [← Hst.out]
        refine times_stop (fun h => of_decide_eq_false HB.out.symm ⟨?_, by rw [Hq.out]; exact h.2⟩)
        have h1 := h.1
        rw [List.length_drop, ← Hm.out] at h1
        omega
      subst hTS
      have Hts3 : Hid (RdV wc (.slice a7 q c7) TS) := Hts2.out
      have H5c : Hid (wc.heap[p5]? = some (.cells #[.int .u64 (n : Int), .slice none 0 0] 25 (0, 0))) := Hb5.out wc Hf.out
      have Hap : Hid (0 < TS.length → ∀ k, (Value.slice a7 q c7).ownBlock = some k → ¬ k = p5) := RdV.apart Hts3.out H5c.out
      have Hqt : Hid (q ≤ 40) := htl
      have H5w : Hid (p5 < wc.heap.size) := lt_of_block H5c.out
      clear hi2
      go_wp2_with fail
      go_loopg [11, 12] q (fun g N I wr => ∃ (j : Nat) (now : List Eg) (out : List Ev) (hv : Value), g = q - j ∧ j ≤ q ∧ I = .int .i64 (j : Int) ∧ RdE wr N now ∧ now.length ≤ j ∧ (∀ k, N.ownBlock = some k → p5 < k) ∧ out ++ secondF now (TS.drop j) = RES ∧ out.length = j ∧ wr.heap[p5]? = some (.cells #[.int .u64 (n : Int), hv] 25 (0, 0)) ∧ OwnV wr hv out ∧ (∀ k, hv.ownBlock = some k → wc.heap.size ≤ k) ∧ Fr wc wr (fun k => k = p5))
      case atStart => exact ⟨0, [], [], _, by omega, by omega, rfl, RdE.nil _, by simp, fun k hk => (by simp [Value.ownBlock] at hk), by simpa using HR2.out.symm, rfl, H5c.out, OwnV.nil _, fun k hk => (by simp [Value.ownBlock] at hk), Fr.refl _ _⟩
      case round =>
        obtain ⟨j, now, out, hv, hg, hj, rfl, hnow, hnl, hnn, hst, hol, hp5, hov, hvn, hf⟩ := hrel
        have Hg : Hid _ := hg
        have Hnow : Hid (RdE wr u11 now) := hnow
        have Hnl : Hid _ := hnl
        have Hnn : Hid _ := hnn
        have Hst2 : Hid _ := hst
        have Hol : Hid _ := hol
        have H5 : Hid _ := hp5
        have Hov : Hid (OwnV wr hv out) := hov
        have Hvc : Hid (∀ k, hv.ownBlock = some k → wc.heap.size ≤ k) := hvn
        have Hvn : Hid (∀ k, hv.ownBlock = some k → p5 < k) := fun k hk => by have h1 := Hvc.out k hk; have h2 := H5w.out; omega
        have Hf2 : Hid (Fr wc wr (fun k => k = p5)) := hf
        clear hg hnow hnl hnn hst hol hp5 hov hvn hf
        have Hw5r : Hid (p5 < wr.heap.size) := lt_of_block H5.out
        by_cases hlt : j < q
        · have hin : (j : Int) < (q : Int) := by omega
          have hin' : decide (j < q) = true := decide_eq_true hlt
          obtain ⟨⟨s, ⟨f1, f2⟩, ax⟩, ha⟩ : ∃ a, TS[j]? = some a := ⟨_, List.getElem?_eq_getElem (by rw [← Hq.out]; omega)⟩
          obtain ⟨bk, off, cap, e3, hbk, hca⟩ := (RdV.frame Hts3.out Hf2.out Hap.out).get j _ ha
          simp only [Value.slice.injEq] at e3
          obtain ⟨rfl, -, rfl⟩ := e3
          obtain ⟨k0, k1, k2, k3⟩ := hca wr (Fr.refl _ _)
          have hj0 : (0 : Int) ≤ (j : Int) := by omega
          obtain ⟨D, hD⟩ : ∃ D, D = decide ((f1, f2) ∈ now) := ⟨_, rfl⟩
          have HD : Hid _ := hD
          have Hst3 : Hid (out ++ ((s, (f1, f2), !D) :: secondF ((turnF now (f1, f2) (!D)).getD []) (TS.drop (j + 1))) = RES) := by
            show _ = _
            rw [← Hst2.out, drop_at' ha, secondF, hD]
          clear hca hbk ha hD Hst2
          go_wp2_with fail
          obtain ⟨p13, hp13⟩ : ∃ p, p = wr.heap.size := ⟨_, rfl⟩
          rw [← hp13]
          obtain ⟨wE, hwE⟩ : ∃ x, x = wr.alloc (.cells #[.int .i64 s, .int .u32 (f1 : Int), .int .u32 (f2 : Int), .bool ax] 65) := ⟨_, rfl⟩
          rw [← hwE]
          have HfE : Hid (Fr wr wE (fun _ => False)) := by show Fr _ _ _; rw [hwE]; exact (Fr.refl _ _).alloc _
          have H13 : Hid (wE.heap[p13]? = some (.cells #[.int .i64 s, .int .u32 (f1 : Int), .int .u32 (f2 : Int), .bool ax] 65 (0, 0))) := by show _ = _; rw [hwE, hp13]; exact heap_alloc_new _ _
          have Hp13 : Hid (wr.heap.size = p13) := hp13.symm
          clear k0 k1 k2 k3 hp13 hwE
          refine (refHas_any _ now (f1, f2) _ (Hnow.out.keep HfE.out) (by have := Hnl.out; omega)).mono ?_
          rw [← HD.out]
          rintro r x1 ⟨rfl, g⟩
          have H13b : Hid (x1.heap[p13]? = some (.cells #[.int .i64 s, .int .u32 (f1 : Int), .int .u32 (f2 : Int), .bool ax] 65 (0, 0))) := g.kept H13.out (fun h => h)
          have Hx1 : Hid (Fr wr x1 (fun _ => False)) := HfE.out.none g
          clear g
          obtain ⟨k0, k1, k2, k3⟩ := four_cells H13b.out
          have fz : x1.frozen? ⟨p13, 3, none⟩ = false := four_free H13b.out
          go_upto_region 19 with fail
          have H13c := four_put3 H13b.out (.bool (!D))
          have Hx2 : Hid (Fr wr (x1.setCell ⟨p13, 3, none⟩ (.bool (!D))) (fun _ => False)) := Fr.newer Hx1.out (fr_cell x1 _ _ _) (fun j h => by subst h; rw [← Hp13.out]; exact Nat.le_refl _)
          clear k0 k1 k2 k3 fz
          generalize x1.setCell ⟨p13, 3, none⟩ (.bool (!D)) = x2 at H13c Hx2 ⊢
          obtain ⟨k0, k1, k2, k3⟩ := four_cells H13c
          have H13d : Hid _ := H13c
          clear H13c
          obtain ⟨E, hE⟩ : ∃ E, E = !D := ⟨_, rfl⟩
          rw [← hE] at Hst3 k3 H13d ⊢
          clear hE
          go_wp2_with fail
          refine (refTurn_any _ now (s, (f1, f2), E) _ (Hnow.out.keep Hx2.out) (by have := Hnl.out; omega)).mono ?_
          rintro r x3 ⟨⟨v3, rfl, hr3, hn3⟩, g⟩
          obtain ⟨T2, hT2⟩ : ∃ T, T = turnF now (f1, f2) E := ⟨_, rfl⟩
          have HT2 : Hid _ := hT2
          have Hr3 : Hid (RdE x3 v3 (T2.getD [])) := by rw [hT2]; exact hr3
          have Hn3 : Hid (∀ k, v3.ownBlock = some k → x2.heap.size ≤ k) := hn3
          have Hst4 : Hid (out ++ ((s, (f1, f2), E) :: secondF (T2.getD []) (TS.drop (j + 1))) = RES) := by show _ = _; rw [hT2]; exact Hst3.out
          have Hx3 : Hid (Fr wr x3 (fun _ => False)) := Hx2.out.none g
          have H13e : Hid (x3.heap[p13]? = some (.cells #[.int .i64 s, .int .u32 (f1 : Int), .int .u32 (f2 : Int), .bool E] 65 (0, 0))) := g.kept H13d.out (fun h => h)
          obtain ⟨B3, hB3⟩ : ∃ B, B = (turnF now (s, (f1, f2), E).2.1 (s, (f1, f2), E).2.2).isSome := ⟨_, rfl⟩
          rw [← hB3]
          clear g hr3 hn3 hT2 Hst3 k0 k1 k2 k3 hB3
          have H5c3 : Hid (x3.heap[p5]? = some (.cells #[.int .u64 (n : Int), hv] 25 (0, 0))) := Hx3.out.kept H5.out (fun h => h)
          obtain ⟨k0, k1, k2, k3⟩ := four_cells H13e.out
          obtain ⟨c0', c1'⟩ : x3.cell? ⟨p5, 0, none⟩ = some (.int .u64 (n : Int)) ∧ x3.cell? ⟨p5, 1, none⟩ = some hv := ⟨two_cell0 H5c3.out, two_cell1 H5c3.out⟩
          obtain ⟨v4, w4, hrun4, ho4, hf4, hm4⟩ := app_event x3 hv out (s, (f1, f2), E) (Hov.out.frame Hx3.out (fun _ _ h => h)) (by rw [Hol.out]; omega)
          obtain ⟨ao4, l4, cp4, rfl⟩ : ∃ a l c, v4 = .slice a l c := by obtain ⟨a, c, e, -⟩ := ho4.rd.form; exact ⟨a, _, c, e⟩
          have hov3 := Hov.out.lt
          have H5c4 : w4.heap[p5]? = some (.cells #[.int .u64 (n : Int), hv] 25 (0, 0)) := hf4.kept (blk_alloc _ H5c3.out) (fun h => by have := Hvn.out _ h; omega)
          have hfr : w4.frozen? ⟨p5, 1, none⟩ = false := two_free H5c4 1
          obtain ⟨c0'', c1''⟩ : w4.cell? ⟨p5, 0, none⟩ = some (.int .u64 (n : Int)) ∧ w4.cell? ⟨p5, 1, none⟩ = some hv := ⟨two_cell0 H5c4, two_cell1 H5c4⟩
          have Ho4 : Hid (OwnV w4 (.slice ao4 l4 cp4) (out ++ [(s, (f1, f2), E)])) := ho4
          have Hf4 : Hid (Fr x3 w4 (fun k => hv.ownBlock = some k)) := ((Fr.refl x3 (fun k => hv.ownBlock = some k)).alloc _).trans hf4 (fun _ _ h => h)
          have Hm4 : Hid _ := hm4
          have H5d : Hid _ := H5c4
          have Hov3 : Hid _ := hov3
          clear ho4 hf4 hm4 H5c4 hov3
          go_wp2_with (at_builtin; refine wpList_append_run rfl (.tmp 98) (.tmp 100) 23 rfl rfl rfl hrun4 ?_)
          have Hfr4 : Hid (Fr wr w4 (fun k => hv.ownBlock = some k)) := (Hx3.out.mono (fun _ _ h => h.elim)).trans Hf4.out (fun _ _ h => h)
          have Hfin : Hid (Fr wc (w4.setCell ⟨p5, 1, none⟩ (.slice ao4 l4 cp4)) (fun k => k = p5)) := by
            have h1 : Fr wc w4 (fun k => k = p5) := Fr.newer Hf2.out Hfr4.out (fun i hi => Hvc.out i hi)
            exact h1.trans (fr_cell w4 _ _ _) (fun _ _ h => h)
          have H5e : Hid ((w4.setCell ⟨p5, 1, none⟩ (.slice ao4 l4 cp4)).heap[p5]? = some (.cells #[.int .u64 (n : Int), .slice ao4 l4 cp4] 25 (0, 0))) := two_set1 H5d.out
          have Ho5 : Hid (OwnV (w4.setCell ⟨p5, 1, none⟩ (.slice ao4 l4 cp4)) (.slice ao4 l4 cp4) (out ++ [(s, (f1, f2), E)])) := Ho4.out.frame (fr_cell w4 _ _ _) (fun k hk h => by
            rcases Hm4.out k hk with h2 | h2
            · have := Hvn.out k h2; omega
            · have := lt_of_block H5c3.out; omega)
          have Hvn5 : Hid (∀ k, (Value.slice ao4 l4 cp4).ownBlock = some k → wc.heap.size ≤ k) := fun k hk => by
            rcases Hm4.out k hk with h2 | h2
            · exact Hvc.out k h2
            · have h3 := Hf2.out.size; have h4 := Hx3.out.size; omega
          have Hr5 : Hid (RdE (w4.setCell ⟨p5, 1, none⟩ (.slice ao4 l4 cp4)) v3 (T2.getD [])) := by
            have hx2s := Hx2.out.size
            have h1 : RdE w4 v3 (T2.getD []) := RdE.frame Hr3.out Hf4.out (fun _ k hk h => by have h1 := Hn3.out k hk; have h2 := Hov3.out k h; omega)
            exact RdE.frame h1 (fr_cell w4 _ _ _) (fun _ k hk h => by have h1 := Hn3.out k hk; have h2 := Hw5r.out; omega)
          have Hnn5 : Hid (∀ k, v3.ownBlock = some k → p5 < k) := fun k hk => by have h1 := Hn3.out k hk; have h2 := Hw5r.out; have h3 := Hx2.out.size; omega
          have Hst5 : Hid ((out ++ [(s, (f1, f2), E)]) ++ secondF (T2.getD []) (TS.drop (j + 1)) = RES) := by show _ = _; rw [← Hst4.out]; simp
          have Hol5 : Hid ((out ++ [(s, (f1, f2), E)]).length = j + 1) := by show _ = _; rw [List.length_append, Hol.out]; rfl
          have Hnl5 : Hid ((T2.getD []).length ≤ j + 1) := by
            show _ ≤ _
            cases hT : T2 with
            | none => simp
            | some z => have h1 := turn_length (HT2.out.symm.trans hT); have h2 := Hnl.out; rw [Option.getD_some]; omega
          generalize w4.setCell ⟨p5, 1, none⟩ (.slice ao4 l4 cp4) = w9 at Hfin H5e Ho5 Hr5 ⊢
          go_wp2_with fail
          go_roundg (q - (j + 1))
          case rel => exact ⟨j + 1, T2.getD [], _, _, rfl, by omega, by go_num, Hr5.out, Hnl5.out, Hnn5.out, Hst5.out, Hol5.out, H5e.out, Ho5.out, Hvn5.out, Hfin.out⟩
          case measure => rw [Hg.out]; omega
        · have hin : ¬ (j : Int) < (q : Int) := by omega
          have hin' : decide (j < q) = false := decide_eq_false hlt
          obtain rfl : j = q := by omega
          obtain ⟨ao, cp, rfl⟩ : ∃ a c, hv = .slice a j c := by obtain ⟨a, c, e, -⟩ := Hov.out.rd.form; rw [Hol.out] at e; exact ⟨a, c, e⟩
          have Hout : Hid (out = RES) := by
            show _ = _
            have := Hst2.out
            rw [List.drop_eq_nil_of_le (by rw [← Hq.out]; exact Nat.le_refl _), secondF, List.append_nil] at this
            exact this
          have H4r : Hid (wr.heap[p4]? = some (.cells #[.int .u64 0, .slice none 0 0] 25 (0, 0))) := Hb4.out wr ((Hf.out.mono (fun _ _ h => h.elim)).trans Hf2.out (fun _ _ h => h))
          obtain ⟨c0', c1'⟩ : wr.cell? ⟨p5, 0, none⟩ = some (.int .u64 (n : Int)) ∧ wr.cell? ⟨p5, 1, none⟩ = some (.slice ao j cp) := ⟨two_cell0 H5.out, two_cell1 H5.out⟩
          obtain ⟨e0', e1'⟩ : wr.cell? ⟨p4, 0, none⟩ = some (.int .u64 0) ∧ wr.cell? ⟨p4, 1, none⟩ = some (.slice none 0 0) := ⟨two_cell0 H4r.out, two_cell1 H4r.out⟩
          have f0' : wr.frozen? ⟨p4, 0, none⟩ = false := two_free H4r.out 0
          have f1' : wr.frozen? ⟨p4, 1, none⟩ = false := two_free H4r.out 1
          have Hfin : Hid (Fr w ((wr.setCell ⟨p4, 0, none⟩ (.int .u64 (n : Int))).setCell ⟨p4, 1, none⟩ (.slice ao j cp)) (fun _ => False)) := by
            have h1 : Fr w wr (fun _ => False) := (Hw5.out.none Hf.out).newer Hf2.out (fun i hi => by have h2 := Hw4.out; have h3 := H45.out; omega)
            exact h1.newer ((fr_cell wr _ _ _).trans (fr_cell _ _ _ _) (fun _ _ h => h)) (fun i hi => by have h2 := Hw4.out; omega)
          have Hof : Hid (OwnV ((wr.setCell ⟨p4, 0, none⟩ (.int .u64 (n : Int))).setCell ⟨p4, 1, none⟩ (.slice ao j cp)) (.slice ao j cp) RES) := by
            have h1 : OwnV wr (.slice ao j cp) RES := by rw [← Hout.out]; exact Hov.out
            exact h1.frame ((fr_cell wr _ _ _).trans (fr_cell _ _ _ _) (fun _ _ h => h)) (fun i hi h => by have h2 := Hvn.out i hi; have h3 := H45.out; omega)
          have Hfresh : Hid (∀ b, (Value.slice ao j cp).ownBlock = some b → w.heap.size ≤ b) := fun b hb => by have h1 := Hvn.out b hb; have h2 := Hw4.out; have h3 := H45.out; omega
          have Hrow : Hid _ := two_set1 (two_set0 H4r.out (u := .int .u64 (n : Int))) (u := .slice ao j cp)
          go_wp2
          refine bodyPost_ret (results_cell1 rfl rfl (run_loadVar_row _ _ 25 _ _ (0, 0) _ Hrow.out Try.underlying25 rfl histSize)) rfl ?_
          exact ⟨⟨_, rfl, Hof.out.rd, Hfresh.out⟩, Hfin.out⟩

end Go.Proofs.Ytanimgfhabkmcaa

/-
  The contract of the reference's Back.
-/
namespace Go.Proofs.Ytanimgfhabkmcaa
open Go.RowKit

/-- The events of lives, laid in one by one. -/
def backE : List Ev → List Lf → List Ev
  | h, [] => h
  | h, x :: r => backE (if 0 ≤ x.2.2 then insP (insP h (x.2.1, x.1, true)) (x.2.2, x.1, false) else insP h (x.2.1, x.1, true)) r
def backF (n : Nat) (l : List Lf) : Nat × List Ev × Nat := if (lifeCheckF n l).2 = 0 then (n, backE [] l, 0) else (0, [], (lifeCheckF n l).2)
theorem results_cell2 {fn : Func} {p q : Tmp} {ty : TypeId} (h : fn.results = #[.cell p ty, .tmp q]) {tmps : Array Value} {P : Program} {w : World} {b o : Nat} {v u : Value} (hp : tmps.getD p undef = .pointer (some ⟨b, o, none⟩)) (hu : tmps.getD q undef = u) (hl : (loadVar ty ⟨b, o, none⟩).run P w = .ok v w) :
    (results fn tmps).run P w = .ok (.tuple #[v, u]) w := by
  have hp' : tmps[p]?.getD undef = .pointer (some ⟨b, o, none⟩) := by rw [← hp]; simp
  have hu' : tmps[q]?.getD undef = u := by rw [← hu]; simp
  simp [results, h, asAddr, hp', hu', hl]

set_option maxRecDepth 4000 in
set_option maxHeartbeats 3200000 in
theorem refBack_any (n : Nat) (v : Value) (l : List Lf) (w : World) (h : RdL w v l) (hl : l.length ≤ 100000) (hfit : ∀ x ∈ l, LfFit x) : Calls Try.prog 18 #[.int .u64 (n : Int), v] w fun r w' => (∃ v', r = .returned (.tuple #[histV (backF n l).1 v', .int .i64 ((backF n l).2.2 : Int)]) ∧ RdV w' v' (backF n l).2.1) ∧ Fr w w' (fun _ => False) := by
  obtain ⟨a0, c0, rfl, hc0⟩ := h.form
  obtain ⟨m, hm⟩ : ∃ m, m = l.length := ⟨_, rfl⟩
  rw [← hm] at h hl hc0 ⊢
  obtain ⟨⟨C1, C2⟩, hC⟩ : ∃ C, C = lifeCheckF n l := ⟨_, rfl⟩
  obtain ⟨⟨B1, B2, B3⟩, hB⟩ : ∃ B, B = backF n l := ⟨_, rfl⟩
  rw [← hB]
  have HB : Hid ((B1, B2, B3) = if C2 = 0 then (n, backE [] l, 0) else (0, [], C2)) := by show _ = _; rw [hB]; unfold backF; rw [← hC]
  have HC : Hid _ := hC
  have Hr : Hid (RdL w (.slice a0 m c0) l) := h
  have Hm : Hid _ := hm
  have Hfit : Hid _ := hfit
  clear h hm hC hB hfit
  unfold histV
  dsimp only
  go_enter Try.func18, Try.ntmps18
  go_wp2_with fail
  obtain ⟨p4, hp4⟩ : ∃ p, p = w.heap.size := ⟨_, rfl⟩
  rw [← hp4]
  refine (refLifeCheck_any n _ l _ (HoldsN.keep Hr.out ((Fr.refl _ _).alloc _)) (by have := Hm.out; omega) Hfit.out).mono ?_
  rw [← HC.out]
  rintro r x1 ⟨rfl, g⟩
  have h4 : x1.heap[p4]? = some (.cells #[.int .u64 0, .slice none 0 0] 25 (0, 0)) := g.kept (by rw [hp4]; exact heap_alloc_new _ _) (fun h => h)
  have Hx1 : Hid (Fr w x1 (fun _ => False)) := ((Fr.refl w (fun _ => False)).alloc _).none g
  have H4 : Hid _ := h4
  have Hp4 : Hid (p4 = w.heap.size) := hp4
  clear g h4 hp4
  by_cases hc2 : C2 = 0
  · subst hc2
    have HB2 : Hid (B1 = n ∧ B2 = backE [] l ∧ B3 = 0) := by
      have := HB.out
      rw [if_pos rfl] at this
      simp only [Prod.mk.injEq] at this
      exact this
    clear HB
    obtain rfl := HB2.out.1
    obtain rfl := HB2.out.2.2
    go_wp2_with fail
    obtain ⟨p8, hp8⟩ : ∃ p, p = x1.heap.size := ⟨_, rfl⟩
    obtain ⟨w8, hw8⟩ : ∃ x, x = x1.alloc (.cells #[.int .u64 (B1 : Int), .slice none 0 0] 25) := ⟨_, rfl⟩
    rw [← hw8, ← hp8]
    have H8 : Hid (w8.heap[p8]? = some (.cells #[.int .u64 (B1 : Int), .slice none 0 0] 25 (0, 0))) := by show _ = _; rw [hw8, hp8]; exact heap_alloc_new _ _
    have hlt48 : p4 < p8 := by rw [hp8]; exact lt_of_block H4.out
    have Hb4 : Hid (∀ z, Fr w8 z (fun k => k = p8) → z.heap[p4]? = some (.cells #[.int .u64 0, .slice none 0 0] 25 (0, 0))) := fun z hz => hz.kept (by rw [hw8]; exact blk_alloc _ H4.out) (fun h => by omega)
    have Hw8 : Hid (Fr w w8 (fun _ => False)) := by show Fr _ _ _; rw [hw8]; exact Hx1.out.alloc _
    have Hlt : Hid (p4 < p8) := hlt48
    have Hrl : Hid (∀ z, Fr w8 z (fun k => k = p8) → RdL z (.slice a0 m c0) l) := fun z hz => HoldsN.keep Hr.out (Fr.newer Hw8.out hz (fun i hi => by have h2 := Hp4.out; have h3 := Hlt.out; omega))
    clear hp8 hw8 hlt48 Hx1 H4 Hr
    go_loopg [9] m (fun g I wr => ∃ (i : Nat) (hev : List Ev) (ah : Option Addr) (lh ch : Nat), g = m - i ∧ i ≤ m ∧ I = .int .i64 (i : Int) ∧ wr.heap[p8]? = some (.cells #[.int .u64 (B1 : Int), .slice ah lh ch] 25 (0, 0)) ∧ RdV wr (.slice ah lh ch) hev ∧ hev.length ≤ 2 * i ∧ backE hev (l.drop i) = B2 ∧ Fr w8 wr (fun k => k = p8))
    case atStart => exact ⟨0, [], none, 0, 0, by omega, by omega, rfl, H8.out, RdV.nil _, by simp, HB2.out.2.1.symm, Fr.refl _ _⟩
    case round =>
      obtain ⟨i, hev, ah, lh, ch, hg, hi, rfl, h8, hv, hvl, hst, hf⟩ := hrel
      have Hg : Hid _ := hg
      have H8r : Hid _ := h8
      have Hv : Hid (RdV wr (.slice ah lh ch) hev) := hv
      have Hvl : Hid _ := hvl
      have Hs : Hid _ := hst
      have Hf : Hid (Fr w8 wr (fun k => k = p8)) := hf
      clear hg h8 hv hvl hst hf H8
      by_cases hlt : i < m
      · have hin : (i : Int) < (m : Int) := by omega
        have hin' : decide (i < m) = true := decide_eq_true hlt
        obtain ⟨⟨⟨e1, e2⟩, s, q⟩, ha⟩ : ∃ a, l[i]? = some a := ⟨_, List.getElem?_eq_getElem (by rw [← Hm.out]; omega)⟩
        have Hst : Hid (backE (if 0 ≤ q then insP (insP hev (s, (e1, e2), true)) (q, (e1, e2), false) else insP hev (s, (e1, e2), true)) (l.drop (i + 1)) = B2) := by
          show _ = _
          rw [← Hs.out, drop_at ha, backE]
        obtain ⟨bk, off, cap, e3, hbk, hca⟩ := (Hrl.out wr Hf.out).get i _ ha
        simp only [Value.slice.injEq] at e3
        obtain ⟨rfl, -, rfl⟩ := e3
        have hbn : ¬ bk = p8 := fun h => by
          subst h
          obtain ⟨-, -, k2, -⟩ := hca wr (Fr.refl _ _)
          obtain ⟨k0, -, -, -⟩ := hca wr (Fr.refl _ _)
          simp only [World.cell?, H8r.out] at k0 k2
          match off with
          | 0 => simp at k0 k2
          | off + 1 => simp at k2
        have Hla : Hid (∀ z, Fr wr z (fun k => k = p8) → z.cell? ⟨bk, off + i * 4, none⟩ = some (.int .u32 (e1 : Int)) ∧ z.cell? ⟨bk, off + i * 4 + 1, none⟩ = some (.int .u32 (e2 : Int)) ∧ z.cell? ⟨bk, off + i * 4 + 2, none⟩ = some (.int .i64 s) ∧ z.cell? ⟨bk, off + i * 4 + 3, none⟩ = some (.int .i64 q)) := fun z hz => hca z (hz.mono (fun j _ hj => by intro h; exact hbn (h ▸ hj)))
        have hi0 : (0 : Int) ≤ (i : Int) := by omega
        clear hca ha Hs hbk hbn
        go_upto_region 8 with fail
        go_cut [9] from 28 to 42 (fun V wx => V = .int .i64 (i : Int) ∧ ∃ (ah : Option Addr) (lh ch : Nat), wx.heap[p8]? = some (.cells #[.int .u64 (B1 : Int), .slice ah lh ch] 25 (0, 0)) ∧ RdV wx (.slice ah lh ch) (insP hev (s, (e1, e2), true)) ∧ Fr wr wx (fun k => k = p8))
        case first =>
          have kz : ∀ z, Fr wr.drew z (fun k => k = p8) → z.cell? ⟨bk, off + i * 4 + 2, none⟩ = some (.int .i64 s) := fun z hz => (Hla.out z (((Fr.refl wr _).drew).trans hz (fun _ _ h => h))).2.2.1
          have ka : ∀ z, Fr wr.drew z (fun k => k = p8) → z.cell? ⟨bk, off + i * 4, none⟩ = some (.int .u32 (e1 : Int)) := fun z hz => (Hla.out z (((Fr.refl wr _).drew).trans hz (fun _ _ h => h))).1
          have kb : ∀ z, Fr wr.drew z (fun k => k = p8) → z.cell? ⟨bk, off + i * 4 + 1, none⟩ = some (.int .u32 (e2 : Int)) := fun z hz => (Hla.out z (((Fr.refl wr _).drew).trans hz (fun _ _ h => h))).2.1
          go_wp2_with fail
          refine wp_region_tree (fun k => k = p8) (.take 0 (.take 2 (.take 3 (.take 4 (.take 5 (.take 6 (.take 7 (.take 8 (.take 9 (.take 10 (.take 11 (.take 12 (.one 1 (.one 13 (.take 14 (.one 15 .nil)))))))))))))))) (by kernel_rfl) (by kernel_rfl) (by decide) (by kernel_rfl) ?_
          repeat (refine wpT_take (v := ?_) rfl rfl (fun x hx => ?_) ?_; rotate_left; (focus (go_simp; with_reducible rfl)); simp only [Act.put, List.setIfInBounds_toArray, List.set_cons_zero, List.set_cons_succ])
          clear ka kb kz
          have c1' : wr.drew.cell? ⟨p8, 1, none⟩ = some (.slice ah lh ch) := two_cell1 (w := wr.drew) H8r.out
          refine wpT_one rfl rfl (fun K hK => ?_)
          go_simp
          refine hK _ _ (Fr.refl _ _) ?_
          clear hK K
          refine wpT_one rfl rfl (fun K hK => ?_)
          go_simp
          refine (refInsert_any _ (hev) (s, (e1, e2), true) _ (Hv.out.keep ((Fr.refl wr _).drew)) (by have h1 := Hvl.out; (try rw [insP_length]); omega)).mono ?_
          rintro r x3 ⟨⟨v3, rfl, hr3⟩, g⟩
          refine hK _ _ (g.mono (fun _ _ h => h.elim)) ?_
          clear hK K c1'
          obtain ⟨a3, c3, rfl, -⟩ := RdV.form hr3
          obtain ⟨l3, hl3⟩ : ∃ x, x = (insP (hev) (s, (e1, e2), true)).length := ⟨_, rfl⟩
          rw [← hl3] at hr3 ⊢
          have G3 : Hid (Fr wr x3 (fun _ => False)) := (Fr.refl wr (fun _ => False)).drew.none g
          have h8x := G3.out.kept H8r.out (fun h => h)
          have H8x : Hid _ := h8x
          have Hr3 : Hid (RdV x3 (.slice a3 l3 c3) _) := hr3
          have c1' : x3.cell? ⟨p8, 1, none⟩ = some (.slice ah lh ch) := two_cell1 h8x
          have f1' : x3.frozen? ⟨p8, 1, none⟩ = false := two_free h8x 1
          clear h8x hr3 g hl3
          repeat (refine wpT_take (v := ?_) rfl rfl (fun x hx => ?_) ?_; rotate_left; (focus (go_simp; with_reducible rfl)); simp only [Act.put, List.setIfInBounds_toArray, List.set_cons_zero, List.set_cons_succ])
          refine wpT_one rfl rfl (fun K hK => ?_)
          go_simp
          refine hK _ _ (fr_cell x3 _ _ _) ?_
          clear hK K
          have h8y := two_set1 (u := .slice a3 l3 c3) H8x.out
          have Hr4 : Hid (RdV (x3.setCell ⟨p8, 1, none⟩ (.slice a3 l3 c3)) (.slice a3 l3 c3) _) := RdV.frame Hr3.out (fr_cell x3 _ _ _) (fun h0 => RdV.apart Hr3.out H8x.out h0)
          have H8y : Hid _ := h8y
          have Hf4 : Hid (Fr wr (x3.setCell ⟨p8, 1, none⟩ (.slice a3 l3 c3)) (fun k => k = p8)) := (G3.out.mono (fun _ _ h => h.elim)).trans (fr_cell x3 _ _ _) (fun _ _ h => h)
          clear h8y c1' f1'
          unfold wpT
          go_wp2_with fail
          go_meet
          case rel => exact ⟨rfl, _, _, _, H8y.out, Hr4.out, Hf4.out⟩
        case rest =>
        obtain ⟨rfl, ah2, lh2, ch2, h8b, hvb, hfc⟩ := hcut
        rename_i hKc
        refine hKc _ _ ?_
        clear hKc
        have H8b : Hid _ := h8b
        have Hvb : Hid (RdV wc (.slice ah2 lh2 ch2) (insP hev (s, (e1, e2), true))) := hvb
        have Hfc : Hid (Fr wr wc (fun k => k = p8)) := hfc
        clear h8b hvb hfc
        have Hlb : Hid (∀ z, Fr wc z (fun k => k = p8) → z.cell? ⟨bk, off + i * 4, none⟩ = some (.int .u32 (e1 : Int)) ∧ z.cell? ⟨bk, off + i * 4 + 1, none⟩ = some (.int .u32 (e2 : Int)) ∧ z.cell? ⟨bk, off + i * 4 + 2, none⟩ = some (.int .i64 s) ∧ z.cell? ⟨bk, off + i * 4 + 3, none⟩ = some (.int .i64 q)) := fun z hz => Hla.out z (Hfc.out.trans hz (fun _ _ h => h))
        obtain ⟨-, -, -, k3⟩ := Hlb.out wc (Fr.refl _ _)
        by_cases hq : 0 ≤ q
        · have d1 : decide (0 ≤ q) = true := decide_eq_true hq
          have Hst2 : Hid (backE (insP (insP hev (s, (e1, e2), true)) (q, (e1, e2), false)) (l.drop (i + 1)) = B2) := by
            have := Hst.out
            rw [if_pos hq] at this
            exact this
          clear hq
          go_upto_region 10 with fail
          clear k3 d1
          have kz : ∀ z, Fr wc.drew z (fun k => k = p8) → z.cell? ⟨bk, off + i * 4 + 3, none⟩ = some (.int .i64 q) := fun z hz => (Hlb.out z (((Fr.refl wc _).drew).trans hz (fun _ _ h => h))).2.2.2
          have ka : ∀ z, Fr wc.drew z (fun k => k = p8) → z.cell? ⟨bk, off + i * 4, none⟩ = some (.int .u32 (e1 : Int)) := fun z hz => (Hlb.out z (((Fr.refl wc _).drew).trans hz (fun _ _ h => h))).1
          have kb : ∀ z, Fr wc.drew z (fun k => k = p8) → z.cell? ⟨bk, off + i * 4 + 1, none⟩ = some (.int .u32 (e2 : Int)) := fun z hz => (Hlb.out z (((Fr.refl wc _).drew).trans hz (fun _ _ h => h))).2.1
          go_wp2_with fail
          refine wp_region_tree (fun k => k = p8) (.take 0 (.take 2 (.take 3 (.take 4 (.take 5 (.take 6 (.take 7 (.take 8 (.take 9 (.take 10 (.take 11 (.take 12 (.one 1 (.one 13 (.take 14 (.one 15 .nil)))))))))))))))) (by kernel_rfl) (by kernel_rfl) (by decide) (by kernel_rfl) ?_
          repeat (refine wpT_take (v := ?_) rfl rfl (fun x hx => ?_) ?_; rotate_left; (focus (go_simp; with_reducible rfl)); simp only [Act.put, List.setIfInBounds_toArray, List.set_cons_zero, List.set_cons_succ])
          clear ka kb kz
          have c1' : wc.drew.cell? ⟨p8, 1, none⟩ = some (.slice ah2 lh2 ch2) := two_cell1 (w := wc.drew) H8b.out
          refine wpT_one rfl rfl (fun K hK => ?_)
          go_simp
          refine hK _ _ (Fr.refl _ _) ?_
          clear hK K
          refine wpT_one rfl rfl (fun K hK => ?_)
          go_simp
          refine (refInsert_any _ (insP hev (s, (e1, e2), true)) (q, (e1, e2), false) _ (Hvb.out.keep ((Fr.refl wc _).drew)) (by have h1 := Hvl.out; (try rw [insP_length]); omega)).mono ?_
          rintro r x3 ⟨⟨v3, rfl, hr3⟩, g⟩
          refine hK _ _ (g.mono (fun _ _ h => h.elim)) ?_
          clear hK K c1'
          obtain ⟨a3, c3, rfl, -⟩ := RdV.form hr3
          obtain ⟨l3, hl3⟩ : ∃ x, x = (insP (insP hev (s, (e1, e2), true)) (q, (e1, e2), false)).length := ⟨_, rfl⟩
          rw [← hl3] at hr3 ⊢
          have G3 : Hid (Fr wc x3 (fun _ => False)) := (Fr.refl wc (fun _ => False)).drew.none g
          have h8x := G3.out.kept H8b.out (fun h => h)
          have H8x : Hid _ := h8x
          have Hr3 : Hid (RdV x3 (.slice a3 l3 c3) _) := hr3
          have c1' : x3.cell? ⟨p8, 1, none⟩ = some (.slice ah2 lh2 ch2) := two_cell1 h8x
          have f1' : x3.frozen? ⟨p8, 1, none⟩ = false := two_free h8x 1
          clear h8x hr3 g hl3
          repeat (refine wpT_take (v := ?_) rfl rfl (fun x hx => ?_) ?_; rotate_left; (focus (go_simp; with_reducible rfl)); simp only [Act.put, List.setIfInBounds_toArray, List.set_cons_zero, List.set_cons_succ])
          refine wpT_one rfl rfl (fun K hK => ?_)
          go_simp
          refine hK _ _ (fr_cell x3 _ _ _) ?_
          clear hK K
          have h8y := two_set1 (u := .slice a3 l3 c3) H8x.out
          have Hr4 : Hid (RdV (x3.setCell ⟨p8, 1, none⟩ (.slice a3 l3 c3)) (.slice a3 l3 c3) _) := RdV.frame Hr3.out (fr_cell x3 _ _ _) (fun h0 => RdV.apart Hr3.out H8x.out h0)
          have H8y : Hid _ := h8y
          have Hf4 : Hid (Fr wc (x3.setCell ⟨p8, 1, none⟩ (.slice a3 l3 c3)) (fun k => k = p8)) := (G3.out.mono (fun _ _ h => h.elim)).trans (fr_cell x3 _ _ _) (fun _ _ h => h)
          clear h8y c1' f1'
          unfold wpT
          go_wp2_with fail
          have Hfd : Hid (Fr w8 _ (fun k => k = p8)) := (Hf.out.trans Hfc.out (fun _ _ h => h)).trans Hf4.out (fun _ _ h => h)
          go_roundg (m - (i + 1))
          case rel => exact ⟨i + 1, _, _, _, _, rfl, by omega, by go_num, H8y.out, Hr4.out, by have := Hvl.out; rw [insP_length, insP_length]; omega, Hst2.out, Hfd.out⟩
          case measure => rw [Hg.out]; omega
        · have d1 : decide (0 ≤ q) = false := decide_eq_false hq
          have Hst2 : Hid (backE (insP hev (s, (e1, e2), true)) (l.drop (i + 1)) = B2) := by
            have := Hst.out
            rw [if_neg hq] at this
            exact this
          have Hfd : Hid (Fr w8 wc (fun k => k = p8)) := Hf.out.trans Hfc.out (fun _ _ h => h)
          clear hq
          go_wp2_with fail
          go_roundg (m - (i + 1))
          case rel => exact ⟨i + 1, _, _, _, _, rfl, by omega, by go_num, H8b.out, Hvb.out, by have := Hvl.out; rw [insP_length]; omega, Hst2.out, Hfd.out⟩
          case measure => rw [Hg.out]; omega
      · have hin : ¬ (i : Int) < (m : Int) := by omega
        have hin' : decide (i < m) = false := decide_eq_false hlt
        have Hres : Hid (hev = B2) := by
          have := Hs.out
          rw [List.drop_eq_nil_of_le (by rw [← Hm.out]; omega), backE] at this
          exact this
        have H4r : Hid (wr.heap[p4]? = some (.cells #[.int .u64 0, .slice none 0 0] 25 (0, 0))) := Hb4.out wr Hf.out
        obtain ⟨c0', c1'⟩ : wr.cell? ⟨p8, 0, none⟩ = some (.int .u64 (B1 : Int)) ∧ wr.cell? ⟨p8, 1, none⟩ = some (.slice ah lh ch) := ⟨two_cell0 H8r.out, two_cell1 H8r.out⟩
        obtain ⟨e0', e1'⟩ : wr.cell? ⟨p4, 0, none⟩ = some (.int .u64 0) ∧ wr.cell? ⟨p4, 1, none⟩ = some (.slice none 0 0) := ⟨two_cell0 H4r.out, two_cell1 H4r.out⟩
        have f0' : wr.frozen? ⟨p4, 0, none⟩ = false := two_free H4r.out 0
        have f1' : wr.frozen? ⟨p4, 1, none⟩ = false := two_free H4r.out 1
        have Hfin : Hid (Fr w ((wr.setCell ⟨p4, 0, none⟩ (.int .u64 (B1 : Int))).setCell ⟨p4, 1, none⟩ (.slice ah lh ch)) (fun _ => False)) := by
          have h1 : Fr w wr (fun _ => False) := Hw8.out.newer Hf.out (fun i hi => by have h2 := Hp4.out; have h3 := Hlt.out; omega)
          exact h1.newer ((fr_cell wr _ _ _).trans (fr_cell _ _ _ _) (fun _ _ h => h)) (fun i hi => by have h2 := Hp4.out; omega)
        have Hof : Hid (RdV ((wr.setCell ⟨p4, 0, none⟩ (.int .u64 (B1 : Int))).setCell ⟨p4, 1, none⟩ (.slice ah lh ch)) (.slice ah lh ch) B2) := by
          rw [← Hres.out]
          exact RdV.frame Hv.out ((fr_cell wr _ _ _).trans (fr_cell _ _ _ _) (fun _ _ h => h)) (fun h0 => RdV.apart Hv.out H4r.out h0)
        have Hrow : Hid _ := two_set1 (two_set0 H4r.out (u := .int .u64 (B1 : Int))) (u := .slice ah lh ch)
        go_wp2
        refine bodyPost_ret (results_cell2 rfl rfl rfl (run_loadVar_row _ _ 25 _ _ (0, 0) _ Hrow.out Try.underlying25 rfl histSize)) rfl ?_
        exact ⟨⟨_, rfl, Hof.out⟩, Hfin.out⟩
  · have d1 : ((C2 : Int) != 0) = true := by rw [bne_iff_ne]; omega
    have d1' : ((C2 : Int) == 0) = false := by rw [beq_eq_false_iff_ne]; omega
    have d1'' : (C2 == 0) = false := by rw [beq_eq_false_iff_ne]; exact hc2
    have HB2 : Hid (B1 = 0 ∧ B2 = [] ∧ B3 = C2) := by
      have := HB.out
      rw [if_neg hc2] at this
      simp only [Prod.mk.injEq] at this
      exact this
    obtain rfl := HB2.out.1
    obtain rfl := HB2.out.2.1
    obtain rfl := HB2.out.2.2
    clear hc2 HB
    obtain ⟨e0', e1'⟩ : x1.cell? ⟨p4, 0, none⟩ = some (.int .u64 0) ∧ x1.cell? ⟨p4, 1, none⟩ = some (.slice none 0 0) := ⟨two_cell0 H4.out, two_cell1 H4.out⟩
    have f0' : x1.frozen? ⟨p4, 0, none⟩ = false := two_free H4.out 0
    have f1' : x1.frozen? ⟨p4, 1, none⟩ = false := two_free H4.out 1
    have Hfin : Hid (Fr w ((x1.setCell ⟨p4, 0, none⟩ (.int .u64 0)).setCell ⟨p4, 1, none⟩ (.slice none 0 0)) (fun _ => False)) :=
      Hx1.out.newer ((fr_cell x1 _ _ _).trans (fr_cell _ _ _ _) (fun _ _ h => h)) (fun i hi => by have h2 := Hp4.out; omega)
    have Hrow : Hid _ := two_set1 (two_set0 H4.out (u := .int .u64 0)) (u := .slice none 0 0)
    go_wp2
    refine bodyPost_ret (results_cell2 rfl rfl rfl (run_loadVar_row _ _ 25 _ _ (0, 0) _ Hrow.out Try.underlying25 rfl histSize)) rfl ?_
    exact ⟨⟨_, rfl, RdV.nil _⟩, Hfin.out⟩

end Go.Proofs.Ytanimgfhabkmcaa

/-
  Lives of a history: plain mathematics.
-/
namespace Go.Proofs.Ytanimgfhabkmcaa
open Go.RowKit

/-- Insertion from behind. -/
def gK {α : Type} (b : α → α → Bool) (l : List α) (e : α) : Nat → Nat
  | 0 => 0
  | k + 1 => if (l[k]?.map (fun x => b e x)).getD false = true then gK b l e k else k + 1
def gIns {α : Type} (b : α → α → Bool) (l : List α) (e : α) : List α := l.take (gK b l e l.length) ++ e :: l.drop (gK b l e l.length)
theorem gK_le {α : Type} (b : α → α → Bool) (l : List α) (e : α) : ∀ k, gK b l e k ≤ k
  | 0 => Nat.le_refl _
  | k + 1 => by
    rw [gK]
    split
    · exact Nat.le_succ_of_le (gK_le b l e k)
    · exact Nat.le_refl _
theorem gK_after {α : Type} (b : α → α → Bool) (l : List α) (e : α) : ∀ k j x, gK b l e k ≤ j → j < k → l[j]? = some x → b e x = true
  | 0, _, _, _, h, _ => by omega
  | k + 1, j, x, h1, h2, hx => by
    rw [gK] at h1
    split at h1
    · rename_i hb
      by_cases hj : j < k
      · exact gK_after b l e k j x h1 hj hx
      · have : j = k := by omega
        subst this
        rw [hx] at hb
        exact hb
    · omega
theorem gK_stop {α : Type} (b : α → α → Bool) (l : List α) (e : α) : ∀ k j x, gK b l e k = j + 1 → l[j]? = some x → b e x = false
  | 0, _, _, h, _ => by cases h
  | k + 1, j, x, h, hx => by
    rw [gK] at h
    split at h
    · exact gK_stop b l e k j x h hx
    · rename_i hb
      have : k = j := by omega
      subst this
      rw [hx] at hb
      simpa using hb
theorem gIns_perm {α : Type} (b : α → α → Bool) (l : List α) (e : α) : (gIns b l e).Perm (e :: l) := by
  unfold gIns
  refine List.perm_middle.trans ?_
  rw [List.take_append_drop]
theorem gIns_sorted {α : Type} {b : α → α → Bool} {l : List α} {e : α} (tr : ∀ x y z, b x y = true → b y z = true → b x z = true) (h : l.Pairwise (fun x y => b x y = true)) (he : ∀ x ∈ l, b e x = false → b x e = true) :
    (gIns b l e).Pairwise (fun x y => b x y = true) := by
  unfold gIns
  have hk := gK_le b l e l.length
  have ha := gK_after b l e l.length
  have hst := gK_stop b l e l.length
  generalize gK b l e l.length = k at hk ha hst
  have hdrop : ∀ z ∈ l.drop k, b e z = true := fun z hz => by
    obtain ⟨i, hi⟩ := List.getElem?_of_mem hz
    rw [List.getElem?_drop] at hi
    exact ha _ _ (by omega) (List.getElem?_eq_some_iff.1 hi).1 hi
  have htake : ∀ a ∈ l.take k, b a e = true := fun a hat => by
    obtain ⟨i, hi⟩ := List.getElem?_of_mem hat
    rw [List.getElem?_take] at hi
    split at hi
    · rename_i hik
      cases k with
      | zero => omega
      | succ k =>
        have hkl : k < l.length := by omega
        have hx : l[k]? = some l[k] := List.getElem?_eq_getElem hkl
        have hb : b l[k] e = true := he _ (List.getElem_mem hkl) (hst k _ rfl hx)
        by_cases hik2 : i = k
        · subst hik2
          rw [hx] at hi
          simp only [Option.some.injEq] at hi
          rw [← hi]
          exact hb
        · have hil : i < l.length := by omega
          rw [List.getElem?_eq_getElem hil] at hi
          simp only [Option.some.injEq] at hi
          rw [← hi]
          exact tr _ _ _ (List.pairwise_iff_getElem.1 h i k hil hkl (by omega)) hb
    · cases hi
  rw [List.pairwise_append]
  refine ⟨h.sublist (List.take_sublist _ _), List.pairwise_cons.2 ⟨hdrop, h.sublist (List.drop_sublist _ _)⟩, fun a hat z hz => ?_⟩
  rcases List.mem_cons.1 hz with rfl | hz
  · exact htake a hat
  · exact tr _ _ _ (htake a hat) (hdrop z hz)
theorem insK_is (l : List Ev) (e : Ev) : ∀ k, insK l e k = gK eBef l e k
  | 0 => rfl
  | k + 1 => by rw [insK, gK, insK_is l e k]; rfl
theorem insP_is (l : List Ev) (e : Ev) : insP l e = gIns eBef l e := by unfold insP gIns; rw [insK_is]

/-- Of two that aren't alike one is ahead. -/
def Cmp {α : Type} (b : α → α → Bool) (x y : α) : Prop := b x y = true ∨ b y x = true
/-- Many put in, one by one. -/
theorem all_sorted {α : Type} {b : α → α → Bool} (tr : ∀ x y z, b x y = true → b y z = true → b x z = true) : ∀ (es h : List α), h.Pairwise (fun x y => b x y = true) → (h ++ es).Pairwise (Cmp b) →
    (es.foldl (gIns b) h).Pairwise (fun x y => b x y = true) ∧ (es.foldl (gIns b) h).Perm (h ++ es)
  | [], h, hs, _ => by rw [List.append_nil]; exact ⟨hs, .refl _⟩
  | e :: es, h, hs, hc => by
    have hp := gIns_perm b h e
    have hp2 : (gIns b h e ++ es).Perm (h ++ e :: es) := by
      refine (hp.append_right es).trans ?_
      rw [List.cons_append]
      exact List.perm_middle.symm
    have hc2 : (gIns b h e ++ es).Pairwise (Cmp b) := (List.Perm.pairwise_iff (fun {x y} hxy => hxy.symm) hp2).2 hc
    have he : ∀ x ∈ h, b e x = false → b x e = true := fun x hx hf => by
      have := (List.pairwise_append.1 hc).2.2 x hx e (List.mem_cons_self ..)
      rcases this with h1 | h1
      · exact h1
      · rw [hf] at h1; cases h1
    obtain ⟨h1, h2⟩ := all_sorted tr es _ (gIns_sorted tr hs he) hc2
    exact ⟨h1, h2.trans hp2⟩
theorem sorted_unique {α : Type} {b : α → α → Bool} (asy : ∀ x y, b x y = true → b y x = false) {l m : List α} (hl : l.Pairwise (fun x y => b x y = true)) (hm : m.Pairwise (fun x y => b x y = true)) (hp : l.Perm m) : l = m :=
  List.Perm.eq_of_pairwise (fun x y _ _ h k => by rw [asy x y h] at k; cases k) hl hm hp

theorem lLess_iff {a b : Lf} : lLess a b = true ↔ eLess a.1 b.1 = true ∨ (a.1 = b.1 ∧ a.2.1 < b.2.1) := by unfold lLess; simp
theorem lLess_trans (a b c : Lf) (h : lLess a b = true) (k : lLess b c = true) : lLess a c = true := by
  rw [lLess_iff] at *
  rcases h with h | ⟨h1, h2⟩
  · rcases k with k | ⟨k1, k2⟩
    · exact .inl (eLess_trans h k)
    · exact .inl (k1 ▸ h)
  · rcases k with k | ⟨k1, k2⟩
    · exact .inl (h1 ▸ k)
    · exact .inr ⟨h1.trans k1, by omega⟩
theorem lLess_asymm (a b : Lf) (h : lLess a b = true) : lLess b a = false := by
  rw [Bool.eq_false_iff]
  intro k
  rw [lLess_iff] at *
  rcases h with h | ⟨h1, h2⟩
  · rcases k with k | ⟨k1, k2⟩
    · rw [eLess_asymm h] at k; cases k
    · rw [k1, eLess_irrefl] at h; cases h
  · rcases k with k | ⟨k1, k2⟩
    · rw [h1, eLess_irrefl] at k; cases k
    · omega
theorem lLess_cmp {a b : Lf} (h : ¬ (a.1 = b.1 ∧ a.2.1 = b.2.1)) : Cmp lLess a b := by
  unfold Cmp
  rw [lLess_iff, lLess_iff]
  by_cases h1 : a.1 = b.1
  · have h2 : a.2.1 ≠ b.2.1 := fun h2 => h ⟨h1, h2⟩
    rcases Int.lt_or_gt_of_ne h2 with h3 | h3
    · exact .inl (.inr ⟨h1, h3⟩)
    · exact .inr (.inr ⟨h1.symm, h3⟩)
  · cases h2 : eLess a.1 b.1 with
    | true => exact .inl (.inl rfl)
    | false => exact .inr (.inl (eLess_ne h2 h1))

/-- When an edge goes next; the lives of events, as they come; put in order. -/
def endF (e : Eg) : List Ev → Int
  | [] => -1
  | x :: r => if x.2.1 = e then x.1 else endF e r
def addsL : List Ev → List Lf
  | [] => []
  | x :: r => if x.2.2 = true then (x.2.1, x.1, endF x.2.1 r) :: addsL r else addsL r
def livesE : List Lf → List Ev → List Lf
  | out, [] => out
  | out, x :: r => livesE (if x.2.2 = true then gIns lLess out (x.2.1, x.1, endF x.2.1 r) else out) r
def livesF (n : Nat) (evs : List Ev) : List Lf × Nat := if (checkF n evs).2 = 0 then (livesE [] evs, 0) else ([], (checkF n evs).2)
theorem livesE_fold : ∀ (evs : List Ev) (out : List Lf), livesE out evs = (addsL evs).foldl (gIns lLess) out
  | [], out => rfl
  | x :: r, out => by
    rw [livesE, addsL]
    split
    · rw [livesE_fold r, List.foldl_cons]
    · exact livesE_fold r out
theorem endF_ne {e : Eg} {x : Ev} {r : List Ev} (h : x.2.1 ≠ e) : endF e (x :: r) = endF e r := if_neg h
theorem endF_eq {e : Eg} {x : Ev} {r : List Ev} (h : x.2.1 = e) : endF e (x :: r) = x.1 := if_pos h
theorem endF_mem (e : Eg) : ∀ (r : List Ev), endF e r = -1 ∨ ∃ y ∈ r, y.2.1 = e ∧ y.1 = endF e r
  | [] => .inl rfl
  | x :: r => by
    by_cases h : x.2.1 = e
    · exact .inr ⟨x, List.mem_cons_self .., h, (endF_eq h).symm⟩
    · rw [endF_ne h]
      rcases endF_mem e r with h1 | ⟨y, h1, h2, h3⟩
      · exact .inl h1
      · exact .inr ⟨y, List.mem_cons_of_mem _ h1, h2, h3⟩

theorem mem_adds : ∀ {evs : List Ev} {z : Lf}, z ∈ addsL evs → ∃ y ∈ evs, y.2.1 = z.1 ∧ y.1 = z.2.1 ∧ y.2.2 = true
  | [], z, h => by cases h
  | x :: r, z, h => by
    rw [addsL] at h
    split at h
    · rename_i ha
      rcases List.mem_cons.1 h with rfl | h
      · exact ⟨x, List.mem_cons_self .., rfl, rfl, ha⟩
      · obtain ⟨y, h1, h2⟩ := mem_adds h
        exact ⟨y, List.mem_cons_of_mem _ h1, h2⟩
    · obtain ⟨y, h1, h2⟩ := mem_adds h
      exact ⟨y, List.mem_cons_of_mem _ h1, h2⟩
/-- Of one edge: the later event is later. -/
theorem srt_same {x y : Ev} {r : List Ev} (h : Srt (x :: r)) (hy : y ∈ r) (he : y.2.1 = x.2.1) : x.1 < y.1 := by
  have := (List.pairwise_cons.1 h).1 y hy
  rw [eBef_iff, he, eLess_irrefl] at this
  rcases this with h1 | ⟨-, h1⟩
  · exact h1
  · cases h1
theorem adds_end : ∀ {evs : List Ev}, Srt evs → ∀ z ∈ addsL evs, z.2.2 = -1 ∨ (z.2.1 < z.2.2 ∧ ∃ y ∈ evs, y.2.1 = z.1 ∧ y.1 = z.2.2)
  | [], _, z, h => by cases h
  | x :: r, hs, z, h => by
    rw [addsL] at h
    have ih : z ∈ addsL r → z.2.2 = -1 ∨ (z.2.1 < z.2.2 ∧ ∃ y ∈ x :: r, y.2.1 = z.1 ∧ y.1 = z.2.2) := fun h => by
      rcases adds_end (List.pairwise_cons.1 hs).2 z h with h1 | ⟨h1, y, h2, h3⟩
      · exact .inl h1
      · exact .inr ⟨h1, y, List.mem_cons_of_mem _ h2, h3⟩
    split at h
    · rcases List.mem_cons.1 h with rfl | h
      · rcases endF_mem x.2.1 r with h1 | ⟨y, h1, h2, h3⟩
        · exact .inl h1
        · refine .inr ⟨?_, y, List.mem_cons_of_mem _ h1, h2, h3⟩
          have := srt_same hs h1 h2
          show x.1 < endF x.2.1 r
          omega
      · exact ih h
    · exact ih h
/-- What is there goes ahead of coming again. -/
theorem there_goes {n : Nat} : ∀ {evs : List Ev} {now : List Eg}, Good n now evs → Srt evs → ∀ e ∈ now, ∀ z ∈ addsL evs, z.1 = e → 0 ≤ endF e evs ∧ endF e evs < z.2.1
  | [], _, _, _, e, _, z, h, _ => by cases h
  | x :: r, now, hg, hs, e, he, z, h, hz => by
    obtain ⟨⟨ht, -, -⟩, now', ht', hg'⟩ := hg
    have hs' := (List.pairwise_cons.1 hs).2
    obtain ⟨t, f, ad⟩ := x
    dsimp only at ht ht'
    rw [addsL] at h
    dsimp only at h
    by_cases hef : f = e
    · subst hef
      rw [endF_eq (x := (t, f, ad)) (r := r) rfl]
      cases ad with
      | true => exact absurd he (turn_come ht').1
      | false =>
        rw [if_neg (by simp)] at h
        obtain ⟨y, h1, h2, h3, -⟩ := mem_adds h
        have := srt_same hs h1 (h2.trans hz)
        dsimp only at this ⊢
        omega
    · rw [endF_ne (x := (t, f, ad)) (r := r) hef]
      have hem : e ∈ now' := (mem_turn ht' e).2 (.inl ⟨he, fun h => hef h.symm⟩)
      have hz' : z ∈ addsL r := by
        split at h
        · rcases List.mem_cons.1 h with rfl | h
          · exact absurd hz hef
          · exact h
        · exact h
      exact there_goes hg' hs' e hem z hz' hz
/-- Of two lives of an edge the one goes ahead of the other one's coming. -/
theorem lives_apart {n : Nat} : ∀ {evs : List Ev} {now : List Eg}, Good n now evs → Srt evs → ∀ p ∈ addsL evs, ∀ z ∈ addsL evs, p.1 = z.1 → p.2.1 < z.2.1 → 0 ≤ p.2.2 ∧ p.2.2 < z.2.1
  | [], _, _, _, p, hp, _, _, _, _ => by cases hp
  | x :: r, now, hg, hs, p, hp, z, hz, he, hlt => by
    obtain ⟨-, now', ht', hg'⟩ := hg
    have hs' := (List.pairwise_cons.1 hs).2
    obtain ⟨t, f, ad⟩ := x
    dsimp only at ht'
    rw [addsL] at hp hz
    dsimp only at hp hz
    cases ad with
    | false =>
      rw [if_neg (by simp)] at hp hz
      exact lives_apart hg' hs' p hp z hz he hlt
    | true =>
      rw [if_pos rfl] at hp hz
      rcases List.mem_cons.1 hp with rfl | hp
      · rcases List.mem_cons.1 hz with rfl | hz
        · dsimp only at hlt; omega
        · exact there_goes hg' hs' f ((mem_turn ht' f).2 (.inr ⟨rfl, rfl⟩)) z hz he.symm
      · rcases List.mem_cons.1 hz with rfl | hz
        · obtain ⟨y, h1, h2, h3, -⟩ := mem_adds hp
          have := srt_same hs h1 (h2.trans he)
          dsimp only at this hlt
          omega
        · exact lives_apart hg' hs' p hp z hz he hlt
theorem adds_cmp : ∀ {evs : List Ev}, Srt evs → (addsL evs).Pairwise (Cmp lLess)
  | [], _ => List.Pairwise.nil
  | x :: r, hs => by
    have ih := adds_cmp (List.pairwise_cons.1 hs).2
    rw [addsL]
    split
    · refine List.pairwise_cons.2 ⟨fun z hz => lLess_cmp fun h => ?_, ih⟩
      obtain ⟨y, h1, h2, h3, -⟩ := mem_adds hz
      have := srt_same hs h1 (h2.trans h.1.symm)
      have h4 := h.2
      dsimp only at h4
      omega
    · exact ih
theorem lives_sorted {evs : List Ev} (h : Srt evs) : (livesE [] evs).Pairwise (fun a b => lLess a b = true) ∧ (livesE [] evs).Perm (addsL evs) := by
  rw [livesE_fold]
  exact all_sorted lLess_trans (addsL evs) [] List.Pairwise.nil (by simpa using adds_cmp h)
/-- The lives are the only ones in order. -/
theorem lives_only {evs : List Ev} (h : Srt evs) {l : List Lf} (hl : l.Pairwise (fun a b => lLess a b = true)) (hp : l.Perm (addsL evs)) : l = livesE [] evs :=
  sorted_unique lLess_asymm hl (lives_sorted h).1 (hp.trans (lives_sorted h).2.symm)

/-- Lives that may be, each. -/
theorem life_ok {n : Nat} {evs : List Ev} {now : List Eg} (hg : Good n now evs) (hs : Srt evs) {z : Lf} (hz : z ∈ addsL evs) : 0 ≤ z.2.1 ∧ z.2.1 ≤ 4611686018427387903 ∧ z.2.2 ≤ 4611686018427387903 ∧ -1 ≤ z.2.2 ∧ eRight z.1.1 z.1.2 n = true ∧ ¬ (0 ≤ z.2.2 ∧ z.2.2 ≤ z.2.1) := by
  obtain ⟨y, h1, h2, h3, -⟩ := mem_adds hz
  obtain ⟨g1, g2, g3⟩ := good_times hg y h1
  rw [h2] at g3
  rcases adds_end hs z hz with h4 | ⟨h4, y', h5, h6, h7⟩
  · exact ⟨by omega, by omega, by omega, by omega, g3, by omega⟩
  · obtain ⟨k1, k2, -⟩ := good_times hg y' h5
    exact ⟨by omega, by omega, by omega, by omega, g3, by omega⟩
theorem lchk_good (n : Nat) : ∀ (l : List Lf) (pv : Option Lf) (i : Nat), (∀ z ∈ l, 0 ≤ z.2.1 ∧ z.2.1 ≤ 4611686018427387903 ∧ z.2.2 ≤ 4611686018427387903 ∧ -1 ≤ z.2.2 ∧ eRight z.1.1 z.1.2 n = true ∧ ¬ (0 ≤ z.2.2 ∧ z.2.2 ≤ z.2.1)) → l.Pairwise (fun a b => lOrd a b = false) → (∀ p, pv = some p → ∀ z ∈ l, lOrd p z = false) → lchkF n pv i l = (0, 0)
  | [], _, _, _, _, _ => rfl
  | x :: r, pv, i, h, hp, hv => by
    obtain ⟨h1, h2, h3, h4, h5, h6⟩ := h x (List.mem_cons_self ..)
    have hp := List.pairwise_cons.1 hp
    rw [lchk_step (by omega) h5 h6 (by
      cases pv with
      | none => rfl
      | some p => exact hv p rfl x (List.mem_cons_self ..))]
    exact lchk_good n r (some x) (i + 1) (fun z hz => h z (List.mem_cons_of_mem _ hz)) hp.2 (fun p hpp z hz => by
      simp only [Option.some.injEq] at hpp
      subst hpp
      exact hp.1 z hz)
theorem lives_check {n : Nat} {evs : List Ev} (h : (checkF n evs).2 = 0) : lifeCheckF n (livesE [] evs) = (0, 0) := by
  obtain ⟨h1, -, hg, hs⟩ := good_check h
  obtain ⟨k1, k2⟩ := lives_sorted hs
  unfold lifeCheckF
  rw [if_neg (by omega)]
  refine lchk_good n _ none 0 (fun z hz => life_ok hg hs (k2.mem_iff.1 hz)) ?_ (fun p hp => by cases hp)
  refine List.Pairwise.imp_of_mem (fun {a b} ha hb hab => ?_) k1
  rw [lLess_iff] at hab
  unfold lOrd
  rcases hab with h2 | ⟨h2, h3⟩
  · rw [h2]; rfl
  · obtain ⟨g1, g2⟩ := lives_apart hg hs a (k2.mem_iff.1 ha) b (k2.mem_iff.1 hb) h2 h3
    simp [h2, g1, g2]

/-- The events of a life; of lives. -/
def lEv (x : Lf) : List Ev := (x.2.1, x.1, true) :: if 0 ≤ x.2.2 then [(x.2.2, x.1, false)] else []
theorem backE_fold : ∀ (L : List Lf) (h : List Ev), backE h L = (L.flatMap lEv).foldl (gIns eBef) h
  | [], h => rfl
  | x :: r, h => by
    rw [backE, backE_fold r, List.flatMap_cons, List.foldl_append]
    unfold lEv
    split <;> simp [insP_is]
def endsL (now : List Eg) (evs : List Ev) : List Ev := now.flatMap (fun e => if 0 ≤ endF e evs then [(endF e evs, e, false)] else [])
theorem endsL_perm {l m : List Eg} (h : l.Perm m) (evs : List Ev) : (endsL l evs).Perm (endsL m evs) := h.flatMap_right _
theorem endsL_skip {now : List Eg} {x : Ev} {r : List Ev} (h : x.2.1 ∉ now) : endsL now (x :: r) = endsL now r := by
  unfold endsL
  induction now with
  | nil => rfl
  | cons e l ih =>
    rw [List.flatMap_cons, List.flatMap_cons, ih (fun hm => h (List.mem_cons_of_mem _ hm)), endF_ne (fun he => h (by rw [he]; exact List.mem_cons_self ..))]
theorem evs_perm {n : Nat} : ∀ {evs : List Ev} {now : List Eg}, Good n now evs → evs.Perm (endsL now evs ++ (addsL evs).flatMap lEv)
  | [], now, hn => by
    have : endsL now [] = [] := by
      clear hn
      unfold endsL
      induction now with
      | nil => rfl
      | cons e l ih => rw [List.flatMap_cons, ih]; rfl
    rw [this]
    exact .refl _
  | x :: r, now, hg => by
    obtain ⟨⟨h0, -, -⟩, now', ht', hg'⟩ := hg
    have ih := evs_perm hg'
    obtain ⟨t, f, ad⟩ := x
    dsimp only at ht' h0
    cases ad with
    | true =>
      obtain ⟨h1, h2⟩ := turn_come ht'
      rw [endsL_skip h1]
      have e1 : addsL ((t, f, true) :: r) = (f, t, endF f r) :: addsL r := if_pos rfl
      rw [e1, List.flatMap_cons]
      have e2 : lEv (f, t, endF f r) = (t, f, true) :: (if 0 ≤ endF f r then [(endF f r, f, false)] else []) := rfl
      rw [e2]
      generalize (addsL r).flatMap lEv = F at ih
      have h3 := endsL_perm h2 r
      have e3 : endsL (f :: now) r = (if 0 ≤ endF f r then [(endF f r, f, false)] else []) ++ endsL now r := List.flatMap_cons
      rw [e3] at h3
      generalize (if 0 ≤ endF f r then [(endF f r, f, false)] else []) = I at h3
      refine (List.Perm.cons _ (ih.trans (h3.append_right F))).trans ?_
      rw [List.append_assoc, List.cons_append]
      exact (List.Perm.cons _ (List.perm_append_comm_assoc I (endsL now r) F)).trans List.perm_middle.symm
    | false =>
      obtain ⟨h1, h2, h3⟩ := turn_go ht'
      have e1 : addsL ((t, f, false) :: r) = addsL r := if_neg (by simp)
      rw [e1]
      have h4 := endsL_perm h3 ((t, f, false) :: r)
      have e2 : endsL (f :: now') ((t, f, false) :: r) = (t, f, false) :: endsL now' r := by
        rw [← endsL_skip (x := (t, f, false)) (r := r) h2]
        show (if 0 ≤ endF f ((t, f, false) :: r) then [(endF f ((t, f, false) :: r), f, false)] else []) ++ endsL now' ((t, f, false) :: r) = _
        rw [endF_eq (x := (t, f, false)) rfl, if_pos h0]
        rfl
      rw [e2] at h4
      exact (List.Perm.cons _ ih).trans (h4.symm.append_right _)
/-- Whose lives they are. -/
theorem lives_back {n : Nat} {evs : List Ev} (h : (checkF n evs).2 = 0) : backE [] (livesE [] evs) = evs := by
  obtain ⟨-, -, hg, hs⟩ := good_check h
  obtain ⟨k1, k2⟩ := lives_sorted hs
  have hp : ((livesE [] evs).flatMap lEv).Perm evs := (k2.flatMap_right lEv).trans (evs_perm hg).symm
  have hc : ([] ++ (livesE [] evs).flatMap lEv).Pairwise (Cmp eBef) := (List.Perm.pairwise_iff (fun {x y} hxy => hxy.symm) hp).2 (List.Pairwise.imp (fun {a b} hab => .inl hab) hs)
  obtain ⟨h1, h2⟩ := all_sorted (b := eBef) (fun x y z => eBef_trans) _ [] List.Pairwise.nil hc
  rw [backE_fold]
  exact sorted_unique (fun x y => eBef_asymm) h1 hs (h2.trans hp)

/-- Is there, by a life. -/
def thereL (t : Int) (z : Lf) : Bool := decide (z.2.1 ≤ t) && (decide (z.2.2 < 0) || decide (t < z.2.2))
def stays (evs : List Ev) (t : Int) (e : Eg) : Bool := decide (endF e evs < 0) || decide (t < endF e evs)
theorem stays_skip {now : List Eg} {x : Ev} {r : List Ev} {t : Int} (h : x.2.1 ∉ now) : now.filter (stays (x :: r) t) = now.filter (stays r t) :=
  List.filter_congr (fun e he => by unfold stays; rw [endF_ne (fun hx => h (hx ▸ he))])
theorem upto_none {x : Ev} {r : List Ev} {t : Int} (h : t < x.1) : uptoF (x :: r) t = 0 := by
  unfold uptoF
  rw [List.takeWhile_cons, if_neg (by simp; omega)]
  rfl
theorem upto_one {x : Ev} {r : List Ev} {t : Int} (h : x.1 ≤ t) : uptoF (x :: r) t = uptoF r t + 1 := by
  unfold uptoF
  rw [List.takeWhile_cons, if_pos (by simpa using h)]
  rfl
theorem there_perm {n : Nat} {t : Int} : ∀ {evs : List Ev} {now : List Eg}, Good n now evs → Srt evs → (now.filter (stays evs t) ++ ((addsL evs).filter (thereL t)).map (·.1)).Perm (aftF now (evs.take (uptoF evs t)))
  | [], now, _, _ => by
    have : now.filter (stays [] t) = now := List.filter_eq_self.2 (fun e _ => by unfold stays endF; simp)
    rw [this]
    simp [addsL, aftF, uptoF]
  | x :: r, now, hg, hs => by
    obtain ⟨⟨h0, -, -⟩, now', ht', hg'⟩ := hg
    have hs' := List.pairwise_cons.1 hs
    have ih := there_perm (t := t) hg' hs'.2
    by_cases hx : x.1 ≤ t
    · rw [upto_one hx, List.take_succ_cons, aftF, ht', Option.getD_some]
      refine List.Perm.trans ?_ ih
      obtain ⟨t0, f, ad⟩ := x
      dsimp only at ht' h0 hx
      cases ad with
      | true =>
        obtain ⟨h1, h2⟩ := turn_come ht'
        rw [stays_skip (x := (t0, f, true)) (r := r) h1]
        have e1 : addsL ((t0, f, true) :: r) = (f, t0, endF f r) :: addsL r := if_pos rfl
        have h3 := h2.filter (stays r t)
        rw [e1]
        have e2 : thereL t (f, t0, endF f r) = stays r t f := by unfold thereL stays; simp [hx]
        rw [List.filter_cons, e2]
        rw [List.filter_cons] at h3
        cases hst : stays r t f with
        | false =>
          rw [hst] at h3
          exact (h3.symm.append_right _)
        | true =>
          rw [hst] at h3
          rw [if_pos rfl, List.map_cons]
          refine List.perm_middle.trans ?_
          exact (h3.symm.append_right _)
      | false =>
        obtain ⟨h1, h2, h3⟩ := turn_go ht'
        have e1 : addsL ((t0, f, false) :: r) = addsL r := if_neg (by simp)
        rw [e1]
        have h4 := h3.filter (stays ((t0, f, false) :: r) t)
        have e2 : stays ((t0, f, false) :: r) t f = false := by
          unfold stays
          rw [endF_eq (x := (t0, f, false)) rfl]
          simp
          omega
        rw [List.filter_cons, e2, if_neg (by simp), stays_skip (x := (t0, f, false)) (r := r) h2] at h4
        exact h4.append_right _
    · have hx : t < x.1 := by omega
      have hall : ∀ y ∈ x :: r, t < y.1 := fun y hy => by
        rcases List.mem_cons.1 hy with rfl | hy
        · exact hx
        · have := hs'.1 y hy
          rw [eBef_iff] at this
          omega
      rw [upto_none hx, List.take_zero, aftF]
      have e1 : now.filter (stays (x :: r) t) = now := List.filter_eq_self.2 (fun e _ => by
        unfold stays
        rcases endF_mem e (x :: r) with h | ⟨y, h1, -, h2⟩
        · simp [h]
        · have := hall y h1
          rw [h2] at this
          simp [this])
      have e2 : (addsL (x :: r)).filter (thereL t) = [] := List.filter_eq_nil_iff.2 (fun z hz => by
        obtain ⟨y, h1, -, h2, -⟩ := mem_adds hz
        have := hall y h1
        unfold thereL
        simp
        omega)
      rw [e1, e2]
      simp
/-- How many lives are there then; and of which edges. -/
theorem lives_there {n : Nat} {evs : List Ev} (t : Int) (h : (checkF n evs).2 = 0) : (((livesE [] evs).filter (thereL t)).map (·.1)).Perm (atF n evs t).1 := by
  obtain ⟨-, -, hg, hs⟩ := good_check h
  unfold atF afterF
  rw [if_pos h]
  have := there_perm (t := t) hg hs
  simp only [List.filter_nil, List.nil_append] at this
  refine (((lives_sorted hs).2.filter _).map _).trans ?_
  simpa using this

/-- How many come, how many go. -/
theorem adds_count (evs : List Ev) : (addsL evs).length = evs.countP (fun x => x.2.2) := by
  induction evs with
  | nil => rfl
  | cons x r ih =>
    rw [addsL, List.countP_cons]
    split <;> simp_all
theorem flat_count (L : List Lf) : (L.flatMap lEv).countP (fun x => !x.2.2) = L.countP (fun z => decide (0 ≤ z.2.2)) := by
  induction L with
  | nil => rfl
  | cons z r ih =>
    rw [List.flatMap_cons, List.countP_append, ih, List.countP_cons]
    unfold lEv
    by_cases h : 0 ≤ z.2.2 <;> simp [h, Nat.add_comm]
theorem lives_count {n : Nat} {evs : List Ev} (h : (checkF n evs).2 = 0) : (livesE [] evs).length = evs.countP (fun x => x.2.2) ∧ (livesE [] evs).countP (fun z => decide (0 ≤ z.2.2)) = evs.countP (fun x => !x.2.2) := by
  obtain ⟨-, -, hg, hs⟩ := good_check h
  have hp := (lives_sorted hs).2
  refine ⟨by rw [hp.length_eq, adds_count], ?_⟩
  rw [hp.countP_eq, ← flat_count]
  exact ((evs_perm hg).countP_eq _).symm
theorem lives_length (evs : List Ev) (h : Srt evs) : (livesE [] evs).length ≤ evs.length := by
  rw [(lives_sorted h).2.length_eq, adds_count]
  exact List.countP_le_length
theorem livesF_length (n : Nat) (evs : List Ev) : (livesF n evs).1.length ≤ evs.length := by
  unfold livesF
  split
  · rename_i h
    exact lives_length evs (good_check h).2.2.2
  · simp
theorem lives_fit {n : Nat} {evs : List Ev} (hg : Good n [] evs) (hs : Srt evs) (hn : n ≤ 4294967296) : ∀ x ∈ livesE [] evs, LfFit x := fun x hx => by
  obtain ⟨h1, h2, h3, h4, h5, -⟩ := life_ok hg hs ((lives_sorted hs).2.mem_iff.1 hx)
  unfold eRight at h5
  have h6 := of_decide_eq_true h5
  unfold LfFit
  omega
theorem fold_perm {α : Type} (b : α → α → Bool) : ∀ (es h : List α), (es.foldl (gIns b) h).Perm (h ++ es)
  | [], h => by rw [List.append_nil]; exact .refl _
  | e :: es, h => by
    refine (fold_perm b es _).trans (((gIns_perm b h e).append_right es).trans ?_)
    rw [List.cons_append]
    exact List.perm_middle.symm
theorem backE_length (L : List Lf) : (backE [] L).length = (L.flatMap lEv).length := by
  rw [backE_fold, (fold_perm eBef _ []).length_eq, List.nil_append]
theorem flat_length (L : List Lf) : (L.flatMap lEv).length ≤ 2 * L.length := by
  induction L with
  | nil => simp
  | cons z r ih =>
    rw [List.flatMap_cons, List.length_append, List.length_cons]
    have : (lEv z).length ≤ 2 := by unfold lEv; split <;> simp
    omega
theorem backF_length (n : Nat) (l : List Lf) : (backF n l).2.1.length ≤ 2 * l.length := by
  unfold backF
  split
  · dsimp only
    rw [backE_length]
    exact flat_length l
  · simp

end Go.Proofs.Ytanimgfhabkmcaa
