/-
  A law for a statement whose order of evaluation Go leaves open, and that makes memory and calls in any of many orders: each operation leaves a value that is told ahead ('c'), or a value that meets a condition which lasts while only new memory is made ('b'): it is walked once, in the order of the text, each operation at whatever world its turn may come. No program is named here.
-/
import Derived.Test.YtclfbdfgmeliaaaLex
namespace Go.Proofs.Ytclfbdfgmeliaaa
open Go.RowKit

/-- What an operation leaves: this value; or one that meets this condition. -/
inductive Cell where
  | c (v : Value)
  | b (R : Value → World → Prop)
def Cell.met : Cell → Value → World → Prop
  | .c u, v, _ => v = u
  | .b R, v, w => R v w

section
variable {P : Program} {ops : Array Oper} {Q : Exit → Act → World → Prop} {md : Region.Mode} {T : Nat → Prop} {w0 : World} {cs : List Cell}

def dstOf (ops : Array Oper) (k : Nat) : Option Tmp := (ops[k]?).bind (·.dst)
def Rof (cs : List Cell) (j : Nat) (v : Value) (w : World) : Prop := match cs[j]? with | some (.b R) => R v w | _ => True
def valOf (cs : List Cell) (β : Nat → Value) (j : Nat) : Value := match cs[j]? with | some (.c v) => v | _ => β j
def waits (md : Region.Mode) (ops : Array Oper) (k j : Nat) : Bool := match ops[k]? with | some o => o.after.any (fun e => Region.binds md e && e.on == j) | none => false

/-- Each operation has a slot of its own, waits for earlier ones alone, and looks at a slot of this statement only behind the one that fills it, or ahead of it for certain. -/
def anyChk (md : Region.Mode) (ops : Array Oper) (size : Nat) : Bool :=
  Region.noSelect ops &&
  (List.range ops.size).all fun k =>
    (match dstOf ops k with | some d => decide (d < size) | none => true) &&
    (match ops[k]? with | some o => o.after.all (fun e => !Region.binds md e || decide (e.on < k)) | none => true) &&
    (List.range ops.size).all fun j =>
      match dstOf ops j with
      | none => true
      | some d => (j == k || dstOf ops k != some d) &&
          (match ops[k]? with | some o => !(o.looksAt ops).contains d || j == k || (decide (j < k) && waits md ops k j) || (decide (k < j) && waits md ops j k) | none => true)

structure AnyOk (md : Region.Mode) (ops : Array Oper) (size : Nat) : Prop where
  sel : Region.noSelect ops = true
  dst : ∀ k d, dstOf ops k = some d → d < size
  back : ∀ k j, waits md ops k j = true → j < k
  one : ∀ k j d, dstOf ops k = some d → dstOf ops j = some d → j = k
  look : ∀ k j o d, ops[k]? = some o → dstOf ops j = some d → d ∈ o.looksAt ops → j = k ∨ (j < k ∧ waits md ops k j = true) ∨ (k < j ∧ waits md ops j k = true)

theorem dstOf_lt {k : Nat} {d : Tmp} (h : dstOf ops k = some d) : k < ops.size := by
  unfold dstOf at h
  rcases Nat.lt_or_ge k ops.size with h1 | h1
  · exact h1
  · rw [Array.getElem?_eq_none h1] at h; cases h
theorem waits_lt {k j : Nat} (h : waits md ops k j = true) : k < ops.size := by
  unfold waits at h
  rcases Nat.lt_or_ge k ops.size with h1 | h1
  · exact h1
  · rw [Array.getElem?_eq_none h1] at h; cases h

theorem anyOk {size : Nat} (h : anyChk md ops size = true) : AnyOk md ops size := by
  unfold anyChk at h
  rw [Bool.and_eq_true, List.all_eq_true] at h
  obtain ⟨h0, h⟩ := h
  refine ⟨h0, fun k d hd => ?_, fun k j hw => ?_, fun k j d hk hj => ?_, fun k j o d ho hj hd => ?_⟩
  · have := h k (List.mem_range.2 (dstOf_lt hd))
    simp only [hd, Bool.and_eq_true, decide_eq_true_eq] at this
    exact this.1.1
  · have hk := waits_lt hw
    have := h k (List.mem_range.2 hk)
    simp only [Bool.and_eq_true] at this
    have h2 := this.1.2
    unfold waits at hw
    rw [Array.getElem?_eq_getElem hk] at hw h2
    simp only at hw h2
    obtain ⟨e, he, hb⟩ := Array.any_eq_true'.1 hw
    rw [Bool.and_eq_true, beq_iff_eq] at hb
    have h3 := Array.all_eq_true_iff_forall_mem.1 h2 e he
    rw [hb.1] at h3
    simp at h3
    omega
  · have := h k (List.mem_range.2 (dstOf_lt hk))
    simp only [Bool.and_eq_true, List.all_eq_true] at this
    have h2 := this.2 j (List.mem_range.2 (dstOf_lt hj))
    simp only [hj, hk, Bool.and_eq_true, Bool.or_eq_true, beq_iff_eq] at h2
    rcases h2.1 with h3 | h3
    · exact h3
    · simp at h3
  · have hk : k < ops.size := (Array.getElem?_eq_some_iff.1 ho).1
    have := h k (List.mem_range.2 hk)
    simp only [Bool.and_eq_true, List.all_eq_true] at this
    have h2 := this.2 j (List.mem_range.2 (dstOf_lt hj))
    simp only [hj, ho, Bool.and_eq_true, Bool.or_eq_true, beq_iff_eq, decide_eq_true_eq] at h2
    rcases h2.2 with ((h3 | h3) | h3) | h3
    · simp [hd] at h3
    · exact .inl h3
    · exact .inr (.inl h3)
    · exact .inr (.inr h3)

/-- The frame behind the first k operations in the order of the text. -/
def actAt (a0 : Act) (ops : Array Oper) (cs : List Cell) (β : Nat → Value) : Nat → Act
  | 0 => a0
  | k + 1 => (actAt a0 ops cs β k).put (dstOf ops k) (valOf cs β k)

theorem put_size (a : Act) (d : Option Tmp) (v : Value) : (a.put d v).tmps.size = a.tmps.size := by cases d <;> simp [Act.put]
theorem put_defers (a : Act) (d : Option Tmp) (v : Value) : (a.put d v).defers = a.defers := by cases d <;> simp [Act.put]
theorem put_same (a : Act) (d : Tmp) (v : Value) (h : d < a.tmps.size) : (a.put (some d) v).tmps.getD d undef = v := by simp [Act.put, h]
theorem put_other (a : Act) (e : Option Tmp) (d : Tmp) (v : Value) (h : e ≠ some d) : (a.put e v).tmps.getD d undef = a.tmps.getD d undef := by
  cases e with
  | none => rfl
  | some e =>
    have hne : e ≠ d := fun he => h (by rw [he])
    simp [Act.put, Array.getElem?_setIfInBounds_ne hne]
theorem act_ext {a b : Act} (hs : a.tmps.size = b.tmps.size) (hd : a.defers = b.defers) (h : ∀ d, a.tmps.getD d undef = b.tmps.getD d undef) : a = b := by
  obtain ⟨at', ad⟩ := a
  obtain ⟨bt, bd⟩ := b
  simp only at hs hd h
  subst hd
  congr 1
  apply Array.ext hs
  intro i h1 h2
  have := h i
  simpa [h1, h2] using this

/-- What the slots hold where the operations of 'L' have come up. -/
structure Filled (a0 a : Act) (ops : Array Oper) (cs : List Cell) (β : Nat → Value) (L : Nat → Prop) : Prop where
  size : a.tmps.size = a0.tmps.size
  defers : a.defers = a0.defers
  yes : ∀ j d, L j → dstOf ops j = some d → a.tmps.getD d undef = valOf cs β j
  no : ∀ d, (∀ j, L j → dstOf ops j ≠ some d) → a.tmps.getD d undef = a0.tmps.getD d undef

theorem Filled.step {a0 a : Act} {β β' : Nat → Value} {L : Nat → Prop} {k : Nat} {v : Value} {size : Nat} (ok : AnyOk md ops size) (hsz : a0.tmps.size = size) (h : Filled a0 a ops cs β L)
    (hβ : ∀ j, j ≠ k → β' j = β j) (hv : valOf cs β' k = v) (hk : ¬ L k) : Filled a0 (a.put (dstOf ops k) v) ops cs β' (fun j => L j ∨ j = k) := by
  refine ⟨by rw [put_size, h.size], by rw [put_defers, h.defers], fun j d hj hd => ?_, fun d hd => ?_⟩
  · rcases hj with hj | rfl
    · have hjk : j ≠ k := fun e => hk (e ▸ hj)
      rw [put_other _ _ _ _ (fun e => hjk (ok.one k j d e hd)), h.yes j d hj hd]
      unfold valOf
      rw [hβ j hjk]
    · rw [hd, put_same _ _ _ (by rw [h.size, hsz]; exact ok.dst j d hd), hv]
  · rw [put_other _ _ _ _ (hd k (.inr rfl))]
    exact h.no d (fun j hj => hd j (.inl hj))
theorem Filled.congr {a0 a : Act} {β : Nat → Value} {L L' : Nat → Prop} (h : Filled a0 a ops cs β L) (he : ∀ j, L j ↔ L' j) : Filled a0 a ops cs β L' :=
  ⟨h.size, h.defers, fun j d hj hd => h.yes j d ((he j).2 hj) hd, fun d hd => h.no d (fun j hj => hd j ((he j).1 hj))⟩
theorem Filled.eq {a0 a b : Act} {β : Nat → Value} {L : Nat → Prop} (h : Filled a0 a ops cs β L) (h' : Filled a0 b ops cs β L) : a = b := by
  refine act_ext (h.size.trans h'.size.symm) (h.defers.trans h'.defers.symm) fun d => ?_
  by_cases hd : ∃ j, L j ∧ dstOf ops j = some d
  · obtain ⟨j, hj, hjd⟩ := hd
    rw [h.yes j d hj hjd, h'.yes j d hj hjd]
  · have hn : ∀ j, L j → dstOf ops j ≠ some d := fun j hj e => hd ⟨j, hj, e⟩
    rw [h.no d hn, h'.no d hn]

theorem filled_at {a0 : Act} {size : Nat} (ok : AnyOk md ops size) (hsz : a0.tmps.size = size) (β : Nat → Value) (k : Nat) : Filled a0 (actAt a0 ops cs β k) ops cs β (fun j => j < k) := by
  induction k with
  | zero => exact ⟨rfl, rfl, fun j d hj => by omega, fun d _ => rfl⟩
  | succ k ih => exact (ih.step ok hsz (β' := β) (fun _ _ => rfl) rfl (Nat.lt_irrefl k)).congr (fun j => by omega)

theorem wanted_agree {o : Oper} {a b : Act} (hs : a.tmps.size = b.tmps.size) (h : ∀ d ∈ o.looksAt ops, a.tmps.getD d undef = b.tmps.getD d undef) :
    Region.wanted o (yielded ops a.tmps) = Region.wanted o (yielded ops b.tmps) := by
  unfold Region.wanted
  cases hg : o.guard with
  | none => rfl
  | some gw =>
    obtain ⟨g, want⟩ := gw
    have hy : yielded ops a.tmps g = yielded ops b.tmps g := by
      unfold yielded
      cases ht : (ops[g]?).bind (·.dst) with
      | none => rfl
      | some t =>
        have h1 := h t (by simp [Oper.looksAt, hg, ht])
        simp only [Option.bind_some]
        by_cases hl : t < a.tmps.size
        · have hl' : t < b.tmps.size := hs ▸ hl
          rw [Array.getElem?_eq_getElem hl, Array.getElem?_eq_getElem hl']
          simp [hl, hl'] at h1
          rw [h1]
        · rw [Array.getElem?_eq_none (Nat.not_lt.1 hl), Array.getElem?_eq_none (hs ▸ Nat.not_lt.1 hl)]
    simp only [hy]
theorem exec_agree {o : Oper} {a b : Act} (hsel : ∀ cs b, o.op ≠ .select cs b) (h : ∀ d ∈ o.looksAt ops, a.tmps.getD d undef = b.tmps.getD d undef) : execOp a.eval o = execOp b.eval o := by
  refine execOp_congr o hsel fun x hx => ?_
  cases x with
  | tmp t => exact h t (List.mem_append_left _ (List.mem_filterMap.2 ⟨.tmp t, by simpa using hx, rfl⟩))
  | _ => rfl

/-- The same operation in a frame that agrees where it looks. -/
theorem wp_agree {o : Oper} {a b : Act} {w : World} {G : Value → World → Prop} (he : execOp a.eval o = execOp b.eval o) (hd : ∀ d, o.dst = some d → d < b.tmps.size)
    (h : o.wp P b w (fun a' w' => ∃ v, a' = b.put o.dst v ∧ G v w') (NoPanic Q)) : o.wp P a w (fun a' w' => ∃ v, a' = a.put o.dst v ∧ G v w') (NoPanic Q) := by
  have key : ∀ u w', (∃ v, b.put o.dst u = b.put o.dst v ∧ G v w') → ∃ v, a.put o.dst u = a.put o.dst v ∧ G v w' := by
    rintro u w' ⟨v, e, hv⟩
    cases hdd : o.dst with
    | none => exact ⟨v, rfl, hv⟩
    | some d =>
      rw [hdd] at e
      have e2 : (b.put (some d) u).tmps.getD d undef = (b.put (some d) v).tmps.getD d undef := by rw [e]
      rw [put_same _ _ _ (hd d hdd), put_same _ _ _ (hd d hdd)] at e2
      exact ⟨v, by rw [e2], hv⟩
  unfold Oper.wp at *
  rw [he]
  generalize (execOp b.eval o).run P w = r at *
  cases r with
  | ok n w' =>
    cases n <;> simp only [Oper.upon] at h ⊢
    case value u => exact key u w' h
    case skip => exact key _ w' h
    case defer d =>
      obtain ⟨v, e, -⟩ := h
      have := congrArg Act.defers e
      rw [put_defers, put_defers] at this
      exact absurd this (by simp)
    case enter f args =>
      refine Calls.mono h fun e w'' he => ?_
      cases e with
      | returned u => exact key u w'' he
      | panicked c => exact he
      | outgrown => exact he
    case row row args => exact Rows.mono h fun u w'' he => key u w'' he
  | halt x w' =>
    cases x <;> simp only [Oper.upon] at h ⊢
    case panic u => exact h

/-- What is shown of operation k, in the frame behind those ahead of it in the text. -/
def DoesAt (P : Program) (md : Region.Mode) (ops : Array Oper) (Q : Exit → Act → World → Prop) (T : Nat → Prop) (w0 : World) (cs : List Cell) (k : Nat) (o : Oper) (a : Act) (c : Cell) : Prop :=
  (Region.wanted o (yielded ops a.tmps) = true ∧ ∀ w, Fr w0 w T → (∀ j d, waits md ops k j = true → dstOf ops j = some d → Rof cs j (a.tmps.getD d undef) w) →
    o.wp P a w (fun a' w' => ∃ v, a' = a.put o.dst v ∧ Fr w w' T ∧ c.met v w') (NoPanic Q)) ∨
  (Region.wanted o (yielded ops a.tmps) = false ∧ (match c with | .c u => u = undef | .b R => ∀ w, Fr w0 w T → R undef w))

structure AnyInv (md : Region.Mode) (ops : Array Oper) (T : Nat → Prop) (w0 : World) (cs : List Cell) (a0 : Act) (β : Nat → Value) (listed : Array Bool) (a : Act) (w : World) : Prop where
  len : listed.size = ops.size
  fill : Filled a0 a ops cs β (fun j => listed.getD j false = true)
  fr : Fr w0 w T
  R : ∀ j, listed.getD j false = true → Rof cs j (β j) w
  down : ∀ j i, listed.getD j false = true → waits md ops j i = true → listed.getD i false = true

theorem listed_of {listed : Array Bool} {n j : Nat} (hl : listed.size = n) (hj : j < n) : listed.getD j true = listed.getD j false := by
  have : j < listed.size := by omega
  simp [this]

theorem any_sound {a0 : Act} {size : Nat} (ok : AnyOk md ops size) (hsz : a0.tmps.size = size) (hlen : cs.length = ops.size)
    (hst : ∀ j v w w', Fr w w' T → Rof cs j v w → Rof cs j v w')
    (hdo : ∀ (β : Nat → Value) k o c, ops[k]? = some o → cs[k]? = some c → DoesAt P md ops Q T w0 cs k o (actAt a0 ops cs β k) c)
    (hend : ∀ (β : Nat → Value) w, Fr w0 w T → (∀ j, j < ops.size → Rof cs j (β j) w) → Q .normal (actAt a0 ops cs β ops.size) w) :
    ∀ (fuel : Nat) (β : Nat → Value) (listed : Array Bool) (a : Act) (w : World), AnyInv md ops T w0 cs a0 β listed a w → (∃ L : List Nat, L.length ≤ fuel ∧ ∀ j, j < ops.size → listed.getD j false = false → j ∈ L) →
      wpAnyH P md ops (NoPanic Q) (fun _ => True) fuel listed a w := by
  have hall : ∀ (β : Nat → Value) (listed : Array Bool) (a : Act) (w : World), AnyInv md ops T w0 cs a0 β listed a w → Region.ready md ops listed = [] → Q .normal a w := by
    intro β listed a w h hr
    have hl : ∀ j, j < ops.size → listed.getD j false = true := by
      intro j
      induction j using Nat.strongRecOn with
      | ind j ih =>
        intro hj
        cases hc : listed.getD j false with
        | true => rfl
        | false =>
          exfalso
          have : j ∈ Region.ready md ops listed := by
            rw [mem_ready]
            refine ⟨by rw [listed_of h.len hj, hc], ops[j], Array.getElem?_eq_getElem hj, fun e he hb => ?_⟩
            have hw : waits md ops j e.on = true := by
              unfold waits
              rw [Array.getElem?_eq_getElem hj]
              exact Array.any_eq_true'.2 ⟨e, he, by simp [hb]⟩
            have := ok.back j _ hw
            exact ih _ this (by omega)
          rw [hr] at this
          cases this
    have e : a = actAt a0 ops cs β ops.size := by
      refine h.fill.eq (((filled_at ok hsz β ops.size).congr (fun j => ?_)))
      constructor
      · exact hl j
      · intro hj
        rcases Nat.lt_or_ge j listed.size with h1 | h1
        · have := h.len; omega
        · simp [Array.getElem?_eq_none h1] at hj
    rw [e]
    exact hend β w h.fr (fun j hj => h.R j (hl j hj))
  intro fuel
  induction fuel with
  | zero =>
    intro β listed a w h ⟨L, hL, hmem⟩
    have hL0 : L = [] := List.eq_nil_of_length_eq_zero (by omega)
    have hr : Region.ready md ops listed = [] := by
      apply List.eq_nil_iff_forall_not_mem.2
      intro j hj
      obtain ⟨h0, o, ho, -⟩ := mem_ready.1 hj
      have hjs := (Array.getElem?_eq_some_iff.1 ho).1
      rw [listed_of h.len hjs] at h0
      have := hmem j hjs h0
      rw [hL0] at this
      cases this
    exact ⟨hr, NoPanic.normal (hall β listed a w h hr)⟩
  | succ fuel ih =>
    intro β listed a w h ⟨L, hL, hmem⟩
    refine ⟨fun hr => NoPanic.normal (hall β listed a w h hr), fun i hi => ?_⟩
    obtain ⟨h0, o, ho, haft⟩ := mem_ready.1 hi
    have his : i < ops.size := (Array.getElem?_eq_some_iff.1 ho).1
    have hi0 : listed.getD i false = false := by rw [← listed_of h.len his]; exact h0
    have hdst : dstOf ops i = o.dst := by unfold dstOf; rw [ho]; rfl
    have hA := filled_at (cs := cs) ok hsz β i
    have hwl : ∀ j, waits md ops i j = true → listed.getD j false = true := fun j hw => by
      unfold waits at hw
      rw [ho] at hw
      obtain ⟨e, he, hb⟩ := Array.any_eq_true'.1 hw
      rw [Bool.and_eq_true, beq_iff_eq] at hb
      rw [← hb.2]
      exact haft e he hb.1
    have hag : ∀ d ∈ o.looksAt ops, a.tmps.getD d undef = (actAt a0 ops cs β i).tmps.getD d undef := by
      intro d hd
      by_cases hj : ∃ j, dstOf ops j = some d
      · obtain ⟨j, hj⟩ := hj
        rcases ok.look i j o d ho hj hd with rfl | ⟨h1, h2⟩ | ⟨h1, h2⟩
        · rw [h.fill.no d (fun j' hj' e => by rw [ok.one j' j d e hj] at hi0; rw [hi0] at hj'; cases hj'), hA.no d (fun j' hj' e => by have := ok.one j' j d e hj; omega)]
        · rw [h.fill.yes j d (hwl j h2) hj, hA.yes j d h1 hj]
        · have hjn : listed.getD j false = false := by
            cases hc : listed.getD j false with
            | false => rfl
            | true => rw [h.down j i hc h2] at hi0; cases hi0
          rw [h.fill.no d (fun j' hj' e => by rw [ok.one j' j d e hj] at hjn; rw [hjn] at hj'; cases hj'), hA.no d (fun j' hj' e => by have := ok.one j' j d e hj; omega)]
      · have hn : ∀ j, dstOf ops j ≠ some d := fun j e => hj ⟨j, e⟩
        rw [h.fill.no d (fun j _ => hn j), hA.no d (fun j _ => hn j)]
    obtain ⟨c, hc⟩ : ∃ c, cs[i]? = some c := ⟨_, List.getElem?_eq_getElem (by omega)⟩
    have hrest : ∀ (v : Value) (w' : World), Fr w w' T → c.met v w' →
        wpAnyH P md ops (NoPanic Q) (fun _ => True) fuel (listed.setIfInBounds i true) (a.put o.dst v) w' := by
      intro v w' hf hv
      refine ih (fun j => if j = i then v else β j) _ _ _ ⟨by simpa using h.len, ?_, h.fr.trans hf (fun _ _ ht => ht), fun j hj => ?_, fun j k hj hw => ?_⟩ ⟨L.erase i, ?_, fun j hj hjn => ?_⟩
      · have hval : valOf cs (fun j => if j = i then v else β j) i = v := by
          unfold valOf
          rw [hc]
          cases c with
          | c u => exact (show v = u from hv).symm
          | b R => simp
        have := (h.fill.step ok hsz (β' := fun j => if j = i then v else β j) (fun j hj => by simp [hj]) hval (by rw [hi0]; simp))
        rw [hdst] at this
        refine this.congr (fun j => ?_)
        constructor
        · rintro (hj | rfl)
          · exact getD_set_true hj
          · have : j < listed.size := by rw [h.len]; exact his
            simp [this]
        · intro hj
          by_cases hji : j = i
          · exact .inr hji
          · rw [getD_set_ne false (Ne.symm hji)] at hj; exact .inl hj
      · by_cases hji : j = i
        · subst hji
          simp only [if_true]
          unfold Rof
          rw [hc]
          cases c with
          | c u => trivial
          | b R => exact hv
        · rw [getD_set_ne false (Ne.symm hji)] at hj
          simp only [hji, if_false]
          exact hst j _ _ _ hf (h.R j hj)
      · by_cases hji : j = i
        · subst hji
          exact getD_set_true (hwl k hw)
        · rw [getD_set_ne false (Ne.symm hji)] at hj
          exact getD_set_true (h.down j k hj hw)
      · have : i ∈ L := hmem i his hi0
        rw [List.length_erase_of_mem this]; omega
      · by_cases hji : j = i
        · subst hji
          have : j < listed.size := by rw [h.len]; exact his
          simp [this] at hjn
        · rw [getD_set_ne false (Ne.symm hji)] at hjn
          exact (List.mem_erase_of_ne hji).2 (hmem j hj hjn)
    have hd := hdo β i o c ho hc
    have hasz : a.tmps.size = (actAt a0 ops cs β i).tmps.size := h.fill.size.trans hA.size.symm
    unfold wpOp
    simp only [ho]
    rw [wanted_agree hasz hag]
    rcases hd with ⟨hw, hd⟩ | ⟨hw, hd⟩
    · rw [hw]
      simp only [if_true]
      refine .inl ?_
      have hRs : ∀ j d, waits md ops i j = true → dstOf ops j = some d → Rof cs j ((actAt a0 ops cs β i).tmps.getD d undef) w := by
        intro j d hwj hdj
        have hR := h.R j (hwl j hwj)
        rw [hA.yes j d (ok.back i j hwj) hdj]
        unfold Rof at hR ⊢
        unfold valOf
        split
        · rename_i R hcj
          rw [hcj] at hR
          simp only [hcj]
          exact hR
        · trivial
      have h1 := hd w h.fr hRs
      have h2 := wp_agree (a := a) (exec_agree (fun cs b => Region.noSelect_spec ok.sel i o cs b ho) hag) (fun d hdd => by rw [hA.size, hsz]; exact ok.dst i d (hdst.trans hdd)) h1
      refine Oper.wp_mono ?_ h2
      rintro a' w' ⟨v, rfl, hf, hv⟩
      exact ⟨trivial, hrest v w' hf hv⟩
    · rw [hw]
      simp only [Bool.false_eq_true, if_false]
      refine ⟨trivial, hrest undef w (Fr.refl _ _) ?_⟩
      cases c with
      | c u => exact hd.symm
      | b R => exact hd w h.fr

/-- The walk, once, in the order of the text. -/
def wpAll (P : Program) (md : Region.Mode) (ops : Array Oper) (Q : Exit → Act → World → Prop) (T : Nat → Prop) (w0 : World) (cs : List Cell) : List Cell → Nat → Act → Prop
  | [], _, a => ∀ w, Fr w0 w T → (∀ j d, dstOf ops j = some d → Rof cs j (a.tmps.getD d undef) w) → Q .normal a w
  | .c v :: r, k, a => ∃ o, ops[k]? = some o ∧ DoesAt P md ops Q T w0 cs k o a (.c v) ∧ wpAll P md ops Q T w0 cs r (k + 1) (a.put o.dst v)
  | .b R :: r, k, a => ∃ o, ops[k]? = some o ∧ DoesAt P md ops Q T w0 cs k o a (.b R) ∧ ∀ v, wpAll P md ops Q T w0 cs r (k + 1) (a.put o.dst v)

theorem wpAll_at {a0 : Act} (hlen : cs.length = ops.size) (h : wpAll P md ops Q T w0 cs cs 0 a0) (β : Nat → Value) : ∀ k, k ≤ ops.size → wpAll P md ops Q T w0 cs (cs.drop k) k (actAt a0 ops cs β k) ∧
    ∀ i o c, i < k → ops[i]? = some o → cs[i]? = some c → DoesAt P md ops Q T w0 cs i o (actAt a0 ops cs β i) c := by
  intro k
  induction k with
  | zero => intro _; exact ⟨h, fun i o c hi => by omega⟩
  | succ k ih =>
    intro hk
    obtain ⟨h1, h2⟩ := ih (by omega)
    have hkl : k < cs.length := by omega
    rw [List.drop_eq_getElem_cons hkl] at h1
    have hck : cs[k]? = some cs[k] := List.getElem?_eq_getElem hkl
    generalize cs[k] = c at h1 hck
    have key : ∃ o, ops[k]? = some o ∧ DoesAt P md ops Q T w0 cs k o (actAt a0 ops cs β k) c ∧ wpAll P md ops Q T w0 cs (cs.drop (k + 1)) (k + 1) (actAt a0 ops cs β (k + 1)) := by
      cases c with
      | c v =>
        obtain ⟨o, ho, hd, hr⟩ := h1
        refine ⟨o, ho, hd, ?_⟩
        have e1 : dstOf ops k = o.dst := by unfold dstOf; rw [ho]; rfl
        have e2 : valOf cs β k = v := by unfold valOf; rw [hck]
        rw [actAt, e1, e2]
        exact hr
      | b R =>
        obtain ⟨o, ho, hd, hr⟩ := h1
        refine ⟨o, ho, hd, ?_⟩
        have e1 : dstOf ops k = o.dst := by unfold dstOf; rw [ho]; rfl
        rw [actAt, e1]
        exact hr _
    obtain ⟨o, ho, hd, hr⟩ := key
    refine ⟨hr, fun i o' c' hi ho' hc' => ?_⟩
    by_cases hik : i = k
    · subst hik
      rw [ho] at ho'
      rw [hck] at hc'
      cases ho'
      cases hc'
      exact hd
    · exact h2 i o' c' (by omega) ho' hc'

/-- The conditions last. -/
inductive Lasts (T : Nat → Prop) : List Cell → Prop
  | nil : Lasts T []
  | c {v : Value} {r : List Cell} (h : Lasts T r) : Lasts T (.c v :: r)
  | b {R : Value → World → Prop} {r : List Cell} (hR : ∀ v w w', Fr w w' T → R v w → R v w') (h : Lasts T r) : Lasts T (.b R :: r)
theorem Lasts.all (h : Lasts T cs) : ∀ j v w w', Fr w w' T → Rof cs j v w → Rof cs j v w' := by
  induction h with
  | nil => intro j v w w' _ _; unfold Rof; simp
  | c h ih =>
    intro j v w w' hf hr
    cases j with
    | zero => trivial
    | succ j => exact ih j v w w' hf hr
  | b hR h ih =>
    intro j v w w' hf hr
    cases j with
    | zero => exact hR v w w' hf hr
    | succ j => exact ih j v w w' hf hr

/-- The law. -/
theorem wp_region_all {id : Nat} {a : Act} {w : World} {l : List Oper} (T : Nat → Prop) (cs : List Cell) (hm : P.follows .mixedOrders = true)
    (hc : anyChk .any l.toArray a.tmps.size = true) (hlen : cs.length = l.length) (hLasts : Lasts T cs)
    (h : wpAll P .any l.toArray Q T w.drew cs cs 0 a) : (Code.region id l.toArray true).wp P Q a w := by
  have ok := anyOk hc
  have hst := hLasts.all
  have hlen' : cs.length = l.toArray.size := by simpa using hlen
  refine wp_region_noPanic (wp_region_held (S := fun _ => True) hm ?_)
  refine any_sound ok rfl hlen' hst (fun β k o c ho hck => ?_) (fun β w' hf hR => ?_) _ (fun _ => undef) _ a w.drew ⟨by simp, ⟨rfl, rfl, fun j d hj => ?_, fun d _ => rfl⟩, Fr.refl _ _, fun j hj => ?_, fun j i hj => ?_⟩ ⟨List.range l.length, by simp, fun j hj _ => by simpa using hj⟩
  · exact (wpAll_at hlen' h β (k + 1) (Array.getElem?_eq_some_iff.1 ho).1).2 k o c (Nat.lt_succ_self k) ho hck
  · have h1 := (wpAll_at hlen' h β l.toArray.size (Nat.le_refl _)).1
    rw [List.drop_eq_nil_of_le (by omega)] at h1
    refine h1 w' hf (fun j d hd => ?_)
    have hj := dstOf_lt hd
    rw [(filled_at (cs := cs) ok rfl β l.toArray.size).yes j d hj hd]
    have := hR j hj
    unfold Rof at this ⊢
    unfold valOf
    split
    · rename_i R hcj
      rw [hcj] at this
      simp only [hcj]
      exact this
    · trivial
  all_goals
    rcases Nat.lt_or_ge j l.length with h1 | h1
    · simp [h1] at hj
    · simp [h1] at hj

theorem wpAll_nil {l : List Oper} {k : Nat} {a : Act} (h : ∀ w, Fr w0 w T → (∀ j d, dstOf l.toArray j = some d → Rof cs j (a.tmps.getD d undef) w) → Q .normal a w) : wpAll P md l.toArray Q T w0 cs [] k a := h
/-- An operation that does nothing but yield this value. -/
theorem wpAll_take {l : List Oper} {k : Nat} {o : Oper} {v : Value} {r : List Cell} {a : Act} (ho : l[k]? = some o) (hw : Region.wanted o (yielded l.toArray a.tmps) = true)
    (hy : ∀ x, Fr w0 x T → (execOp a.eval o).run P x = .ok (.value v) x) (h : wpAll P md l.toArray Q T w0 cs r (k + 1) (a.put o.dst v)) : wpAll P md l.toArray Q T w0 cs (.c v :: r) k a := by
  refine ⟨o, by simpa using ho, .inl ⟨hw, fun x hx _ => ?_⟩, h⟩
  unfold Oper.wp
  rw [hy x hx]
  exact ⟨v, rfl, Fr.refl _ _, rfl⟩
/-- One that isn't wanted. -/
theorem wpAll_pass {l : List Oper} {k : Nat} {o : Oper} {v : Value} {r : List Cell} {a : Act} (ho : l[k]? = some o) (hw : Region.wanted o (yielded l.toArray a.tmps) = false) (hv : v = undef)
    (h : wpAll P md l.toArray Q T w0 cs r (k + 1) (a.put o.dst v)) : wpAll P md l.toArray Q T w0 cs (.c v :: r) k a :=
  ⟨o, by simpa using ho, .inr ⟨hw, hv⟩, h⟩
/-- One whose value is told (a call, say). -/
theorem wpAll_call {l : List Oper} {k : Nat} {o : Oper} {v : Value} {r : List Cell} {a : Act} (ho : l[k]? = some o) (hw : Region.wanted o (yielded l.toArray a.tmps) = true)
    (hy : ∀ x, Fr w0 x T → (∀ j d, waits md l.toArray k j = true → dstOf l.toArray j = some d → Rof cs j (a.tmps.getD d undef) x) → ∀ K : Act → World → Prop, (∀ w', Fr x w' T → K (a.put o.dst v) w') → o.wp P a x K (NoPanic Q))
    (h : wpAll P md l.toArray Q T w0 cs r (k + 1) (a.put o.dst v)) : wpAll P md l.toArray Q T w0 cs (.c v :: r) k a :=
  ⟨o, by simpa using ho, .inl ⟨hw, fun x hx hR => hy x hx hR _ (fun w' hf => ⟨v, rfl, hf, rfl⟩)⟩, h⟩
/-- One whose value meets the condition (new memory, say). -/
theorem wpAll_make {l : List Oper} {k : Nat} {o : Oper} {R : Value → World → Prop} {r : List Cell} {a : Act} (ho : l[k]? = some o) (hw : Region.wanted o (yielded l.toArray a.tmps) = true)
    (hy : ∀ x, Fr w0 x T → (∀ j d, waits md l.toArray k j = true → dstOf l.toArray j = some d → Rof cs j (a.tmps.getD d undef) x) → ∀ K : Act → World → Prop, (∀ v w', Fr x w' T → R v w' → K (a.put o.dst v) w') → o.wp P a x K (NoPanic Q))
    (h : ∀ v, wpAll P md l.toArray Q T w0 cs r (k + 1) (a.put o.dst v)) : wpAll P md l.toArray Q T w0 cs (.b R :: r) k a :=
  ⟨o, by simpa using ho, .inl ⟨hw, fun x hx hR => hy x hx hR _ (fun v w' hf hv => ⟨v, rfl, hf, hv⟩)⟩, h⟩

end
end Go.Proofs.Ytclfbdfgmeliaaa
