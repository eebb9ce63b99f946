/-
  Texts of ours, joined: Any RIntsP KRight RKraft RRight FRow RCodes VMath Bytes BAdd BPut BRest BRead Str BStr.
-/
import Derived.Test.YtclfbdfgmeliaaaJ1
import Derived.Test.YtclfbdfgmeliaaaRows
import Derived.WalkLawsBesides
import Derived.Deep.LoopGhost
import Derived.Deep.AppendLies
import Derived.StillTailTactics
import Derived.Laws.CopyOwn

/-
  A law for a statement whose order of evaluation Go leaves open, and that makes memory and calls in any of many orders: each operation leaves a value that is told ahead ('c'), or a value that meets a condition which lasts while only new memory is made ('b'): it is walked once, in the order of the text, each operation at whatever world its turn may come. No program is named here.
-/
namespace Go.Proofs.Ytclfbdfgmeliaaa
open Go.RowKit

/-- What an operation leaves: this value; or one that meets this condition. -/
inductive Cell where
  | c (v : Value)
  | b (R : Value → World → Prop)
def Cell.met : Cell → Value → World → Prop
  | .c u, v, _ => v = u
  | .b R, v, w => R v w

section
variable {P : Program} {ops : Array Oper} {Q : Exit → Act → World → Prop} {md : Region.Mode} {T : Nat → Prop} {w0 : World} {cs : List Cell}

def dstOf (ops : Array Oper) (k : Nat) : Option Tmp := (ops[k]?).bind (·.dst)
def Rof (cs : List Cell) (j : Nat) (v : Value) (w : World) : Prop := match cs[j]? with | some (.b R) => R v w | _ => True
def valOf (cs : List Cell) (β : Nat → Value) (j : Nat) : Value := match cs[j]? with | some (.c v) => v | _ => β j
def waits (md : Region.Mode) (ops : Array Oper) (k j : Nat) : Bool := match ops[k]? with | some o => o.after.any (fun e => Region.binds md e && e.on == j) | none => false

/-- Each operation has a slot of its own, waits for earlier ones alone, and looks at a slot of this statement only behind the one that fills it, or ahead of it for certain. -/
def anyChk (md : Region.Mode) (ops : Array Oper) (size : Nat) : Bool :=
  Region.noSelect ops &&
  (List.range ops.size).all fun k =>
    (match dstOf ops k with | some d => decide (d < size) | none => true) &&
    (match ops[k]? with | some o => o.after.all (fun e => !Region.binds md e || decide (e.on < k)) | none => true) &&
    (List.range ops.size).all fun j =>
      match dstOf ops j with
      | none => true
      | some d => (j == k || dstOf ops k != some d) &&
          (match ops[k]? with | some o => !(o.looksAt ops).contains d || j == k || (decide (j < k) && waits md ops k j) || (decide (k < j) && waits md ops j k) | none => true)

structure AnyOk (md : Region.Mode) (ops : Array Oper) (size : Nat) : Prop where
  sel : Region.noSelect ops = true
  dst : ∀ k d, dstOf ops k = some d → d < size
  back : ∀ k j, waits md ops k j = true → j < k
  one : ∀ k j d, dstOf ops k = some d → dstOf ops j = some d → j = k
  look : ∀ k j o d, ops[k]? = some o → dstOf ops j = some d → d ∈ o.looksAt ops → j = k ∨ (j < k ∧ waits md ops k j = true) ∨ (k < j ∧ waits md ops j k = true)

theorem dstOf_lt {k : Nat} {d : Tmp} (h : dstOf ops k = some d) : k < ops.size := by
  unfold dstOf at h
  rcases Nat.lt_or_ge k ops.size with h1 | h1
  · exact h1
  · rw [Array.getElem?_eq_none h1] at h; cases h
theorem waits_lt {k j : Nat} (h : waits md ops k j = true) : k < ops.size := by
  unfold waits at h
  rcases Nat.lt_or_ge k ops.size with h1 | h1
  · exact h1
  · rw [Array.getElem?_eq_none h1] at h; cases h

theorem anyOk {size : Nat} (h : anyChk md ops size = true) : AnyOk md ops size := by
  unfold anyChk at h
  rw [Bool.and_eq_true, List.all_eq_true] at h
  obtain ⟨h0, h⟩ := h
  refine ⟨h0, fun k d hd => ?_, fun k j hw => ?_, fun k j d hk hj => ?_, fun k j o d ho hj hd => ?_⟩
  · have := h k (List.mem_range.2 (dstOf_lt hd))
    simp only [hd, Bool.and_eq_true, decide_eq_true_eq] at this
    exact this.1.1
  · have hk := waits_lt hw
    have := h k (List.mem_range.2 hk)
    simp only [Bool.and_eq_true] at this
    have h2 := this.1.2
    unfold waits at hw
    rw [Array.getElem?_eq_getElem hk] at hw h2
    simp only at hw h2
    obtain ⟨e, he, hb⟩ := Array.any_eq_true'.1 hw
    rw [Bool.and_eq_true, beq_iff_eq] at hb
    have h3 := Array.all_eq_true_iff_forall_mem.1 h2 e he
    rw [hb.1] at h3
    simp at h3
    omega
  · have := h k (List.mem_range.2 (dstOf_lt hk))
    simp only [Bool.and_eq_true, List.all_eq_true] at this
    have h2 := this.2 j (List.mem_range.2 (dstOf_lt hj))
    simp only [hj, hk, Bool.and_eq_true, Bool.or_eq_true, beq_iff_eq] at h2
    rcases h2.1 with h3 | h3
    · exact h3
    · simp at h3
  · have hk : k < ops.size := (Array.getElem?_eq_some_iff.1 ho).1
    have := h k (List.mem_range.2 hk)
    simp only [Bool.and_eq_true, List.all_eq_true] at this
    have h2 := this.2 j (List.mem_range.2 (dstOf_lt hj))
    simp only [hj, ho, Bool.and_eq_true, Bool.or_eq_true, beq_iff_eq, decide_eq_true_eq] at h2
    rcases h2.2 with ((h3 | h3) | h3) | h3
    · simp [hd] at h3
    · exact .inl h3
    · exact .inr (.inl h3)
    · exact .inr (.inr h3)

/-- The frame behind the first k operations in the order of the text. -/
def actAt (a0 : Act) (ops : Array Oper) (cs : List Cell) (β : Nat → Value) : Nat → Act
  | 0 => a0
  | k + 1 => (actAt a0 ops cs β k).put (dstOf ops k) (valOf cs β k)

theorem put_size (a : Act) (d : Option Tmp) (v : Value) : (a.put d v).tmps.size = a.tmps.size := by cases d <;> simp [Act.put]
theorem put_defers (a : Act) (d : Option Tmp) (v : Value) : (a.put d v).defers = a.defers := by cases d <;> simp [Act.put]
theorem put_same (a : Act) (d : Tmp) (v : Value) (h : d < a.tmps.size) : (a.put (some d) v).tmps.getD d undef = v := by simp [Act.put, h]
theorem put_other (a : Act) (e : Option Tmp) (d : Tmp) (v : Value) (h : e ≠ some d) : (a.put e v).tmps.getD d undef = a.tmps.getD d undef := by
  cases e with
  | none => rfl
  | some e =>
    have hne : e ≠ d := fun he => h (by rw [he])
    simp [Act.put, Array.getElem?_setIfInBounds_ne hne]
theorem act_ext {a b : Act} (hs : a.tmps.size = b.tmps.size) (hd : a.defers = b.defers) (h : ∀ d, a.tmps.getD d undef = b.tmps.getD d undef) : a = b := by
  obtain ⟨at', ad⟩ := a
  obtain ⟨bt, bd⟩ := b
  simp only at hs hd h
  subst hd
  congr 1
  apply Array.ext hs
  intro i h1 h2
  have := h i
  simpa [h1, h2] using this

/-- What the slots hold where the operations of 'L' have come up. -/
structure Filled (a0 a : Act) (ops : Array Oper) (cs : List Cell) (β : Nat → Value) (L : Nat → Prop) : Prop where
  size : a.tmps.size = a0.tmps.size
  defers : a.defers = a0.defers
  yes : ∀ j d, L j → dstOf ops j = some d → a.tmps.getD d undef = valOf cs β j
  no : ∀ d, (∀ j, L j → dstOf ops j ≠ some d) → a.tmps.getD d undef = a0.tmps.getD d undef

theorem Filled.step {a0 a : Act} {β β' : Nat → Value} {L : Nat → Prop} {k : Nat} {v : Value} {size : Nat} (ok : AnyOk md ops size) (hsz : a0.tmps.size = size) (h : Filled a0 a ops cs β L)
    (hβ : ∀ j, j ≠ k → β' j = β j) (hv : valOf cs β' k = v) (hk : ¬ L k) : Filled a0 (a.put (dstOf ops k) v) ops cs β' (fun j => L j ∨ j = k) := by
  refine ⟨by rw [put_size, h.size], by rw [put_defers, h.defers], fun j d hj hd => ?_, fun d hd => ?_⟩
  · rcases hj with hj | rfl
    · have hjk : j ≠ k := fun e => hk (e ▸ hj)
      rw [put_other _ _ _ _ (fun e => hjk (ok.one k j d e hd)), h.yes j d hj hd]
      unfold valOf
      rw [hβ j hjk]
    · rw [hd, put_same _ _ _ (by rw [h.size, hsz]; exact ok.dst j d hd), hv]
  · rw [put_other _ _ _ _ (hd k (.inr rfl))]
    exact h.no d (fun j hj => hd j (.inl hj))
theorem Filled.congr {a0 a : Act} {β : Nat → Value} {L L' : Nat → Prop} (h : Filled a0 a ops cs β L) (he : ∀ j, L j ↔ L' j) : Filled a0 a ops cs β L' :=
  ⟨h.size, h.defers, fun j d hj hd => h.yes j d ((he j).2 hj) hd, fun d hd => h.no d (fun j hj => hd j ((he j).1 hj))⟩
theorem Filled.eq {a0 a b : Act} {β : Nat → Value} {L : Nat → Prop} (h : Filled a0 a ops cs β L) (h' : Filled a0 b ops cs β L) : a = b := by
  refine act_ext (h.size.trans h'.size.symm) (h.defers.trans h'.defers.symm) fun d => ?_
  by_cases hd : ∃ j, L j ∧ dstOf ops j = some d
  · obtain ⟨j, hj, hjd⟩ := hd
    rw [h.yes j d hj hjd, h'.yes j d hj hjd]
  · have hn : ∀ j, L j → dstOf ops j ≠ some d := fun j hj e => hd ⟨j, hj, e⟩
    rw [h.no d hn, h'.no d hn]

theorem filled_at {a0 : Act} {size : Nat} (ok : AnyOk md ops size) (hsz : a0.tmps.size = size) (β : Nat → Value) (k : Nat) : Filled a0 (actAt a0 ops cs β k) ops cs β (fun j => j < k) := by
  induction k with
  | zero => exact ⟨rfl, rfl, fun j d hj => by omega, fun d _ => rfl⟩
  | succ k ih => exact (ih.step ok hsz (β' := β) (fun _ _ => rfl) rfl (Nat.lt_irrefl k)).congr (fun j => by omega)

theorem wanted_agree {o : Oper} {a b : Act} (hs : a.tmps.size = b.tmps.size) (h : ∀ d ∈ o.looksAt ops, a.tmps.getD d undef = b.tmps.getD d undef) :
    Region.wanted o (yielded ops a.tmps) = Region.wanted o (yielded ops b.tmps) := by
  unfold Region.wanted
  cases hg : o.guard with
  | none => rfl
  | some gw =>
    obtain ⟨g, want⟩ := gw
    have hy : yielded ops a.tmps g = yielded ops b.tmps g := by
      unfold yielded
      cases ht : (ops[g]?).bind (·.dst) with
      | none => rfl
      | some t =>
        have h1 := h t (by simp [Oper.looksAt, hg, ht])
        simp only [Option.bind_some]
        by_cases hl : t < a.tmps.size
        · have hl' : t < b.tmps.size := hs ▸ hl
          rw [Array.getElem?_eq_getElem hl, Array.getElem?_eq_getElem hl']
          simp [hl, hl'] at h1
          rw [h1]
        · rw [Array.getElem?_eq_none (Nat.not_lt.1 hl), Array.getElem?_eq_none (hs ▸ Nat.not_lt.1 hl)]
    simp only [hy]
theorem exec_agree {o : Oper} {a b : Act} (hsel : ∀ cs b, o.op ≠ .select cs b) (h : ∀ d ∈ o.looksAt ops, a.tmps.getD d undef = b.tmps.getD d undef) : execOp a.eval o = execOp b.eval o := by
  refine execOp_congr o hsel fun x hx => ?_
  cases x with
  | tmp t => exact h t (List.mem_append_left _ (List.mem_filterMap.2 ⟨.tmp t, by simpa using hx, rfl⟩))
  | _ => rfl

/-- The same operation in a frame that agrees where it looks. -/
theorem wp_agree {o : Oper} {a b : Act} {w : World} {G : Value → World → Prop} (he : execOp a.eval o = execOp b.eval o) (hd : ∀ d, o.dst = some d → d < b.tmps.size)
    (h : o.wp P b w (fun a' w' => ∃ v, a' = b.put o.dst v ∧ G v w') (NoPanic Q)) : o.wp P a w (fun a' w' => ∃ v, a' = a.put o.dst v ∧ G v w') (NoPanic Q) := by
  have key : ∀ u w', (∃ v, b.put o.dst u = b.put o.dst v ∧ G v w') → ∃ v, a.put o.dst u = a.put o.dst v ∧ G v w' := by
    rintro u w' ⟨v, e, hv⟩
    cases hdd : o.dst with
    | none => exact ⟨v, rfl, hv⟩
    | some d =>
      rw [hdd] at e
      have e2 : (b.put (some d) u).tmps.getD d undef = (b.put (some d) v).tmps.getD d undef := by rw [e]
      rw [put_same _ _ _ (hd d hdd), put_same _ _ _ (hd d hdd)] at e2
      exact ⟨v, by rw [e2], hv⟩
  unfold Oper.wp at *
  rw [he]
  generalize (execOp b.eval o).run P w = r at *
  cases r with
  | ok n w' =>
    cases n <;> simp only [Oper.upon] at h ⊢
    case value u => exact key u w' h
    case skip => exact key _ w' h
    case defer d =>
      obtain ⟨v, e, -⟩ := h
      have := congrArg Act.defers e
      rw [put_defers, put_defers] at this
      exact absurd this (by simp)
    case enter f args =>
      refine Calls.mono h fun e w'' he => ?_
      cases e with
      | returned u => exact key u w'' he
      | panicked c => exact he
      | outgrown => exact he
    case row row args => exact Rows.mono h fun u w'' he => key u w'' he
  | halt x w' =>
    cases x <;> simp only [Oper.upon] at h ⊢
    case panic u => exact h

/-- What is shown of operation k, in the frame behind those ahead of it in the text. -/
def DoesAt (P : Program) (md : Region.Mode) (ops : Array Oper) (Q : Exit → Act → World → Prop) (T : Nat → Prop) (w0 : World) (cs : List Cell) (k : Nat) (o : Oper) (a : Act) (c : Cell) : Prop :=
  (Region.wanted o (yielded ops a.tmps) = true ∧ ∀ w, Fr w0 w T → (∀ j d, waits md ops k j = true → dstOf ops j = some d → Rof cs j (a.tmps.getD d undef) w) →
    o.wp P a w (fun a' w' => ∃ v, a' = a.put o.dst v ∧ Fr w w' T ∧ c.met v w') (NoPanic Q)) ∨
  (Region.wanted o (yielded ops a.tmps) = false ∧ (match c with | .c u => u = undef | .b R => ∀ w, Fr w0 w T → R undef w))

structure AnyInv (md : Region.Mode) (ops : Array Oper) (T : Nat → Prop) (w0 : World) (cs : List Cell) (a0 : Act) (β : Nat → Value) (listed : Array Bool) (a : Act) (w : World) : Prop where
  len : listed.size = ops.size
  fill : Filled a0 a ops cs β (fun j => listed.getD j false = true)
  fr : Fr w0 w T
  R : ∀ j, listed.getD j false = true → Rof cs j (β j) w
  down : ∀ j i, listed.getD j false = true → waits md ops j i = true → listed.getD i false = true

theorem listed_of {listed : Array Bool} {n j : Nat} (hl : listed.size = n) (hj : j < n) : listed.getD j true = listed.getD j false := by
  have : j < listed.size := by omega
  simp [this]

theorem any_sound {a0 : Act} {size : Nat} (ok : AnyOk md ops size) (hsz : a0.tmps.size = size) (hlen : cs.length = ops.size)
    (hst : ∀ j v w w', Fr w w' T → Rof cs j v w → Rof cs j v w')
    (hdo : ∀ (β : Nat → Value) k o c, ops[k]? = some o → cs[k]? = some c → DoesAt P md ops Q T w0 cs k o (actAt a0 ops cs β k) c)
    (hend : ∀ (β : Nat → Value) w, Fr w0 w T → (∀ j, j < ops.size → Rof cs j (β j) w) → Q .normal (actAt a0 ops cs β ops.size) w) :
    ∀ (fuel : Nat) (β : Nat → Value) (listed : Array Bool) (a : Act) (w : World), AnyInv md ops T w0 cs a0 β listed a w → (∃ L : List Nat, L.length ≤ fuel ∧ ∀ j, j < ops.size → listed.getD j false = false → j ∈ L) →
      wpAnyH P md ops (NoPanic Q) (fun _ => True) fuel listed a w := by
  have hall : ∀ (β : Nat → Value) (listed : Array Bool) (a : Act) (w : World), AnyInv md ops T w0 cs a0 β listed a w → Region.ready md ops listed = [] → Q .normal a w := by
    intro β listed a w h hr
    have hl : ∀ j, j < ops.size → listed.getD j false = true := by
      intro j
      induction j using Nat.strongRecOn with
      | ind j ih =>
        intro hj
        cases hc : listed.getD j false with
        | true => rfl
        | false =>
          exfalso
          have : j ∈ Region.ready md ops listed := by
            rw [mem_ready]
            refine ⟨by rw [listed_of h.len hj, hc], ops[j], Array.getElem?_eq_getElem hj, fun e he hb => ?_⟩
            have hw : waits md ops j e.on = true := by
              unfold waits
              rw [Array.getElem?_eq_getElem hj]
              exact Array.any_eq_true'.2 ⟨e, he, by simp [hb]⟩
            have := ok.back j _ hw
            exact ih _ this (by omega)
          rw [hr] at this
          cases this
    have e : a = actAt a0 ops cs β ops.size := by
      refine h.fill.eq (((filled_at ok hsz β ops.size).congr (fun j => ?_)))
      constructor
      · exact hl j
      · intro hj
        rcases Nat.lt_or_ge j listed.size with h1 | h1
        · have := h.len; omega
        · simp [Array.getElem?_eq_none h1] at hj
    rw [e]
    exact hend β w h.fr (fun j hj => h.R j (hl j hj))
  intro fuel
  induction fuel with
  | zero =>
    intro β listed a w h ⟨L, hL, hmem⟩
    have hL0 : L = [] := List.eq_nil_of_length_eq_zero (by omega)
    have hr : Region.ready md ops listed = [] := by
      apply List.eq_nil_iff_forall_not_mem.2
      intro j hj
      obtain ⟨h0, o, ho, -⟩ := mem_ready.1 hj
      have hjs := (Array.getElem?_eq_some_iff.1 ho).1
      rw [listed_of h.len hjs] at h0
      have := hmem j hjs h0
      rw [hL0] at this
      cases this
    exact ⟨hr, NoPanic.normal (hall β listed a w h hr)⟩
  | succ fuel ih =>
    intro β listed a w h ⟨L, hL, hmem⟩
    refine ⟨fun hr => NoPanic.normal (hall β listed a w h hr), fun i hi => ?_⟩
    obtain ⟨h0, o, ho, haft⟩ := mem_ready.1 hi
    have his : i < ops.size := (Array.getElem?_eq_some_iff.1 ho).1
    have hi0 : listed.getD i false = false := by rw [← listed_of h.len his]; exact h0
    have hdst : dstOf ops i = o.dst := by unfold dstOf; rw [ho]; rfl
    have hA := filled_at (cs := cs) ok hsz β i
    have hwl : ∀ j, waits md ops i j = true → listed.getD j false = true := fun j hw => by
      unfold waits at hw
      rw [ho] at hw
      obtain ⟨e, he, hb⟩ := Array.any_eq_true'.1 hw
      rw [Bool.and_eq_true, beq_iff_eq] at hb
      rw [← hb.2]
      exact haft e he hb.1
    have hag : ∀ d ∈ o.looksAt ops, a.tmps.getD d undef = (actAt a0 ops cs β i).tmps.getD d undef := by
      intro d hd
      by_cases hj : ∃ j, dstOf ops j = some d
      · obtain ⟨j, hj⟩ := hj
        rcases ok.look i j o d ho hj hd with rfl | ⟨h1, h2⟩ | ⟨h1, h2⟩
        · rw [h.fill.no d (fun j' hj' e => by rw [ok.one j' j d e hj] at hi0; rw [hi0] at hj'; cases hj'), hA.no d (fun j' hj' e => by have := ok.one j' j d e hj; omega)]
        · rw [h.fill.yes j d (hwl j h2) hj, hA.yes j d h1 hj]
        · have hjn : listed.getD j false = false := by
            cases hc : listed.getD j false with
            | false => rfl
            | true => rw [h.down j i hc h2] at hi0; cases hi0
          rw [h.fill.no d (fun j' hj' e => by rw [ok.one j' j d e hj] at hjn; rw [hjn] at hj'; cases hj'), hA.no d (fun j' hj' e => by have := ok.one j' j d e hj; omega)]
      · have hn : ∀ j, dstOf ops j ≠ some d := fun j e => hj ⟨j, e⟩
        rw [h.fill.no d (fun j _ => hn j), hA.no d (fun j _ => hn j)]
    obtain ⟨c, hc⟩ : ∃ c, cs[i]? = some c := ⟨_, List.getElem?_eq_getElem (by omega)⟩
    have hrest : ∀ (v : Value) (w' : World), Fr w w' T → c.met v w' →
        wpAnyH P md ops (NoPanic Q) (fun _ => True) fuel (listed.setIfInBounds i true) (a.put o.dst v) w' := by
      intro v w' hf hv
      refine ih (fun j => if j = i then v else β j) _ _ _ ⟨by simpa using h.len, ?_, h.fr.trans hf (fun _ _ ht => ht), fun j hj => ?_, fun j k hj hw => ?_⟩ ⟨L.erase i, ?_, fun j hj hjn => ?_⟩
      · have hval : valOf cs (fun j => if j = i then v else β j) i = v := by
          unfold valOf
          rw [hc]
          cases c with
          | c u => exact (show v = u from hv).symm
          | b R => simp
        have := (h.fill.step ok hsz (β' := fun j => if j = i then v else β j) (fun j hj => by simp [hj]) hval (by rw [hi0]; simp))
        rw [hdst] at this
        refine this.congr (fun j => ?_)
        constructor
        · rintro (hj | rfl)
          · exact getD_set_true hj
          · have : j < listed.size := by rw [h.len]; exact his
            simp [this]
        · intro hj
          by_cases hji : j = i
          · exact .inr hji
          · rw [getD_set_ne false (Ne.symm hji)] at hj; exact .inl hj
      · by_cases hji : j = i
        · subst hji
          simp only [if_true]
          unfold Rof
          rw [hc]
          cases c with
          | c u => trivial
          | b R => exact hv
        · rw [getD_set_ne false (Ne.symm hji)] at hj
          simp only [hji, if_false]
          exact hst j _ _ _ hf (h.R j hj)
      · by_cases hji : j = i
        · subst hji
          exact getD_set_true (hwl k hw)
        · rw [getD_set_ne false (Ne.symm hji)] at hj
          exact getD_set_true (h.down j k hj hw)
      · have : i ∈ L := hmem i his hi0
        rw [List.length_erase_of_mem this]; omega
      · by_cases hji : j = i
        · subst hji
          have : j < listed.size := by rw [h.len]; exact his
          simp [this] at hjn
        · rw [getD_set_ne false (Ne.symm hji)] at hjn
          exact (List.mem_erase_of_ne hji).2 (hmem j hj hjn)
    have hd := hdo β i o c ho hc
    have hasz : a.tmps.size = (actAt a0 ops cs β i).tmps.size := h.fill.size.trans hA.size.symm
    unfold wpOp
    simp only [ho]
    rw [wanted_agree hasz hag]
    rcases hd with ⟨hw, hd⟩ | ⟨hw, hd⟩
    · rw [hw]
      simp only [if_true]
      refine .inl ?_
      have hRs : ∀ j d, waits md ops i j = true → dstOf ops j = some d → Rof cs j ((actAt a0 ops cs β i).tmps.getD d undef) w := by
        intro j d hwj hdj
        have hR := h.R j (hwl j hwj)
        rw [hA.yes j d (ok.back i j hwj) hdj]
        unfold Rof at hR ⊢
        unfold valOf
        split
        · rename_i R hcj
          rw [hcj] at hR
          simp only [hcj]
          exact hR
        · trivial
      have h1 := hd w h.fr hRs
      have h2 := wp_agree (a := a) (exec_agree (fun cs b => Region.noSelect_spec ok.sel i o cs b ho) hag) (fun d hdd => by rw [hA.size, hsz]; exact ok.dst i d (hdst.trans hdd)) h1
      refine Oper.wp_mono ?_ h2
      rintro a' w' ⟨v, rfl, hf, hv⟩
      exact ⟨trivial, hrest v w' hf hv⟩
    · rw [hw]
      simp only [Bool.false_eq_true, if_false]
      refine ⟨trivial, hrest undef w (Fr.refl _ _) ?_⟩
      cases c with
      | c u => exact hd.symm
      | b R => exact hd w h.fr

/-- The walk, once, in the order of the text. -/
def wpAll (P : Program) (md : Region.Mode) (ops : Array Oper) (Q : Exit → Act → World → Prop) (T : Nat → Prop) (w0 : World) (cs : List Cell) : List Cell → Nat → Act → Prop
  | [], _, a => ∀ w, Fr w0 w T → (∀ j d, dstOf ops j = some d → Rof cs j (a.tmps.getD d undef) w) → Q .normal a w
  | .c v :: r, k, a => ∃ o, ops[k]? = some o ∧ DoesAt P md ops Q T w0 cs k o a (.c v) ∧ wpAll P md ops Q T w0 cs r (k + 1) (a.put o.dst v)
  | .b R :: r, k, a => ∃ o, ops[k]? = some o ∧ DoesAt P md ops Q T w0 cs k o a (.b R) ∧ ∀ v, wpAll P md ops Q T w0 cs r (k + 1) (a.put o.dst v)

theorem wpAll_at {a0 : Act} (hlen : cs.length = ops.size) (h : wpAll P md ops Q T w0 cs cs 0 a0) (β : Nat → Value) : ∀ k, k ≤ ops.size → wpAll P md ops Q T w0 cs (cs.drop k) k (actAt a0 ops cs β k) ∧
    ∀ i o c, i < k → ops[i]? = some o → cs[i]? = some c → DoesAt P md ops Q T w0 cs i o (actAt a0 ops cs β i) c := by
  intro k
  induction k with
  | zero => intro _; exact ⟨h, fun i o c hi => by omega⟩
  | succ k ih =>
    intro hk
    obtain ⟨h1, h2⟩ := ih (by omega)
    have hkl : k < cs.length := by omega
    rw [List.drop_eq_getElem_cons hkl] at h1
    have hck : cs[k]? = some cs[k] := List.getElem?_eq_getElem hkl
    generalize cs[k] = c at h1 hck
    have key : ∃ o, ops[k]? = some o ∧ DoesAt P md ops Q T w0 cs k o (actAt a0 ops cs β k) c ∧ wpAll P md ops Q T w0 cs (cs.drop (k + 1)) (k + 1) (actAt a0 ops cs β (k + 1)) := by
      cases c with
      | c v =>
        obtain ⟨o, ho, hd, hr⟩ := h1
        refine ⟨o, ho, hd, ?_⟩
        have e1 : dstOf ops k = o.dst := by unfold dstOf; rw [ho]; rfl
        have e2 : valOf cs β k = v := by unfold valOf; rw [hck]
        rw [actAt, e1, e2]
        exact hr
      | b R =>
        obtain ⟨o, ho, hd, hr⟩ := h1
        refine ⟨o, ho, hd, ?_⟩
        have e1 : dstOf ops k = o.dst := by unfold dstOf; rw [ho]; rfl
        rw [actAt, e1]
        exact hr _
    obtain ⟨o, ho, hd, hr⟩ := key
    refine ⟨hr, fun i o' c' hi ho' hc' => ?_⟩
    by_cases hik : i = k
    · subst hik
      rw [ho] at ho'
      rw [hck] at hc'
      cases ho'
      cases hc'
      exact hd
    · exact h2 i o' c' (by omega) ho' hc'

/-- The conditions last. -/
inductive Lasts (T : Nat → Prop) : List Cell → Prop
  | nil : Lasts T []
  | c {v : Value} {r : List Cell} (h : Lasts T r) : Lasts T (.c v :: r)
  | b {R : Value → World → Prop} {r : List Cell} (hR : ∀ v w w', Fr w w' T → R v w → R v w') (h : Lasts T r) : Lasts T (.b R :: r)
theorem Lasts.all (h : Lasts T cs) : ∀ j v w w', Fr w w' T → Rof cs j v w → Rof cs j v w' := by
  induction h with
  | nil => intro j v w w' _ _; unfold Rof; simp
  | c h ih =>
    intro j v w w' hf hr
    cases j with
    | zero => trivial
    | succ j => exact ih j v w w' hf hr
  | b hR h ih =>
    intro j v w w' hf hr
    cases j with
    | zero => exact hR v w w' hf hr
    | succ j => exact ih j v w w' hf hr

/-- The law. -/
theorem wp_region_all {id : Nat} {a : Act} {w : World} {l : List Oper} (T : Nat → Prop) (cs : List Cell) (hm : P.follows .mixedOrders = true)
    (hc : anyChk .any l.toArray a.tmps.size = true) (hlen : cs.length = l.length) (hLasts : Lasts T cs)
    (h : wpAll P .any l.toArray Q T w.drew cs cs 0 a) : (Code.region id l.toArray true).wp P Q a w := by
  have ok := anyOk hc
  have hst := hLasts.all
  have hlen' : cs.length = l.toArray.size := by simpa using hlen
  refine wp_region_noPanic (wp_region_held (S := fun _ => True) hm ?_)
  refine any_sound ok rfl hlen' hst (fun β k o c ho hck => ?_) (fun β w' hf hR => ?_) _ (fun _ => undef) _ a w.drew ⟨by simp, ⟨rfl, rfl, fun j d hj => ?_, fun d _ => rfl⟩, Fr.refl _ _, fun j hj => ?_, fun j i hj => ?_⟩ ⟨List.range l.length, by simp, fun j hj _ => by simpa using hj⟩
  · exact (wpAll_at hlen' h β (k + 1) (Array.getElem?_eq_some_iff.1 ho).1).2 k o c (Nat.lt_succ_self k) ho hck
  · have h1 := (wpAll_at hlen' h β l.toArray.size (Nat.le_refl _)).1
    rw [List.drop_eq_nil_of_le (by omega)] at h1
    refine h1 w' hf (fun j d hd => ?_)
    have hj := dstOf_lt hd
    rw [(filled_at (cs := cs) ok rfl β l.toArray.size).yes j d hj hd]
    have := hR j hj
    unfold Rof at this ⊢
    unfold valOf
    split
    · rename_i R hcj
      rw [hcj] at this
      simp only [hcj]
      exact this
    · trivial
  all_goals
    rcases Nat.lt_or_ge j l.length with h1 | h1
    · simp [h1] at hj
    · simp [h1] at hj

theorem wpAll_nil {l : List Oper} {k : Nat} {a : Act} (h : ∀ w, Fr w0 w T → (∀ j d, dstOf l.toArray j = some d → Rof cs j (a.tmps.getD d undef) w) → Q .normal a w) : wpAll P md l.toArray Q T w0 cs [] k a := h
/-- An operation that does nothing but yield this value. -/
theorem wpAll_take {l : List Oper} {k : Nat} {o : Oper} {v : Value} {r : List Cell} {a : Act} (ho : l[k]? = some o) (hw : Region.wanted o (yielded l.toArray a.tmps) = true)
    (hy : ∀ x, Fr w0 x T → (execOp a.eval o).run P x = .ok (.value v) x) (h : wpAll P md l.toArray Q T w0 cs r (k + 1) (a.put o.dst v)) : wpAll P md l.toArray Q T w0 cs (.c v :: r) k a := by
  refine ⟨o, by simpa using ho, .inl ⟨hw, fun x hx _ => ?_⟩, h⟩
  unfold Oper.wp
  rw [hy x hx]
  exact ⟨v, rfl, Fr.refl _ _, rfl⟩
/-- One that isn't wanted. -/
theorem wpAll_pass {l : List Oper} {k : Nat} {o : Oper} {v : Value} {r : List Cell} {a : Act} (ho : l[k]? = some o) (hw : Region.wanted o (yielded l.toArray a.tmps) = false) (hv : v = undef)
    (h : wpAll P md l.toArray Q T w0 cs r (k + 1) (a.put o.dst v)) : wpAll P md l.toArray Q T w0 cs (.c v :: r) k a :=
  ⟨o, by simpa using ho, .inr ⟨hw, hv⟩, h⟩
/-- One whose value is told (a call, say). -/
theorem wpAll_call {l : List Oper} {k : Nat} {o : Oper} {v : Value} {r : List Cell} {a : Act} (ho : l[k]? = some o) (hw : Region.wanted o (yielded l.toArray a.tmps) = true)
    (hy : ∀ x, Fr w0 x T → (∀ j d, waits md l.toArray k j = true → dstOf l.toArray j = some d → Rof cs j (a.tmps.getD d undef) x) → ∀ K : Act → World → Prop, (∀ w', Fr x w' T → K (a.put o.dst v) w') → o.wp P a x K (NoPanic Q))
    (h : wpAll P md l.toArray Q T w0 cs r (k + 1) (a.put o.dst v)) : wpAll P md l.toArray Q T w0 cs (.c v :: r) k a :=
  ⟨o, by simpa using ho, .inl ⟨hw, fun x hx hR => hy x hx hR _ (fun w' hf => ⟨v, rfl, hf, rfl⟩)⟩, h⟩
/-- One whose value meets the condition (new memory, say). -/
theorem wpAll_make {l : List Oper} {k : Nat} {o : Oper} {R : Value → World → Prop} {r : List Cell} {a : Act} (ho : l[k]? = some o) (hw : Region.wanted o (yielded l.toArray a.tmps) = true)
    (hy : ∀ x, Fr w0 x T → (∀ j d, waits md l.toArray k j = true → dstOf l.toArray j = some d → Rof cs j (a.tmps.getD d undef) x) → ∀ K : Act → World → Prop, (∀ v w', Fr x w' T → R v w' → K (a.put o.dst v) w') → o.wp P a x K (NoPanic Q))
    (h : ∀ v, wpAll P md l.toArray Q T w0 cs r (k + 1) (a.put o.dst v)) : wpAll P md l.toArray Q T w0 cs (.b R :: r) k a :=
  ⟨o, by simpa using ho, .inl ⟨hw, fun x hx hR => hy x hx hR _ (fun v w' hf hv => ⟨v, rfl, hf, hv⟩)⟩, h⟩

end
end Go.Proofs.Ytclfbdfgmeliaaa

/-
  Slices of ints that can be read; the contracts of the helper Ints ; what Kraft and Cost are of ints (no reference).
-/
namespace Go.Proofs.Ytclfbdfgmeliaaa
open Go.RowKit
set_option maxRecDepth 4000

def zrow (zs : List Int) : List Value := zs.map (Value.int .i64)
/-- A slice of ints that can be read. -/
def ReadsZ (w : World) (v : Value) (zs : List Int) : Prop := Holds w v (zrow zs)
theorem zrow_length (zs : List Int) : (zrow zs).length = zs.length := by simp [zrow]
theorem zrow_get (zs : List Int) (i : Nat) (z : Int) (h : zs[i]? = some z) : (zrow zs)[i]? = some (.int .i64 z) := by simp [zrow, h]
theorem ReadsZ.keep {w w' : World} {v : Value} {zs : List Int} (h : ReadsZ w v zs) (f : Fr w w' (fun _ => False)) : ReadsZ w' v zs := Holds.keep h f
theorem Reads.z {w : World} {v : Value} {bs : List Nat} (h : Reads .i64 w v bs) : ReadsZ w v (bs.map fun (b : Nat) => (b : Int)) := by
  unfold ReadsZ zrow
  rw [List.map_map]
  exact h
theorem ReadsZ.form {w : World} {v : Value} {zs : List Int} (h : ReadsZ w v zs) : ∃ a c, v = .slice a zs.length c ∧ zs.length ≤ c := by
  obtain ⟨a, c, e, hl, _⟩ := h
  rw [zrow_length] at e hl
  exact ⟨a, c, e, hl⟩
theorem ReadsZ.get {w : World} {v : Value} {zs : List Int} (h : ReadsZ w v zs) (i : Nat) (z : Int) (hz : zs[i]? = some z) : ∃ b off c, v = .slice (some ⟨b, off, none⟩) zs.length c ∧ b < w.heap.size ∧ ∀ x, Fr w x (fun _ => False) → x.cell? ⟨b, off + i, none⟩ = some (.int .i64 z) := by
  obtain ⟨a, c, rfl, hl, hc⟩ := h
  have hi := (List.getElem?_eq_some_iff.1 hz).1
  rw [zrow_length] at hc
  obtain ⟨b, off, rfl, hcell⟩ := hc (by omega)
  have h1 := hcell i _ (zrow_get zs i z hz)
  have h2 := World.block_lt_of_cell? _ _ h1
  refine ⟨b, off, c, by rw [zrow_length], h2, fun x hx => ?_⟩
  rw [World.cell?_of_block (w := w) (hx.block b h2 (fun h => h))]
  exact h1

set_option maxHeartbeats 800000 in
theorem ints_any (va vb : Value) (as' bs : List Int) (w : World) (ha : ReadsZ w va as') (hb : ReadsZ w vb bs) (hla : as'.length ≤ 1000000000000) :
    Calls Try.prog 12 #[va, vb] w fun e w' => e = .returned (.bool (decide (as' = bs))) ∧ Fr w w' (fun _ => False) := by
  obtain ⟨a0, c0, rfl, hc0⟩ := ha.form
  obtain ⟨a1, c1, rfl, hc1⟩ := hb.form
  have Ha : Hid (ReadsZ w (.slice a0 as'.length c0) as') := ha
  have Hb : Hid (ReadsZ w (.slice a1 bs.length c1) bs) := hb
  obtain ⟨n, hn⟩ : ∃ n, n = as'.length := ⟨_, rfl⟩
  obtain ⟨m, hm⟩ : ∃ m, m = bs.length := ⟨_, rfl⟩
  obtain ⟨D, hD⟩ : ∃ D, D = decide (as' = bs) := ⟨_, rfl⟩
  rw [← hn] at Ha hc0 hla ⊢
  rw [← hm] at Hb hc1 ⊢
  rw [← hD]
  have Hn : Hid _ := hn
  have Hm : Hid _ := hm
  have HD : Hid _ := hD
  clear ha hb hn hm hD
  by_cases hnm : n = m
  · subst hnm
    go_enter Try.func12, Try.ntmps12
    go_wp2_with fail
    go_loopg [5] n (fun g I wr => ∃ i : Nat, g = n - i ∧ i ≤ n ∧ I = .int .i64 (i : Int) ∧ as'.take i = bs.take i ∧ Fr w wr (fun _ => False))
    case atStart => exact ⟨0, rfl, by omega, rfl, by simp, Fr.refl _ _⟩
    case round =>
      obtain ⟨i, hg, hi, rfl, heq, hf⟩ := hrel
      have Hg : Hid _ := hg
      have Heq : Hid _ := heq
      clear hg heq
      by_cases hlt : i < n
      · obtain ⟨x, hx⟩ : ∃ x, as'[i]? = some x := ⟨_, List.getElem?_eq_getElem (by rw [← Hn.out]; exact hlt)⟩
        obtain ⟨y, hy⟩ : ∃ y, bs[i]? = some y := ⟨_, List.getElem?_eq_getElem (by rw [← Hm.out]; exact hlt)⟩
        obtain ⟨b, off, cp, e, hb0, kx⟩ := (Ha.out.keep hf).get i x hx
        obtain ⟨b', off', cp', e', hb1, ky⟩ := (Hb.out.keep hf).get i y hy
        simp only [Value.slice.injEq] at e e'
        obtain ⟨rfl, -, rfl⟩ := e
        obtain ⟨rfl, -, rfl⟩ := e'
        have kx' : ∀ z, Fr wr.drew z (fun _ => False) → z.cell? ⟨b, off + i, none⟩ = some (.int .i64 x) := fun z hz => kx z ((Fr.refl wr _).drew.none hz)
        have ky' : ∀ z, Fr wr.drew z (fun _ => False) → z.cell? ⟨b', off' + i, none⟩ = some (.int .i64 y) := fun z hz => ky z ((Fr.refl wr _).drew.none hz)
        have hi1 : (i : Int) < (n : Int) := by omega
        have Hx : Hid _ := hx
        have Hy : Hid _ := hy
        clear kx ky hx hy
        go_wp2
        refine wp_region_all (fun _ => False) [.c ?_, .c ?_, .c ?_, .c ?_, .c ?_, .c ?_, .c ?_, .c ?_, .c ?_] (by kernel_rfl) (by kernel_rfl) rfl ?last ?walk
        case last => repeat (first | exact Lasts.nil | refine Lasts.c ?_)
        case walk =>
          repeat (refine wpAll_take rfl rfl (fun x hx => ?_) ?_; (focus (go_simp; with_reducible rfl)); simp only [Act.put, List.setIfInBounds_toArray, List.set_cons_zero, List.set_cons_succ])
          refine wpAll_nil (fun wx hfx _ => ?_)
          replace hfx := hf.drew.none hfx
          by_cases hxy : x = y
          · subst hxy
            go_wp2
            go_roundg (n - (i + 1))
            case rel =>
              refine ⟨i + 1, rfl, by omega, by go_num, ?_, hfx⟩
              rw [List.take_add_one, List.take_add_one, Hx.out, Hy.out, Heq.out]
            case measure => rw [Hg.out]; omega
          · have hne : (x != y) = true := by simpa using hxy
            have HDf : Hid (D = false) := by
              show _ = _
              rw [HD.out]
              refine decide_eq_false fun e => hxy ?_
              have := Hx.out
              rw [e, Hy.out] at this
              simpa using this.symm
            go_wp2
            go_ret
            exact ⟨by rw [HDf.out]; rfl, hfx⟩
      · have HDt : Hid (D = true) := by
          show _ = _
          rw [HD.out]
          refine decide_eq_true ?_
          have := Heq.out
          rwa [List.take_of_length_le (by rw [← Hn.out]; omega), List.take_of_length_le (by rw [← Hm.out]; omega)] at this
        go_wp2
        go_ret
        exact ⟨by rw [HDt.out]; rfl, hf⟩
  · have HDf : Hid (D = false) := by
      show _ = _
      rw [HD.out]
      exact decide_eq_false fun e => hnm (by rw [Hn.out, Hm.out, e])
    have hne : ((n : Int) != (m : Int)) = true := by simp; omega
    have hne2 : (n != m) = true := by simp; omega
    go_enter Try.func12, Try.ntmps12
    go_wp2
    go_ret
    exact ⟨by rw [HDf.out]; rfl, Fr.refl _ _⟩

/-- A count counts as this; a greatest length as that. -/
def clampN (z : Int) : Nat := (min (max z 0) 1099511627776).toNat
def clampM (z : Int) : Nat := (min (max z 1) 15).toNat
theorem clampN_le (z : Int) : clampN z ≤ 1099511627776 := by unfold clampN; omega
theorem wrap64_small (z : Int) (h0 : 0 ≤ z) (h1 : z ≤ 9223372036854775807) : wrap64 z = z := by
  unfold wrap64
  omega

/-- Kraft's sum of any ints. -/
def kraftZ (zs : List Int) : Nat := (zs.map fun z => if 1 ≤ z ∧ z ≤ 15 then 2 ^ (15 - z.toNat) else 0).sum
theorem kraftZ_snoc (zs : List Int) (z : Int) : kraftZ (zs ++ [z]) = kraftZ zs + if 1 ≤ z ∧ z ≤ 15 then 2 ^ (15 - z.toNat) else 0 := by simp [kraftZ]
theorem kraftZ_le (zs : List Int) : kraftZ zs ≤ zs.length * 16384 := by
  induction zs with
  | nil => simp [kraftZ]
  | cons z zs ih =>
    simp only [kraftZ, List.map_cons, List.sum_cons, List.length_cons] at ih ⊢
    have : (if 1 ≤ z ∧ z ≤ 15 then 2 ^ (15 - z.toNat) else 0) ≤ 16384 := by
      split
      · rename_i h
        exact Nat.le_trans (Nat.pow_le_pow_right (by omega) (by omega : 15 - z.toNat ≤ 14)) (by decide)
      · omega
    omega
theorem kraftZ_nat (bs : List Nat) : kraftZ (bs.map fun (b : Nat) => (b : Int)) = kraftOf bs := by
  unfold kraftZ kraftOf
  rw [List.map_map]
  congr 1
  apply List.map_congr_left
  intro b _
  simp only [Function.comp, Int.toNat_natCast]
  by_cases h : 1 ≤ b ∧ b ≤ 15
  · rw [if_pos h, if_pos (by omega)]
  · rw [if_neg h, if_neg (by omega)]
theorem takeZ_step {zs : List Int} {i : Nat} {z : Int} (h : zs[i]? = some z) : zs.take (i + 1) = zs.take i ++ [z] := by rw [List.take_add_one, h]; rfl

/-- All counts times their lengths, as far as both go. -/
def costZ (zs : List Int) (ls : List Nat) : Nat := (List.zipWith (fun z l => clampN z * l) zs ls).sum
theorem costZ_step {zs : List Int} {ls : List Nat} {i : Nat} {z : Int} {l : Nat} (hz : zs[i]? = some z) (hl : ls[i]? = some l) : costZ (zs.take (i + 1)) (ls.take (i + 1)) = costZ (zs.take i) (ls.take i) + clampN z * l := by
  have h1 := (List.getElem?_eq_some_iff.1 hz).1
  have h2 := (List.getElem?_eq_some_iff.1 hl).1
  unfold costZ
  rw [takeZ_step hz, show ls.take (i + 1) = ls.take i ++ [l] by rw [List.take_add_one, hl]; rfl, List.zipWith_append (by rw [List.length_take, List.length_take]; omega)]
  simp
theorem costZ_le (zs : List Int) (ls : List Nat) (h : ∀ l ∈ ls, l ≤ 63) : costZ zs ls ≤ zs.length * 69269232549888 := by
  induction zs generalizing ls with
  | nil => simp [costZ]
  | cons z zs ih =>
    cases ls with
    | nil => simp [costZ]
    | cons l ls =>
      have h1 := ih ls (fun x hx => h x (by simp [hx]))
      have h2 := Nat.mul_le_mul (clampN_le z) (h l (by simp))
      simp only [costZ, List.zipWith_cons_cons, List.sum_cons, List.length_cons] at h1 ⊢
      omega
theorem costZ_all (zs : List Int) (ls : List Nat) (i : Nat) (h : zs.length ≤ i ∨ ls.length ≤ i) : costZ (zs.take i) (ls.take i) = costZ zs ls := by
  unfold costZ
  rw [← List.take_zipWith, List.take_of_length_le (by rw [List.length_zipWith]; omega)]

end Go.Proofs.Ytclfbdfgmeliaaa

/-
  Which lengths may be, of ints: plain mathematics, no program.
-/
namespace Go.Proofs.Ytclfbdfgmeliaaa

def someZ (zs : List Int) : Nat := zs.countP fun z => decide (0 < z)
def oneZ (zs : List Int) : Bool := zs.all fun z => decide (0 < z → z = 1)
def inZ (zs : List Int) : Bool := zs.all fun z => decide (0 ≤ z ∧ z ≤ 15)
def rightB (zs : List Int) : Bool := decide (zs.length ≤ 256) && inZ zs && ((decide (someZ zs = 1) && oneZ zs) || decide (kraftZ zs = 32768))

theorem someZ_snoc (zs : List Int) (z : Int) : someZ (zs ++ [z]) = someZ zs + if 0 < z then 1 else 0 := by
  unfold someZ
  rw [List.countP_append, List.countP_singleton]
  by_cases h : 0 < z <;> simp [h]
theorem oneZ_snoc (zs : List Int) (z : Int) : oneZ (zs ++ [z]) = (oneZ zs && decide (0 < z → z = 1)) := by simp [oneZ]
theorem inZ_snoc (zs : List Int) (z : Int) : inZ (zs ++ [z]) = (inZ zs && decide (0 ≤ z ∧ z ≤ 15)) := by simp [inZ]
theorem inZ_bad {zs : List Int} {z : Int} (h : z ∈ zs) (hz : z < 0 ∨ 15 < z) : inZ zs = false := by
  cases h1 : inZ zs with
  | false => rfl
  | true =>
    unfold inZ at h1
    have := List.all_eq_true.1 h1 z h
    simp at this
    omega
theorem someZ_le (zs : List Int) : someZ zs ≤ zs.length := List.countP_le_length

/-- Lengths that may be, as numbers. -/
def nats (zs : List Int) : List Nat := zs.map Int.toNat
theorem nats_length (zs : List Int) : (nats zs).length = zs.length := by simp [nats]
theorem nats_back {zs : List Int} (h : inZ zs = true) : (nats zs).map (fun (n : Nat) => (n : Int)) = zs := by
  unfold nats
  rw [List.map_map]
  conv => rhs; rw [← List.map_id zs]
  apply List.map_congr_left
  intro z hz
  have := List.all_eq_true.1 h z hz
  simp at this
  simp
  omega
theorem rightB_in {zs : List Int} (h : rightB zs = true) : inZ zs = true := by
  unfold rightB at h
  simp at h
  exact h.1.2
theorem rightB_len {zs : List Int} (h : rightB zs = true) : zs.length ≤ 256 := by
  unfold rightB at h
  simp at h
  exact h.1.1
theorem someZ_nats {zs : List Int} : someOf (nats zs) = someZ zs := by
  unfold someOf someZ nats
  rw [List.countP_map]
  congr 1
  funext z
  simp
theorem right_nats {zs : List Int} (h : rightB zs = true) : RightL (nats zs) := by
  have hi := rightB_in h
  have hb := nats_back hi
  refine ⟨by rw [nats_length]; exact rightB_len h, fun n hn => ?_, ?_⟩
  · obtain ⟨z, hz, rfl⟩ := List.mem_map.1 hn
    have := List.all_eq_true.1 hi z hz
    simp at this
    omega
  · unfold rightB at h
    simp only [Bool.and_eq_true, Bool.or_eq_true, decide_eq_true_eq] at h
    rcases h.2 with ⟨h1, h2⟩ | h1
    · refine .inl ⟨by rw [someZ_nats]; exact h1, fun n hn h0 => ?_⟩
      obtain ⟨z, hz, rfl⟩ := List.mem_map.1 hn
      have := List.all_eq_true.1 h2 z hz
      simp at this
      omega
    · refine .inr ?_
      rw [← hb, kraftZ_nat] at h1
      rw [h1]
theorem right_of_nats (l : List Nat) : rightB (l.map fun (n : Nat) => (n : Int)) = true ↔ RightL l := by
  have hn : nats (l.map fun (n : Nat) => (n : Int)) = l := by
    unfold nats
    rw [List.map_map]
    conv => rhs; rw [← List.map_id l]
    apply List.map_congr_left
    intro n _
    simp
  constructor
  · intro h
    have := right_nats h
    rwa [hn] at this
  · intro h
    unfold rightB
    have hi : inZ (l.map fun (n : Nat) => (n : Int)) = true := by
      unfold inZ
      rw [List.all_eq_true]
      intro z hz
      obtain ⟨n, hm, rfl⟩ := List.mem_map.1 hz
      have := h.le n hm
      simp
      omega
    rw [hi, kraftZ_nat, List.length_map, decide_eq_true h.most]
    simp only [Bool.and_self, Bool.true_and, Bool.or_eq_true, Bool.and_eq_true, decide_eq_true_eq]
    rcases h.how with ⟨h1, h2⟩ | h1
    · refine .inl ⟨by rw [← someZ_nats, hn]; exact h1, ?_⟩
      unfold oneZ
      rw [List.all_eq_true]
      intro z hz
      obtain ⟨n, hm, rfl⟩ := List.mem_map.1 hz
      have := h2 n hm
      simp
      omega
    · exact .inr h1
/-- The codes of lengths; nothing of those that may not be. -/
def codesZ (zs : List Int) : List Nat := if rightB zs = true then (List.range zs.length).map (codeOf (nats zs)) else []

end Go.Proofs.Ytclfbdfgmeliaaa

/-
  The reference's clamp and Kraft.
-/
namespace Go.Proofs.Ytclfbdfgmeliaaa
open Go.RowKit
set_option maxRecDepth 4000

set_option maxHeartbeats 400000 in
theorem refClamp_any (z : Int) (w : World) : Calls Try.prog 32 #[.int .i64 z] w fun e w' => e = .returned (.int .i64 (clampN z : Nat)) ∧ w' = w := by
  obtain ⟨c, hc⟩ : ∃ c, c = clampN z := ⟨_, rfl⟩
  rw [← hc]
  have Hc : Hid ((c : Int) = min (max z 0) 1099511627776) := by show _ = _; rw [hc]; unfold clampN; omega
  clear hc
  by_cases h0 : z < 0
  · have He : Hid ((c : Int) = 0) := by show _ = _; rw [Hc.out]; omega
    go_enter Try.func32, Try.ntmps32
    go_wp2
    go_ret
    exact ⟨by rw [He.out]; rfl, rfl⟩
  · by_cases h1 : 1099511627776 < z
    · have He : Hid ((c : Int) = 1099511627776) := by show _ = _; rw [Hc.out]; omega
      go_enter Try.func32, Try.ntmps32
      go_wp2
      go_ret
      exact ⟨by rw [He.out]; rfl, rfl⟩
    · have He : Hid ((c : Int) = z) := by show _ = _; rw [Hc.out]; omega
      go_enter Try.func32, Try.ntmps32
      go_wp2
      go_ret
      exact ⟨by rw [He.out]; rfl, rfl⟩

set_option maxHeartbeats 800000 in
theorem refKraft_any (v : Value) (zs : List Int) (w : World) (h : ReadsZ w v zs) (hl : zs.length ≤ 1000000) :
    Calls Try.prog 45 #[v] w fun e w' => e = .returned (.int .i64 (kraftZ zs : Nat)) ∧ w' = w := by
  obtain ⟨a0, c0, rfl, hc0⟩ := h.form
  have Hz : Hid (ReadsZ w (.slice a0 zs.length c0) zs) := h
  obtain ⟨n, hn⟩ : ∃ n, n = zs.length := ⟨_, rfl⟩
  rw [← hn] at Hz hc0 hl ⊢
  have Hn : Hid _ := hn
  clear h hn
  go_enter Try.func45, Try.ntmps45
  go_wp2_with fail
  go_loopg [3, 4] n (fun g K I wr => ∃ i k : Nat, g = n - i ∧ i ≤ n ∧ I = .int .i64 (i : Int) ∧ K = .int .i64 (k : Int) ∧ k = kraftZ (zs.take i) ∧ wr = w)
  case atStart => exact ⟨0, 0, rfl, by omega, rfl, rfl, by simp [kraftZ], rfl⟩
  case round =>
    obtain ⟨i, k, hg, hi, rfl, rfl, hk, rfl⟩ := hrel
    have Hg : Hid _ := hg
    have Hk : Hid _ := hk
    have hkb : k ≤ 16384000000 := by
      have := kraftZ_le (zs.take i)
      rw [← hk, List.length_take, ← Hn.out] at this
      omega
    clear hg hk
    by_cases hlt : i < n
    · obtain ⟨x, hx⟩ : ∃ x, zs[i]? = some x := ⟨_, List.getElem?_eq_getElem (by rw [← Hn.out]; exact hlt)⟩
      obtain ⟨b, off, cp, e, hb0, kx⟩ := Hz.out.get i x hx
      simp only [Value.slice.injEq] at e
      obtain ⟨rfl, -, rfl⟩ := e
      have cx := kx wr (Fr.refl _ _)
      have Hst : Hid (kraftZ (zs.take (i + 1)) = k + if 1 ≤ x ∧ x ≤ 15 then 2 ^ (15 - x.toNat) else 0) := by
        show _ = _
        rw [takeZ_step hx, kraftZ_snoc, ← Hk.out]
      clear kx hx
      by_cases h1 : 1 ≤ x
      · by_cases h15 : x ≤ 15
        · obtain ⟨d, hd⟩ : ∃ d, d = 15 - x.toNat := ⟨_, rfl⟩
          have hde : 15 - x = (d : Int) := by omega
          have hd14 : d ≤ 14 := by omega
          have Hs2 : Hid (kraftZ (zs.take (i + 1)) = k + 2 ^ d) := by show _ = _; rw [Hst.out, if_pos ⟨h1, h15⟩, hd]
          have hpw : 2 ^ d ≤ 16384 := Nat.le_trans (Nat.pow_le_pow_right (by omega) hd14) (by decide)
          clear hd Hst
          go_wp2
          go_roundg (n - (i + 1))
          case rel =>
            refine ⟨i + 1, k + 2 ^ d, rfl, by omega, by go_num, ?_, Hs2.out.symm, rfl⟩
            have e1 : (2 : Int) ^ d = ((2 ^ d : Nat) : Int) := by simp
            rw [e1]
            generalize 2 ^ d = y at hpw ⊢
            rw [wrap64_small (y : Int) (by omega) (by omega), wrap64_small ((k : Int) + (y : Int)) (by omega) (by omega)]
            rfl
          case measure => rw [Hg.out]; omega
        · have Hs2 : Hid (kraftZ (zs.take (i + 1)) = k) := by show _ = _; rw [Hst.out, if_neg (by omega)]; rfl
          clear Hst
          go_wp2
          go_roundg (n - (i + 1))
          case rel => exact ⟨i + 1, k, rfl, by omega, by go_num, rfl, Hs2.out.symm, rfl⟩
          case measure => rw [Hg.out]; omega
      · have Hs2 : Hid (kraftZ (zs.take (i + 1)) = k) := by show _ = _; rw [Hst.out, if_neg (by omega)]; rfl
        clear Hst
        go_wp2
        go_roundg (n - (i + 1))
        case rel => exact ⟨i + 1, k, rfl, by omega, by go_num, rfl, Hs2.out.symm, rfl⟩
        case measure => rw [Hg.out]; omega
    · go_wp2
      go_ret
      refine ⟨?_, rfl⟩
      have : k = kraftZ zs := by rw [Hk.out, List.take_of_length_le (by rw [← Hn.out]; omega)]
      rw [← this]; rfl


end Go.Proofs.Ytclfbdfgmeliaaa

/-
  The contract of the reference's Right.
-/
namespace Go.Proofs.Ytclfbdfgmeliaaa
open Go.RowKit

theorem beq_32768 (k : Nat) : (((k : Nat) : Int) == 32768) = decide (k = 32768) := by
  by_cases h : k = 32768
  · subst h; rfl
  · rw [decide_eq_false h, beq_eq_false_iff_ne]; omega

set_option maxRecDepth 4000 in
set_option maxHeartbeats 800000 in
theorem refRight_any (v : Value) (zs : List Int) (w : World) (h : ReadsZ w v zs) :
    Calls Try.prog 30 #[v] w fun e w' => e = .returned (.bool (rightB zs)) ∧ Fr w w' (fun _ => False) := by
  obtain ⟨a0, c0, rfl, hc0⟩ := h.form
  have Hz : Hid (ReadsZ w (.slice a0 zs.length c0) zs) := h
  obtain ⟨n, hn⟩ : ∃ n, n = zs.length := ⟨_, rfl⟩
  rw [← hn] at Hz hc0 ⊢
  have Hn : Hid _ := hn
  clear h hn
  go_enter Try.func30, Try.ntmps30
  by_cases h256 : 256 < n
  · have He : Hid (rightB zs = false) := by show _ = _; unfold rightB; rw [decide_eq_false (by rw [← Hn.out]; omega)]; rfl
    go_wp2_with fail
    go_ret
    exact ⟨by rw [He.out]; rfl, Fr.refl _ _⟩
  · go_wp2_with fail
    go_loopg [3, 4, 5] n (fun g C O I wr => ∃ (i c : Nat), g = n - i ∧ i ≤ n ∧ I = .int .i64 (i : Int) ∧ C = .int .i64 (c : Int) ∧ c = someZ (zs.take i) ∧ O = .bool (oneZ (zs.take i)) ∧ inZ (zs.take i) = true ∧ wr = w)
    case atStart => exact ⟨0, 0, rfl, by omega, rfl, rfl, rfl, rfl, rfl, rfl⟩
    case round =>
      obtain ⟨i, c, hg, hi, rfl, rfl, hc, rfl, hin, rfl⟩ := hrel
      have Hg : Hid _ := hg
      have Hc : Hid _ := hc
      have Hin : Hid _ := hin
      have hcb : c ≤ 256 := by have := someZ_le (zs.take i); rw [List.length_take] at this; omega
      obtain ⟨o, ho⟩ : ∃ o, o = oneZ (zs.take i) := ⟨_, rfl⟩
      rw [← ho]
      have Ho : Hid _ := ho
      clear hg hc hin ho
      by_cases hlt : i < n
      · obtain ⟨x, hx⟩ : ∃ x, zs[i]? = some x := ⟨_, List.getElem?_eq_getElem (by rw [← Hn.out]; exact hlt)⟩
        obtain ⟨b, off, cp, e, hb0, kx⟩ := Hz.out.get i x hx
        simp only [Value.slice.injEq] at e
        obtain ⟨rfl, -, rfl⟩ := e
        have cx := kx _ (Fr.refl _ _)
        have hi1 : (i : Int) < (n : Int) := by omega
        have htk := takeZ_step hx
        have Hx : Hid _ := hx
        clear kx hx
        by_cases hx0 : x < 0
        · have He : Hid (rightB zs = false) := by show _ = _; unfold rightB; rw [inZ_bad (List.mem_of_getElem? Hx.out) (.inl hx0)]; simp
          have hd1 : decide (x < 0) = true := decide_eq_true hx0
          clear htk
          go_wp2_with fail
          go_ret
          exact ⟨by rw [He.out]; rfl, Fr.refl _ _⟩
        · by_cases hx15 : 15 < x
          · have He : Hid (rightB zs = false) := by show _ = _; unfold rightB; rw [inZ_bad (List.mem_of_getElem? Hx.out) (.inr hx15)]; simp
            have hd1 : decide (x < 0) = false := decide_eq_false hx0
            have hd2 : decide (15 < x) = true := decide_eq_true hx15
            clear htk
            go_wp2_with fail
            go_ret
            exact ⟨by rw [He.out]; rfl, Fr.refl _ _⟩
          · have hd1 : decide (x < 0) = false := decide_eq_false hx0
            have hd2 : decide (15 < x) = false := decide_eq_false hx15
            have Hin2 : Hid (inZ (zs.take (i + 1)) = true) := by show _ = _; rw [htk, inZ_snoc, Hin.out, decide_eq_true ⟨by omega, by omega⟩]; rfl
            by_cases hxp : 0 < x
            · have hd3 : decide (0 < x) = true := decide_eq_true hxp
              have Hc2 : Hid (c + 1 = someZ (zs.take (i + 1))) := by show _ = _; rw [htk, someZ_snoc, if_pos hxp, ← Hc.out]
              have Ho2 : Hid (oneZ (zs.take (i + 1)) = (o && decide (x = 1))) := by
                show _ = _
                rw [htk, oneZ_snoc, ← Ho.out]
                congr 1
                exact decide_eq_decide.2 ⟨fun h => h hxp, fun h _ => h⟩
              have hcw : IntKind.i64.wrap ((c : Int) + 1) = ((c + 1 : Nat) : Int) := by rw [IntWalk.i64_in _ (by omega)]; omega
              clear htk
              cases o
              · go_wp2_with fail
                go_roundg (n - (i + 1))
                case rel => exact ⟨i + 1, c + 1, rfl, by omega, by go_num, by first | rfl | (rw [← hcw]), Hc2.out, by rw [Ho2.out]; rfl, Hin2.out, rfl⟩
                case measure => rw [Hg.out]; omega
              · go_wp2_with fail
                all_goals
                  go_roundg (n - (i + 1))
                  case rel => exact ⟨i + 1, c + 1, rfl, by omega, by go_num, by first | rfl | (rw [← hcw]), Hc2.out, by rw [Ho2.out]; first | rfl | (congr 1; simp), Hin2.out, rfl⟩
                  case measure => rw [Hg.out]; omega
            · have hd3 : decide (0 < x) = false := decide_eq_false hxp
              have Hc2 : Hid (c = someZ (zs.take (i + 1))) := by show _ = _; rw [htk, someZ_snoc, if_neg hxp, ← Hc.out]; rfl
              have Ho2 : Hid (oneZ (zs.take (i + 1)) = o) := by
                show _ = _
                rw [htk, oneZ_snoc, ← Ho.out, decide_eq_true (fun h => absurd h hxp), Bool.and_true]
              clear htk
              go_wp2_with fail
              go_roundg (n - (i + 1))
              case rel => exact ⟨i + 1, c, rfl, by omega, by go_num, rfl, Hc2.out, by rw [Ho2.out], Hin2.out, rfl⟩
              case measure => rw [Hg.out]; omega
      · have hie : i = n := by omega
        have htl : zs.take i = zs := List.take_of_length_le (by rw [← Hn.out]; omega)
        have hd0 : ¬ (i : Int) < (n : Int) := by omega
        have Hfin : Hid (rightB zs = ((decide (c = 1) && o) || decide (kraftZ zs = 32768))) := by
          show _ = _
          have h1 := Hin.out
          have h2 := Hc.out
          have h3 := Ho.out
          rw [htl] at h1 h2 h3
          unfold rightB
          rw [h1, ← h2, ← h3, decide_eq_true (by rw [← Hn.out]; omega)]
          simp
        clear htl
        by_cases hc1 : c = 1
        · subst hc1
          cases o
          · go_wp2_with fail
            refine (refKraft_any _ zs _ Hz.out (by rw [← Hn.out]; omega)).mono ?_
            rintro e w1 ⟨rfl, rfl⟩
            go_wp2_with fail
            go_ret
            refine ⟨?_, Fr.refl _ _⟩
            rw [Hfin.out, ← beq_32768]
            simp
          · go_wp2_with fail
            go_ret
            exact ⟨by rw [Hfin.out]; rfl, Fr.refl _ _⟩
        · have hc2 : ((c : Int) == 1) = false := by rw [beq_eq_false_iff_ne]; omega
          go_wp2_with fail
          refine (refKraft_any _ zs _ Hz.out (by rw [← Hn.out]; omega)).mono ?_
          rintro e w1 ⟨rfl, rfl⟩
          go_wp2_with fail
          go_ret
          refine ⟨?_, Fr.refl _ _⟩
          rw [Hfin.out, ← beq_32768]
          simp [hc1]

end Go.Proofs.Ytclfbdfgmeliaaa

/-
  Numbers of places that a call owns; rows of unlike elements lie apart.
-/
namespace Go.Proofs.Ytclfbdfgmeliaaa
open Go.RowKit

theorem own_apart {w : World} {e e' : TypeId} {s s' : Nat} {v v' : Value} {n n' : Nat} {xs xs' : List Value} (h : w.ownsRow 0 e s v n xs) (h' : w.ownsRow 0 e' s' v' n' xs') (hne : e ≠ e') : ∀ k, v'.ownBlock = some k → v.ownBlock ≠ some k := by
  intro k hk1 hk2
  rcases h.2 with ⟨rfl, -⟩ | ⟨g, cap, cur, rfl, -, hg, -⟩
  · simp [Value.ownBlock] at hk2
  · rcases h'.2 with ⟨rfl, -⟩ | ⟨g', cap', cur', rfl, -, hg', -⟩
    · simp [Value.ownBlock] at hk1
    · simp [Value.ownBlock] at hk1 hk2
      subst hk1 hk2
      rw [hg] at hg'
      simp only [Option.some.injEq, Obj.cells.injEq] at hg'
      exact hne hg'.2.1
/-- Numbers that the call owns. -/
def OwnC (w : World) (v : Value) (bs : List Nat) : Prop := w.ownsRow 0 3 1 v bs.length (row .i64 bs)
/-- A number of each place. -/
def fnRow (n : Nat) (f : Nat → Nat) : List Nat := (List.range n).map f
theorem fnRow_length (n : Nat) (f : Nat → Nat) : (fnRow n f).length = n := by simp [fnRow]
theorem fnRow_get (n : Nat) (f : Nat → Nat) (s : Nat) (h : s < n) : (fnRow n f)[s]? = some (f s) := by simp [fnRow, h]
theorem fnRow_set (n : Nat) (f f' : Nat → Nat) (s x : Nat) (hs : f' s = x) (ho : ∀ t, t ≠ s → f' t = f t) : (fnRow n f).set s x = fnRow n f' := by
  apply List.ext_getElem?
  intro t
  rw [List.getElem?_set]
  by_cases ht : t < n
  · rw [fnRow_get n f' t ht]
    by_cases hst : s = t
    · subst hst
      rw [if_pos rfl, if_pos (by rw [fnRow_length]; exact ht), hs]
    · rw [if_neg hst, fnRow_get n f t ht, ho t (fun e => hst e.symm)]
  · have h1 : (fnRow n f')[t]? = none := List.getElem?_eq_none (by rw [fnRow_length]; omega)
    rw [h1]
    by_cases hst : s = t
    · rw [if_pos hst, if_neg (by rw [fnRow_length]; omega)]
    · rw [if_neg hst]
      exact List.getElem?_eq_none (by rw [fnRow_length]; omega)

end Go.Proofs.Ytclfbdfgmeliaaa

/-
  The contract of the reference's Codes.
-/
namespace Go.Proofs.Ytclfbdfgmeliaaa
open Go.RowKit

theorem infoIntC : (Try.prog.info? 3).map (fun i => (i.zero, i.size, i.bytes)) = some (some (.int .i64 0), 1, 8) := by kernel_rfl
theorem zeros_fnRow (n : Nat) : (madeCells #[Value.int .i64 0] n).toList = row .i64 (fnRow n (fun _ => 0)) := by
  rw [toList_madeCells_one]
  apply List.ext_getElem?
  intro t
  simp only [row, fnRow, List.map_map, List.getElem?_map]
  by_cases ht : t < n
  · simp [ht]
  · simp [ht]

theorem fnRow_congr (n : Nat) {f f' : Nat → Nat} (h : ∀ t, t < n → f t = f' t) : fnRow n f = fnRow n f' := by
  unfold fnRow
  apply List.map_congr_left
  intro t ht
  exact h t (List.mem_range.1 ht)

/-- The codes of the symbols that are ahead. -/
def codesTo (l : List Nat) (n s t : Nat) : Nat := if Ahd l n s t then codeOf l t else 0

set_option maxRecDepth 4000 in
set_option maxHeartbeats 800000 in
theorem refCodes_any (v : Value) (zs : List Int) (w : World) (h : ReadsZ w v zs) :
    Calls Try.prog 19 #[v] w fun e w' => ∃ sv, e = .returned sv ∧ Reads .i64 w' sv (codesZ zs) ∧ Fr w w' (fun _ => False) ∧ (∀ k, sv.ownBlock = some k → w.heap.size ≤ k) := by
  obtain ⟨a0, c0, rfl, hc0⟩ := h.form
  have Hz : Hid (ReadsZ w (.slice a0 zs.length c0) zs) := h
  obtain ⟨n, hn⟩ : ∃ n, n = zs.length := ⟨_, rfl⟩
  rw [← hn] at Hz hc0 ⊢
  have Hn : Hid _ := hn
  clear h hn
  go_enter Try.func19, Try.ntmps19
  go_wp2_with fail
  refine (refRight_any _ zs _ Hz.out).mono ?_
  rintro e w1 ⟨rfl, hf1⟩
  have Hz1 : Hid (ReadsZ w1 (.slice a0 n c0) zs) := Hz.out.keep hf1
  cases hr : rightB zs with
  | false =>
    have He : Hid (codesZ zs = []) := by show _ = _; unfold codesZ; rw [hr]; rfl
    go_wp2_with fail
    go_ret
    refine ⟨_, rfl, ?_, hf1, fun k hk => by simp [Value.ownBlock] at hk⟩
    rw [He.out]
    exact holds_own (World.ownsRow_nil w1 0 0 1)
  | true =>
    have Hcz : Hid (codesZ zs = fnRow n (codeOf (nats zs))) := by show _ = _; unfold codesZ; rw [if_pos hr, Hn.out]; rfl
    have hR := right_nats hr
    have hback := nats_back (rightB_in hr)
    obtain ⟨l, hl⟩ : ∃ l, l = nats zs := ⟨_, rfl⟩
    rw [← hl] at hR Hcz hback
    have hln : l.length = n := by rw [hl, nats_length, Hn.out]
    have Hln : Hid _ := hln
    have HR : Hid _ := hR
    have Hget : Hid (∀ s, s < n → zs[s]? = some ((ln l s : Nat) : Int)) := fun s hs => by
      rw [← hback, List.getElem?_map]
      unfold ln
      rw [List.getD_eq_getElem?_getD, List.getElem?_eq_getElem (by omega)]
      rfl
    have hn256 : n ≤ 256 := by have := hR.most; omega
    clear hR hback hl hln hr
    obtain ⟨i0, hi0, hz0, hz1, hz2⟩ := info_parts infoIntC
    go_wp2_with (at_make; refine wpList_make_full _ rfl _ _ 28 rfl 0 3 i0 (.int .i64 0) 1 Try.underlying28 hi0 hz0 hz1 _ _ _ _ n rfl rfl rfl rfl ?b1 ?b2 (Nat.zero_le _) ?_)
    case b1 => rw [hz2]; omega
    case b2 => unfold maxLen; omega
    intro wm hown hgrow
    rw [zeros_fnRow] at hown
    have hfm : Fr w1 wm (fun _ => False) := (Fr.refl w1 _).grown hgrow (fun k hk => by cases hk)
    have Hgz : Hid (ReadsZ wm (.slice a0 n c0) zs) := Hz1.out.keep hfm
    obtain ⟨g, hg⟩ : ∃ g, g = w1.heap.size := ⟨_, rfl⟩
    have Hgw : Hid (w.heap.size ≤ g) := by show _ ≤ _; have := hf1.size; omega
    have hapart : ∀ k, (Value.slice a0 n c0).ownBlock = some k → 0 < n → k ≠ g := fun k hk h0 e => by
      obtain ⟨b, off, cp, e2, hb, -⟩ := Hz1.out.get 0 _ (Hget.out 0 h0)
      simp only [Value.slice.injEq] at e2
      obtain ⟨e3, -, -⟩ := e2
      rw [e3] at hk
      simp [Value.ownBlock] at hk
      omega
    have Hkeep : Hid (∀ x, Fr wm x (fun k => k = g) → ReadsZ x (.slice a0 n c0) zs) := fun x hx => Holds.frame' Hgz.out hx (fun h0 k hk => hapart k hk (by rw [zrow_length, ← Hn.out] at h0; exact h0))
    rw [← hg] at hown ⊢
    have Hown : Hid (OwnC wm (.slice (some ⟨g, 0, none⟩) n n) (fnRow n (codesTo l 1 0))) := by
      have e : fnRow n (codesTo l 1 0) = fnRow n (fun _ => 0) := by
        congr 1
        funext t
        unfold codesTo
        rw [if_neg (by unfold Ahd; omega)]
      rw [e]
      unfold OwnC
      rw [fnRow_length]
      exact hown
    have hfw := hf1.none hfm
    clear hgrow hfm hown hi0 hz0 hz1 hz2 hf1 hg hapart Hz Hz1 Hgz
    go_wp2_with fail
    go_loopg [4, 5, 6] 15 (fun g' X La I wr => ∃ (j x la : Nat), g' = 16 - j ∧ 1 ≤ j ∧ j ≤ 16 ∧ I = .int .i64 (j : Int) ∧ X = .int .i64 (x : Int) ∧ La = .int .i64 (la : Int) ∧ la < j ∧ x * 2 ^ (15 - max la 1) = ac l j 0 ∧ OwnC wr (.slice (some ⟨g, 0, none⟩) n n) (fnRow n (codesTo l j 0)) ∧ Fr wm wr (fun k => k = g))
    case atStart => exact ⟨1, 0, 0, rfl, by omega, by omega, rfl, rfl, rfl, by omega, by rw [ac_zero]; simp, Hown.out, Fr.refl _ _⟩
    case round =>
      obtain ⟨j, x, la, hg', hj1, hj16, rfl, rfl, rfl, hla, hx, ho, hf⟩ := hrel
      have Hg' : Hid _ := hg'
      have Hx : Hid _ := hx
      have Ho : Hid (OwnC wr (.slice (some ⟨g, 0, none⟩) n n) (fnRow n (codesTo l j 0))) := ho
      have Hf : Hid _ := hf
      clear hg' hx ho hf
      by_cases hj : j ≤ 15
      · have hj2 : (j : Int) ≤ 15 := by omega
        go_wp2_with fail
        go_loopg [4, 5, 7] n (fun g' X La I wi => ∃ (s x la : Nat), g' = n - s ∧ s ≤ n ∧ I = .int .i64 (s : Int) ∧ X = .int .i64 (x : Int) ∧ La = .int .i64 (la : Int) ∧ la ≤ j ∧ x * 2 ^ (15 - max la 1) = ac l j s ∧ OwnC wi (.slice (some ⟨g, 0, none⟩) n n) (fnRow n (codesTo l j s)) ∧ Fr wm wi (fun k => k = g))
        case atStart => exact ⟨0, x, la, rfl, by omega, rfl, rfl, rfl, by omega, Hx.out, Ho.out, Hf.out⟩
        case round =>
          obtain ⟨s, x, la, hgs, hs, rfl, rfl, rfl, hla, hx, ho, hf⟩ := hrel
          have Hgs : Hid _ := hgs
          have Hx : Hid _ := hx
          have Ho : Hid (OwnC wr (.slice (some ⟨g, 0, none⟩) n n) (fnRow n (codesTo l j s))) := ho
          have Hf : Hid _ := hf
          clear hgs hx ho hf
          by_cases hlt : s < n
          · obtain ⟨b, off, cp, e, hb0, kx⟩ := (Hkeep.out _ Hf.out).get s _ (Hget.out s hlt)
            simp only [Value.slice.injEq] at e
            obtain ⟨rfl, -, rfl⟩ := e
            have cx := kx _ (Fr.refl _ _)
            have hs1 : (s : Int) < (n : Int) := by omega
            clear kx hb0
            obtain ⟨y, hy⟩ : ∃ y, y = ln l s := ⟨_, rfl⟩
            rw [← hy] at cx
            have Hy : Hid _ := hy
            clear hy
            by_cases hyj : y = j
            · subst hyj
              obtain ⟨m, hm⟩ : ∃ m, m = max la 1 := ⟨_, rfl⟩
              have hmj : m ≤ y := by omega
              obtain ⟨X, hX⟩ : ∃ X, X = x * 2 ^ (y - m) := ⟨_, rfl⟩
              have hy0 : 0 < y := by omega
              have hXa : X * 2 ^ (15 - y) = ac l y s := by
                rw [hX, Nat.mul_assoc, ← Nat.pow_add, show y - m + (15 - y) = 15 - m by omega, hm]
                exact Hx.out
              have hyl : 0 < ln l s := by rw [← Hy.out]; exact hy0
              have hcode : codeOf l s = X := by
                have h1 := code_mul (l := l) (s := s) hyl
                rw [← Hy.out, ← hXa] at h1
                exact Nat.mul_right_cancel (Nat.two_pow_pos _) h1
              have hXb : X < 32768 := by
                rw [← hcode]
                refine Nat.lt_of_lt_of_le (code_lt HR.out.ln HR.out.kraft hyl) ?_
                rw [← Hy.out]
                exact Nat.le_trans (Nat.pow_le_pow_right (by omega) hj) (by decide)
              have Hac : Hid ((X + 1) * 2 ^ (15 - max y 1) = ac l y (s + 1)) := by
                show _ = _
                rw [ac_step l y s (by rw [Hln.out]; exact hlt), if_pos ⟨Hy.out.symm, hy0⟩, ← hXa, Nat.max_eq_left (by omega), Nat.succ_mul]
              have hoc := Ho.out
              unfold OwnC at hoc
              rw [fnRow_length] at hoc
              have hfz := World.ownsRow.frozenAt hoc s
              have hce : wr.cell? ⟨g, s, none⟩ = some (.int .i64 ((codesTo l y s s : Nat) : Int)) := by
                rw [World.ownsRow.cellAt hoc s (by omega)]
                simp [row, fnRow, hlt]
              have Hrow : Hid ((fnRow n (codesTo l y s)).set s X = fnRow n (codesTo l y (s + 1))) := by
                show _ = _
                refine fnRow_set n _ _ s X ?_ ?_
                · unfold codesTo
                  rw [if_pos ⟨hyl, .inr ⟨Hy.out.symm, by omega⟩⟩, hcode]
                · intro t ht
                  unfold codesTo
                  have : Ahd l y (s + 1) t ↔ Ahd l y s t := by unfold Ahd; omega
                  by_cases h2 : Ahd l y s t
                  · rw [if_pos h2, if_pos (this.2 h2)]
                  · rw [if_neg h2, if_neg (fun h3 => h2 (this.1 h3))]
              have Hst : Hid (OwnC (wr.setCell ⟨g, s, none⟩ (.int .i64 (X : Int))) (.slice (some ⟨g, 0, none⟩) n n) (fnRow n (codesTo l y (s + 1)))) := by
                have := (World.ownsRow.stored hoc s (.int .i64 (X : Int))).1
                unfold OwnC
                rw [fnRow_length, ← Hrow.out, row_set]
                exact this
              have hxw : IntKind.i64.wrap ((X : Int) + 1) = ((X + 1 : Nat) : Int) := by rw [IntWalk.i64_in _ (by omega)]; omega
              have hpc : (x : Int) * 2 ^ (y - m) = (X : Int) := by rw [hX]; simp
              have hsh : wrap64 ((x : Int) * 2 ^ (y - m)) = (X : Int) := by rw [hpc]; exact wrap64_small _ (by omega) (by omega)
              rcases Nat.eq_zero_or_pos la with hl0 | hl0
              · subst hl0
                have hm1 : m = 1 := by rw [hm]; rfl
                subst hm1
                have hy1 : (1 : Int) ≤ (y : Int) := by omega
                clear hm hX hXa hyl hcode hoc hpc Hx
                go_wp2_with fail
                go_roundg (n - (s + 1))
                case rel => exact ⟨s + 1, X + 1, y, rfl, by omega, by go_num, by first | rfl | (rw [← hxw]), rfl, Nat.le_refl _, Hac.out, Hst.out, Hf.out.setCell ⟨g, s, none⟩ (fun _ => rfl) _⟩
                case measure => rw [Hgs.out]; omega
              · have hml : m = la := by omega
                subst hml
                have hy1 : (m : Int) ≤ (y : Int) := by omega
                have hm1 : (1 : Int) ≤ (m : Int) := by omega
                have hmx : max (m : Int) 1 = (m : Int) := by omega
                clear hm hX hXa hyl hcode hoc hpc Hx
                go_wp2_with fail
                go_roundg (n - (s + 1))
                case rel => exact ⟨s + 1, X + 1, y, rfl, by omega, by go_num, by first | rfl | (rw [← hxw]), rfl, Nat.le_refl _, Hac.out, Hst.out, Hf.out.setCell ⟨g, s, none⟩ (fun _ => rfl) _⟩
                case measure => rw [Hgs.out]; omega
            · have hyj2 : ((y : Int) == (j : Int)) = false := by rw [beq_eq_false_iff_ne]; omega
              have Hac : Hid (x * 2 ^ (15 - max la 1) = ac l j (s + 1)) := by
                show _ = _
                rw [ac_step l j s (by rw [Hln.out]; exact hlt), if_neg (by rw [← Hy.out]; omega), Nat.add_zero]
                exact Hx.out
              have Hrow : Hid (fnRow n (codesTo l j s) = fnRow n (codesTo l j (s + 1))) := by
                show _ = _
                refine fnRow_congr n fun t _ => ?_
                unfold codesTo
                have : Ahd l j (s + 1) t ↔ Ahd l j s t := by
                  unfold Ahd
                  by_cases hts : t = s
                  · subst hts
                    rw [← Hy.out]
                    omega
                  · omega
                by_cases h2 : Ahd l j s t
                · rw [if_pos h2, if_pos (this.2 h2)]
                · rw [if_neg h2, if_neg (fun h3 => h2 (this.1 h3))]
              go_wp2_with fail
              go_roundg (n - (s + 1))
              case rel => exact ⟨s + 1, x, la, rfl, by omega, by go_num, rfl, rfl, hla, Hac.out, by rw [← Hrow.out]; exact Ho.out, Hf.out⟩
              case measure => rw [Hgs.out]; omega
          · have hse : s = n := by omega
            have hs1 : ¬ (s : Int) < (n : Int) := by omega
            have Hac : Hid (x * 2 ^ (15 - max la 1) = ac l (j + 1) 0) := by
              show _ = _
              rw [ac_next, Hln.out, ← hse]
              exact Hx.out
            have Hrow : Hid (fnRow n (codesTo l j s) = fnRow n (codesTo l (j + 1) 0)) := by
              show _ = _
              refine fnRow_congr n fun t ht => ?_
              unfold codesTo
              have : Ahd l (j + 1) 0 t ↔ Ahd l j s t := by unfold Ahd; omega
              by_cases h2 : Ahd l j s t
              · rw [if_pos h2, if_pos (this.2 h2)]
              · rw [if_neg h2, if_neg (fun h3 => h2 (this.1 h3))]
            have Ho2 : Hid (OwnC wr (.slice (some ⟨g, 0, none⟩) n n) (fnRow n (codesTo l (j + 1) 0))) := by rw [← Hrow.out]; exact Ho.out
            clear hse
            go_wp2_with fail
            go_roundg (16 - (j + 1))
            case rel => exact ⟨j + 1, x, la, rfl, by omega, by omega, by go_num, rfl, rfl, by omega, Hac.out, Ho2.out, Hf.out⟩
            case measure => rw [Hg'.out]; omega
      · obtain rfl : j = 16 := by omega
        have Hrow : Hid (fnRow n (codesTo l 16 0) = fnRow n (codeOf l)) := by
          show _ = _
          refine fnRow_congr n fun t ht => ?_
          unfold codesTo
          have h15 := HR.out.ln t
          by_cases h0 : 0 < ln l t
          · rw [if_pos ⟨h0, .inl (by omega)⟩]
          · rw [if_neg (by unfold Ahd; omega)]
            unfold codeOf
            rw [if_pos (by omega)]
        have hfo := hfw.newer Hf.out (fun k hk => by rw [hk]; exact Hgw.out)
        go_wp2_with fail
        go_ret
        refine ⟨_, rfl, ?_, hfo, fun k hk => by simp [Value.ownBlock] at hk; rw [← hk]; exact Hgw.out⟩
        rw [Hcz.out, ← Hrow.out]
        exact holds_own Ho.out

end Go.Proofs.Ytclfbdfgmeliaaa

/-
  Numbers as bytes, seven bits each: plain mathematics, no program.
-/
namespace Go.Proofs.Ytclfbdfgmeliaaa

/-- A number's bytes: seven bits each from the lowest on; all but the last one have their highest bit 1. -/
def enc (v : Nat) : List Nat := if _h : v < 128 then [v] else (v % 128 + 128) :: enc (v / 128)
termination_by v
decreasing_by omega

def encs (l : List Nat) : List Nat := l.flatMap enc

theorem enc_small (v : Nat) (h : v < 128) : enc v = [v] := by rw [enc]; simp [h]
theorem enc_big (v : Nat) (h : 128 ≤ v) : enc v = (v % 128 + 128) :: enc (v / 128) := by rw [enc]; simp [show ¬ v < 128 by omega]

theorem encs_snoc (l : List Nat) (v : Nat) : encs (l ++ [v]) = encs l ++ enc v := by simp [encs]
theorem encs_nil : encs [] = [] := rfl
theorem encs_cons (v : Nat) (l : List Nat) : encs (v :: l) = enc v ++ encs l := by simp [encs]

/-- How a number's bytes look: all but the last one high, the last one low. -/
structure Form (v : Nat) (hs : List Nat) (y : Nat) : Prop where
  eq : enc v = hs ++ [y]
  high : ∀ h ∈ hs, 128 ≤ h ∧ h < 256
  low : y < 128
  zero : y = 0 → hs = []
  top : y = v / 2 ^ (7 * hs.length)
  least : hs ≠ [] → 2 ^ (7 * hs.length) ≤ v

theorem form (v : Nat) : ∃ hs y, Form v hs y := by
  by_cases h : v < 128
  · exact ⟨[], v, by rw [enc_small v h]; rfl, by simp, h, fun _ => rfl, by simp, by simp⟩
  · obtain ⟨hs, y, f⟩ := form (v / 128)
    have e : 2 ^ (7 * (hs.length + 1)) = 128 * 2 ^ (7 * hs.length) := by rw [Nat.mul_add, Nat.pow_add, Nat.mul_comm]
    refine ⟨(v % 128 + 128) :: hs, y, by rw [enc_big v (by omega), f.eq]; rfl, ?_, f.low, ?_, ?_, ?_⟩
    · intro x hx
      rcases List.mem_cons.1 hx with rfl | hx
      · omega
      · exact f.high x hx
    · intro h0
      have h1 := f.zero h0
      have h2 := f.top
      subst h1
      simp at h2
      omega
    · rw [List.length_cons, e, f.top, Nat.div_div_eq_div_mul]
    · intro _
      rw [List.length_cons, e]
      by_cases hn : hs = []
      · subst hn; simp; omega
      · have := f.least hn
        omega
termination_by v
decreasing_by omega

theorem Form.len {v : Nat} {hs : List Nat} {y : Nat} (f : Form v hs y) : (enc v).length = hs.length + 1 := by rw [f.eq]; simp

theorem Form.nine {v : Nat} {hs : List Nat} {y : Nat} (f : Form v hs y) (hv : v < 18446744073709551616) : hs.length ≤ 9 ∧ (hs.length = 9 → y ≤ 1) := by
  have h1 : hs.length ≤ 9 := by
    by_cases hn : hs = []
    · subst hn; simp
    · have h := f.least hn
      by_cases h9 : hs.length ≤ 9
      · exact h9
      · have : (2 : Nat) ^ (7 * 10) ≤ 2 ^ (7 * hs.length) := Nat.pow_le_pow_right (by omega) (by omega)
        have : (2 : Nat) ^ (7 * 10) = 1180591620717411303424 := by decide
        omega
  refine ⟨h1, fun h9 => ?_⟩
  have := f.top
  rw [h9] at this
  have e : (2 : Nat) ^ (7 * 9) = 9223372036854775808 := by decide
  rw [e] at this
  omega

theorem enc_pos (v : Nat) : 0 < (enc v).length := by
  obtain ⟨hs, y, f⟩ := form v
  rw [f.len]; omega
theorem enc_le (v : Nat) (hv : v < 18446744073709551616) : (enc v).length ≤ 10 := by
  obtain ⟨hs, y, f⟩ := form v
  rw [f.len]; have := (f.nine hv).1; omega
theorem enc_bytes (v : Nat) : ∀ x ∈ enc v, x < 256 := by
  obtain ⟨hs, y, f⟩ := form v
  intro x hx
  rw [f.eq] at hx
  rcases List.mem_append.1 hx with h | h
  · exact (f.high x h).2
  · simp at h; have := f.low; omega
theorem encs_bytes (l : List Nat) : ∀ x ∈ encs l, x < 256 := by
  intro x hx
  simp only [encs, List.mem_flatMap] at hx
  obtain ⟨v, _, hv⟩ := hx
  exact enc_bytes v x hv
theorem encs_le (l : List Nat) (h : ∀ v ∈ l, v < 18446744073709551616) : (encs l).length ≤ 10 * l.length := by
  induction l with
  | nil => simp [encs]
  | cons v l ih =>
    rw [encs_cons, List.length_append, List.length_cons]
    have h1 := enc_le v (h v (by simp))
    have h2 := ih (fun u hu => h u (by simp [hu]))
    omega

/-- Where a number ends, or what is wrong: at byte i. -/
def lenFrom : Nat → List Nat → Nat × Nat
  | _, [] => (0, 20)
  | i, x :: xs => if i = 9 ∧ 1 < x then (0, 21) else if 128 ≤ x then lenFrom (i + 1) xs else if x = 0 ∧ 0 < i then (0, 21) else (i + 1, 0)

/-- The number that the first k bytes are. -/
def val (bs : List Nat) : Nat → Nat
  | 0 => 0
  | k + 1 => val bs k + (bs.getD k 0 % 128) * 2 ^ (7 * k)

theorem val_lt (bs : List Nat) (k : Nat) : val bs k < 2 ^ (7 * k) := by
  induction k with
  | zero => simp [val]
  | succ k ih =>
    have e : 2 ^ (7 * (k + 1)) = 128 * 2 ^ (7 * k) := by rw [Nat.mul_add, Nat.pow_add, Nat.mul_comm]
    have h : bs.getD k 0 % 128 * 2 ^ (7 * k) ≤ 127 * 2 ^ (7 * k) := Nat.mul_le_mul_right _ (by omega)
    rw [val, e]
    omega

theorem val_or (bs : List Nat) (k : Nat) : val bs k ||| (bs.getD k 0 % 128) * 2 ^ (7 * k) = val bs (k + 1) := by
  rw [val, Nat.add_comm, Nat.mul_comm, Nat.or_comm]
  exact (Nat.two_pow_add_eq_or_of_lt (val_lt bs k) _).symm

theorem val_congr (a b : List Nat) (k : Nat) (h : ∀ j, j < k → a.getD j 0 = b.getD j 0) : val a k = val b k := by
  induction k with
  | zero => rfl
  | succ k ih => rw [val, val, ih (fun j hj => h j (by omega)), h k (by omega)]

theorem val_cons (x : Nat) (bs : List Nat) (k : Nat) : val (x :: bs) (k + 1) = x % 128 + 128 * val bs k := by
  induction k with
  | zero => simp [val]
  | succ k ih =>
    rw [val, ih, val]
    have e : 2 ^ (7 * (k + 1)) = 128 * 2 ^ (7 * k) := by rw [Nat.mul_add, Nat.pow_add, Nat.mul_comm]
    have e2 : (x :: bs).getD (k + 1) 0 = bs.getD k 0 := by simp
    rw [e, e2, Nat.mul_add, Nat.mul_left_comm]
    omega

theorem val_enc (v : Nat) (r : List Nat) : val (enc v ++ r) (enc v).length = v := by
  by_cases h : v < 128
  · rw [enc_small v h]
    simp [val]; omega
  · have ih := val_enc (v / 128) r
    rw [enc_big v (by omega), List.length_cons, List.cons_append, val_cons, ih]
    omega
termination_by v
decreasing_by omega

/-- What a number's beginning tells: the number, how many bytes it is, what is wrong. -/
def took (bs : List Nat) (most : Nat) : Nat × Nat × Nat :=
  if (lenFrom 0 bs).2 ≠ 0 then (0, 0, (lenFrom 0 bs).2) else if most < val bs (lenFrom 0 bs).1 then (0, 0, 22) else (val bs (lenFrom 0 bs).1, (lenFrom 0 bs).1, 0)

theorem lenFrom_high (hs r : List Nat) (i : Nat) (hh : ∀ h ∈ hs, 128 ≤ h ∧ h < 256) (hi : i + hs.length ≤ 9) : lenFrom i (hs ++ r) = lenFrom (i + hs.length) r := by
  induction hs generalizing i with
  | nil => rfl
  | cons h hs ih =>
    have h1 := hh h (by simp)
    rw [List.length_cons] at hi ⊢
    rw [List.cons_append, lenFrom, if_neg (by omega), if_pos h1.1, ih (i + 1) (fun x hx => hh x (by simp [hx])) (by omega)]
    congr 1
    omega

theorem lenFrom_enc (v : Nat) (r : List Nat) (hv : v < 18446744073709551616) : lenFrom 0 (enc v ++ r) = ((enc v).length, 0) := by
  obtain ⟨hs, y, f⟩ := form v
  have h9 := f.nine hv
  have hl := f.low
  rw [f.len, f.eq, List.append_assoc, lenFrom_high hs _ 0 f.high (by omega)]
  rw [List.cons_append, lenFrom, if_neg (by intro h; have := h9.2 (by omega); omega), if_neg (by omega), if_neg ?_]
  · simp
  · intro h
    have := f.zero h.1
    subst this
    simp at h

theorem lenFrom_cut (v k : Nat) (hv : v < 18446744073709551616) (hk : k < (enc v).length) (r : List Nat) : lenFrom 0 ((enc v ++ r).take k) = (0, 20) := by
  obtain ⟨hs, y, f⟩ := form v
  have h9 := f.nine hv
  rw [f.len] at hk
  have e : (enc v ++ r).take k = hs.take k ++ [] := by
    rw [f.eq, List.append_assoc, List.take_append_of_le_length (by omega)]; simp
  rw [e, lenFrom_high _ _ 0 (fun h hh => f.high h (List.mem_of_mem_take hh)) (by simp; omega)]
  rfl

/-- Bytes that are all high, and a 0 behind them, are no number. -/
theorem lenFrom_zero (hs : List Nat) (i : Nat) (hh : ∀ h ∈ hs, 128 ≤ h ∧ h < 256) (hi : 0 < i + hs.length) : lenFrom i (hs ++ [0]) = (0, 21) := by
  induction hs generalizing i with
  | nil =>
    simp at hi
    simp [lenFrom, hi]
  | cons h hs ih =>
    have h1 := hh h (by simp)
    rw [List.cons_append, lenFrom]
    split
    · rfl
    · rw [if_pos h1.1, ih (i + 1) (fun x hx => hh x (by simp [hx])) (by omega)]

theorem took_enc (v m : Nat) (r : List Nat) (hv : v < 18446744073709551616) (hm : v ≤ m) : took (enc v ++ r) m = (v, (enc v).length, 0) := by
  unfold took
  rw [lenFrom_enc v r hv]
  simp only [val_enc]
  rw [if_neg (by simp), if_neg (by omega)]
theorem took_long (v m : Nat) (r : List Nat) (hv : v < 18446744073709551616) (hm : m < v) : took (enc v ++ r) m = (0, 0, 22) := by
  unfold took
  rw [lenFrom_enc v r hv]
  simp only [val_enc]
  rw [if_neg (by simp), if_pos hm]
theorem took_cut (v k m : Nat) (hv : v < 18446744073709551616) (hk : k < (enc v).length) (r : List Nat) : took ((enc v ++ r).take k) m = (0, 0, 20) := by
  unfold took
  rw [lenFrom_cut v k hv hk r]
  rfl

/-- Of a number that is found: where it ends, and that its tenth byte is 0 or 1. -/
theorem lenFrom_ok (bs : List Nat) (i : Nat) (hi : i ≤ 9) (h : (lenFrom i bs).2 = 0) : i < (lenFrom i bs).1 ∧ (lenFrom i bs).1 ≤ i + bs.length ∧ (lenFrom i bs).1 ≤ 10 ∧ (i + bs.length ≤ 9 ∨ (lenFrom i bs).1 ≤ 9 ∨ bs.getD (9 - i) 0 ≤ 1) := by
  induction bs generalizing i with
  | nil => simp [lenFrom] at h
  | cons x xs ih =>
    rw [lenFrom] at h ⊢
    by_cases h1 : i = 9 ∧ 1 < x
    · rw [if_pos h1] at h; simp at h
    · rw [if_neg h1] at h ⊢
      by_cases h2 : 128 ≤ x
      · rw [if_pos h2] at h ⊢
        have h9 : i ≠ 9 := by intro e; exact h1 ⟨e, by omega⟩
        obtain ⟨a, b, c, d⟩ := ih (i + 1) (by omega) h
        refine ⟨by omega, by simp; omega, c, ?_⟩
        have e : (x :: xs).getD (9 - i) 0 = xs.getD (9 - (i + 1)) 0 := by
          rw [show 9 - i = (9 - (i + 1)) + 1 by omega]; simp
        rw [e, List.length_cons]
        omega
      · rw [if_neg h2] at h ⊢
        by_cases h3 : x = 0 ∧ 0 < i
        · rw [if_pos h3] at h; simp at h
        · rw [if_neg h3]
          refine ⟨by simp, by simp, by simp; omega, ?_⟩
          by_cases h9 : i = 9
          · subst h9
            right; right; simp; omega
          · right; left; simp; omega

theorem took_small (bs : List Nat) (m : Nat) (hm : m < 18446744073709551616) : (took bs m).1 < 18446744073709551616 := by
  unfold took
  split
  · simp
  · split
    · simp
    · simp; omega

end Go.Proofs.Ytclfbdfgmeliaaa

/-
  Slices of bytes that the call owns: append.
-/
namespace Go.Proofs.Ytclfbdfgmeliaaa
open Go.RowKit

theorem Try.info5 : (Try.prog.info? 5).map (fun i => (i.zero, i.size, i.bytes)) = some (some (.int .u8 0), 1, 1) := by kernel_rfl

/-- A slice of bytes that the call owns. -/
def Own (w : World) (v : Value) (bs : List Nat) : Prop := w.ownsRow 0 5 1 v bs.length (row .u8 bs)
theorem Own.nil (w : World) : Own w (.slice none 0 0) [] := World.ownsRow_nil _ _ _ _
theorem Own.reads {w : World} {v : Value} {bs : List Nat} (h : Own w v bs) : Reads .u8 w v bs := holds_own h
theorem Own.alloc {w : World} {v : Value} {bs : List Nat} (h : Own w v bs) (o : Obj) : Own (w.alloc o) v bs := World.ownsRow.alloc h o
theorem Own.lt {w : World} {v : Value} {bs : List Nat} (h : Own w v bs) : ∀ k, v.ownBlock = some k → k < w.heap.size := fun k hk => (World.ownsRow.lt h k hk).2
theorem Own.frame {w w' : World} {v : Value} {bs : List Nat} {S : Nat → Prop} (h : Own w v bs) (f : Fr w w' S) (hs : ∀ k, v.ownBlock = some k → ¬ S k) : Own w' v bs := f.owns h hs

/-- append onto bytes that the call owns, of bytes that can be read. -/
theorem app_bytes (w : World) (v u : Value) (bs cs : List Nat) (h : Own w v bs) (hu : Reads .u8 w u cs) (hb : bs.length + cs.length ≤ 100000000000) :
    ∃ v' w', (Builtin.append_ #[22, 22] 22 #[v, u]).run Try.prog w = .ok v' w' ∧ Own w' v' (bs ++ cs) ∧ Fr w w' (fun k => v.ownBlock = some k) ∧ Moved w v v' ∧ Reads .u8 w' v bs := by
  obtain ⟨i0, hi, hz0, hz1, hz2⟩ := info_parts Try.info5
  obtain ⟨v', w', h1, h2, h3, h4, h5, -⟩ := run_append_holds (P := Try.prog) w 22 22 5 i0 (.int .u8 0) 1 Try.underlying22 hi hz0 hz1 hz2 rfl (by decide) v _ _ h u _ hu (row_one _ _) (by rw [length_row]; exact hb)
  refine ⟨v', w', h1, ?_, h3, h4, h5⟩
  unfold Own
  rw [length_row] at h2
  rw [List.length_append, row_append]
  exact h2
/-- .. of one byte that is written out. -/
theorem app_byte (w : World) (v : Value) (bs : List Nat) (x : Nat) (z : Int) (hz : z = (x : Int)) (h : Own w v bs) (hb : bs.length ≤ 10000000000) :
    ∃ v' w', (Builtin.append_ #[22, 22] 22 #[v, .slice (some ⟨w.heap.size, 0, none⟩) 1 1]).run Try.prog (w.alloc (.cells #[.int .u8 z] 5)) = .ok v' w' ∧ Own w' v' (bs ++ [x]) ∧ Fr w w' (fun k => v.ownBlock = some k) ∧ Moved w v v' := by
  subst hz
  obtain ⟨v', w', h1, h2, h3, h4, _⟩ := app_bytes _ v _ bs [x] (h.alloc _) (holds_lit w 5 [.int .u8 (x : Int)] (by simp)) (by simp; omega)
  exact ⟨v', w', h1, h2, ((Fr.refl w _).alloc _).trans h3 (fun _ _ h => h), h4.mono' (by simp)⟩

end Go.Proofs.Ytclfbdfgmeliaaa

/-
  The contracts of bits.place, bits.width and of the method add of bits.Writer; counts at most 10^12.
-/
namespace Go.Proofs.Ytclfbdfgmeliaaa
open Go.RowKit
set_option maxRecDepth 4000

set_option maxHeartbeats 400000 in
theorem place_any (n : Int) (w : World) (h0 : 0 ≤ n) (h1 : n ≤ 9223372036854775807) :
    Calls Try.prog 83 #[.int .i64 n] w fun e w' => e = .returned (.int .u64 (n % 8)) ∧ w' = w := by
  go_enter Try.func83, Try.ntmps83
  go_wp2
  go_ret
  exact ⟨rfl, rfl⟩

set_option maxHeartbeats 400000 in
theorem width_any (n : Int) (w : World)  :
    Calls Try.prog 70 #[.int .i64 n] w fun e w' => e = .returned (.int .u64 (min (max n 0) 64)) ∧ w = w' := by
  by_cases h1 : n < 0
  · have e : min (max n 0) 64 = 0 := by omega
    rw [e]
    go_enter Try.func70, Try.ntmps70
    go_wp2
    go_ret
    exact ⟨rfl, rfl⟩
  · by_cases h2 : 64 < n
    · have e : min (max n 0) 64 = 64 := by omega
      rw [e]
      go_enter Try.func70, Try.ntmps70
      go_wp2
      go_ret
      exact ⟨rfl, rfl⟩
    · have e : min (max n 0) 64 = n := by omega
      rw [e]
      go_enter Try.func70, Try.ntmps70
      go_wp2
      go_ret
      exact ⟨rfl, rfl⟩

theorem or_val (x bit n : Nat) (hx : x < 256) (hb : bit ≤ 1) : bits .or .u8 (x : Int) ((bit : Int) * 2 ^ (n % 8) % 256) = ((x ||| bit * 2 ^ (n % 8) : Nat) : Int) := by
  have h2 : 2 ^ (n % 8) ≤ 2 ^ 7 := Nat.pow_le_pow_right (by omega) (by omega)
  have h3 : bit * 2 ^ (n % 8) ≤ 1 * 2 ^ 7 := Nat.mul_le_mul hb h2
  have e : (bit : Int) * 2 ^ (n % 8) % 256 = ((bit * 2 ^ (n % 8) : Nat) : Int) := by
    have : (bit : Int) * 2 ^ (n % 8) = ((bit * 2 ^ (n % 8) : Nat) : Int) := by simp
    rw [this]; omega
  rw [e]
  exact u8_or_nat _ _ hx (by omega)

-- the bit goes into a byte that is there
set_option maxHeartbeats 800000 in
theorem add_in (p g cap len n k x bit : Nat) (w : World)
    (hp : w.heap[p]? = some (.cells #[.slice (some ⟨g, 0, none⟩) len cap, .int .i64 (n : Int)] 110 (0, 0)))
    (cg : w.cell? ⟨g, k, none⟩ = some (.int .u8 (x : Int))) (fg : w.frozen? ⟨g, k, none⟩ = false) (hpg : p ≠ g)
    (hk : Hid (k = n / 8)) (hl : k < len) (hn : (n : Int) ≤ 1000000000000) (hm : ((n : Int) % 8 == 0) = false) :
    Calls Try.prog 71 #[.pointer (some ⟨p, 0, none⟩), .int .u8 (bit : Int)] w fun e w' => e = .returned (.tuple #[]) ∧
      w' = ((w.setCell ⟨g, k, none⟩ (.int .u8 (bits .or .u8 (x : Int) ((bit : Int) * 2 ^ (n % 8) % 256)))).setCell ⟨p, 1, none⟩ (.int .i64 ((n : Int) + 1))).drew := by
  have c0 := two_cell0 hp
  have c1 := two_cell1 hp
  have f0 := two_free hp 0
  have f1 := two_free hp 1
  have hcs : ∀ v, (w.setCell ⟨g, k, none⟩ v).cell? ⟨p, 1, none⟩ = some (.int .i64 (n : Int)) := fun v => two_cell1 (blk_set_other hp hpg)
  have hfs : ∀ v, (w.setCell ⟨g, k, none⟩ v).frozen? ⟨p, 1, none⟩ = false := fun v => two_free (blk_set_other hp hpg) 1
  clear hp
  have hq : IntKind.i64.wrap ((n : Int) / 8) = (k : Int) := by
    rw [IntWalk.i64_in _ (by omega), hk.out]; omega
  have i0 : (0 : Int) ≤ (k : Int) := by omega
  have i1 : (k : Int) < (len : Int) := by omega
  go_enter Try.func71, Try.ntmps71
  go_wp2
  go_still_tail 20, (by kernel_rfl)
  still_call (place_any (n : Int) _ (by omega) (by omega))
  repeat still_step
  refine wpStill_nil ?_
  go_wp2
  go_end0
  exact ⟨rfl, rfl⟩

-- a new byte, and the bit into it
set_option maxHeartbeats 1600000 in
theorem add_new (p len n bit : Nat) (sv : Value) (xs : List Value) (w : World)
    (hp : w.heap[p]? = some (.cells #[sv, .int .i64 (n : Int)] 110 (0, 0)))
    (ho : w.ownsRow 0 5 1 sv len xs) (hsp : sv.ownBlock ≠ some p)
    (hk : Hid (len = n / 8)) (hn : (n : Int) ≤ 1000000000000) (hm : ((n : Int) % 8 == 0) = true) :
    Calls Try.prog 71 #[.pointer (some ⟨p, 0, none⟩), .int .u8 (bit : Int)] w fun e w' => e = .returned (.tuple #[]) ∧
      ∃ g cap w1, (w.alloc (.cells #[.int .u8 0] 5)).grownBy w1 sv.ownBlock ∧ w1.ownsRow 0 5 1 (.slice (some ⟨g, 0, none⟩) (len + 1) cap) (len + 1) (xs ++ [.int .u8 0]) ∧ (sv.ownBlock = some g ∨ g = w.heap.size + 1) ∧
      w' = (((w1.setCell ⟨p, 0, none⟩ (.slice (some ⟨g, 0, none⟩) (len + 1) cap)).setCell ⟨g, len, none⟩ (.int .u8 (bits .or .u8 (0 : Int) ((bit : Int) * 2 ^ (n % 8) % 256)))).setCell ⟨p, 1, none⟩ (.int .i64 ((n : Int) + 1))).drew := by
  have c0 := two_cell0 hp
  have c1 := two_cell1 hp
  have f0 := two_free hp 0
  have f1 := two_free hp 1
  have hpl := lt_of_block hp
  have hq : IntKind.i64.wrap ((n : Int) / 8) = (len : Int) := by
    rw [IntWalk.i64_in _ (by omega), hk.out]; omega
  have hlb : len ≤ 125000000000 := by rw [hk.out]; omega
  obtain ⟨i0, hi, hz0, hz1, hz2⟩ := info_parts Try.info5
  have Hp : Hid _ := hp
  have Hsp : Hid _ := hsp
  clear hp hsp
  go_enter Try.func71, Try.ntmps71
  go_wp2_with (at_builtin; refine wpList_append_lies _ rfl (.tmp 14) (.tmp 15) 22 rfl 0 5 i0 (.int .u8 0) 1 1 Try.underlying22 hi hz0 hz1 hz2 rfl (by decide) sv len xs rfl (ho.alloc _) ⟨w.heap.size, 0, none⟩ 1 1 [.int .u8 0] rfl rfl (cell_one_new _ _ _) ?h1 (by decide) ?h2 ?h3 (Nat.zero_le _) (w.heap.size + 1) (by simp) ?_)
  case h1 => intro u hu; simp at hu; subst hu; rfl
  case h2 => unfold maxLen; omega
  case h3 => omega
  intro g cap w1 hown hgrow hat hlt
  have hp1 : w1.heap[p]? = some (.cells #[sv, .int .i64 (n : Int)] 110 (0, 0)) := by
    rw [hgrow.block p (by simp; omega) (fun e => Hsp.out e.symm)]; exact blk_alloc _ Hp.out
  have hpg : p ≠ g := by
    rcases hat with h | h
    · intro e; subst e; exact Hsp.out h
    · omega
  have cg : w1.cell? ⟨g, len, none⟩ = some (.int .u8 0) := by
    rw [hown.cellAt len (by omega)]
    have := ho.1
    rw [List.getElem?_append_right (by omega)]
    simp [this]
  have fg : w1.frozen? ⟨g, len, none⟩ = false := hown.frozenAt _
  have k0 := two_cell0 hp1
  have e0 := two_free hp1 0
  have hp2 : (w1.setCell ⟨p, 0, none⟩ (.slice (some ⟨g, 0, none⟩) (len + 1) cap)).heap[p]? = some (.cells #[.slice (some ⟨g, 0, none⟩) (len + 1) cap, .int .i64 (n : Int)] 110 (0, 0)) := two_set0 hp1
  have a0 := two_cell0 hp2
  have a1 := two_cell1 hp2
  have b1 := two_free hp2 1
  have a2 : (w1.setCell ⟨p, 0, none⟩ (.slice (some ⟨g, 0, none⟩) (len + 1) cap)).cell? ⟨g, len, none⟩ = some (.int .u8 0) := by
    rw [World.cell?_of_block (w := w1) (Below.heap_setCell _ _ _ _ (fun e => hpg e.symm))]; exact cg
  have a3 : (w1.setCell ⟨p, 0, none⟩ (.slice (some ⟨g, 0, none⟩) (len + 1) cap)).frozen? ⟨g, len, none⟩ = false := by
    rw [World.frozen?_of_block (w := w1) (Below.heap_setCell _ _ _ _ (fun e => hpg e.symm))]; exact fg
  have HG : Hid _ := hgrow
  have HO : Hid _ := hown
  have HA : Hid _ := hat
  have HP2 : Hid _ := hp2
  clear hp1 hp2 hgrow hown hat ho hlt
  go_wp2
  generalize hw2 : w1.setCell ⟨p, 0, none⟩ (.slice (some ⟨g, 0, none⟩) (len + 1) cap) = w2 at *
  have HW2 : Hid _ := hw2
  have hcs : ∀ v, (w2.setCell ⟨g, len, none⟩ v).cell? ⟨p, 1, none⟩ = some (.int .i64 (n : Int)) := fun v => two_cell1 (blk_set_other HP2.out hpg)
  have hfs : ∀ v, (w2.setCell ⟨g, len, none⟩ v).frozen? ⟨p, 1, none⟩ = false := fun v => two_free (blk_set_other HP2.out hpg) 1
  clear hw2
  have hlt1 : (len : Int) < (len : Int) + 1 := by omega
  go_still_tail 20, (by kernel_rfl)
  still_call (place_any (n : Int) _ (by omega) (by omega))
  repeat still_step
  refine wpStill_nil ?_
  go_wp2
  go_end0
  exact ⟨rfl, g, cap, w1, HG.out, HO.out, HA.out, by rw [HW2.out]⟩

end Go.Proofs.Ytclfbdfgmeliaaa

/-
  The contract of the method Put of bits.Writer; at most 10^11 bits held before.
-/
namespace Go.Proofs.Ytclfbdfgmeliaaa
open Go.RowKit
set_option maxRecDepth 4000

/-- A writer in block p that holds the bits l; sv is its slice of bytes. -/
def Wr (w : World) (p : Nat) (sv : Value) (l : List Bool) : Prop :=
  w.heap[p]? = some (.cells #[sv, .int .i64 (l.length : Int)] 110 (0, 0)) ∧ ∃ bs, Packs bs l ∧ w.ownsRow 0 5 1 sv bs.length (row .u8 bs)
/-- The blocks of an object: its own and its slice's. -/
def foot (p : Nat) (sv : Value) (k : Nat) : Prop := k = p ∨ sv.ownBlock = some k
theorem own_elem {w : World} {base : Nat} {e e' : TypeId} {size : Nat} {v : Value} {n : Nat} {xs : List Value} {k : Nat} {cs : Array Value} (h : w.ownsRow base e size v n xs) (hk : v.ownBlock = some k)
    (hb : w.heap[k]? = some (.cells cs e' (0, 0))) : e = e' := by
  rcases h.2 with ⟨rfl, _⟩ | ⟨g, cap, cur, rfl, _, hg, _⟩
  · simp [Value.ownBlock] at hk
  · simp [Value.ownBlock] at hk
    subst hk
    rw [hg] at hb
    simp at hb
    exact hb.2

theorem Wr.apart {w : World} {p : Nat} {sv : Value} {l : List Bool} (h : Wr w p sv l) : sv.ownBlock ≠ some p := by
  obtain ⟨hp, bs, _, ho⟩ := h
  intro e
  exact absurd (own_elem ho e hp) (by decide)

theorem Wr.drew {w : World} {p : Nat} {sv : Value} {l : List Bool} (h : Wr w p sv l) : Wr w.drew p sv l := h

theorem Wr.frame {w w' : World} {p : Nat} {sv : Value} {l : List Bool} {S : Nat → Prop} (h : Wr w p sv l) (f : Fr w w' S) (hs : ∀ k, foot p sv k → ¬ S k) : Wr w' p sv l := by
  obtain ⟨hp, bs, hb, ho⟩ := h
  exact ⟨f.kept hp (hs p (.inl rfl)), bs, hb, f.owns ho (fun k hk => hs k (.inr hk))⟩

theorem Wr.lt {w : World} {p : Nat} {sv : Value} {l : List Bool} (h : Wr w p sv l) : ∀ k, foot p sv k → k < w.heap.size := by
  obtain ⟨hp, bs, _, ho⟩ := h
  intro k hk
  rcases hk with rfl | hk
  · exact lt_of_block hp
  · exact (ho.lt k hk).2

theorem Fr.foot_trans {a b c : World} {p : Nat} {sv sv' : Value} (h : Fr a b (foot p sv)) (k : Fr b c (foot p sv')) (hm : Moved a sv sv') : Fr a c (foot p sv) :=
  h.trans k (fun i hi ht => by
    rcases ht with rfl | ht
    · exact .inl rfl
    · rcases hm i ht with h2 | h2
      · exact .inr h2
      · omega)

theorem add_any (p : Nat) (sv : Value) (l : List Bool) (b : Bool) (x : Int) (w : World) (hx : x = (b.toNat : Int)) (h : Wr w p sv l) (hn : l.length ≤ 1000000000000) :
    Calls Try.prog 71 #[.pointer (some ⟨p, 0, none⟩), .int .u8 x] w fun e w' => e = .returned (.tuple #[]) ∧
      ∃ sv', Wr w' p sv' (l ++ [b]) ∧ Fr w w' (foot p sv) ∧ Moved w sv sv' := by
  subst hx
  have hap := h.apart
  obtain ⟨hp, bs, hb, ho⟩ := h
  have hl := hb.len
  by_cases hm : l.length % 8 = 0
  · refine (add_new p bs.length l.length b.toNat sv (row .u8 bs) w hp ho hap (show _ = _ by omega) (by omega) (by simp; omega)).mono ?_
    rintro e w' ⟨rfl, g, cap, w1, hg, ho1, hat, rfl⟩
    have hpg : p ≠ g := by
      rcases hat with h | h
      · intro e; subst e; exact hap h
      · have := lt_of_block hp; omega
    have hpl := lt_of_block hp
    have hp1 : w1.heap[p]? = some (.cells #[sv, .int .i64 (l.length : Int)] 110 (0, 0)) := by
      rw [hg.block p (by simp; omega) (fun e => hap e.symm)]; exact blk_alloc _ hp
    have e2 : (bits .or .u8 (0 : Int) ((b.toNat : Int) * 2 ^ (l.length % 8) % 256)) = ((0 ||| b.toNat * 2 ^ (l.length % 8) : Nat) : Int) := or_val 0 b.toNat l.length (by omega) (by cases b <;> simp)
    have ho2 := ownsRow_setCell_other ho1 (a := ⟨p, 0, none⟩) (u := .slice (some ⟨g, 0, none⟩) (bs.length + 1) cap) (by simp [Value.ownBlock]; omega)
    obtain ⟨ho3, hg3⟩ := ho2.stored bs.length (.int .u8 ((0 ||| b.toNat * 2 ^ (l.length % 8) : Nat) : Int))
    have ho4 := ownsRow_setCell_other ho3 (a := ⟨p, 1, none⟩) (u := .int .i64 ((l.length : Int) + 1)) (by simp [Value.ownBlock]; omega)
    rw [e2]
    refine ⟨rfl, .slice (some ⟨g, 0, none⟩) (bs.length + 1) cap, Wr.drew ⟨?_, _, hb.addNew hm b, ?_⟩, ?_, ?_⟩
    · have := two_set1 (u := .int .i64 ((l.length : Int) + 1)) (blk_set_other (a := ⟨g, bs.length, none⟩) (u := .int .u8 ((0 ||| b.toNat * 2 ^ (l.length % 8) : Nat) : Int)) (two_set0 (u := .slice (some ⟨g, 0, none⟩) (bs.length + 1) cap) hp1) hpg)
      simpa using this
    · have e3 : (row .u8 bs ++ [Value.int .u8 0]).set bs.length (.int .u8 ((0 ||| b.toNat * 2 ^ (l.length % 8) : Nat) : Int)) = row .u8 (bs ++ [0 ||| b.toNat * 2 ^ (l.length % 8)]) := by
        rw [row_append, List.set_append_right _ _ (by rw [length_row]; omega)]
        simp [row]
      rw [e3] at ho4
      simpa using ho4
    · refine Fr.drew (Fr.setCell (Fr.setCell (Fr.setCell (Fr.grown ((Fr.refl w _).alloc _) hg ?_) _ ?_ _) _ ?_ _) _ ?_ _)
      · intro k hk _; exact .inr hk
      · intro _; exact .inl rfl
      · intro hlt
        rcases hat with h | h
        · exact .inr h
        · simp at hlt; omega
      · intro _; exact .inl rfl
    · intro k hk
      simp [Value.ownBlock] at hk
      subst hk
      rcases hat with h | h
      · exact .inl h
      · exact .inr (by omega)
  · have hlt : l.length / 8 < bs.length := by omega
    obtain ⟨g, cap, rfl, cur, hgg⟩ := own_form ho (by omega)
    have hpg : p ≠ g := by intro e; subst e; exact hap rfl
    refine (add_in p g cap bs.length l.length (l.length / 8) (bs.getD (l.length / 8) 0) b.toNat w hp (by rw [ho.cellAt _ (by omega)]; exact row_get .u8 _ _ hlt) (ho.frozenAt _) hpg (show _ = _ from rfl) hlt (by omega) (by simp; omega)).mono ?_
    rintro e w' ⟨rfl, rfl⟩
    have e2 := or_val (bs.getD (l.length / 8) 0) b.toNat l.length (hb.small _) (by cases b <;> simp)
    rw [e2]
    obtain ⟨ho3, hg3⟩ := ho.stored (l.length / 8) (.int .u8 ((bs.getD (l.length / 8) 0 ||| b.toNat * 2 ^ (l.length % 8) : Nat) : Int))
    have ho4 := ownsRow_setCell_other ho3 (a := ⟨p, 1, none⟩) (u := .int .i64 ((l.length : Int) + 1)) (by simp [Value.ownBlock]; omega)
    refine ⟨rfl, _, Wr.drew ⟨?_, _, hb.addIn hm b, ?_⟩, ?_, Moved.refl _ _⟩
    · have := two_set1 (u := .int .i64 ((l.length : Int) + 1)) (blk_set_other (a := ⟨g, l.length / 8, none⟩) (u := .int .u8 ((bs.getD (l.length / 8) 0 ||| b.toNat * 2 ^ (l.length % 8) : Nat) : Int)) hp hpg)
      simpa using this
    · rw [row_set]
      simpa using ho4
    · exact Fr.drew (Fr.setCell (Fr.setCell (Fr.refl w _) _ (fun _ => .inr rfl) _) _ (fun _ => .inl rfl) _)

theorem bit_val (v k : Nat) (hv : v < 18446744073709551616) : bits .and .u64 ((v : Int) / 2 ^ k) 1 % 256 = ((v.testBit k).toNat : Int) := by
  have e : (v : Int) / 2 ^ k = ((v / 2 ^ k : Nat) : Int) := by simp
  have hlt : v / 2 ^ k < 18446744073709551616 := Nat.lt_of_le_of_lt (Nat.div_le_self _ _) hv
  rw [e, show (1 : Int) = ((1 : Nat) : Int) from rfl, u64_and_nat _ _ hlt (by omega), nat_mask1, Nat.testBit_eq_decide_div_mod_eq]
  have h2 : v / 2 ^ k % 2 = 0 ∨ v / 2 ^ k % 2 = 1 := by omega
  rcases h2 with h2 | h2 <;> simp [h2]

set_option maxHeartbeats 800000 in
theorem put_any (p : Nat) (sv : Value) (l : List Bool) (v : Nat) (n : Int) (w : World) (h : Wr w p sv l) (hn : l.length ≤ 100000000000) (hv : v < 18446744073709551616) :
    Calls Try.prog 59 #[.pointer (some ⟨p, 0, none⟩), .int .u64 (v : Int), .int .i64 n] w fun e w' => e = .returned (.tuple #[]) ∧
      ∃ sv', Wr w' p sv' (l ++ putBits v (wide n)) ∧ Fr w w' (foot p sv) ∧ Moved w sv sv' := by
  have hwd := wide_le n
  obtain ⟨m, hm⟩ : ∃ m, m = wide n := ⟨_, rfl⟩
  rw [← hm] at hwd ⊢
  have Hm : Hid (min (max n 0) 64 = (m : Int)) := by rw [hm]; exact (wide_cast n).symm
  clear hm
  go_enter Try.func59, Try.ntmps59
  go_wp2_with fail
  refine (width_any n _).mono ?_
  rintro e w' ⟨rfl, rfl⟩
  rw [Hm.out]
  go_wp2_with fail
  go_loopw [6] (fun left wr => ∃ k : Nat, k ≤ m ∧ left = .int .u64 (k : Int) ∧ ∃ sv' l', Wr wr p sv' l' ∧ l' ++ putBits v k = l ++ putBits v m ∧ Fr w wr (foot p sv) ∧ Moved w sv sv')
    (fun left _ => (intOf left).toNat)
  case atStart => exact ⟨m, Nat.le_refl _, rfl, sv, l, h, rfl, Fr.refl _ _, Moved.refl _ _⟩
  case round =>
    obtain ⟨k, hk, rfl, sv', l', hw, he, hf, hmv⟩ := hrel
    have hll : l'.length + k = l.length + m := by have := congrArg List.length he; simpa [length_putBits] using this
    have He : Hid _ := he
    clear he
    by_cases hk0 : 0 < k
    · obtain ⟨k', rfl⟩ : ∃ k', k = k' + 1 := ⟨k - 1, by omega⟩
      go_wp2_with fail
      refine (add_any p sv' l' (v.testBit k') _ wr (bit_val v k' hv) hw (by omega)).mono ?_
      rintro e w1 ⟨rfl, sv1, hw1, hf1, hm1⟩
      go_wp2
      go_roundw
      case rel => exact ⟨k', by omega, by go_num, sv1, _, hw1, by rw [← He.out]; simp [putBits], hf.foot_trans hf1 hmv, hmv.trans hm1 hf.size⟩
      case measure => simp [intOf]
    · obtain rfl : k = 0 := by omega
      go_wp2
      go_end0
      refine ⟨rfl, sv', ?_, hf, hmv⟩
      rw [← He.out]; simpa [putBits] using hw

end Go.Proofs.Ytclfbdfgmeliaaa

/-
  The contract of bits.copied: a new slice with the same bytes; at most 2 * 10^11 bytes.
-/
namespace Go.Proofs.Ytclfbdfgmeliaaa
open Go.RowKit
set_option maxRecDepth 4000

/-- A slice of bytes that can be read: bs. -/
def Rds (w : World) (v : Value) (bs : List Nat) : Prop :=
  ∃ ao cap, v = .slice ao bs.length cap ∧ (0 < bs.length → ∃ b off, ao = some ⟨b, off, none⟩ ∧ ∀ j u, (row .u8 bs)[j]? = some u → w.cell? ⟨b, off + j, none⟩ = some u)

theorem rds_own {w : World} {v : Value} {bs : List Nat} (h : w.ownsRow 0 5 1 v bs.length (row .u8 bs)) : Rds w v bs := by
  rcases h.2 with ⟨rfl, h0⟩ | ⟨g, cap, cur, rfl, _⟩
  · exact ⟨none, 0, by rw [h0], fun hp => by omega⟩
  · exact ⟨some ⟨g, 0, none⟩, cap, rfl, fun _ => ⟨g, 0, rfl, fun j u hj => by have := h.cells rfl j u hj; rwa [add_none] at this⟩⟩

theorem Try.size5 : (Try.prog.info? 5).map (·.size) = some 1 := by kernel_rfl

theorem run_copy_all {P : Program} (w : World) (dT sT ty elem t : TypeId) (hu : P.underlying dT = some (.slice elem)) (hsz : (P.info? elem).map (·.size) = some 1) (g n cap : Nat) (ao : Option Addr) (cur cs : List Value)
    (hg : w.heap[g]? = some (.cells cur.toArray t (0, 0))) (hcl : cs.length = n) (hcz : cur.length = n)
    (hsrc : 0 < n → ∃ ad : Addr, ao = some ad ∧ ∀ j u, cs[j]? = some u → w.cell? (ad.add j) = some u) (h1 : ∀ u ∈ cs, u.oneCell' = true) :
    ∃ w2, (Builtin.copy_ #[dT, sT] ty #[.slice (some ⟨g, 0, none⟩) n n, .slice ao n cap]).run P w = .ok (goInt n) w2 ∧ w2.heap[g]? = some (.cells cs.toArray t (0, 0)) ∧ w.grownBy w2 (some g) := by
  by_cases h0 : n = 0
  · subst h0
    obtain rfl := List.eq_nil_of_length_eq_zero hcl
    obtain rfl := List.eq_nil_of_length_eq_zero hcz
    exact ⟨w, run_copy_none (P := P) w dT sT ty elem _ _ 0 0 0 cap hu hsz rfl, hg, ⟨rfl, rfl, rfl, Nat.le_refl _, fun _ _ _ => rfl⟩⟩
  · obtain ⟨ad, rfl, hc⟩ := hsrc (by omega)
    have hrun := run_copy_row (P := P) w dT sT ty elem g 0 n n ad n cap cur.toArray t cs hu hsz hg (by rw [hcl]; exact (Nat.min_self n).symm) hc (by simp; omega) h1
    rw [hcl] at hrun
    refine ⟨_, hrun, ?_, ⟨rfl, rfl, rfl, by simp, fun k _ hk => setRow_other w g k _ (fun e => hk (by simp [e]))⟩⟩
    rw [setRow_heap w g _ _ t _ hg]
    simp [← hcz]

set_option maxHeartbeats 800000 in
theorem copied_any (v : Value) (bs : List Nat) (w : World) (hv : Rds w v bs) (hb : bs.length ≤ 200000000000) :
    Calls Try.prog 60 #[v] w fun e w' => e = .returned (.slice (some ⟨w.heap.size, 0, none⟩) bs.length bs.length) ∧
      w'.ownsRow 0 5 1 (.slice (some ⟨w.heap.size, 0, none⟩) bs.length bs.length) bs.length (row .u8 bs) ∧ Fr w w' (fun _ => False) := by
  obtain ⟨ao, cap, rfl, hc⟩ := hv
  obtain ⟨i0, hi, hz0, hz1, hz2⟩ := info_parts Try.info5
  obtain ⟨cs, hcs⟩ : ∃ cs, cs = row .u8 bs := ⟨_, rfl⟩
  obtain ⟨n, hn⟩ : ∃ n, n = bs.length := ⟨_, rfl⟩
  have hcl : cs.length = n := by rw [hcs, hn, length_row]
  have h1 : ∀ u ∈ cs, u.oneCell' = true := by rw [hcs]; exact row_one .u8 bs
  rw [← hn, ← hcs]
  rw [← hn] at hb hc
  rw [← hcs] at hc
  have Hcl : Hid _ := hcl
  have Hc : Hid _ := hc
  clear hcs hn hcl hc
  go_enter Try.func60, Try.ntmps60
  go_wp2_with (at_make; refine wpList_make_full _ rfl _ _ 22 rfl 0 5 i0 (.int .u8 0) 1 Try.underlying22 hi hz0 hz1 _ _ _ _ n rfl rfl (by omega) (by omega) ?b1 ?b2 (Nat.zero_le _) ?_)
  case b1 => rw [hz2]; omega
  case b2 => unfold maxLen; omega
  intro w1 hown hgrow
  obtain ⟨cur, hg, hcz⟩ : ∃ cur : List Value, w1.heap[w.heap.size]? = some (.cells cur.toArray 5 (0, 0)) ∧ cur.length = n := by
    rcases hown.2 with ⟨h, _⟩ | ⟨g', cap', cur, h, _, hg, _, _, hcz, _⟩
    · simp at h
    · simp only [Value.slice.injEq, Option.some.injEq, Addr.mk.injEq, and_true, true_and] at h
      obtain ⟨rfl, rfl⟩ := h
      exact ⟨cur.toList, by simpa using hg, by simpa using hcz⟩
  have hbel : Below w.heap.size w w1 := (Below.refl _ _).grown hgrow (Nat.le_refl _) (fun k h => by cases h)
  obtain ⟨w2, hrun, hg2, hgr2⟩ := run_copy_all (P := Try.prog) w1 22 22 3 5 5 Try.underlying22 Try.size5 w.heap.size n cap ao cur cs hg Hcl.out hcz (fun hpos => by
    obtain ⟨b, off, rfl, hcell⟩ := Hc.out hpos
    exact ⟨⟨b, off, none⟩, rfl, fun j u hj => by rw [add_none]; exact cell_later hbel (hcell j u hj)⟩) h1
  have hb2 : Below w.heap.size w w2 := hbel.grown hgr2 hbel.size (fun k h => by simp at h; omega)
  have Hg : Hid _ := hg2
  have Hb : Hid _ := hb2
  clear hown hgrow hg hcz hbel hg2 hgr2 hb2
  go_wp2
  go_ret
  refine ⟨rfl, ⟨by rw [Hcl.out]; omega, .inr ⟨w.heap.size, n, _, rfl, Nat.zero_le _, Hg.out, Nat.le_refl _, by unfold maxLen; omega, ?_, ?_⟩⟩, Fr.of_below Hb.out _⟩
  · rw [List.size_toArray, Hcl.out]; omega
  · exact List.take_of_length_le (by rw [Hcl.out]; omega)

end Go.Proofs.Ytclfbdfgmeliaaa

/-
  The contracts of NewWriter, Len, Bytes, NewReader, Left and Take of package bits; at most 10^11 bytes.
-/
namespace Go.Proofs.Ytclfbdfgmeliaaa
open Go.RowKit
set_option maxRecDepth 4000

theorem Rds.frame' {w w' : World} {v : Value} {bs : List Nat} {S : Nat → Prop} (h : Rds w v bs) (f : Fr w w' S) (hs : 0 < bs.length → ∀ k, v.ownBlock = some k → ¬ S k) : Rds w' v bs := by
  obtain ⟨ao, cap, rfl, hc⟩ := h
  refine ⟨ao, cap, rfl, fun hp => ?_⟩
  obtain ⟨b, off, rfl, hcell⟩ := hc hp
  refine ⟨b, off, rfl, fun j u hj => ?_⟩
  have h1 := hcell j u hj
  have h2 := World.block_lt_of_cell? _ _ h1
  rw [World.cell?_of_block (w := w) (f.block _ h2 (hs hp _ rfl))]
  exact h1

theorem Rds.frame {w w' : World} {v : Value} {bs : List Nat} {S : Nat → Prop} (h : Rds w v bs) (f : Fr w w' S) (hs : ∀ k, v.ownBlock = some k → ¬ S k) : Rds w' v bs :=
  h.frame' f (fun _ => hs)

/-- A reader in block p (its struct's type: T) of the bytes bs, of which i bits are taken. -/
def Rd (T : TypeId) (w : World) (p : Nat) (sv : Value) (bs : List Nat) (i : Nat) : Prop :=
  w.heap[p]? = some (.cells #[sv, .int .i64 (i : Int)] T (0, 0)) ∧ Rds w sv bs ∧ i ≤ 8 * bs.length ∧ bs.length ≤ 100000000000 ∧ (∀ j, bs.getD j 0 < 256) ∧ (0 < bs.length → sv.ownBlock ≠ some p)

theorem Rd.frame {T : TypeId} {w w' : World} {p : Nat} {sv : Value} {bs : List Nat} {i : Nat} {S : Nat → Prop} (h : Rd T w p sv bs i) (f : Fr w w' S) (hs : ∀ k, foot p sv k → ¬ S k) : Rd T w' p sv bs i := by
  obtain ⟨hp, hr, hi⟩ := h
  exact ⟨f.kept hp (hs p (.inl rfl)), hr.frame f (fun k hk => hs k (.inr hk)), hi⟩

theorem Rd.frame' {T : TypeId} {w w' : World} {p : Nat} {sv : Value} {bs : List Nat} {i : Nat} {S : Nat → Prop} (h : Rd T w p sv bs i) (f : Fr w w' S) (hp : ¬ S p) (hs : 0 < bs.length → ∀ k, sv.ownBlock = some k → ¬ S k) : Rd T w' p sv bs i := by
  obtain ⟨hb, hr, hi⟩ := h
  exact ⟨f.kept hb hp, hr.frame' f hs, hi⟩

set_option maxHeartbeats 400000 in
theorem newWriter_any (w : World) :
    Calls Try.prog 39 #[] w fun e w' => e = .returned (.pointer (some ⟨w.heap.size, 0, none⟩)) ∧ Wr w' w.heap.size (.slice none 0 0) [] ∧ Fr w w' (fun _ => False) := by
  go_enter Try.func39, Try.ntmps39
  go_wp2
  go_ret
  exact ⟨rfl, ⟨heap_alloc_new w _, [], Packs.nil, World.ownsRow_nil _ _ _ _⟩, (Fr.refl _ _).alloc _⟩

set_option maxHeartbeats 400000 in
theorem bytes_any (p : Nat) (sv : Value) (l : List Bool) (w : World) (h : Wr w p sv l) (hn : l.length ≤ 1000000000000) :
    Calls Try.prog 41 #[.pointer (some ⟨p, 0, none⟩)] w fun e w' => ∃ bs, Packs bs l ∧ e = .returned (.slice (some ⟨w.heap.size, 0, none⟩) bs.length bs.length) ∧
      w'.ownsRow 0 5 1 (.slice (some ⟨w.heap.size, 0, none⟩) bs.length bs.length) bs.length (row .u8 bs) ∧ Fr w w' (fun _ => False) := by
  obtain ⟨hp, bs, hb, ho⟩ := h
  have c0 := two_cell0 hp
  have hl := hb.len
  have hr := rds_own ho
  have Hr : Hid _ := hr
  have hl2 : bs.length ≤ 200000000000 := by omega
  clear hp ho hr hl
  go_enter Try.func41, Try.ntmps41
  go_wp2_with fail
  refine (copied_any sv bs w Hr.out hl2).mono ?_
  rintro e w1 ⟨rfl, h1, h2⟩
  go_wp2
  go_ret
  exact ⟨bs, hb, rfl, h1, h2⟩

set_option maxHeartbeats 400000 in
theorem newReader_any (v : Value) (bs : List Nat) (w : World) (hv : Rds w v bs) (hb : bs.length ≤ 100000000000) (hs : ∀ j, bs.getD j 0 < 256) :
    Calls Try.prog 63 #[v] w fun e w' => ∃ p sv, e = .returned (.pointer (some ⟨p, 0, none⟩)) ∧ Rd 124 w' p sv bs 0 ∧ Fr w w' (fun _ => False) ∧ (∀ k, foot p sv k → w.heap.size ≤ k) := by
  have Hv : Hid _ := hv
  clear hv
  go_enter Try.func63, Try.ntmps63
  go_wp2_with fail
  refine (copied_any v bs w Hv.out (by omega)).mono ?_
  rintro e w1 ⟨rfl, h1, h2⟩
  go_wp2
  go_ret
  refine ⟨w1.heap.size, _, rfl, ⟨heap_alloc_new w1 _, rds_own (h1.alloc _), by omega, hb, hs, ?_⟩, h2.alloc _, ?_⟩
  · intro _
    have := (h1.lt w.heap.size rfl).2
    simp [Value.ownBlock]; omega
  intro k hk
  have := h2.size
  rcases hk with rfl | hk
  · exact this
  · simp [Value.ownBlock] at hk; omega

set_option maxHeartbeats 400000 in
theorem left_any (p : Nat) (sv : Value) (bs : List Nat) (i : Nat) (w : World) (h : Rd 124 w p sv bs i) :
    Calls Try.prog 84 #[.pointer (some ⟨p, 0, none⟩)] w fun e w' => e = .returned (.int .i64 ((8 * bs.length - i : Nat) : Int)) ∧ ∃ n, w' = w.drewN n := by
  obtain ⟨hp, ⟨ao, cap, rfl, _⟩, hi, hl, hs, _⟩ := h
  have c0 := two_cell0 hp
  have c1 := two_cell1 hp
  generalize bs.length = len at *
  clear hp
  have e1 : IntKind.i64.wrap (8 * (len : Int)) = 8 * (len : Int) := IntWalk.i64_in _ (by omega)
  have e2 : IntKind.i64.wrap (8 * (len : Int) - (i : Int)) = ((8 * len - i : Nat) : Int) := by rw [IntWalk.i64_in _ (by omega)]; omega
  go_enter Try.func84, Try.ntmps84
  go_wp2
  go_quiet (fail)
  go_wp2
  go_ret
  exact ⟨rfl, _, rfl⟩

set_option maxHeartbeats 400000 in
theorem take_no (p : Nat) (sv : Value) (bs : List Nat) (i : Nat) (n : Int) (w : World) (h : Rd 124 w p sv bs i) (hno : 8 * bs.length - i < wide n) :
    Calls Try.prog 72 #[.pointer (some ⟨p, 0, none⟩), .int .i64 n] w fun e w' => e = .returned (.tuple #[.int .u64 0, .bool false]) ∧ ∃ n, w' = w.drewN n := by
  have hwd := wide_le n
  obtain ⟨m, hm⟩ : ∃ m, m = wide n := ⟨_, rfl⟩
  rw [← hm] at hwd hno
  have Hm : Hid (min (max n 0) 64 = (m : Int)) := by rw [hm]; exact (wide_cast n).symm
  clear hm
  go_enter Try.func72, Try.ntmps72
  go_wp2_with fail
  refine (width_any n _).mono ?_
  rintro e w' ⟨rfl, rfl⟩
  rw [Hm.out]
  go_wp2_with fail
  refine (left_any p sv bs i _ h).mono ?_
  rintro e w' ⟨rfl, nq, rfl⟩
  go_wp2
  go_ret2
  exact ⟨rfl, _, rfl⟩

theorem take_val (V x j : Nat) (hV : V < 9223372036854775808) (hx : x < 256) :
    bits .or .u64 (IntKind.u64.wrap ((V : Int) * 2)) (IntKind.u64.wrap (bits .and .u8 ((x : Int) / 2 ^ (j % 8)) 1)) = ((2 * V + (x.testBit (j % 8)).toNat : Nat) : Int) := by
  have e : (x : Int) / 2 ^ (j % 8) = ((x / 2 ^ (j % 8) : Nat) : Int) := by simp
  have hlt : x / 2 ^ (j % 8) < 256 := Nat.lt_of_le_of_lt (Nat.div_le_self _ _) hx
  rw [e, show (1 : Int) = ((1 : Nat) : Int) from rfl, u8_and_nat _ _ hlt (by omega), nat_mask1, Nat.testBit_eq_decide_div_mod_eq]
  generalize x / 2 ^ (j % 8) = y at *
  rw [IntKind.wrap_u64, IntKind.wrap_u64]
  have e1 : (V : Int) * 2 % 18446744073709551616 = ((2 * V : Nat) : Int) := by omega
  have e2 : ((y % 2 : Nat) : Int) % 18446744073709551616 = ((y % 2 : Nat) : Int) := by omega
  rw [e1, e2, u64_or_nat _ _ (by omega) (by omega)]
  have h3 := nat_join 1 (2 * V) (y % 2) (by omega) (by omega)
  rw [h3]
  have h2 : y % 2 = 0 ∨ y % 2 = 1 := by omega
  rcases h2 with h2 | h2 <;> simp [h2]

theorem num_step (bs : List Nat) (i k : Nat) (h : i + k < 8 * bs.length) :
    num (((unpack bs).drop i).take (k + 1)) = 2 * num (((unpack bs).drop i).take k) + ((bs.getD ((i + k) / 8) 0).testBit ((i + k) % 8)).toNat := by
  have hl := length_unpack bs
  have e : ((unpack bs).drop i).take (k + 1) = ((unpack bs).drop i).take k ++ [bitAt bs (i + k)] := by
    rw [List.take_add_one]
    congr 1
    rw [List.getElem?_drop, get_unpack _ _ h]
    rfl
  rw [e, num_snoc]
  rfl

theorem num_bound (bs : List Nat) (i k : Nat) (hk : k ≤ 63) : num (((unpack bs).drop i).take k) < 9223372036854775808 := by
  have h1 := num_lt (((unpack bs).drop i).take k)
  have h2 : (((unpack bs).drop i).take k).length ≤ 63 := by rw [List.length_take]; omega
  have h3 : (2 : Nat) ^ (((unpack bs).drop i).take k).length ≤ 2 ^ 63 := Nat.pow_le_pow_right (by omega) h2
  omega

set_option maxHeartbeats 800000 in
theorem take_yes (p : Nat) (sv : Value) (bs : List Nat) (i : Nat) (n : Int) (w : World) (h : Rd 124 w p sv bs i) (hyes : wide n ≤ 8 * bs.length - i) :
    Calls Try.prog 72 #[.pointer (some ⟨p, 0, none⟩), .int .i64 n] w fun e w' => e = .returned (.tuple #[.int .u64 (num (((unpack bs).drop i).take (wide n)) : Nat), .bool true]) ∧
      Rd 124 w' p sv bs (i + wide n) ∧ Fr w w' (fun k => k = p) := by
  have hwd := wide_le n
  obtain ⟨m, hm⟩ : ∃ m, m = wide n := ⟨_, rfl⟩
  rw [← hm] at hwd hyes ⊢
  have Hm : Hid (min (max n 0) 64 = (m : Int)) := by rw [hm]; exact (wide_cast n).symm
  clear hm
  go_enter Try.func72, Try.ntmps72
  go_wp2_with fail
  refine (width_any n _).mono ?_
  rintro e w' ⟨rfl, rfl⟩
  rw [Hm.out]
  go_wp2_with fail
  refine (left_any p sv bs i _ h).mono ?_
  rintro e w' ⟨rfl, nq, rfl⟩
  have hd : decide (((8 * bs.length - i : Nat) : Int) < (m : Int)) = false := by simp; omega
  have hd' : decide (8 * bs.length - i < m) = false := by simp; omega
  go_wp2_with fail
  go_loopw [7, 17] (fun v c wr => ∃ k : Nat, k ≤ m ∧ c = .int .u64 (k : Int) ∧ (∃ V : Nat, v = .int .u64 (V : Int) ∧ V = num (((unpack bs).drop i).take k)) ∧ Rd 124 wr p sv bs (i + k) ∧ Fr w wr (fun k => k = p))
    (fun _ c _ => m - (intOf c).toNat)
  case atStart => exact ⟨0, Nat.zero_le _, rfl, ⟨0, rfl, by simp [num, numFrom]⟩, h, (Fr.refl _ _).drewN _⟩
  case round =>
    obtain ⟨k, hk, rfl, ⟨V, rfl, hV⟩, hrd, hf⟩ := hrel
    have HV : Hid _ := hV
    have Hrd : Hid _ := hrd
    clear hV
    by_cases hlt : k < m
    · obtain ⟨hp, ⟨ao, cap, rfl, hcel⟩, hi, hl, hs, hsp⟩ := hrd
      have hpos : (i + k) / 8 < bs.length := by omega
      obtain ⟨b, off, rfl, hcell⟩ := hcel (by omega)
      have cg := hcell ((i + k) / 8) _ (row_get .u8 bs _ hpos)
      obtain ⟨x, hx⟩ : ∃ x, x = bs.getD ((i + k) / 8) 0 := ⟨_, rfl⟩
      obtain ⟨j, hj⟩ : ∃ j, j = i + k := ⟨_, rfl⟩
      obtain ⟨q, hq⟩ : ∃ q, q = (i + k) / 8 := ⟨_, rfl⟩
      rw [← hx, ← hq] at cg
      rw [← hj] at hp
      have hx2 : x < 256 := by rw [hx]; exact hs _
      have c0 := two_cell0 hp
      have c1 := two_cell1 hp
      have f1 := two_free hp 1
      have hjb : (j : Int) ≤ 800000000000 := by omega
      have hqw : IntKind.i64.wrap ((j : Int) / 8) = (q : Int) := by rw [IntWalk.i64_in _ (by omega)]; omega
      have i1 : (q : Int) < (bs.length : Int) := by omega
      have Hx : Hid _ := hx
      have Hj : Hid _ := hj
      have Hq : Hid _ := hq
      have Hs : Hid _ := hs
      have Hsp : Hid _ := hsp
      clear hcel hcell hp hx hj hq hs hsp
      go_wp2
      go_quiet ((go_at_call 83; exact Calls.quiet_of_same (place_any _ _ (by omega) (by omega))))
      go_wp2
      go_roundw
      case rel =>
        have hVb : V < 9223372036854775808 := by rw [HV.out]; exact num_bound bs i k (by omega)
        have hfr : Fr wr ((wr.drewN nq).setCell ⟨p, 1, none⟩ (.int .i64 ((j : Int) + 1))) (fun k => k = p) := Fr.setCell (S := fun k => k = p) ((Fr.refl _ _).drewN _) ⟨p, 1, none⟩ (fun _ => rfl) _
        refine ⟨k + 1, by omega, by go_num, ⟨_, congrArg (Value.int .u64) (take_val V x j hVb hx2), ?_⟩, ⟨?_, Hrd.out.2.1.frame' hfr (fun h0 k hk e => Hsp.out h0 (by rw [hk, e])), by omega, hl, Hs.out, Hsp.out⟩, hf.trans hfr (fun _ _ h => h)⟩
        · rw [num_step bs i k (by omega), ← HV.out, ← Hx.out, Hj.out]
        · have := two_set1 (w := wr) (u := .int .i64 ((j : Int) + 1)) Hrd.out.1
          have e3 : ((i + (k + 1) : Nat) : Int) = (j : Int) + 1 := by rw [Hj.out]; omega
          rw [e3]
          exact this
      case measure => simp [intOf]; omega
    · have Hkm : Hid (k = m) := by show k = m; omega
      clear hrd
      go_wp2
      go_ret2
      exact ⟨by rw [HV.out, Hkm.out]; rfl, by rw [← Hkm.out]; exact Hrd.out, hf⟩

end Go.Proofs.Ytclfbdfgmeliaaa

/-
  A slice of bytes as a string.
-/
namespace Go.Proofs.Ytclfbdfgmeliaaa
open Go.RowKit

/-- Bytes as a string. -/
def strOf (bs : List Nat) : ByteArray := strOfNums (bs.map fun (b : Nat) => (b : Int))

theorem conv_reads {w : World} {v : Value} {bs : List Nat} (h : Reads .u8 w v bs) : (convert 22 9 v).run Try.prog w = .ok (.string (strOf bs)) w := by
  obtain ⟨ao, cap, rfl, hlc, hc⟩ := h
  rw [length_row] at hlc hc ⊢
  by_cases h0 : 0 < bs.length
  · obtain ⟨b, off, rfl, hcell⟩ := hc h0
    refine run_convert_bytes_arg w 22 5 Try.underlying22 Try.underlying5 b off bs.length cap _ (by simp) (fun i hi => ?_) 9 Try.underlying9
    rw [hcell i _ (row_get .u8 bs i hi)]
    simp [List.getD_eq_getElem?_getD, hi]
  · have e : bs = [] := List.eq_nil_of_length_eq_zero (by omega)
    subst e
    rw [run_convert_bytes_string w 22 9 5 _ _ cap Try.underlying22 Try.underlying5 Try.underlying9]
    cases ao with
    | none => simp [Conv.bytesToString, strOf, strOfNums]; rfl
    | some a =>
      have := run_bytesToString (P := Try.prog) w a 0 cap [] (by simp [loadCells, loadCellsFrom])
      exact this

end Go.Proofs.Ytclfbdfgmeliaaa

/-
  What is newer; the bytes of bits by a function; bytes as a string.
-/
namespace Go.Proofs.Ytclfbdfgmeliaaa
open Go.RowKit
set_option maxRecDepth 4000

/-- All blocks of the object are newer than N. -/
def Newer (N p : Nat) (sv : Value) : Prop := ∀ k, foot p sv k → N ≤ k

theorem Newer.moved {N p : Nat} {w : World} {sv sv' : Value} (h : Newer N p sv) (hm : Moved w sv sv') (hN : N ≤ w.heap.size) : Newer N p sv' := by
  intro k hk
  rcases hk with rfl | hk
  · exact h _ (.inl rfl)
  · rcases hm k hk with h2 | h2
    · exact h k (.inr h2)
    · omega

theorem Fr.newer1 {a b c : World} {S : Nat → Prop} {p : Nat} (h : Fr a b S) (k : Fr b c (fun k => k = p)) (hn : a.heap.size ≤ p) : Fr a c S :=
  h.trans k (fun i hi ht => by subst ht; omega)
theorem left_fr (p : Nat) (sv : Value) (bs : List Nat) (i : Nat) (w : World) (h : Rd 124 w p sv bs i) :
    Calls Try.prog 84 #[.pointer (some ⟨p, 0, none⟩)] w fun e w' => e = .returned (.int .i64 ((8 * bs.length - i : Nat) : Int)) ∧ Rd 124 w' p sv bs i ∧ Fr w w' (fun _ => False) := by
  refine (left_any p sv bs i w h).mono ?_
  rintro e w' ⟨rfl, n, rfl⟩
  exact ⟨rfl, h, (Fr.refl _ _).drewN _⟩
theorem take_nofr (p : Nat) (sv : Value) (bs : List Nat) (i : Nat) (n : Int) (w : World) (h : Rd 124 w p sv bs i) (hno : 8 * bs.length - i < wide n) :
    Calls Try.prog 72 #[.pointer (some ⟨p, 0, none⟩), .int .i64 n] w fun e w' => e = .returned (.tuple #[.int .u64 0, .bool false]) ∧ Rd 124 w' p sv bs i ∧ Fr w w' (fun _ => False) := by
  refine (take_no p sv bs i n w h hno).mono ?_
  rintro e w' ⟨rfl, n, rfl⟩
  exact ⟨rfl, h, (Fr.refl _ _).drewN _⟩

def byteOf (f : Nat → Bool) : Nat → Nat
  | 0 => 0
  | k + 1 => byteOf f k ||| (f k).toNat * 2 ^ k

theorem testBit_byteOf (f : Nat → Bool) (k i : Nat) : (byteOf f k).testBit i = (decide (i < k) && f i) := by
  induction k with
  | zero => simp [byteOf]
  | succ k ih =>
    rw [byteOf, Nat.testBit_or, ih, testBit_bool]
    by_cases h1 : i = k
    · subst h1; simp
    · have : decide (i < k + 1) = decide (i < k) := decide_eq_decide.2 (by omega)
      simp [this, h1]

theorem byteOf_lt (f : Nat → Bool) (k : Nat) (hk : k ≤ 8) : byteOf f k < 256 := by
  induction k with
  | zero => simp [byteOf]
  | succ k ih => exact or_lt _ _ (ih (by omega)) (bool_lt _ _ (by omega))

def pack (l : List Bool) : List Nat := (List.range ((l.length + 7) / 8)).map fun j => byteOf (fun i => l.getD (8 * j + i) false) 8

theorem length_pack (l : List Bool) : (pack l).length = (l.length + 7) / 8 := by simp [pack]

theorem packs_pack (l : List Bool) : Packs (pack l) l := by
  have hg : ∀ j, (pack l).getD j 0 = if j < (l.length + 7) / 8 then byteOf (fun i => l.getD (8 * j + i) false) 8 else 0 := by
    intro j
    simp only [pack, List.getD_eq_getElem?_getD, List.getElem?_map]
    split
    · rename_i h; rw [List.getElem?_range h]; rfl
    · rename_i h; rw [List.getElem?_eq_none (by simp; omega)]; rfl
  refine ⟨length_pack l, fun j => ?_, fun i => ?_⟩
  · rw [hg]; split
    · exact byteOf_lt _ _ (by omega)
    · omega
  · unfold bitAt
    rw [hg]
    split
    · rw [testBit_byteOf, show 8 * (i / 8) + i % 8 = i by omega]
      have : decide (i % 8 < 8) = true := decide_eq_true (by omega)
      rw [this]; simp
    · rename_i h
      simp only [List.getD_eq_getElem?_getD]
      rw [List.getElem?_eq_none (by omega : l.length ≤ i)]; simp

theorem conv_rds {w : World} {v : Value} {bs : List Nat} (h : Rds w v bs) : (convert 22 9 v).run Try.prog w = .ok (.string (strOf bs)) w := by
  obtain ⟨ao, cap, rfl, hc⟩ := h
  by_cases h0 : 0 < bs.length
  · obtain ⟨b, off, rfl, hcell⟩ := hc h0
    refine run_convert_bytes_arg w 22 5 Try.underlying22 Try.underlying5 b off bs.length cap _ (by simp) (fun i hi => ?_) 9 Try.underlying9
    rw [hcell i _ (row_get .u8 bs i hi)]
    simp [List.getD_eq_getElem?_getD, hi]
  · have e : bs = [] := List.eq_nil_of_length_eq_zero (by omega)
    subst e
    rw [run_convert_bytes_string w 22 9 5 _ _ cap Try.underlying22 Try.underlying5 Try.underlying9]
    cases ao with
    | none => simp [Conv.bytesToString, strOf, strOfNums]; rfl
    | some a =>
      have := run_bytesToString (P := Try.prog) w a 0 cap [] (by simp [loadCells, loadCellsFrom])
      exact this

/-- A new slice of bytes, bs, that reads so, and as a string, wherever nothing that is there now has been touched. -/
def Fresh (w w' : World) (v : Value) (bs : List Nat) : Prop := ∃ g, v = .slice (some ⟨g, 0, none⟩) bs.length bs.length ∧ w'.ownsRow 0 5 1 v bs.length (row .u8 bs) ∧ w.heap.size ≤ g ∧ g < w'.heap.size

theorem Fresh.reads {w w' : World} {v : Value} {bs : List Nat} (h : Fresh w w' v bs) : Rds w' v bs := by
  obtain ⟨g, rfl, ho, _⟩ := h
  exact rds_own ho

theorem bytesP_any (p : Nat) (sv : Value) (l : List Bool) (w : World) (h : Wr w p sv l) (hn : l.length ≤ 1000000000000) :
    Calls Try.prog 41 #[.pointer (some ⟨p, 0, none⟩)] w fun e w' => ∃ v, e = .returned v ∧ Fresh w w' v (pack l) ∧ Wr w' p sv l ∧ Fr w w' (fun _ => False) := by
  refine (bytes_any p sv l w h hn).mono ?_
  rintro e w' ⟨bs, hb, rfl, ho, hf⟩
  obtain rfl := hb.eq (packs_pack l)
  exact ⟨_, rfl, ⟨_, rfl, ho, Nat.le_refl _, (ho.lt _ rfl).2⟩, h.frame hf (fun _ _ h => h), hf⟩

theorem putBits_split (v a : Nat) : ∀ n, putBits v (a + n) = putBits (v >>> a) n ++ putBits v a
  | 0 => by simp [putBits]
  | n + 1 => by
    rw [← Nat.add_assoc, putBits, putBits, putBits_split v a n, Nat.testBit_shiftRight]
    rfl

theorem Rd.drew {T : TypeId} {w : World} {p : Nat} {sv : Value} {bs : List Nat} {i : Nat} (h : Rd T w p sv bs i) : Rd T w.drew p sv bs i := h

/-- Two objects share no block. -/
def Apart (p : Nat) (sv : Value) (q : Nat) (sv' : Value) : Prop := ∀ k, foot p sv k → ¬ foot q sv' k
theorem Apart.symm {p q : Nat} {sv sv' : Value} (h : Apart p sv q sv') : Apart q sv' p sv := fun k h1 h2 => h k h2 h1
theorem Apart.moved {p q : Nat} {sv sv' sv'' : Value} {w : World} (h : Apart p sv q sv') (hm : Moved w sv' sv'') (hlt : ∀ k, foot p sv k → k < w.heap.size) : Apart p sv q sv'' := by
  intro k h1 h2
  rcases h2 with rfl | h2
  · exact h _ h1 (.inl rfl)
  · rcases hm k h2 with h3 | h3
    · exact h k h1 (.inr h3)
    · have := hlt k h1; omega
theorem Apart.newer {p q : Nat} {sv sv' : Value} {n : Nat} (hlt : ∀ k, foot p sv k → k < n) (hn : Newer n q sv') : Apart p sv q sv' := fun k h1 h2 => by
  have := hlt k h1; have := hn k h2; omega
theorem Newer.mono {m n p : Nat} {sv : Value} (h : Newer n p sv) (hm : m ≤ n) : Newer m p sv := fun k hk => Nat.le_trans hm (h k hk)

theorem Reads.rds {w : World} {v : Value} {bs : List Nat} (h : Reads .u8 w v bs) : Rds w v bs := by
  obtain ⟨ao, cap, rfl, _, hc⟩ := h
  rw [length_row] at hc ⊢
  exact ⟨ao, cap, rfl, hc⟩

end Go.Proofs.Ytclfbdfgmeliaaa
