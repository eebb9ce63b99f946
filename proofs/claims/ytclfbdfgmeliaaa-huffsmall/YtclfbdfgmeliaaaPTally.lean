/-
  Package-merge by places: items that keep a weight and a symbol alone; what the first of them hold, list by list backward. Plain mathematics, no program.
-/
import Derived.Test.YtclfbdfgmeliaaaPLaws
namespace Go.Proofs.Ytclfbdfgmeliaaa

/-- The symbol of a coin; none of a package. -/
def symOf : List Nat → Int
  | [s] => (s : Int)
  | _ => -1
/-- A package as its weight and its symbol. -/
def itm (wt : Nat → Nat) (y : List Nat) : Int × Int := ((W wt y : Nat), symOf y)
/-- Is a package. -/
def isP (y : List Nat) : Bool := y.length != 1
def packs (l : List (List Nat)) : Nat := l.countP isP

theorem symOf_one (s : Nat) : symOf [s] = (s : Int) := rfl
theorem symOf_pack {y : List Nat} (h : isP y = true) : symOf y = -1 := by
  match y with
  | [] => rfl
  | [s] => simp [isP] at h
  | _ :: _ :: _ => rfl
theorem symOf_coin {y : List Nat} (h : isP y = false) : ∃ s, y = [s] := by
  match y with
  | [] => simp [isP] at h
  | [s] => exact ⟨s, rfl⟩
  | _ :: _ :: _ => simp [isP] at h
theorem occ_split (s : Nat) : ∀ l : List (List Nat), occ l s = l.count [s] + occ (l.filter isP) s
  | [] => by simp [occ]
  | y :: l => by
    have ih := occ_split s l
    unfold occ at ih ⊢
    rw [List.flatten_cons, List.count_append, ih, List.count_cons]
    by_cases h : isP y = true
    · rw [List.filter_cons_of_pos h, List.flatten_cons, List.count_append]
      have hne : (y == [s]) = false := by
        rw [beq_eq_false_iff_ne]
        rintro rfl
        simp [isP] at h
      rw [hne]
      simp
      omega
    · rw [List.filter_cons_of_neg h]
      obtain ⟨x, rfl⟩ := symOf_coin (by simpa using h)
      by_cases hx : x = s
      · subst hx
        simp
        omega
      · have hne : (([x] : List Nat) == [s]) = false := by
          rw [beq_eq_false_iff_ne]
          intro e
          simp at e
          exact hx e
        rw [hne]
        simp [hx]

theorem mg_filter (wt : Nat → Nat) : ∀ (c p : List (List Nat)), (∀ x ∈ c, isP x = false) → (∀ x ∈ p, isP x = true) → (mg wt c p).filter isP = p
  | [], p, _, hp => by
    rw [mg]
    exact List.filter_eq_self.2 hp
  | c :: cs, [], hc, _ => by
    simp only [mg]
    rw [List.filter_eq_nil_iff]
    intro x hx
    simp [hc x hx]
  | c :: cs, p :: ps, hc, hp => by
    unfold mg
    split
    · rw [List.filter_cons_of_neg (by simp [hc c (by simp)])]
      exact mg_filter wt cs (p :: ps) (fun x hx => hc x (by simp [hx])) hp
    · rw [List.filter_cons_of_pos (hp p (by simp)), mg_filter wt (c :: cs) ps hc (fun x hx => hp x (by simp [hx]))]
termination_by c p => c.length + p.length

theorem coin_isP {cs : List Nat} : ∀ x ∈ coin cs, isP x = false := by
  intro x hx
  simp only [coin, List.mem_map] at hx
  obtain ⟨s, _, rfl⟩ := hx
  simp [isP]
theorem pk_isP : ∀ (l : List (List Nat)), (∀ y ∈ l, y ≠ []) → ∀ x ∈ pk l, isP x = true
  | [], _, x, hx => by simp [pk] at hx
  | [_], _, x, hx => by simp [pk] at hx
  | a :: b :: r, h, x, hx => by
    rw [pk, List.mem_cons] at hx
    rcases hx with rfl | hx
    · have h1 := List.length_pos_iff.2 (h a (by simp))
      have h2 := List.length_pos_iff.2 (h b (by simp))
      simp [isP]
      omega
    · exact pk_isP r (fun y hy => h y (by simp [hy])) x hx
/-- What a package of a list is made of. -/
theorem pk_mem : ∀ (l : List (List Nat)) (x : List Nat), x ∈ pk l → ∃ a ∈ l, ∃ b ∈ l, x = a ++ b
  | [], x, hx => by simp [pk] at hx
  | [_], x, hx => by simp [pk] at hx
  | a :: b :: r, x, hx => by
    rw [pk, List.mem_cons] at hx
    rcases hx with rfl | hx
    · exact ⟨a, by simp, b, by simp, rfl⟩
    · obtain ⟨u, hu, v, hv, e⟩ := pk_mem r x hx
      exact ⟨u, by simp [hu], v, by simp [hv], e⟩

section
variable (wt : Nat → Nat) (cs : List Nat)
theorem lv_in : ∀ (k : Nat) (y : List Nat), y ∈ lv wt cs k → y ≠ [] ∧ y.length ≤ 2 ^ k ∧ ∀ s ∈ y, s ∈ cs
  | 0, y, h => by
    simp only [lv, coin, List.mem_map] at h
    obtain ⟨s, hs, rfl⟩ := h
    simp [hs]
  | k + 1, y, h => by
    rw [lv, mg_mem] at h
    rcases h with h | h
    · simp only [coin, List.mem_map] at h
      obtain ⟨s, hs, rfl⟩ := h
      refine ⟨by simp, ?_, by simp [hs]⟩
      have := Nat.two_pow_pos (k + 1)
      simp
      omega
    · obtain ⟨a, ha, b, hb, rfl⟩ := pk_mem _ _ h
      obtain ⟨a1, a2, a3⟩ := lv_in k a ha
      obtain ⟨b1, b2, b3⟩ := lv_in k b hb
      refine ⟨by simp [a1], ?_, fun s hs => ?_⟩
      · rw [List.length_append, Nat.pow_succ]; omega
      · rcases List.mem_append.1 hs with hs | hs
        · exact a3 s hs
        · exact b3 s hs
theorem W_le {B : Nat} (hB : ∀ s, wt s ≤ B) (y : List Nat) : W wt y ≤ y.length * B := by
  induction y with
  | nil => simp [W]
  | cons a y ih =>
    simp only [W, List.map_cons, List.sum_cons, List.length_cons] at ih ⊢
    have := hB a
    rw [Nat.succ_mul]
    omega
theorem lv_W {B : Nat} (hB : ∀ s, wt s ≤ B) (k : Nat) (y : List Nat) (h : y ∈ lv wt cs k) : W wt y ≤ 2 ^ k * B :=
  Nat.le_trans (W_le wt hB y) (Nat.mul_le_mul_right _ (lv_in wt cs k y h).2.1)
theorem lv_long : ∀ k, (lv wt cs k).length ≤ 2 * cs.length
  | 0 => by simp [lv, coin]; omega
  | k + 1 => by
    have := lv_long k
    rw [lv, mg_length, coin_length, pk_length]
    omega

/-- The first t of a list: its coins, and the packages of the first so many of the list ahead. -/
theorem lv_tally (k t : Nat) (s : Nat) : 2 * packs ((lv wt cs (k + 1)).take t) ≤ (lv wt cs k).length ∧
    occ ((lv wt cs (k + 1)).take t) s = ((lv wt cs (k + 1)).take t).count [s] + occ ((lv wt cs k).take (2 * packs ((lv wt cs (k + 1)).take t))) s := by
  have hf : (lv wt cs (k + 1)).filter isP = pk (lv wt cs k) := by
    rw [lv]
    exact mg_filter wt _ _ coin_isP (pk_isP _ (fun y hy => (lv_in wt cs k y hy).1))
  have hp : ((lv wt cs (k + 1)).take t).filter isP <+: pk (lv wt cs k) := by
    rw [← hf]
    exact (List.take_prefix t _).filter _
  have hq := List.prefix_iff_eq_take.1 hp
  have hn : (((lv wt cs (k + 1)).take t).filter isP).length = packs ((lv wt cs (k + 1)).take t) := by
    unfold packs
    rw [List.countP_eq_length_filter]
  rw [hn] at hq
  have hle : packs ((lv wt cs (k + 1)).take t) ≤ (pk (lv wt cs k)).length := by
    rw [← hn]
    exact hp.length_le
  have hle2 : 2 * packs ((lv wt cs (k + 1)).take t) ≤ (lv wt cs k).length := by
    rw [pk_length] at hle
    omega
  refine ⟨hle2, ?_⟩
  rw [occ_split, hq, pk_take _ _ hle]
  unfold occ
  rw [pk_flatten _ (by rw [List.length_take, Nat.min_eq_left hle2]; omega)]
theorem lv_tally0 (t s : Nat) : occ ((lv wt cs 0).take t) s = ((lv wt cs 0).take t).count [s] := by
  rw [occ_split]
  have : ((lv wt cs 0).take t).filter isP = [] := by
    rw [List.filter_eq_nil_iff]
    intro x hx
    have := coin_isP x (List.mem_of_mem_take hx)
    simp [this]
  rw [this]
  simp [occ]
theorem packs_take0 (t : Nat) : packs ((lv wt cs 0).take t) = 0 := by
  unfold packs
  rw [List.countP_eq_zero]
  intro x hx
  have := coin_isP x (List.mem_of_mem_take hx)
  simp [this]
end

/-! By weight, then by symbol. -/
def lexLe (wt : Nat → Nat) (a b : Nat) : Prop := wt a < wt b ∨ wt a = wt b ∧ a ≤ b
theorem ins_lex (wt : Nat → Nat) (s : Nat) : ∀ l : List Nat, (∀ x ∈ l, x ≤ s) → l.Pairwise (lexLe wt) → (insSym wt s l).Pairwise (lexLe wt)
  | [], _, _ => by simp [insSym]
  | y :: ys, hle, h => by
    have h' := h
    rw [List.pairwise_cons] at h
    unfold insSym
    split
    · rename_i hlt
      rw [List.pairwise_cons]
      refine ⟨fun z hz => ?_, h'⟩
      rcases List.mem_cons.1 hz with rfl | hz
      · exact .inl hlt
      · rcases h.1 z hz with h1 | ⟨h1, h2⟩
        · exact .inl (by omega)
        · exact .inl (by omega)
    · rename_i hlt
      rw [List.pairwise_cons]
      refine ⟨fun z hz => ?_, ins_lex wt s ys (fun x hx => hle x (by simp [hx])) h.2⟩
      rcases List.mem_cons.1 ((ins_perm wt s ys).mem_iff.1 hz) with rfl | hz
      · have := hle y (by simp)
        rcases Nat.lt_or_ge (wt y) (wt z) with h3 | h3
        · exact .inl h3
        · exact .inr ⟨by omega, this⟩
      · exact h.1 z hz
theorem syms_lex (wt : Nat → Nat) : ∀ n, (symsTo wt n).Pairwise (lexLe wt)
  | 0 => List.Pairwise.nil
  | n + 1 => by
    unfold symsTo
    split
    · exact syms_lex wt n
    · exact ins_lex wt n _ (fun x hx => by have := (syms_mem wt n x).1 hx; omega) (syms_lex wt n)
/-- Those of a beginning that weigh anything. -/
def some_ (wt : Nat → Nat) (n : Nat) : List Nat := (List.range n).filter fun s => wt s != 0
theorem some_succ (wt : Nat → Nat) (n : Nat) : some_ wt (n + 1) = if wt n = 0 then some_ wt n else some_ wt n ++ [n] := by
  unfold some_
  rw [List.range_succ, List.filter_append]
  split <;> simp_all
theorem syms_perm (wt : Nat → Nat) : ∀ n, List.Perm (symsTo wt n) (some_ wt n)
  | 0 => by simp [symsTo, some_]
  | n + 1 => by
    rw [some_succ, symsTo]
    split
    · exact syms_perm wt n
    · exact (ins_perm wt n _).trans (((syms_perm wt n).cons n).trans (List.perm_append_comm (l₁ := [n]) (l₂ := some_ wt n)))
/-- A coin. -/
def cItm (wt : Nat → Nat) (s : Nat) : Int × Int := ((wt s : Nat), (s : Int))
theorem itm_coin (wt : Nat → Nat) (cs : List Nat) : (coin cs).map (itm wt) = cs.map (cItm wt) := by
  simp [coin, itm, cItm, symOf, W_one]
/-- What is sorted by weight, then by symbol. -/
def ltI (x y : Int × Int) : Bool := decide (x.1 < y.1 ∨ x.1 = y.1 ∧ x.2 < y.2)
theorem sorted_is (wt : Nat → Nat) (n : Nat) (d : List (Int × Int)) (hp : List.Perm d ((some_ wt n).map (cItm wt))) (hs : d.Pairwise fun a b => ltI b a = false) : d = (symsTo wt n).map (cItm wt) := by
  refine List.Perm.eq_of_pairwise (le := fun a b => ltI b a = false) (fun a b _ _ h1 h2 => ?_) hs ?_ (hp.trans ((syms_perm wt n).map _).symm)
  · unfold ltI at h1 h2
    rw [decide_eq_false_iff_not] at h1 h2
    have e1 : a.1 = b.1 := by omega
    have e2 : a.2 = b.2 := by omega
    exact Prod.ext e1 e2
  · rw [List.pairwise_map]
    refine (syms_lex wt n).imp ?_
    intro a b h
    unfold ltI cItm
    rw [decide_eq_false_iff_not]
    unfold lexLe at h
    simp only
    omega

end Go.Proofs.Ytclfbdfgmeliaaa
