/-
  Package-merge: plain mathematics, no program. Lists of packages by levels; what the first of them hold; no lengths cost less.
-/
import Derived.Test.YtclfbdfgmeliaaaMem
namespace Go.Proofs.Ytclfbdfgmeliaaa

section
variable (wt : Nat → Nat)

/-- What a package weighs. -/
def W (y : List Nat) : Nat := (y.map wt).sum
/-- Two by two. -/
def pk : List (List Nat) → List (List Nat)
  | a :: b :: r => (a ++ b) :: pk r
  | _ => []
/-- By weight, the first list ahead where alike. -/
def mg : List (List Nat) → List (List Nat) → List (List Nat)
  | [], q => q
  | c :: cs, [] => c :: cs
  | c :: cs, p :: ps => if W wt c ≤ W wt p then c :: mg cs (p :: ps) else p :: mg (c :: cs) ps
termination_by c p => c.length + p.length
def coin (cs : List Nat) : List (List Nat) := cs.map fun s => [s]
def lv (cs : List Nat) : Nat → List (List Nat)
  | 0 => coin cs
  | k + 1 => mg wt (coin cs) (pk (lv cs k))
/-- How often a symbol is in packages. -/
def occ (T : List (List Nat)) (s : Nat) : Nat := T.flatten.count s
/-- By weight. -/
def Up (l : List (List Nat)) : Prop := l.Pairwise fun a b => W wt a ≤ W wt b

theorem W_append (a b : List Nat) : W wt (a ++ b) = W wt a + W wt b := by simp [W]
theorem W_one (s : Nat) : W wt [s] = wt s := by simp [W]
theorem W_mem {y : List Nat} {s : Nat} (h : s ∈ y) : wt s ≤ W wt y := by
  induction y with
  | nil => cases h
  | cons a y ih =>
    simp only [W, List.map_cons, List.sum_cons] at ih ⊢
    rcases List.mem_cons.1 h with rfl | h
    · omega
    · have := ih h; omega

theorem pk_length : ∀ l : List (List Nat), (pk l).length = l.length / 2
  | [] => rfl
  | [_] => by simp [pk]
  | a :: b :: r => by simp [pk, pk_length r]; omega
theorem pk_take : ∀ (l : List (List Nat)) (p : Nat), p ≤ (pk l).length → (pk l).take p = pk (l.take (2 * p))
  | l, 0, _ => by simp [pk]
  | [], p + 1, h => by simp [pk] at h
  | [_], p + 1, h => by simp [pk] at h
  | a :: b :: r, p + 1, h => by
    have := pk_take r p (by simpa [pk] using h)
    simp [pk, this, Nat.mul_add]
theorem pk_flatten : ∀ (l : List (List Nat)), l.length % 2 = 0 → (pk l).flatten = l.flatten
  | [], _ => rfl
  | [_], h => by simp at h
  | a :: b :: r, h => by
    have := pk_flatten r (by simp at h; omega)
    simp [pk, this]
theorem pk_ge : ∀ (r : List (List Nat)) (x y : Nat), (∀ z ∈ r, x ≤ W wt z) → (∀ z ∈ r, y ≤ W wt z) → ∀ q ∈ pk r, x + y ≤ W wt q
  | [], _, _, _, _, q, hq => by simp [pk] at hq
  | [_], _, _, _, _, q, hq => by simp [pk] at hq
  | a :: b :: r, x, y, hx, hy, q, hq => by
    rw [pk, List.mem_cons] at hq
    rcases hq with rfl | hq
    · rw [W_append]
      have := hx a (by simp)
      have := hy b (by simp)
      omega
    · exact pk_ge r x y (fun z hz => hx z (by simp [hz])) (fun z hz => hy z (by simp [hz])) q hq
theorem pk_up : ∀ (l : List (List Nat)), Up wt l → Up wt (pk l)
  | [], _ => List.Pairwise.nil
  | [_], _ => List.Pairwise.nil
  | a :: b :: r, h => by
    unfold Up at *
    rw [List.pairwise_cons, List.pairwise_cons] at h
    obtain ⟨h1, h2, h3⟩ := h
    rw [pk, List.pairwise_cons]
    refine ⟨fun q hq => ?_, pk_up r h3⟩
    rw [W_append]
    exact pk_ge wt r _ _ (fun z hz => h1 z (by simp [hz])) h2 q hq

theorem mg_length : ∀ (c p : List (List Nat)), (mg wt c p).length = c.length + p.length
  | [], p => by simp [mg]
  | c :: cs, [] => by simp [mg]
  | c :: cs, p :: ps => by
    unfold mg
    split
    · simp [mg_length cs (p :: ps)]; omega
    · simp [mg_length (c :: cs) ps]; omega
termination_by c p => c.length + p.length

theorem mg_mem : ∀ (c p : List (List Nat)) (x : List Nat), x ∈ mg wt c p ↔ x ∈ c ∨ x ∈ p
  | [], p, x => by simp [mg]
  | c :: cs, [], x => by simp [mg]
  | c :: cs, p :: ps, x => by
    unfold mg
    split
    · simp [mg_mem cs (p :: ps) x, or_assoc]
    · simp [mg_mem (c :: cs) ps x]
      constructor
      · rintro (h | h | h)
        · exact .inr (.inl h)
        · exact .inl h
        · exact .inr (.inr h)
      · rintro (h | h | h)
        · exact .inr (.inl h)
        · exact .inl h
        · exact .inr (.inr h)
termination_by c p => c.length + p.length

theorem mg_up : ∀ (c p : List (List Nat)), Up wt c → Up wt p → Up wt (mg wt c p)
  | [], p, _, h => by simpa [mg] using h
  | c :: cs, [], h, _ => by simpa [mg] using h
  | c :: cs, p :: ps, hc, hp => by
    have hc' := hc
    have hp' := hp
    unfold Up at hc hp
    rw [List.pairwise_cons] at hc hp
    unfold mg
    split
    · rename_i h
      unfold Up
      rw [List.pairwise_cons]
      refine ⟨fun x hx => ?_, mg_up cs (p :: ps) hc.2 hp'⟩
      rcases (mg_mem wt _ _ x).1 hx with hx | hx
      · exact hc.1 x hx
      · rcases List.mem_cons.1 hx with rfl | hx
        · exact h
        · exact Nat.le_trans h (hp.1 x hx)
    · rename_i h
      unfold Up
      rw [List.pairwise_cons]
      refine ⟨fun x hx => ?_, mg_up (c :: cs) ps hc' hp.2⟩
      rcases (mg_mem wt _ _ x).1 hx with hx | hx
      · rcases List.mem_cons.1 hx with rfl | hx
        · omega
        · have := hc.1 x hx; omega
      · exact hp.1 x hx
termination_by c p => c.length + p.length

/-- The first t of two merged lists: the first of each; what is left of the first list weighs more than those of the second. -/
theorem mg_take : ∀ (c p : List (List Nat)) (t : Nat), Up wt c → t ≤ c.length + p.length →
    ∃ i j, i + j = t ∧ i ≤ c.length ∧ j ≤ p.length ∧ List.Perm ((mg wt c p).take t) (c.take i ++ p.take j) ∧ ∀ x ∈ c.drop i, ∀ q ∈ p.take j, W wt q < W wt x
  | [], p, t, _, h => ⟨0, t, by omega, by simp, by simpa using h, by simp [mg], by simp⟩
  | c :: cs, [], t, _, h => ⟨t, 0, by omega, by simpa using h, by simp, by simp [mg], by simp⟩
  | c :: cs, p :: ps, 0, _, _ => ⟨0, 0, rfl, by simp, by simp, by simp, by simp⟩
  | c :: cs, p :: ps, t + 1, hc, h => by
    have hc' := hc
    unfold Up at hc
    rw [List.pairwise_cons] at hc
    unfold mg
    split
    · obtain ⟨i, j, h1, h2, h3, h4, h5⟩ := mg_take cs (p :: ps) t hc.2 (by simp at h ⊢; omega)
      refine ⟨i + 1, j, by omega, by simp; omega, h3, ?_, by simpa using h5⟩
      simpa using h4
    · rename_i hlt
      obtain ⟨i, j, h1, h2, h3, h4, h5⟩ := mg_take (c :: cs) ps t hc' (by simp at h ⊢; omega)
      refine ⟨i, j + 1, by omega, h2, by simp; omega, ?_, fun x hx q hq => ?_⟩
      · rw [List.take_succ_cons, List.take_succ_cons]
        refine (List.Perm.cons p h4).trans ?_
        exact List.perm_middle.symm
      · rw [List.take_succ_cons, List.mem_cons] at hq
        rcases hq with rfl | hq
        · rcases List.mem_cons.1 (List.mem_of_mem_drop hx) with rfl | hx
          · omega
          · have := hc.1 x hx; omega
        · exact h5 x hx q hq
termination_by c p => c.length + p.length

theorem coin_up {cs : List Nat} (h : cs.Pairwise fun a b => wt a ≤ wt b) : Up wt (coin cs) := by
  unfold Up coin
  rw [List.pairwise_map]
  simpa [W] using h
theorem coin_length (cs : List Nat) : (coin cs).length = cs.length := by simp [coin]
theorem coin_flatten (cs : List Nat) : (coin cs).flatten = cs := by
  induction cs with
  | nil => rfl
  | cons a cs ih => simp [coin] at ih ⊢; exact ih
theorem coin_take (cs : List Nat) (i : Nat) : (coin cs).take i = coin (cs.take i) := by simp [coin, List.map_take]
theorem coin_drop (cs : List Nat) (i : Nat) : (coin cs).drop i = coin (cs.drop i) := by simp [coin, List.map_drop]

theorem lv_up {cs : List Nat} (h : cs.Pairwise fun a b => wt a ≤ wt b) : ∀ k, Up wt (lv wt cs k)
  | 0 => coin_up wt h
  | k + 1 => mg_up wt _ _ (coin_up wt h) (pk_up wt _ (lv_up h k))

theorem lv_length (cs : List Nat) : ∀ k, (lv wt cs k).length = cs.length * (2 ^ (k + 1) - 1) / 2 ^ k
  | 0 => by simp [lv, coin_length]
  | k + 1 => by
    rw [lv, mg_length, coin_length, pk_length, lv_length cs k, Nat.div_div_eq_div_mul, ← Nat.pow_succ]
    have h2 : 2 ^ (k + 1 + 1) = 2 * 2 ^ (k + 1) := by rw [Nat.pow_succ]; omega
    have hp := Nat.two_pow_pos (k + 1)
    generalize 2 ^ (k + 1) = x at *
    rw [h2, show cs.length * (2 * x - 1) = cs.length * (x - 1) + cs.length * x by rw [← Nat.mul_add]; congr 1; omega, Nat.add_mul_div_right _ _ hp, Nat.add_comm]

theorem sum_congr {l : List Nat} {f g : Nat → Nat} (h : ∀ s ∈ l, f s = g s) : (l.map f).sum = (l.map g).sum := by
  rw [List.map_congr_left h]
theorem sum_add (l : List Nat) (f g : Nat → Nat) : (l.map fun s => f s + g s).sum = (l.map f).sum + (l.map g).sum := by
  induction l with
  | nil => rfl
  | cons a l ih => simp only [List.map_cons, List.sum_cons, ih]; omega
theorem sum_const_map (l : List Nat) (c : Nat) : (l.map fun _ => c).sum = l.length * c := by
  induction l with
  | nil => simp
  | cons a l ih => simp only [List.map_cons, List.sum_cons, ih, List.length_cons, Nat.succ_mul]; omega
theorem sum_split (l : List Nat) (i : Nat) (f : Nat → Nat) : (l.map f).sum = ((l.take i).map f).sum + ((l.drop i).map f).sum := by
  conv => lhs; rw [← List.take_append_drop i l]
  rw [List.map_append, List.sum_append]

/-- How wide so many coins of a symbol are. -/
def wide2 (k n : Nat) : Nat := 2 ^ (k + 1) - 2 ^ (k + 1 - n)
theorem wide2_zero (k : Nat) : wide2 k 0 = 0 := by simp [wide2]
theorem wide2_succ (k n : Nat) (_h : n ≤ k + 1) : wide2 (k + 1) (1 + n) = 2 ^ (k + 1) + wide2 k n := by
  unfold wide2
  have h1 : 2 ^ (k + 1 - n) ≤ 2 ^ (k + 1) := Nat.pow_le_pow_right (by omega) (by omega)
  rw [show k + 1 + 1 - (1 + n) = k + 1 - n by omega, Nat.pow_succ 2 (k + 1)]
  omega

theorem nodup_count {l : List Nat} (h : l.Nodup) {s : Nat} (hs : s ∈ l) : l.count s = 1 := by
  induction l with
  | nil => cases hs
  | cons a l ih =>
    rw [List.nodup_cons] at h
    rcases List.mem_cons.1 hs with rfl | hs
    · rw [List.count_cons_self, List.count_eq_zero.2 h.1]
    · have : a ≠ s := fun e => h.1 (e ▸ hs)
      rw [List.count_cons_of_ne this, ih h.2 hs]
theorem nodup_split {l : List Nat} (h : l.Nodup) (i : Nat) {s : Nat} (h1 : s ∈ l.take i) (h2 : s ∈ l.drop i) : False := by
  rw [← List.take_append_drop i l, List.nodup_append] at h
  exact h.2.2 s h1 s h2 rfl

/-- One coin more of the first i: no later symbol has more. -/
theorem down_step {cs : List Nat} (i : Nat) {o n : Nat → Nat} (h1 : ∀ s ∈ cs.take i, o s = 1 + n s) (h0 : ∀ s ∈ cs.drop i, o s = 0) (hd : cs.Pairwise fun a b => n b ≤ n a) : cs.Pairwise fun a b => o b ≤ o a := by
  rw [← List.take_append_drop i cs, List.pairwise_append]
  refine ⟨?_, ?_, fun a _ b hb => by rw [h0 b hb]; omega⟩
  · refine List.Pairwise.imp_of_mem ?_ (hd.sublist (List.take_sublist i cs))
    intro a b ha hb h
    rw [h1 a ha, h1 b hb]; omega
  · refine List.Pairwise.imp_of_mem ?_ (hd.sublist (List.drop_sublist i cs))
    intro a b ha hb _
    rw [h0 b hb]; omega

/-- The first t of level k + 1. -/
theorem lv_split {cs : List Nat} (hup : cs.Pairwise fun a b => wt a ≤ wt b) (hnd : cs.Nodup) (k t : Nat) (ht : t ≤ (lv wt cs (k + 1)).length) :
    ∃ i j, i + j = t ∧ i ≤ cs.length ∧ 2 * j ≤ (lv wt cs k).length ∧
      (∀ s, occ ((lv wt cs (k + 1)).take t) s = (cs.take i).count s + occ ((lv wt cs k).take (2 * j)) s) ∧
      (∀ s ∈ cs.drop i, (cs.take i).count s = 0 ∧ occ ((lv wt cs k).take (2 * j)) s = 0) ∧ (∀ s ∈ cs.take i, (cs.take i).count s = 1) ∧
      (((lv wt cs (k + 1)).take t).map (W wt)).sum = ((cs.take i).map wt).sum + (((lv wt cs k).take (2 * j)).map (W wt)).sum := by
  rw [lv] at ht ⊢
  obtain ⟨i, j, h1, h2, h3, h4, h5⟩ := mg_take wt (coin cs) (pk (lv wt cs k)) t (coin_up wt hup) (by rw [mg_length] at ht; exact ht)
  rw [coin_length] at h2
  have h3' := h3
  rw [pk_length] at h3'
  have hpk := pk_take (lv wt cs k) j h3
  have hl : ((lv wt cs k).take (2 * j)).length = 2 * j := by rw [List.length_take]; omega
  have hfl : ((pk (lv wt cs k)).take j).flatten = ((lv wt cs k).take (2 * j)).flatten := by rw [hpk]; exact pk_flatten _ (by rw [hl]; omega)
  have hflat : List.Perm (((mg wt (coin cs) (pk (lv wt cs k))).take t).flatten) (cs.take i ++ ((lv wt cs k).take (2 * j)).flatten) := by
    have := h4.flatten
    rwa [List.flatten_append, coin_take, coin_flatten, hfl] at this
  have hWf : ∀ l : List (List Nat), (l.map (W wt)).sum = (l.flatten.map wt).sum := by
    intro l
    induction l with
    | nil => rfl
    | cons a l ih => simp [ih, W]
  refine ⟨i, j, h1, h2, by omega, fun s => ?_, fun s hs => ⟨?_, ?_⟩, fun s hs => ?_, ?_⟩
  · unfold occ
    rw [hflat.count_eq, List.count_append]
  · exact List.count_eq_zero.2 (fun h => nodup_split hnd i h hs)
  · unfold occ
    rw [List.count_eq_zero, ← hfl]
    intro h
    obtain ⟨q, hq, hsq⟩ := List.mem_flatten.1 h
    have h6 := h5 [s] (by rw [coin_drop]; exact List.mem_map.2 ⟨s, hs, rfl⟩) q hq
    have h7 := W_mem wt hsq
    rw [W_one] at h6
    omega
  · exact nodup_count (hnd.sublist (List.take_sublist i cs)) hs
  · rw [hWf, hWf, ← List.sum_append, ← List.map_append]
    exact (hflat.map wt).sum_nat

structure Fills (cs : List Nat) (k t : Nat) (T : List (List Nat)) : Prop where
  most : ∀ s, occ T s ≤ k + 1
  none : ∀ s, s ∉ cs → occ T s = 0
  down : cs.Pairwise fun a b => occ T b ≤ occ T a
  width : (cs.map fun s => wide2 k (occ T s)).sum = t * 2 ^ k
  cost : (T.map (W wt)).sum = (cs.map fun s => wt s * occ T s).sum

theorem lv_fills {cs : List Nat} (hup : cs.Pairwise fun a b => wt a ≤ wt b) (hnd : cs.Nodup) : ∀ (k t : Nat), t ≤ (lv wt cs k).length → Fills wt cs k t ((lv wt cs k).take t)
  | 0, t, ht => by
    have hoc : ∀ s, occ ((lv wt cs 0).take t) s = (cs.take t).count s := fun s => by unfold occ; rw [lv, coin_take, coin_flatten]
    have hco : (((lv wt cs 0).take t).map (W wt)).sum = ((cs.take t).map wt).sum := by
      rw [lv, coin_take]
      unfold coin
      rw [List.map_map]
      exact sum_congr fun s _ => W_one wt s
    rw [lv, coin_length] at ht
    have h1 : ∀ s ∈ cs.take t, (cs.take t).count s = 1 := fun s hs => nodup_count (hnd.sublist (List.take_sublist t cs)) hs
    have h0 : ∀ s ∈ cs.drop t, (cs.take t).count s = 0 := fun s hs => List.count_eq_zero.2 (fun h => nodup_split hnd t h hs)
    have hl : (cs.take t).length = t := by rw [List.length_take]; omega
    refine ⟨fun s => ?_, fun s hs => ?_, ?_, ?_, ?_⟩
    · rw [hoc]
      by_cases h : s ∈ cs.take t
      · rw [h1 s h]; omega
      · rw [List.count_eq_zero.2 h]; omega
    · rw [hoc]; exact List.count_eq_zero.2 (fun h => hs (List.mem_of_mem_take h))
    · exact down_step t (n := fun _ => 0) (fun s hs => by rw [hoc, h1 s hs]) (fun s hs => by rw [hoc, h0 s hs]) (List.pairwise_of_forall fun _ _ => Nat.le_refl _)
    · rw [sum_split cs t, sum_congr (l := cs.take t) (g := fun _ => 1) (fun s hs => by rw [hoc, h1 s hs]; rfl), sum_congr (l := cs.drop t) (g := fun _ => 0) (fun s hs => by rw [hoc, h0 s hs]; rfl), sum_const_map, sum_const_map, hl]
      simp
    · rw [hco, sum_split cs t, sum_congr (l := cs.take t) (f := fun s => wt s * occ _ s) (g := wt) (fun s hs => by rw [hoc, h1 s hs, Nat.mul_one]), sum_congr (l := cs.drop t) (f := fun s => wt s * occ _ s) (g := fun _ => 0) (fun s hs => by rw [hoc, h0 s hs, Nat.mul_zero]), sum_const_map]
      simp
  | k + 1, t, ht => by
    obtain ⟨i, j, hij, hi, hj, hoc, hd, hone, hco⟩ := lv_split wt hup hnd k t ht
    have ih := lv_fills hup hnd k (2 * j) hj
    generalize (lv wt cs k).take (2 * j) = T at hoc hd hco ih
    have ho1 : ∀ s ∈ cs.take i, occ ((lv wt cs (k + 1)).take t) s = 1 + occ T s := fun s hs => by rw [hoc, hone s hs]
    have ho0 : ∀ s ∈ cs.drop i, occ ((lv wt cs (k + 1)).take t) s = 0 := fun s hs => by rw [hoc, (hd s hs).1, (hd s hs).2]
    have hl : (cs.take i).length = i := by rw [List.length_take]; omega
    refine ⟨fun s => ?_, fun s hs => ?_, down_step i ho1 ho0 ih.down, ?_, ?_⟩
    · have h1 := ih.most s
      rw [hoc]
      by_cases h : s ∈ cs.take i
      · rw [hone s h]; omega
      · rw [List.count_eq_zero.2 h]; omega
    · rw [hoc, ih.none s hs, List.count_eq_zero.2 (fun h => hs (List.mem_of_mem_take h))]
    · have hw := ih.width
      rw [sum_split cs i, sum_congr (l := cs.drop i) (g := fun _ => 0) (fun s hs => by rw [(hd s hs).2, wide2_zero]), sum_const_map, Nat.mul_zero, Nat.add_zero] at hw
      rw [sum_split cs i, sum_congr (l := cs.take i) (g := fun s => 2 ^ (k + 1) + wide2 k (occ T s)) (fun s hs => by rw [ho1 s hs, wide2_succ k _ (ih.most s)]),
        sum_congr (l := cs.drop i) (g := fun _ => 0) (fun s hs => by rw [ho0 s hs, wide2_zero]), sum_add, sum_const_map, sum_const_map, hl, hw, Nat.mul_zero, Nat.add_zero, ← hij, Nat.pow_succ, Nat.add_mul]
      rw [Nat.mul_assoc 2 j, Nat.mul_comm 2 (j * 2 ^ k), Nat.mul_assoc]
    · have hc := ih.cost
      rw [sum_split cs i, sum_congr (l := cs.drop i) (g := fun _ => 0) (fun s hs => by rw [(hd s hs).2, Nat.mul_zero]), sum_const_map, Nat.mul_zero, Nat.add_zero] at hc
      rw [hco, hc, sum_split cs i, sum_congr (l := cs.take i) (f := fun s => wt s * occ ((lv wt cs (k + 1)).take t) s) (g := fun s => wt s + wt s * occ T s) (fun s hs => by rw [ho1 s hs, Nat.mul_add, Nat.mul_one]),
        sum_congr (l := cs.drop i) (f := fun s => wt s * occ ((lv wt cs (k + 1)).take t) s) (g := fun _ => 0) (fun s hs => by rw [ho0 s hs, Nat.mul_zero]), sum_add, sum_const_map]
      simp

/-- What packages weigh together. -/
def SW (l : List (List Nat)) : Nat := (l.map (W wt)).sum
theorem SW_cons (a : List Nat) (l : List (List Nat)) : SW wt (a :: l) = W wt a + SW wt l := rfl
theorem SW_append (a b : List (List Nat)) : SW wt (a ++ b) = SW wt a + SW wt b := by simp [SW]
theorem SW_flatten (l : List (List Nat)) : SW wt l = (l.flatten.map wt).sum := by
  induction l with
  | nil => rfl
  | cons a l ih => rw [SW_cons, ih]; simp [W]
theorem SW_coin (cs : List Nat) : SW wt (coin cs) = (cs.map wt).sum := by rw [SW_flatten, coin_flatten]

theorem SW_next {c : List Nat} {cs : List (List Nat)} (h : Up wt (c :: cs)) (t : Nat) (ht : t < (c :: cs).length) : SW wt ((c :: cs).take t) + W wt c ≤ SW wt ((c :: cs).take (t + 1)) := by
  rw [List.take_add_one, SW_append, List.getElem?_eq_getElem ht]
  have : W wt c ≤ W wt ((c :: cs)[t]) := by
    cases t with
    | zero => exact Nat.le_refl _
    | succ t =>
      unfold Up at h
      rw [List.pairwise_cons] at h
      exact h.1 _ (by simp)
  simp only [Option.toList, SW_cons]
  have e : SW wt [] = 0 := rfl
  omega

/-- No a of the one and b of the other weigh less than the first of both. -/
theorem mg_least : ∀ (c p : List (List Nat)) (a b : Nat), Up wt c → Up wt p → a ≤ c.length → b ≤ p.length → SW wt ((mg wt c p).take (a + b)) ≤ SW wt (c.take a) + SW wt (p.take b)
  | [], p, a, b, _, _, ha, _ => by
    have : a = 0 := by simpa using ha
    subst this
    simp [mg, SW]
  | c :: cs, [], a, b, _, _, _, hb => by
    have : b = 0 := by simpa using hb
    subst this
    simp [mg, SW]
  | c :: cs, p :: ps, a, b, hc, hp, ha, hb => by
    have hc' := hc
    have hp' := hp
    unfold Up at hc hp
    rw [List.pairwise_cons] at hc hp
    unfold mg
    split
    · rename_i h
      match a, b with
      | 0, 0 => simp [SW]
      | a + 1, b =>
        have ih := mg_least cs (p :: ps) a b hc.2 hp' (by simpa using ha) hb
        rw [show a + 1 + b = (a + b) + 1 by omega, List.take_succ_cons, List.take_succ_cons, SW_cons, SW_cons]
        omega
      | 0, b + 1 =>
        have ih := mg_least cs (p :: ps) 0 b hc.2 hp' (Nat.zero_le _) (by omega)
        have hn := SW_next wt hp' b (by omega)
        rw [Nat.zero_add] at ih ⊢
        rw [List.take_succ_cons, SW_cons]
        have e : SW wt (cs.take 0) = 0 := by simp [SW]
        have e2 : SW wt ((c :: cs).take 0) = 0 := by simp [SW]
        omega
    · rename_i h
      match a, b with
      | 0, 0 => simp [SW]
      | a, b + 1 =>
        have ih := mg_least (c :: cs) ps a b hc' hp.2 ha (by simpa using hb)
        rw [show a + (b + 1) = (a + b) + 1 by omega, List.take_succ_cons, List.take_succ_cons, SW_cons, SW_cons]
        omega
      | a + 1, 0 =>
        have ih := mg_least (c :: cs) ps a 0 hc' hp.2 (by omega) (Nat.zero_le _)
        have hn := SW_next wt hc' a (by omega)
        rw [Nat.add_zero] at ih ⊢
        rw [List.take_succ_cons, SW_cons]
        have e : SW wt (ps.take 0) = 0 := by simp [SW]
        have e2 : SW wt ((p :: ps).take 0) = 0 := by simp [SW]
        omega
termination_by c p => c.length + p.length

theorem take_shift : ∀ (a : Nat) (cs : List Nat) (t : Nat), (a :: cs).Pairwise (fun a b => wt a ≤ wt b) → t ≤ cs.length → (((a :: cs).take t).map wt).sum ≤ ((cs.take t).map wt).sum
  | a, cs, 0, _, _ => by simp
  | a, [], t + 1, _, h => by simp at h
  | a, c :: cs, t + 1, hp, h => by
    have hp' := hp
    rw [List.pairwise_cons] at hp
    have ih := take_shift c cs t hp.2 (by simpa using h)
    have h1 := hp.1 c (by simp)
    rw [List.take_succ_cons, List.take_succ_cons, List.map_cons, List.map_cons, List.sum_cons, List.sum_cons]
    omega

/-- Any so many coins weigh no less than the first so many. -/
theorem coins_least : ∀ (cs : List Nat) (b : Nat → Nat), cs.Pairwise (fun a b => wt a ≤ wt b) → (∀ s ∈ cs, b s ≤ 1) → ((cs.take (cs.map b).sum).map wt).sum ≤ (cs.map fun s => wt s * b s).sum ∧ (cs.map b).sum ≤ cs.length
  | [], b, _, _ => by simp
  | a :: cs, b, hp, hb => by
    have hp' := hp
    rw [List.pairwise_cons] at hp
    obtain ⟨ih, ihl⟩ := coins_least cs b hp.2 (fun s hs => hb s (by simp [hs]))
    have h1 := hb a (by simp)
    simp only [List.map_cons, List.sum_cons, List.length_cons]
    rcases Nat.le_one_iff_eq_zero_or_eq_one.1 h1 with h | h
    · rw [h, Nat.zero_add, Nat.mul_zero, Nat.zero_add]
      exact ⟨Nat.le_trans (take_shift wt a cs _ hp' ihl) ih, by omega⟩
    · rw [h, Nat.mul_one, Nat.add_comm 1, List.take_succ_cons, List.map_cons, List.sum_cons]
      exact ⟨by omega, by omega⟩

theorem take_mono (cs : List Nat) {t a : Nat} (h : t ≤ a) : ((cs.take t).map wt).sum ≤ ((cs.take a).map wt).sum := by
  have : cs.take t = (cs.take a).take t := by rw [List.take_take, Nat.min_eq_left h]
  rw [this]
  conv => rhs; rw [← List.take_append_drop t (cs.take a), List.map_append, List.sum_append]
  omega

theorem sum_le {l : List Nat} {f g : Nat → Nat} (h : ∀ s ∈ l, f s ≤ g s) : (l.map f).sum ≤ (l.map g).sum := by
  induction l with
  | nil => exact Nat.le_refl _
  | cons a l ih =>
    simp only [List.map_cons, List.sum_cons]
    have := h a (by simp)
    have := ih (fun s hs => h s (by simp [hs]))
    omega

/-- No coins that are as wide weigh less than the first t of level k. -/
theorem lv_best {cs : List Nat} (hup : cs.Pairwise fun a b => wt a ≤ wt b) : ∀ (k t : Nat) (n : Nat → Nat), (∀ s ∈ cs, n s ≤ k + 1) → t * 2 ^ k ≤ (cs.map fun s => wide2 k (n s)).sum →
    SW wt ((lv wt cs k).take t) ≤ (cs.map fun s => wt s * n s).sum
  | 0, t, n, hn, ht => by
    have e : (cs.map fun s => wide2 0 (n s)).sum = (cs.map n).sum := sum_congr fun s hs => by
      have := hn s hs
      unfold wide2
      have h : n s = 0 ∨ n s = 1 := by omega
      rcases h with h | h <;> rw [h]
    rw [e] at ht
    rw [lv, coin_take, SW_coin]
    exact Nat.le_trans (take_mono wt cs (by omega)) (coins_least wt cs n hup (fun s hs => by have := hn s hs; omega)).1
  | k + 1, t, n, hn, ht => by
    obtain ⟨a, ha⟩ : ∃ a, a = (cs.map fun s => min (n s) 1).sum := ⟨_, rfl⟩
    have hb := coins_least wt cs (fun s => min (n s) 1) hup (fun s _ => by omega)
    rw [← ha] at hb
    have hsplit : (cs.map fun s => wide2 (k + 1) (n s)).sum = a * 2 ^ (k + 1) + (cs.map fun s => wide2 k (n s - 1)).sum := by
      have e1 : (cs.map fun s => min (n s) 1 * 2 ^ (k + 1)).sum = a * 2 ^ (k + 1) := by
        rw [ha]
        generalize 2 ^ (k + 1) = x
        generalize cs = l
        induction l with
        | nil => simp
        | cons y l ih => simp only [List.map_cons, List.sum_cons, ih, Nat.add_mul]
      rw [← e1, ← sum_add]
      refine sum_congr fun s hs => ?_
      have h := hn s hs
      by_cases h0 : n s = 0
      · rw [h0]; simp [wide2_zero]
      · have := wide2_succ k (n s - 1) (by omega)
        rw [show 1 + (n s - 1) = n s by omega] at this
        rw [this, Nat.min_eq_right (by omega), Nat.one_mul]
    have hcost : (cs.map fun s => wt s * n s).sum = (cs.map fun s => wt s * min (n s) 1).sum + (cs.map fun s => wt s * (n s - 1)).sum := by
      rw [← sum_add]
      refine sum_congr fun s _ => ?_
      rw [← Nat.mul_add]
      congr 1
      omega
    rw [hsplit] at ht
    have hpu := pk_up wt _ (lv_up wt hup k)
    rw [lv]
    by_cases hta : t ≤ a
    · have := mg_least wt (coin cs) (pk (lv wt cs k)) t 0 (coin_up wt hup) hpu (by rw [coin_length]; omega) (Nat.zero_le _)
      rw [Nat.add_zero, coin_take, SW_coin] at this
      have e : SW wt ((pk (lv wt cs k)).take 0) = 0 := by simp [SW]
      have hm := take_mono wt cs hta
      omega
    · obtain ⟨d, hd⟩ : ∃ d, t = a + d := ⟨t - a, by omega⟩
      subst hd
      rw [Nat.add_mul] at ht
      have hw : 2 * d * 2 ^ k ≤ (cs.map fun s => wide2 k (n s - 1)).sum := by
        have : d * 2 ^ (k + 1) = 2 * d * 2 ^ k := by rw [Nat.pow_succ, Nat.mul_comm 2 d, Nat.mul_assoc, Nat.mul_comm 2]
        omega
      have ih := lv_best hup k (2 * d) (fun s => n s - 1) (fun s hs => by have := hn s hs; omega) hw
      have hlen : 2 * d ≤ (lv wt cs k).length := by
        rw [lv_length, Nat.le_div_iff_mul_le (Nat.two_pow_pos k)]
        refine Nat.le_trans hw ?_
        rw [← sum_const_map]
        refine sum_le fun s _ => ?_
        unfold wide2
        have := Nat.two_pow_pos (k + 1 - (n s - 1))
        omega
      have hdl : d ≤ (pk (lv wt cs k)).length := by rw [pk_length]; omega
      have hm := mg_least wt (coin cs) (pk (lv wt cs k)) a d (coin_up wt hup) hpu (by rw [coin_length]; exact hb.2) hdl
      rw [coin_take, SW_coin, pk_take _ _ hdl] at hm
      have he : SW wt (pk ((lv wt cs k).take (2 * d))) = SW wt ((lv wt cs k).take (2 * d)) := by
        rw [SW_flatten, SW_flatten, pk_flatten _ (by rw [List.length_take]; omega)]
      omega

end
end Go.Proofs.Ytclfbdfgmeliaaa
