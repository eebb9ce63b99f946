/-
  Slices of ints that can be read; the contracts of the helper Ints ; what Kraft and Cost are of ints (no reference).
-/
import Derived.Test.YtclfbdfgmeliaaaRows
import Derived.Test.YtclfbdfgmeliaaaAny
import Derived.Test.YtclfbdfgmeliaaaPLaws
import Derived.WalkLawsBesides
import Derived.Deep.LoopGhost
namespace Go.Proofs.Ytclfbdfgmeliaaa
open Go.RowKit
set_option maxRecDepth 4000

def zrow (zs : List Int) : List Value := zs.map (Value.int .i64)
/-- A slice of ints that can be read. -/
def ReadsZ (w : World) (v : Value) (zs : List Int) : Prop := Holds w v (zrow zs)
theorem zrow_length (zs : List Int) : (zrow zs).length = zs.length := by simp [zrow]
theorem zrow_get (zs : List Int) (i : Nat) (z : Int) (h : zs[i]? = some z) : (zrow zs)[i]? = some (.int .i64 z) := by simp [zrow, h]
theorem ReadsZ.keep {w w' : World} {v : Value} {zs : List Int} (h : ReadsZ w v zs) (f : Fr w w' (fun _ => False)) : ReadsZ w' v zs := Holds.keep h f
theorem Reads.z {w : World} {v : Value} {bs : List Nat} (h : Reads .i64 w v bs) : ReadsZ w v (bs.map fun (b : Nat) => (b : Int)) := by
  unfold ReadsZ zrow
  rw [List.map_map]
  exact h
theorem ReadsZ.form {w : World} {v : Value} {zs : List Int} (h : ReadsZ w v zs) : ∃ a c, v = .slice a zs.length c ∧ zs.length ≤ c := by
  obtain ⟨a, c, e, hl, _⟩ := h
  rw [zrow_length] at e hl
  exact ⟨a, c, e, hl⟩
theorem ReadsZ.get {w : World} {v : Value} {zs : List Int} (h : ReadsZ w v zs) (i : Nat) (z : Int) (hz : zs[i]? = some z) : ∃ b off c, v = .slice (some ⟨b, off, none⟩) zs.length c ∧ b < w.heap.size ∧ ∀ x, Fr w x (fun _ => False) → x.cell? ⟨b, off + i, none⟩ = some (.int .i64 z) := by
  obtain ⟨a, c, rfl, hl, hc⟩ := h
  have hi := (List.getElem?_eq_some_iff.1 hz).1
  rw [zrow_length] at hc
  obtain ⟨b, off, rfl, hcell⟩ := hc (by omega)
  have h1 := hcell i _ (zrow_get zs i z hz)
  have h2 := World.block_lt_of_cell? _ _ h1
  refine ⟨b, off, c, by rw [zrow_length], h2, fun x hx => ?_⟩
  rw [World.cell?_of_block (w := w) (hx.block b h2 (fun h => h))]
  exact h1

set_option maxHeartbeats 800000 in
theorem ints_any (va vb : Value) (as' bs : List Int) (w : World) (ha : ReadsZ w va as') (hb : ReadsZ w vb bs) (hla : as'.length ≤ 1000000000000) :
    Calls Try.prog 12 #[va, vb] w fun e w' => e = .returned (.bool (decide (as' = bs))) ∧ Fr w w' (fun _ => False) := by
  obtain ⟨a0, c0, rfl, hc0⟩ := ha.form
  obtain ⟨a1, c1, rfl, hc1⟩ := hb.form
  have Ha : Hid (ReadsZ w (.slice a0 as'.length c0) as') := ha
  have Hb : Hid (ReadsZ w (.slice a1 bs.length c1) bs) := hb
  obtain ⟨n, hn⟩ : ∃ n, n = as'.length := ⟨_, rfl⟩
  obtain ⟨m, hm⟩ : ∃ m, m = bs.length := ⟨_, rfl⟩
  obtain ⟨D, hD⟩ : ∃ D, D = decide (as' = bs) := ⟨_, rfl⟩
  rw [← hn] at Ha hc0 hla ⊢
  rw [← hm] at Hb hc1 ⊢
  rw [← hD]
  have Hn : Hid _ := hn
  have Hm : Hid _ := hm
  have HD : Hid _ := hD
  clear ha hb hn hm hD
  by_cases hnm : n = m
  · subst hnm
    go_enter Try.func12, Try.ntmps12
    go_wp2_with fail
    go_loopg [5] n (fun g I wr => ∃ i : Nat, g = n - i ∧ i ≤ n ∧ I = .int .i64 (i : Int) ∧ as'.take i = bs.take i ∧ Fr w wr (fun _ => False))
    case atStart => exact ⟨0, rfl, by omega, rfl, by simp, Fr.refl _ _⟩
    case round =>
      obtain ⟨i, hg, hi, rfl, heq, hf⟩ := hrel
      have Hg : Hid _ := hg
      have Heq : Hid _ := heq
      clear hg heq
      by_cases hlt : i < n
      · obtain ⟨x, hx⟩ : ∃ x, as'[i]? = some x := ⟨_, List.getElem?_eq_getElem (by rw [← Hn.out]; exact hlt)⟩
        obtain ⟨y, hy⟩ : ∃ y, bs[i]? = some y := ⟨_, List.getElem?_eq_getElem (by rw [← Hm.out]; exact hlt)⟩
        obtain ⟨b, off, cp, e, hb0, kx⟩ := (Ha.out.keep hf).get i x hx
        obtain ⟨b', off', cp', e', hb1, ky⟩ := (Hb.out.keep hf).get i y hy
        simp only [Value.slice.injEq] at e e'
        obtain ⟨rfl, -, rfl⟩ := e
        obtain ⟨rfl, -, rfl⟩ := e'
        have kx' : ∀ z, Fr wr.drew z (fun _ => False) → z.cell? ⟨b, off + i, none⟩ = some (.int .i64 x) := fun z hz => kx z ((Fr.refl wr _).drew.none hz)
        have ky' : ∀ z, Fr wr.drew z (fun _ => False) → z.cell? ⟨b', off' + i, none⟩ = some (.int .i64 y) := fun z hz => ky z ((Fr.refl wr _).drew.none hz)
        have hi1 : (i : Int) < (n : Int) := by omega
        have Hx : Hid _ := hx
        have Hy : Hid _ := hy
        clear kx ky hx hy
        go_wp2
        refine wp_region_all (fun _ => False) [.c ?_, .c ?_, .c ?_, .c ?_, .c ?_, .c ?_, .c ?_, .c ?_, .c ?_] (by kernel_rfl) (by kernel_rfl) rfl ?last ?walk
        case last => repeat (first | exact Lasts.nil | refine Lasts.c ?_)
        case walk =>
          repeat (refine wpAll_take rfl rfl (fun x hx => ?_) ?_; (focus (go_simp; with_reducible rfl)); simp only [Act.put, List.setIfInBounds_toArray, List.set_cons_zero, List.set_cons_succ])
          refine wpAll_nil (fun wx hfx _ => ?_)
          replace hfx := hf.drew.none hfx
          by_cases hxy : x = y
          · subst hxy
            go_wp2
            go_roundg (n - (i + 1))
            case rel =>
              refine ⟨i + 1, rfl, by omega, by go_num, ?_, hfx⟩
              rw [List.take_add_one, List.take_add_one, Hx.out, Hy.out, Heq.out]
            case measure => rw [Hg.out]; omega
          · have hne : (x != y) = true := by simpa using hxy
            have HDf : Hid (D = false) := by
              show _ = _
              rw [HD.out]
              refine decide_eq_false fun e => hxy ?_
              have := Hx.out
              rw [e, Hy.out] at this
              simpa using this.symm
            go_wp2
            go_ret
            exact ⟨by rw [HDf.out]; rfl, hfx⟩
      · have HDt : Hid (D = true) := by
          show _ = _
          rw [HD.out]
          refine decide_eq_true ?_
          have := Heq.out
          rwa [List.take_of_length_le (by rw [← Hn.out]; omega), List.take_of_length_le (by rw [← Hm.out]; omega)] at this
        go_wp2
        go_ret
        exact ⟨by rw [HDt.out]; rfl, hf⟩
  · have HDf : Hid (D = false) := by
      show _ = _
      rw [HD.out]
      exact decide_eq_false fun e => hnm (by rw [Hn.out, Hm.out, e])
    have hne : ((n : Int) != (m : Int)) = true := by simp; omega
    have hne2 : (n != m) = true := by simp; omega
    go_enter Try.func12, Try.ntmps12
    go_wp2
    go_ret
    exact ⟨by rw [HDf.out]; rfl, Fr.refl _ _⟩

/-- A count counts as this; a greatest length as that. -/
def clampN (z : Int) : Nat := (min (max z 0) 1099511627776).toNat
def clampM (z : Int) : Nat := (min (max z 1) 15).toNat
theorem clampN_le (z : Int) : clampN z ≤ 1099511627776 := by unfold clampN; omega
theorem wrap64_small (z : Int) (h0 : 0 ≤ z) (h1 : z ≤ 9223372036854775807) : wrap64 z = z := by
  unfold wrap64
  omega

/-- Kraft's sum of any ints. -/
def kraftZ (zs : List Int) : Nat := (zs.map fun z => if 1 ≤ z ∧ z ≤ 15 then 2 ^ (15 - z.toNat) else 0).sum
theorem kraftZ_snoc (zs : List Int) (z : Int) : kraftZ (zs ++ [z]) = kraftZ zs + if 1 ≤ z ∧ z ≤ 15 then 2 ^ (15 - z.toNat) else 0 := by simp [kraftZ]
theorem kraftZ_le (zs : List Int) : kraftZ zs ≤ zs.length * 16384 := by
  induction zs with
  | nil => simp [kraftZ]
  | cons z zs ih =>
    simp only [kraftZ, List.map_cons, List.sum_cons, List.length_cons] at ih ⊢
    have : (if 1 ≤ z ∧ z ≤ 15 then 2 ^ (15 - z.toNat) else 0) ≤ 16384 := by
      split
      · rename_i h
        exact Nat.le_trans (Nat.pow_le_pow_right (by omega) (by omega : 15 - z.toNat ≤ 14)) (by decide)
      · omega
    omega
theorem kraftZ_nat (bs : List Nat) : kraftZ (bs.map fun (b : Nat) => (b : Int)) = kraftOf bs := by
  unfold kraftZ kraftOf
  rw [List.map_map]
  congr 1
  apply List.map_congr_left
  intro b _
  simp only [Function.comp, Int.toNat_natCast]
  by_cases h : 1 ≤ b ∧ b ≤ 15
  · rw [if_pos h, if_pos (by omega)]
  · rw [if_neg h, if_neg (by omega)]
theorem takeZ_step {zs : List Int} {i : Nat} {z : Int} (h : zs[i]? = some z) : zs.take (i + 1) = zs.take i ++ [z] := by rw [List.take_add_one, h]; rfl

/-- All counts times their lengths, as far as both go. -/
def costZ (zs : List Int) (ls : List Nat) : Nat := (List.zipWith (fun z l => clampN z * l) zs ls).sum
theorem costZ_step {zs : List Int} {ls : List Nat} {i : Nat} {z : Int} {l : Nat} (hz : zs[i]? = some z) (hl : ls[i]? = some l) : costZ (zs.take (i + 1)) (ls.take (i + 1)) = costZ (zs.take i) (ls.take i) + clampN z * l := by
  have h1 := (List.getElem?_eq_some_iff.1 hz).1
  have h2 := (List.getElem?_eq_some_iff.1 hl).1
  unfold costZ
  rw [takeZ_step hz, show ls.take (i + 1) = ls.take i ++ [l] by rw [List.take_add_one, hl]; rfl, List.zipWith_append (by rw [List.length_take, List.length_take]; omega)]
  simp
theorem costZ_le (zs : List Int) (ls : List Nat) (h : ∀ l ∈ ls, l ≤ 63) : costZ zs ls ≤ zs.length * 69269232549888 := by
  induction zs generalizing ls with
  | nil => simp [costZ]
  | cons z zs ih =>
    cases ls with
    | nil => simp [costZ]
    | cons l ls =>
      have h1 := ih ls (fun x hx => h x (by simp [hx]))
      have h2 := Nat.mul_le_mul (clampN_le z) (h l (by simp))
      simp only [costZ, List.zipWith_cons_cons, List.sum_cons, List.length_cons] at h1 ⊢
      omega
theorem costZ_all (zs : List Int) (ls : List Nat) (i : Nat) (h : zs.length ≤ i ∨ ls.length ≤ i) : costZ (zs.take i) (ls.take i) = costZ zs ls := by
  unfold costZ
  rw [← List.take_zipWith, List.take_of_length_le (by rw [List.length_zipWith]; omega)]

end Go.Proofs.Ytclfbdfgmeliaaa
