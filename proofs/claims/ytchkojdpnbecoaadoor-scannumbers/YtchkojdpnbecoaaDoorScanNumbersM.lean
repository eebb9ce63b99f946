/-
  The walk of the law ScanNumbers, under the condition that the program's scanner answers as its contracts say.
-/
import Derived.Test.YtchkojdpnbecoaaDoorRows
import Derived.Test.YtchkojdpnbecoaaDoorCKnow
import Derived.Test.YtchkojdpnbecoaaDoorCNum
namespace Go.Proofs.YtchkojdpnbecoaaDoor.scanNumbers
open Go.ChangeShapes Go.WideShapes Go.ChangeAt Go.RowKit

theorem heads_self (v : Nat) : Heads (strOf (decL v)) v := by
  have h := heads_dec v (strOf []) (.inl (strOf_length []))
  rw [strOf_append, List.append_nil] at h
  exact h

set_option maxRecDepth 4000 in
set_option maxHeartbeats 6400000 in
theorem walkM {K : World → Prop} {P : (Nat → Prop) → World → Value → ByteArray → Sc → Prop} (M : CI K P) (a0 : Int) (a1 : Int) (m : ByteArray) (w : World) (w0 : (Lit.int .u64 a0).wf = true) (w1 : (Lit.int .u8 a1).wf = true) (hK : K w) :
    Calls Tryd.prog 4 #[.int .u64 a0, .int .u8 a1, .string m] w fun e w' => e = .returned (.bool true) ∧ Below w.heap.size w w' := by
  have HK : Hid (K w) := hK
  clear hK
  have b0 := bounds_u64 w0
  have b1 := bounds_u8 w1
  obtain ⟨n, rfl⟩ : ∃ n : Nat, a0 = (n : Int) := ⟨a0.toNat, by omega⟩
  obtain ⟨sh, rfl⟩ : ∃ n : Nat, a1 = (n : Int) := ⟨a1.toNat, by omega⟩
  clear w0 w1
  obtain ⟨k, hk⟩ : ∃ k, k = sh % 64 := ⟨_, rfl⟩
  obtain ⟨v, hv⟩ : ∃ v, v = n / 2 ^ k := ⟨_, rfl⟩
  have hkm : (sh : Int) % 64 = (k : Int) := by omega
  have hkt : (sh : Int).tmod 64 = (k : Int) := by rw [Int.tmod_eq_emod_of_nonneg (by omega)]; exact hkm
  have hk64 : (k : Int) ≤ 64 := by omega
  have hwk : IntKind.u8.wrap (k : Int) = (k : Int) := IntWalk.u8_in _ (by omega)
  have hvq : (n : Int) / 2 ^ k = (v : Int) := by rw [hv]; simp
  have hvn : v ≤ n := by rw [hv]; exact Nat.div_le_self _ _
  have Hv : Hid (v < 18446744073709551616) := by show _ < _; omega
  clear hk hv b1 hvn
  go_enter Tryd.func4, Tryd.ntmps4
  go_wp2_with fail
  refine (cknown_any M w HK.out).mono ?_
  rintro r w1 ⟨rfl, f1⟩
  have Hf1 : Hid (Fr w w1 (fun _ => False)) := f1
  clear f1
  by_cases hlen : m.size ≤ 20
  case neg =>
    have g : (20 : Int) < (m.size : Int) := by omega
    have g' : decide (20 < m.size) = true := decide_eq_true (by omega)
    clear hlen
    go_wp2_with fail
    go_ret
    exact ⟨rfl, cbelow Hf1.out⟩
  have g : ¬ (20 : Int) < (m.size : Int) := by omega
  have g' : decide (20 < m.size) = false := decide_eq_false (by omega)
  go_wp2_with fail
  refine (refDecimal_any v w1 Hv.out).mono ?_
  rintro r w2 ⟨rfl, f2⟩
  have Hf2 : Hid (Fr w w2 (fun _ => False)) := Hf1.out.none f2
  clear f2 hkm hkt hk64 hwk hvq b0
  have h20 := decL_len20 v Hv.out
  obtain ⟨l, hl⟩ : ∃ l, l = (decL v).length := ⟨_, rfl⟩
  rw [← hl] at h20
  have hDs := strOf_length (decL v)
  rw [← hl] at hDs
  have Hhead : Hid (∀ m2 : ByteArray, m2.size = 0 ∨ isDig (chAt m2 0) = false → Heads (strOf (decL v) ++ m2) v) := heads_dec v
  have Hself : Hid (Heads (strOf (decL v)) v) := heads_self v
  have Hnou : Hid (scNum (strOf [48] ++ strOf (decL v)) 18446744073709551615 ⟨0, 1, 1, 0⟩ = ⟨0, 1, 1, 21⟩) := nought_dec v _
  have Hl : Hid (l = (decL v).length) := hl
  generalize strOf (decL v) = D at hDs Hhead Hself Hnou ⊢
  clear hl
  by_cases h0 : 0 < m.size
  · have g0 : (0 : Int) < (m.size : Int) := by omega
    have g0' : decide (0 < m.size) = true := decide_eq_true h0
    have hix : ∀ z, (Instr.index 9 (.string m) (.int .i64 0)).run Tryd.prog z = .ok (.int .u8 (chAt m 0 : Int)) z := fun z => index_any m 0 h0 z
    have Hch : Hid (∀ M2 : ByteArray, M2 = m → chAt M2 0 = chAt m 0) := fun M2 h => by rw [h]
    obtain ⟨b, hb⟩ : ∃ b, b = chAt m 0 := ⟨_, rfl⟩
    rw [← hb] at hix
    have Hb : Hid _ := hb
    clear hb Hch
    by_cases h1 : 48 ≤ b
    · have g1 : (48 : Int) ≤ (b : Int) := by omega
      have g1' : decide ((48 : Int) ≤ (b : Int)) = true := decide_eq_true g1
      by_cases h2 : b ≤ 57
      · have g2 : (b : Int) ≤ (57 : Int) := by omega
        have g2' : decide ((b : Int) ≤ (57 : Int)) = true := decide_eq_true g2
        have hno1 : ¬ 9223372036854775807 < (⟨#[32]⟩ : ByteArray).size + m.size := by show ¬ _ < 1 + _; omega
        obtain ⟨M2, hM2⟩ : ∃ M2, M2 = (⟨#[32]⟩ : ByteArray) ++ m := ⟨_, rfl⟩
        have hM2s : M2.size ≤ 21 := by rw [hM2, ByteArray.size_append]; show 1 + _ ≤ _; omega
        have Hm2 : Hid (M2.size = 0 ∨ isDig (chAt M2 0) = false) := .inr (by rw [hM2, chAt_append, if_pos (show 0 < (⟨#[32]⟩ : ByteArray).size by decide)]; decide)
        have hM2' := hM2.symm
        clear hM2
        go_upto_region 9 with fail
        try rw [hM2']
        have hno2 : ¬ 9223372036854775807 < D.size + M2.size := by rw [hDs]; omega
        have H1 : Hid (Heads (D ++ M2) v) := Hhead.out M2 Hm2.out
        have hS1 : (D ++ M2).size ≤ 1000000000 := by rw [ByteArray.size_append, hDs]; omega
        have hno3 : ¬ 9223372036854775807 < (⟨#[48]⟩ : ByteArray).size + D.size := by rw [hDs]; show ¬ _ < 1 + _; omega
        have H2 : Hid (scNum ((⟨#[48]⟩ : ByteArray) ++ D) 18446744073709551615 ⟨0, 1, 1, 0⟩ = ⟨0, 1, 1, 21⟩) := Hnou.out
        have hS2 : ((⟨#[48]⟩ : ByteArray) ++ D).size ≤ 1000000000 := by rw [ByteArray.size_append, hDs]; show 1 + _ ≤ _; omega
        have hDl : D.size = l := hDs
        have hS0 : D.size ≤ 1000000000 := by omega
        have HS0 : Hid _ := hS0
        generalize hG1 : D ++ M2 = S1 at H1 hS1
        generalize hG2 : (⟨#[48]⟩ : ByteArray) ++ D = S2 at H2 hS2
        have HS1 : Hid _ := hS1
        have HS2 : Hid _ := hS2
        clear hS0 hS1 hS2
        go_wp2_with fail
        try rw [hG1]
        refine (M.new S1 w2 HS1.out).mono ?_
        rintro r w3 ⟨⟨c, F3, rfl, p3, n3⟩, f3⟩
        have P3 : Hid _ := p3
        have N3 : Hid (∀ k, F3 k → w.heap.size ≤ k) := fun k hk => Nat.le_trans Hf2.out.size (n3 k hk)
        have Hf3 : Hid (Fr w w3 (fun _ => False)) := Hf2.out.none f3
        clear p3 n3 f3
        go_wp2_with fail
        refine (M.number F3 c S1 _ v w3 P3.out (scNew_ok _) HS1.out Hv.out (M.keep HK.out Hf3.out)).mono ?_
        rw [(H1.out.reads (Nat.le_refl v)).1, (H1.out.reads (Nat.le_refl v)).2, ← Hl.out]
        rintro r w4 ⟨rfl, F4, p4, f4, n4⟩
        have P4 : Hid _ := p4
        have N4 : Hid (∀ k, F4 k → w.heap.size ≤ k) := fun k hk => (n4 k hk).elim (N3.out k) (fun h => Nat.le_trans Hf3.out.size h)
        have Hf4 : Hid (Fr w w4 (fun _ => False)) := Hf3.out.newer f4 N3.out
        have O4 : Hid (ScOk S1 ⟨l, 1, l + 1, 0⟩) := by
          have := scNum_ok (scNew_ok S1) v
          rw [(H1.out.reads (Nat.le_refl v)).2, ← Hl.out] at this
          exact this
        clear p4 n4 f4
        go_wp2_with fail
        try rw [hG2]
        refine (M.new S2 w4 HS2.out).mono ?_
        rintro r w5 ⟨⟨d, F5, rfl, p5, n5⟩, f5⟩
        have P5 : Hid _ := p5
        have A5 : Hid (∀ k, F4 k → ¬ F5 k) := fun k h4 h5 => by have := M.below P4.out k h4; have := n5 k h5; omega
        have N5 : Hid (∀ k, F5 k → w.heap.size ≤ k) := fun k hk => Nat.le_trans Hf4.out.size (n5 k hk)
        have C5 : Hid _ := M.frame P4.out f5 (fun _ _ h => h)
        have Hf5 : Hid (Fr w w5 (fun _ => False)) := Hf4.out.none f5
        clear p5 n5 f5
        go_wp2_with fail
        refine (M.number F5 d S2 _ 18446744073709551615 w5 P5.out (scNew_ok _) HS2.out (by decide) (M.keep HK.out Hf5.out)).mono ?_
        rw [H2.out]
        generalize scNumVal S2 18446744073709551615 ⟨0, 1, 1, 0⟩ = x0
        rintro r w6 ⟨rfl, F6, p6, f6, n6⟩
        have P6 : Hid _ := p6
        have C6 : Hid _ := M.frame C5.out f6 A5.out
        have Hf6 : Hid (Fr w w6 (fun _ => False)) := Hf5.out.newer f6 N5.out
        have O6 : Hid (ScOk S2 ⟨0, 1, 1, 21⟩) := by have := scNum_ok (scNew_ok S2) 18446744073709551615; rw [H2.out] at this; exact this
        clear p6 n6 f6
        go_wp2_with fail
        refine (M.err F4 c S1 _ w6 C6.out O4.out HS1.out).mono ?_
        rw [show (((⟨l, 1, l + 1, 0⟩ : Sc).err : Nat) : Int) = 0 from rfl]
        rintro r w7 ⟨rfl, f7⟩
        have C7 : Hid _ := M.frame C6.out f7 (fun _ _ h => h)
        have P7 : Hid _ := M.frame P6.out f7 (fun _ _ h => h)
        have Hf7 : Hid (Fr w w7 (fun _ => False)) := Hf6.out.none f7
        clear f7
        go_wp2_with fail
        refine (M.place F4 c S1 _ w7 C7.out O4.out HS1.out).mono ?_
        rw [show placeV ⟨l, 1, l + 1, 0⟩ = .agg #[.int .i64 1, .int .i64 ((l : Int) + 1)] from rfl]
        rintro r w8 ⟨rfl, f8⟩
        have P8 : Hid _ := M.frame P7.out f8 (fun _ _ h => h)
        have Hf8 : Hid (Fr w w8 (fun _ => False)) := Hf7.out.none f8
        clear f8
        go_wp2_with fail
        refine (M.err F6 d S2 _ w8 P8.out O6.out HS2.out).mono ?_
        rw [show (((⟨0, 1, 1, 21⟩ : Sc).err : Nat) : Int) = 21 from rfl]
        rintro r w9 ⟨rfl, f9⟩
        have Hf9 : Hid (Fr w w9 (fun _ => False)) := Hf8.out.none f9
        clear f9
        by_cases hv0 : v = 0
        · have z1 : ((v : Int) == 0) = true := by rw [beq_iff_eq]; omega
          clear hv0
          go_wp2_with fail
          go_ret
          exact ⟨rfl, cbelow Hf9.out⟩
        · have z1 : ((v : Int) == 0) = false := by rw [beq_eq_false_iff_ne]; omega
          have z2 : (v == 0) = false := by rw [beq_eq_false_iff_ne]; exact hv0
          obtain ⟨u, hu⟩ : ∃ u, u = v - 1 := ⟨_, rfl⟩
          have hw1 : IntKind.u64.wrap ((v : Int) - 1) = (u : Int) := by have := Hv.out; rw [IntWalk.u64_in _ (by omega)]; omega
          have Huv : Hid (u < v) := by show _ < _; omega
          clear hu
          go_wp2_with fail
          refine (M.new D w9 HS0.out).mono ?_
          rintro r wa ⟨⟨e, Fa, rfl, pa, na⟩, fa⟩
          have Pa : Hid _ := pa
          have Na : Hid (∀ k, Fa k → w.heap.size ≤ k) := fun k hk => Nat.le_trans Hf9.out.size (na k hk)
          have Hfa : Hid (Fr w wa (fun _ => False)) := Hf9.out.none fa
          clear pa na fa
          go_wp2_with fail
          refine (M.number Fa e D _ u wa Pa.out (scNew_ok _) HS0.out (Nat.lt_trans Huv.out Hv.out) (M.keep HK.out Hfa.out)).mono ?_
          rw [(Hself.out.long Huv.out).1, (Hself.out.long Huv.out).2]
          rintro r wb ⟨rfl, Fb, pb, fb, nb⟩
          have Pb : Hid _ := pb
          have Hfb : Hid (Fr w wb (fun _ => False)) := Hfa.out.newer fb Na.out
          have Ob : Hid (ScOk D ⟨0, 1, 1, 22⟩) := by have := scNum_ok (scNew_ok D) u; rw [(Hself.out.long Huv.out).2] at this; exact this
          clear pb nb fb
          go_wp2_with fail
          refine (M.err Fb e D _ wb Pb.out Ob.out HS0.out).mono ?_
          rw [show (((⟨0, 1, 1, 22⟩ : Sc).err : Nat) : Int) = 22 from rfl]
          rintro r wc ⟨rfl, fc⟩
          have Pc : Hid _ := M.frame Pb.out fc (fun _ _ h => h)
          have Hfc : Hid (Fr w wc (fun _ => False)) := Hfb.out.none fc
          clear fc
          go_wp2_with fail
          refine (M.place Fb e D _ wc Pc.out Ob.out HS0.out).mono ?_
          rw [show placeV ⟨0, 1, 1, 22⟩ = .agg #[.int .i64 1, .int .i64 1] from rfl]
          rintro r wd ⟨rfl, fd⟩
          have Hfd : Hid (Fr w wd (fun _ => False)) := Hfc.out.none fd
          clear fd
          go_wp2_with fail
          go_ret
          exact ⟨rfl, cbelow Hfd.out⟩
      · have g2 : ¬ (b : Int) ≤ (57 : Int) := by omega
        have g2' : decide ((b : Int) ≤ (57 : Int)) = false := decide_eq_false g2
        obtain ⟨M2, hM2⟩ : ∃ M2, M2 = m := ⟨_, rfl⟩
        have hM2s : M2.size ≤ 21 := by rw [hM2]; omega
        have Hm2 : Hid (M2.size = 0 ∨ isDig (chAt M2 0) = false) := .inr (by rw [hM2, ← Hb.out]; unfold isDig; rw [decide_eq_false h2, Bool.and_false])
        go_upto_region 9 with fail
        rw [← hM2]
        clear hM2
        have hno2 : ¬ 9223372036854775807 < D.size + M2.size := by rw [hDs]; omega
        have H1 : Hid (Heads (D ++ M2) v) := Hhead.out M2 Hm2.out
        have hS1 : (D ++ M2).size ≤ 1000000000 := by rw [ByteArray.size_append, hDs]; omega
        have hno3 : ¬ 9223372036854775807 < (⟨#[48]⟩ : ByteArray).size + D.size := by rw [hDs]; show ¬ _ < 1 + _; omega
        have H2 : Hid (scNum ((⟨#[48]⟩ : ByteArray) ++ D) 18446744073709551615 ⟨0, 1, 1, 0⟩ = ⟨0, 1, 1, 21⟩) := Hnou.out
        have hS2 : ((⟨#[48]⟩ : ByteArray) ++ D).size ≤ 1000000000 := by rw [ByteArray.size_append, hDs]; show 1 + _ ≤ _; omega
        have hDl : D.size = l := hDs
        have hS0 : D.size ≤ 1000000000 := by omega
        have HS0 : Hid _ := hS0
        generalize hG1 : D ++ M2 = S1 at H1 hS1
        generalize hG2 : (⟨#[48]⟩ : ByteArray) ++ D = S2 at H2 hS2
        have HS1 : Hid _ := hS1
        have HS2 : Hid _ := hS2
        clear hS0 hS1 hS2
        go_wp2_with fail
        try rw [hG1]
        refine (M.new S1 w2 HS1.out).mono ?_
        rintro r w3 ⟨⟨c, F3, rfl, p3, n3⟩, f3⟩
        have P3 : Hid _ := p3
        have N3 : Hid (∀ k, F3 k → w.heap.size ≤ k) := fun k hk => Nat.le_trans Hf2.out.size (n3 k hk)
        have Hf3 : Hid (Fr w w3 (fun _ => False)) := Hf2.out.none f3
        clear p3 n3 f3
        go_wp2_with fail
        refine (M.number F3 c S1 _ v w3 P3.out (scNew_ok _) HS1.out Hv.out (M.keep HK.out Hf3.out)).mono ?_
        rw [(H1.out.reads (Nat.le_refl v)).1, (H1.out.reads (Nat.le_refl v)).2, ← Hl.out]
        rintro r w4 ⟨rfl, F4, p4, f4, n4⟩
        have P4 : Hid _ := p4
        have N4 : Hid (∀ k, F4 k → w.heap.size ≤ k) := fun k hk => (n4 k hk).elim (N3.out k) (fun h => Nat.le_trans Hf3.out.size h)
        have Hf4 : Hid (Fr w w4 (fun _ => False)) := Hf3.out.newer f4 N3.out
        have O4 : Hid (ScOk S1 ⟨l, 1, l + 1, 0⟩) := by
          have := scNum_ok (scNew_ok S1) v
          rw [(H1.out.reads (Nat.le_refl v)).2, ← Hl.out] at this
          exact this
        clear p4 n4 f4
        go_wp2_with fail
        try rw [hG2]
        refine (M.new S2 w4 HS2.out).mono ?_
        rintro r w5 ⟨⟨d, F5, rfl, p5, n5⟩, f5⟩
        have P5 : Hid _ := p5
        have A5 : Hid (∀ k, F4 k → ¬ F5 k) := fun k h4 h5 => by have := M.below P4.out k h4; have := n5 k h5; omega
        have N5 : Hid (∀ k, F5 k → w.heap.size ≤ k) := fun k hk => Nat.le_trans Hf4.out.size (n5 k hk)
        have C5 : Hid _ := M.frame P4.out f5 (fun _ _ h => h)
        have Hf5 : Hid (Fr w w5 (fun _ => False)) := Hf4.out.none f5
        clear p5 n5 f5
        go_wp2_with fail
        refine (M.number F5 d S2 _ 18446744073709551615 w5 P5.out (scNew_ok _) HS2.out (by decide) (M.keep HK.out Hf5.out)).mono ?_
        rw [H2.out]
        generalize scNumVal S2 18446744073709551615 ⟨0, 1, 1, 0⟩ = x0
        rintro r w6 ⟨rfl, F6, p6, f6, n6⟩
        have P6 : Hid _ := p6
        have C6 : Hid _ := M.frame C5.out f6 A5.out
        have Hf6 : Hid (Fr w w6 (fun _ => False)) := Hf5.out.newer f6 N5.out
        have O6 : Hid (ScOk S2 ⟨0, 1, 1, 21⟩) := by have := scNum_ok (scNew_ok S2) 18446744073709551615; rw [H2.out] at this; exact this
        clear p6 n6 f6
        go_wp2_with fail
        refine (M.err F4 c S1 _ w6 C6.out O4.out HS1.out).mono ?_
        rw [show (((⟨l, 1, l + 1, 0⟩ : Sc).err : Nat) : Int) = 0 from rfl]
        rintro r w7 ⟨rfl, f7⟩
        have C7 : Hid _ := M.frame C6.out f7 (fun _ _ h => h)
        have P7 : Hid _ := M.frame P6.out f7 (fun _ _ h => h)
        have Hf7 : Hid (Fr w w7 (fun _ => False)) := Hf6.out.none f7
        clear f7
        go_wp2_with fail
        refine (M.place F4 c S1 _ w7 C7.out O4.out HS1.out).mono ?_
        rw [show placeV ⟨l, 1, l + 1, 0⟩ = .agg #[.int .i64 1, .int .i64 ((l : Int) + 1)] from rfl]
        rintro r w8 ⟨rfl, f8⟩
        have P8 : Hid _ := M.frame P7.out f8 (fun _ _ h => h)
        have Hf8 : Hid (Fr w w8 (fun _ => False)) := Hf7.out.none f8
        clear f8
        go_wp2_with fail
        refine (M.err F6 d S2 _ w8 P8.out O6.out HS2.out).mono ?_
        rw [show (((⟨0, 1, 1, 21⟩ : Sc).err : Nat) : Int) = 21 from rfl]
        rintro r w9 ⟨rfl, f9⟩
        have Hf9 : Hid (Fr w w9 (fun _ => False)) := Hf8.out.none f9
        clear f9
        by_cases hv0 : v = 0
        · have z1 : ((v : Int) == 0) = true := by rw [beq_iff_eq]; omega
          clear hv0
          go_wp2_with fail
          go_ret
          exact ⟨rfl, cbelow Hf9.out⟩
        · have z1 : ((v : Int) == 0) = false := by rw [beq_eq_false_iff_ne]; omega
          have z2 : (v == 0) = false := by rw [beq_eq_false_iff_ne]; exact hv0
          obtain ⟨u, hu⟩ : ∃ u, u = v - 1 := ⟨_, rfl⟩
          have hw1 : IntKind.u64.wrap ((v : Int) - 1) = (u : Int) := by have := Hv.out; rw [IntWalk.u64_in _ (by omega)]; omega
          have Huv : Hid (u < v) := by show _ < _; omega
          clear hu
          go_wp2_with fail
          refine (M.new D w9 HS0.out).mono ?_
          rintro r wa ⟨⟨e, Fa, rfl, pa, na⟩, fa⟩
          have Pa : Hid _ := pa
          have Na : Hid (∀ k, Fa k → w.heap.size ≤ k) := fun k hk => Nat.le_trans Hf9.out.size (na k hk)
          have Hfa : Hid (Fr w wa (fun _ => False)) := Hf9.out.none fa
          clear pa na fa
          go_wp2_with fail
          refine (M.number Fa e D _ u wa Pa.out (scNew_ok _) HS0.out (Nat.lt_trans Huv.out Hv.out) (M.keep HK.out Hfa.out)).mono ?_
          rw [(Hself.out.long Huv.out).1, (Hself.out.long Huv.out).2]
          rintro r wb ⟨rfl, Fb, pb, fb, nb⟩
          have Pb : Hid _ := pb
          have Hfb : Hid (Fr w wb (fun _ => False)) := Hfa.out.newer fb Na.out
          have Ob : Hid (ScOk D ⟨0, 1, 1, 22⟩) := by have := scNum_ok (scNew_ok D) u; rw [(Hself.out.long Huv.out).2] at this; exact this
          clear pb nb fb
          go_wp2_with fail
          refine (M.err Fb e D _ wb Pb.out Ob.out HS0.out).mono ?_
          rw [show (((⟨0, 1, 1, 22⟩ : Sc).err : Nat) : Int) = 22 from rfl]
          rintro r wc ⟨rfl, fc⟩
          have Pc : Hid _ := M.frame Pb.out fc (fun _ _ h => h)
          have Hfc : Hid (Fr w wc (fun _ => False)) := Hfb.out.none fc
          clear fc
          go_wp2_with fail
          refine (M.place Fb e D _ wc Pc.out Ob.out HS0.out).mono ?_
          rw [show placeV ⟨0, 1, 1, 22⟩ = .agg #[.int .i64 1, .int .i64 1] from rfl]
          rintro r wd ⟨rfl, fd⟩
          have Hfd : Hid (Fr w wd (fun _ => False)) := Hfc.out.none fd
          clear fd
          go_wp2_with fail
          go_ret
          exact ⟨rfl, cbelow Hfd.out⟩
    · have g1 : ¬ (48 : Int) ≤ (b : Int) := by omega
      have g1' : decide ((48 : Int) ≤ (b : Int)) = false := decide_eq_false g1
      obtain ⟨M2, hM2⟩ : ∃ M2, M2 = m := ⟨_, rfl⟩
      have hM2s : M2.size ≤ 21 := by rw [hM2]; omega
      have Hm2 : Hid (M2.size = 0 ∨ isDig (chAt M2 0) = false) := .inr (by rw [hM2, ← Hb.out]; unfold isDig; rw [decide_eq_false h1, Bool.false_and])
      go_upto_region 9 with fail
      rw [← hM2]
      clear hM2
      have hno2 : ¬ 9223372036854775807 < D.size + M2.size := by rw [hDs]; omega
      have H1 : Hid (Heads (D ++ M2) v) := Hhead.out M2 Hm2.out
      have hS1 : (D ++ M2).size ≤ 1000000000 := by rw [ByteArray.size_append, hDs]; omega
      have hno3 : ¬ 9223372036854775807 < (⟨#[48]⟩ : ByteArray).size + D.size := by rw [hDs]; show ¬ _ < 1 + _; omega
      have H2 : Hid (scNum ((⟨#[48]⟩ : ByteArray) ++ D) 18446744073709551615 ⟨0, 1, 1, 0⟩ = ⟨0, 1, 1, 21⟩) := Hnou.out
      have hS2 : ((⟨#[48]⟩ : ByteArray) ++ D).size ≤ 1000000000 := by rw [ByteArray.size_append, hDs]; show 1 + _ ≤ _; omega
      have hDl : D.size = l := hDs
      have hS0 : D.size ≤ 1000000000 := by omega
      have HS0 : Hid _ := hS0
      generalize hG1 : D ++ M2 = S1 at H1 hS1
      generalize hG2 : (⟨#[48]⟩ : ByteArray) ++ D = S2 at H2 hS2
      have HS1 : Hid _ := hS1
      have HS2 : Hid _ := hS2
      clear hS0 hS1 hS2
      go_wp2_with fail
      try rw [hG1]
      refine (M.new S1 w2 HS1.out).mono ?_
      rintro r w3 ⟨⟨c, F3, rfl, p3, n3⟩, f3⟩
      have P3 : Hid _ := p3
      have N3 : Hid (∀ k, F3 k → w.heap.size ≤ k) := fun k hk => Nat.le_trans Hf2.out.size (n3 k hk)
      have Hf3 : Hid (Fr w w3 (fun _ => False)) := Hf2.out.none f3
      clear p3 n3 f3
      go_wp2_with fail
      refine (M.number F3 c S1 _ v w3 P3.out (scNew_ok _) HS1.out Hv.out (M.keep HK.out Hf3.out)).mono ?_
      rw [(H1.out.reads (Nat.le_refl v)).1, (H1.out.reads (Nat.le_refl v)).2, ← Hl.out]
      rintro r w4 ⟨rfl, F4, p4, f4, n4⟩
      have P4 : Hid _ := p4
      have N4 : Hid (∀ k, F4 k → w.heap.size ≤ k) := fun k hk => (n4 k hk).elim (N3.out k) (fun h => Nat.le_trans Hf3.out.size h)
      have Hf4 : Hid (Fr w w4 (fun _ => False)) := Hf3.out.newer f4 N3.out
      have O4 : Hid (ScOk S1 ⟨l, 1, l + 1, 0⟩) := by
        have := scNum_ok (scNew_ok S1) v
        rw [(H1.out.reads (Nat.le_refl v)).2, ← Hl.out] at this
        exact this
      clear p4 n4 f4
      go_wp2_with fail
      try rw [hG2]
      refine (M.new S2 w4 HS2.out).mono ?_
      rintro r w5 ⟨⟨d, F5, rfl, p5, n5⟩, f5⟩
      have P5 : Hid _ := p5
      have A5 : Hid (∀ k, F4 k → ¬ F5 k) := fun k h4 h5 => by have := M.below P4.out k h4; have := n5 k h5; omega
      have N5 : Hid (∀ k, F5 k → w.heap.size ≤ k) := fun k hk => Nat.le_trans Hf4.out.size (n5 k hk)
      have C5 : Hid _ := M.frame P4.out f5 (fun _ _ h => h)
      have Hf5 : Hid (Fr w w5 (fun _ => False)) := Hf4.out.none f5
      clear p5 n5 f5
      go_wp2_with fail
      refine (M.number F5 d S2 _ 18446744073709551615 w5 P5.out (scNew_ok _) HS2.out (by decide) (M.keep HK.out Hf5.out)).mono ?_
      rw [H2.out]
      generalize scNumVal S2 18446744073709551615 ⟨0, 1, 1, 0⟩ = x0
      rintro r w6 ⟨rfl, F6, p6, f6, n6⟩
      have P6 : Hid _ := p6
      have C6 : Hid _ := M.frame C5.out f6 A5.out
      have Hf6 : Hid (Fr w w6 (fun _ => False)) := Hf5.out.newer f6 N5.out
      have O6 : Hid (ScOk S2 ⟨0, 1, 1, 21⟩) := by have := scNum_ok (scNew_ok S2) 18446744073709551615; rw [H2.out] at this; exact this
      clear p6 n6 f6
      go_wp2_with fail
      refine (M.err F4 c S1 _ w6 C6.out O4.out HS1.out).mono ?_
      rw [show (((⟨l, 1, l + 1, 0⟩ : Sc).err : Nat) : Int) = 0 from rfl]
      rintro r w7 ⟨rfl, f7⟩
      have C7 : Hid _ := M.frame C6.out f7 (fun _ _ h => h)
      have P7 : Hid _ := M.frame P6.out f7 (fun _ _ h => h)
      have Hf7 : Hid (Fr w w7 (fun _ => False)) := Hf6.out.none f7
      clear f7
      go_wp2_with fail
      refine (M.place F4 c S1 _ w7 C7.out O4.out HS1.out).mono ?_
      rw [show placeV ⟨l, 1, l + 1, 0⟩ = .agg #[.int .i64 1, .int .i64 ((l : Int) + 1)] from rfl]
      rintro r w8 ⟨rfl, f8⟩
      have P8 : Hid _ := M.frame P7.out f8 (fun _ _ h => h)
      have Hf8 : Hid (Fr w w8 (fun _ => False)) := Hf7.out.none f8
      clear f8
      go_wp2_with fail
      refine (M.err F6 d S2 _ w8 P8.out O6.out HS2.out).mono ?_
      rw [show (((⟨0, 1, 1, 21⟩ : Sc).err : Nat) : Int) = 21 from rfl]
      rintro r w9 ⟨rfl, f9⟩
      have Hf9 : Hid (Fr w w9 (fun _ => False)) := Hf8.out.none f9
      clear f9
      by_cases hv0 : v = 0
      · have z1 : ((v : Int) == 0) = true := by rw [beq_iff_eq]; omega
        clear hv0
        go_wp2_with fail
        go_ret
        exact ⟨rfl, cbelow Hf9.out⟩
      · have z1 : ((v : Int) == 0) = false := by rw [beq_eq_false_iff_ne]; omega
        have z2 : (v == 0) = false := by rw [beq_eq_false_iff_ne]; exact hv0
        obtain ⟨u, hu⟩ : ∃ u, u = v - 1 := ⟨_, rfl⟩
        have hw1 : IntKind.u64.wrap ((v : Int) - 1) = (u : Int) := by have := Hv.out; rw [IntWalk.u64_in _ (by omega)]; omega
        have Huv : Hid (u < v) := by show _ < _; omega
        clear hu
        go_wp2_with fail
        refine (M.new D w9 HS0.out).mono ?_
        rintro r wa ⟨⟨e, Fa, rfl, pa, na⟩, fa⟩
        have Pa : Hid _ := pa
        have Na : Hid (∀ k, Fa k → w.heap.size ≤ k) := fun k hk => Nat.le_trans Hf9.out.size (na k hk)
        have Hfa : Hid (Fr w wa (fun _ => False)) := Hf9.out.none fa
        clear pa na fa
        go_wp2_with fail
        refine (M.number Fa e D _ u wa Pa.out (scNew_ok _) HS0.out (Nat.lt_trans Huv.out Hv.out) (M.keep HK.out Hfa.out)).mono ?_
        rw [(Hself.out.long Huv.out).1, (Hself.out.long Huv.out).2]
        rintro r wb ⟨rfl, Fb, pb, fb, nb⟩
        have Pb : Hid _ := pb
        have Hfb : Hid (Fr w wb (fun _ => False)) := Hfa.out.newer fb Na.out
        have Ob : Hid (ScOk D ⟨0, 1, 1, 22⟩) := by have := scNum_ok (scNew_ok D) u; rw [(Hself.out.long Huv.out).2] at this; exact this
        clear pb nb fb
        go_wp2_with fail
        refine (M.err Fb e D _ wb Pb.out Ob.out HS0.out).mono ?_
        rw [show (((⟨0, 1, 1, 22⟩ : Sc).err : Nat) : Int) = 22 from rfl]
        rintro r wc ⟨rfl, fc⟩
        have Pc : Hid _ := M.frame Pb.out fc (fun _ _ h => h)
        have Hfc : Hid (Fr w wc (fun _ => False)) := Hfb.out.none fc
        clear fc
        go_wp2_with fail
        refine (M.place Fb e D _ wc Pc.out Ob.out HS0.out).mono ?_
        rw [show placeV ⟨0, 1, 1, 22⟩ = .agg #[.int .i64 1, .int .i64 1] from rfl]
        rintro r wd ⟨rfl, fd⟩
        have Hfd : Hid (Fr w wd (fun _ => False)) := Hfc.out.none fd
        clear fd
        go_wp2_with fail
        go_ret
        exact ⟨rfl, cbelow Hfd.out⟩
  · have g0 : ¬ (0 : Int) < (m.size : Int) := by omega
    have g0' : decide (0 < m.size) = false := decide_eq_false h0
    obtain ⟨M2, hM2⟩ : ∃ M2, M2 = m := ⟨_, rfl⟩
    have hM2s : M2.size ≤ 21 := by rw [hM2]; omega
    have Hm2 : Hid (M2.size = 0 ∨ isDig (chAt M2 0) = false) := .inl (by rw [hM2]; omega)
    go_upto_region 9 with fail
    rw [← hM2]
    clear hM2
    have hno2 : ¬ 9223372036854775807 < D.size + M2.size := by rw [hDs]; omega
    have H1 : Hid (Heads (D ++ M2) v) := Hhead.out M2 Hm2.out
    have hS1 : (D ++ M2).size ≤ 1000000000 := by rw [ByteArray.size_append, hDs]; omega
    have hno3 : ¬ 9223372036854775807 < (⟨#[48]⟩ : ByteArray).size + D.size := by rw [hDs]; show ¬ _ < 1 + _; omega
    have H2 : Hid (scNum ((⟨#[48]⟩ : ByteArray) ++ D) 18446744073709551615 ⟨0, 1, 1, 0⟩ = ⟨0, 1, 1, 21⟩) := Hnou.out
    have hS2 : ((⟨#[48]⟩ : ByteArray) ++ D).size ≤ 1000000000 := by rw [ByteArray.size_append, hDs]; show 1 + _ ≤ _; omega
    have hDl : D.size = l := hDs
    have hS0 : D.size ≤ 1000000000 := by omega
    have HS0 : Hid _ := hS0
    generalize hG1 : D ++ M2 = S1 at H1 hS1
    generalize hG2 : (⟨#[48]⟩ : ByteArray) ++ D = S2 at H2 hS2
    have HS1 : Hid _ := hS1
    have HS2 : Hid _ := hS2
    clear hS0 hS1 hS2
    go_wp2_with fail
    try rw [hG1]
    refine (M.new S1 w2 HS1.out).mono ?_
    rintro r w3 ⟨⟨c, F3, rfl, p3, n3⟩, f3⟩
    have P3 : Hid _ := p3
    have N3 : Hid (∀ k, F3 k → w.heap.size ≤ k) := fun k hk => Nat.le_trans Hf2.out.size (n3 k hk)
    have Hf3 : Hid (Fr w w3 (fun _ => False)) := Hf2.out.none f3
    clear p3 n3 f3
    go_wp2_with fail
    refine (M.number F3 c S1 _ v w3 P3.out (scNew_ok _) HS1.out Hv.out (M.keep HK.out Hf3.out)).mono ?_
    rw [(H1.out.reads (Nat.le_refl v)).1, (H1.out.reads (Nat.le_refl v)).2, ← Hl.out]
    rintro r w4 ⟨rfl, F4, p4, f4, n4⟩
    have P4 : Hid _ := p4
    have N4 : Hid (∀ k, F4 k → w.heap.size ≤ k) := fun k hk => (n4 k hk).elim (N3.out k) (fun h => Nat.le_trans Hf3.out.size h)
    have Hf4 : Hid (Fr w w4 (fun _ => False)) := Hf3.out.newer f4 N3.out
    have O4 : Hid (ScOk S1 ⟨l, 1, l + 1, 0⟩) := by
      have := scNum_ok (scNew_ok S1) v
      rw [(H1.out.reads (Nat.le_refl v)).2, ← Hl.out] at this
      exact this
    clear p4 n4 f4
    go_wp2_with fail
    try rw [hG2]
    refine (M.new S2 w4 HS2.out).mono ?_
    rintro r w5 ⟨⟨d, F5, rfl, p5, n5⟩, f5⟩
    have P5 : Hid _ := p5
    have A5 : Hid (∀ k, F4 k → ¬ F5 k) := fun k h4 h5 => by have := M.below P4.out k h4; have := n5 k h5; omega
    have N5 : Hid (∀ k, F5 k → w.heap.size ≤ k) := fun k hk => Nat.le_trans Hf4.out.size (n5 k hk)
    have C5 : Hid _ := M.frame P4.out f5 (fun _ _ h => h)
    have Hf5 : Hid (Fr w w5 (fun _ => False)) := Hf4.out.none f5
    clear p5 n5 f5
    go_wp2_with fail
    refine (M.number F5 d S2 _ 18446744073709551615 w5 P5.out (scNew_ok _) HS2.out (by decide) (M.keep HK.out Hf5.out)).mono ?_
    rw [H2.out]
    generalize scNumVal S2 18446744073709551615 ⟨0, 1, 1, 0⟩ = x0
    rintro r w6 ⟨rfl, F6, p6, f6, n6⟩
    have P6 : Hid _ := p6
    have C6 : Hid _ := M.frame C5.out f6 A5.out
    have Hf6 : Hid (Fr w w6 (fun _ => False)) := Hf5.out.newer f6 N5.out
    have O6 : Hid (ScOk S2 ⟨0, 1, 1, 21⟩) := by have := scNum_ok (scNew_ok S2) 18446744073709551615; rw [H2.out] at this; exact this
    clear p6 n6 f6
    go_wp2_with fail
    refine (M.err F4 c S1 _ w6 C6.out O4.out HS1.out).mono ?_
    rw [show (((⟨l, 1, l + 1, 0⟩ : Sc).err : Nat) : Int) = 0 from rfl]
    rintro r w7 ⟨rfl, f7⟩
    have C7 : Hid _ := M.frame C6.out f7 (fun _ _ h => h)
    have P7 : Hid _ := M.frame P6.out f7 (fun _ _ h => h)
    have Hf7 : Hid (Fr w w7 (fun _ => False)) := Hf6.out.none f7
    clear f7
    go_wp2_with fail
    refine (M.place F4 c S1 _ w7 C7.out O4.out HS1.out).mono ?_
    rw [show placeV ⟨l, 1, l + 1, 0⟩ = .agg #[.int .i64 1, .int .i64 ((l : Int) + 1)] from rfl]
    rintro r w8 ⟨rfl, f8⟩
    have P8 : Hid _ := M.frame P7.out f8 (fun _ _ h => h)
    have Hf8 : Hid (Fr w w8 (fun _ => False)) := Hf7.out.none f8
    clear f8
    go_wp2_with fail
    refine (M.err F6 d S2 _ w8 P8.out O6.out HS2.out).mono ?_
    rw [show (((⟨0, 1, 1, 21⟩ : Sc).err : Nat) : Int) = 21 from rfl]
    rintro r w9 ⟨rfl, f9⟩
    have Hf9 : Hid (Fr w w9 (fun _ => False)) := Hf8.out.none f9
    clear f9
    by_cases hv0 : v = 0
    · have z1 : ((v : Int) == 0) = true := by rw [beq_iff_eq]; omega
      clear hv0
      go_wp2_with fail
      go_ret
      exact ⟨rfl, cbelow Hf9.out⟩
    · have z1 : ((v : Int) == 0) = false := by rw [beq_eq_false_iff_ne]; omega
      have z2 : (v == 0) = false := by rw [beq_eq_false_iff_ne]; exact hv0
      obtain ⟨u, hu⟩ : ∃ u, u = v - 1 := ⟨_, rfl⟩
      have hw1 : IntKind.u64.wrap ((v : Int) - 1) = (u : Int) := by have := Hv.out; rw [IntWalk.u64_in _ (by omega)]; omega
      have Huv : Hid (u < v) := by show _ < _; omega
      clear hu
      go_wp2_with fail
      refine (M.new D w9 HS0.out).mono ?_
      rintro r wa ⟨⟨e, Fa, rfl, pa, na⟩, fa⟩
      have Pa : Hid _ := pa
      have Na : Hid (∀ k, Fa k → w.heap.size ≤ k) := fun k hk => Nat.le_trans Hf9.out.size (na k hk)
      have Hfa : Hid (Fr w wa (fun _ => False)) := Hf9.out.none fa
      clear pa na fa
      go_wp2_with fail
      refine (M.number Fa e D _ u wa Pa.out (scNew_ok _) HS0.out (Nat.lt_trans Huv.out Hv.out) (M.keep HK.out Hfa.out)).mono ?_
      rw [(Hself.out.long Huv.out).1, (Hself.out.long Huv.out).2]
      rintro r wb ⟨rfl, Fb, pb, fb, nb⟩
      have Pb : Hid _ := pb
      have Hfb : Hid (Fr w wb (fun _ => False)) := Hfa.out.newer fb Na.out
      have Ob : Hid (ScOk D ⟨0, 1, 1, 22⟩) := by have := scNum_ok (scNew_ok D) u; rw [(Hself.out.long Huv.out).2] at this; exact this
      clear pb nb fb
      go_wp2_with fail
      refine (M.err Fb e D _ wb Pb.out Ob.out HS0.out).mono ?_
      rw [show (((⟨0, 1, 1, 22⟩ : Sc).err : Nat) : Int) = 22 from rfl]
      rintro r wc ⟨rfl, fc⟩
      have Pc : Hid _ := M.frame Pb.out fc (fun _ _ h => h)
      have Hfc : Hid (Fr w wc (fun _ => False)) := Hfb.out.none fc
      clear fc
      go_wp2_with fail
      refine (M.place Fb e D _ wc Pc.out Ob.out HS0.out).mono ?_
      rw [show placeV ⟨0, 1, 1, 22⟩ = .agg #[.int .i64 1, .int .i64 1] from rfl]
      rintro r wd ⟨rfl, fd⟩
      have Hfd : Hid (Fr w wd (fun _ => False)) := Hfc.out.none fd
      clear fd
      go_wp2_with fail
      go_ret
      exact ⟨rfl, cbelow Hfd.out⟩

end Go.Proofs.YtchkojdpnbecoaaDoor.scanNumbers
