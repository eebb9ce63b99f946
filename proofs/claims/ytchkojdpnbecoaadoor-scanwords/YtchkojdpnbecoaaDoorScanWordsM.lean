/-
  The walk of the law ScanWords, under the condition that the program's scanner answers as its contracts say.
-/
import Derived.Test.YtchkojdpnbecoaaDoorRows
import Derived.Test.YtchkojdpnbecoaaDoorCKnow
import Derived.Test.YtchkojdpnbecoaaDoorCWord
import Derived.Test.YtchkojdpnbecoaaDoorBytes
namespace Go.Proofs.YtchkojdpnbecoaaDoor.scanWords
open Go.ChangeShapes Go.WideShapes Go.ChangeAt Go.RowKit

theorem xor_u8 (b x : Nat) (hb : b < 256) (hx : x < 256) : bits .xor .u8 (b : Int) (x : Int) = ((b ^^^ x : Nat) : Int) := by
  have h1 : b ^^^ x < 256 := Nat.xor_lt_two_pow (n := 8) hb hx
  show IntKind.u8.wrap ((BitVec.ofInt 8 (b : Int) ^^^ BitVec.ofInt 8 (x : Int)).toNat : Int) = _
  rw [BitVec.toNat_xor, BitVec.toNat_ofInt, BitVec.toNat_ofInt]
  rw [show ((b : Int) % (2 ^ 8 : Nat)).toNat = b by omega, show ((x : Int) % (2 ^ 8 : Nat)).toNat = x by omega]
  exact IntWalk.u8_in _ (by omega)

set_option maxRecDepth 4000 in
set_option maxHeartbeats 6400000 in
theorem walkM {K : World → Prop} {P : (Nat → Prop) → World → Value → ByteArray → Sc → Prop} (M : CI K P) (a0 : Option Addr) (len0 cap0 : Nat) (z0 : List Int) (a1 a2 a3 : Int) (a4 : Option Addr) (len4 cap4 : Nat) (z4 : List Int) (w : World) (w0 : IsRow .u8 w a0 len0 cap0 z0) (w1 : (Lit.int .u8 a1).wf = true) (w2 : (Lit.int .u8 a2).wf = true) (w3 : (Lit.int .u8 a3).wf = true) (w4 : IsRow .u8 w a4 len4 cap4 z4) (hK : K w) :
    Calls Tryd.prog 7 #[.slice a0 len0 cap0, .int .u8 a1, .int .u8 a2, .int .u8 a3, .slice a4 len4 cap4] w fun e w' => e = .returned (.bool true) ∧ Below w.heap.size w w' := by
  have HK : Hid (K w) := hK
  clear hK
  obtain ⟨bs, hbl, hbb, hbr⟩ := cbytes_arg w0
  have Hbs : Hid (Reads .u8 w (.slice a0 len0 cap0) bs) := hbr
  have Hbb : Hid (∀ x ∈ bs, x < 256) := hbb
  obtain ⟨cs, hcl, hcb, hcr⟩ := cbytes_arg w4
  have Hcs : Hid (Reads .u8 w (.slice a4 len4 cap4) cs) := hcr
  have b1 := bounds_u8 w1
  have b2 := bounds_u8 w2
  have b3 := bounds_u8 w3
  obtain ⟨at', rfl⟩ : ∃ n : Nat, a1 = (n : Int) := ⟨a1.toNat, by omega⟩
  obtain ⟨x, rfl⟩ : ∃ n : Nat, a2 = (n : Int) := ⟨a2.toNat, by omega⟩
  obtain ⟨cut, rfl⟩ : ∃ n : Nat, a3 = (n : Int) := ⟨a3.toNat, by omega⟩
  clear w0 w1 w2 w3 w4 hbr hcr hcb hbb
  go_enter Tryd.func7, Tryd.ntmps7
  go_wp2_with fail
  refine (cknown_any M w HK.out).mono ?_
  rintro r w1 ⟨rfl, f1⟩
  have Hf1 : Hid (Fr w w1 (fun _ => False)) := f1
  clear f1
  by_cases hlen : len0 ≤ 30
  case neg =>
    have g : (30 : Int) < (len0 : Int) := by omega
    have g' : decide (30 < len0) = true := decide_eq_true (by omega)
    clear hlen
    go_wp2_with fail
    go_ret
    exact ⟨rfl, cbelow Hf1.out⟩
  have g : ¬ (30 : Int) < (len0 : Int) := by omega
  have g' : decide (30 < len0) = false := decide_eq_false (by omega)
  by_cases hz : len0 = 0
  case pos =>
    have h0 : ((len0 : Int) == 0) = true := by rw [beq_iff_eq]; omega
    have h0' : (len0 == 0) = true := by rw [beq_iff_eq]; exact hz
    clear hz
    go_wp2_with fail
    go_ret
    exact ⟨rfl, cbelow Hf1.out⟩
  have h0 : ((len0 : Int) == 0) = false := by rw [beq_eq_false_iff_ne]; omega
  have h0' : (len0 == 0) = false := by rw [beq_eq_false_iff_ne]; exact hz
  by_cases hlen4 : len4 ≤ 10
  case neg =>
    have g2 : (10 : Int) < (len4 : Int) := by omega
    have g2' : decide (10 < len4) = true := decide_eq_true (by omega)
    clear hlen4
    go_wp2_with fail
    go_ret
    exact ⟨rfl, cbelow Hf1.out⟩
  have g2 : ¬ (10 : Int) < (len4 : Int) := by omega
  have g2' : decide (10 < len4) = false := decide_eq_false (by omega)
  have hcv0 : (convert 22 9 (.slice a0 len0 cap0)).run Tryd.prog w1 = .ok (.string (strOf bs)) w1 := conv_reads (Hbs.out.keep Hf1.out)
  have hcv4 : (convert 22 9 (.slice a4 len4 cap4)).run Tryd.prog w1 = .ok (.string (strOf cs)) w1 := conv_reads (Hcs.out.keep Hf1.out)
  have hno : ¬ 9223372036854775807 < (strOf bs).size + (strOf cs).size := by rw [strOf_length, strOf_length]; omega
  have Hhit : Hid _ := word_hit bs cs
  have HS1 : Hid ((strOf bs ++ strOf cs).size ≤ 1000000000) := by show _ ≤ _; rw [ByteArray.size_append, strOf_length, strOf_length]; omega
  have HS0 : Hid ((strOf bs).size ≤ 1000000000) := by show _ ≤ _; rw [strOf_length]; omega
  go_wp2_with fail
  refine (M.new (strOf bs ++ strOf cs) w1 HS1.out).mono ?_
  rintro r w2 ⟨⟨v, F2, rfl, p2, n2⟩, f2⟩
  have P2 : Hid _ := p2
  have N2 : Hid (∀ k, F2 k → w.heap.size ≤ k) := fun k hk => Nat.le_trans Hf1.out.size (n2 k hk)
  have Hf2 : Hid (Fr w w2 (fun _ => False)) := Hf1.out.none f2
  clear p2 n2 f2 hcv0 hcv4 hno
  obtain ⟨v3, w3, hrun, ho, hf3, hm3, -⟩ := app_bytes w2 (.slice none 0 0) (.slice a0 len0 cap0) [] bs (Own.nil w2) (Hbs.out.keep Hf2.out) (by simp; omega)
  rw [List.nil_append] at ho
  have f23 : Fr w2 w3 (fun _ => False) := hf3.mono (fun k _ h => by simp [Value.ownBlock] at h)
  obtain ⟨G, cp, hv3⟩ : ∃ g c, v3 = .slice (some ⟨g, 0, none⟩) len0 c := by
    obtain ⟨-, h⟩ := id ho
    rcases h with ⟨-, h⟩ | ⟨g, c, cur, h, -⟩
    · omega
    · exact ⟨g, c, by rw [h, hbl]⟩
  subst hv3
  have hG2 : w2.heap.size ≤ G := by
    rcases hm3 G rfl with h | h
    · simp [Value.ownBlock] at h
    · exact h
  have HG2 : Hid _ := hG2
  have P3 : Hid _ := M.frame P2.out f23 (fun _ _ h => h)
  have Hf3 : Hid (Fr w w3 (fun _ => False)) := Hf2.out.none f23
  have NG3 : Hid (∀ k, F2 k → k ≠ G) := fun k hk h => by have := M.below P2.out k hk; omega
  have DG3 : Hid (w.heap.size ≤ G) := Nat.le_trans Hf2.out.size hG2
  have HO3 : Hid (Own w3 (.slice (some ⟨G, 0, none⟩) len0 cp) bs) := ho
  clear hf3 hm3 f23 ho hG2
  obtain ⟨k, hk⟩ : ∃ k, k = at' % len0 := ⟨_, rfl⟩
  have hkl : k < len0 := by rw [hk]; exact Nat.mod_lt _ (by omega)
  have hki : (k : Int) < (len0 : Int) := by omega
  have hke : (at' : Int) % (len0 : Int) = (k : Int) := by rw [hk]; simp
  have hkt : (at' : Int).tmod (len0 : Int) = (k : Int) := by rw [Int.tmod_eq_emod_of_nonneg (by omega)]; exact hke
  have hwa : IntKind.i64.wrap (at' : Int) = (at' : Int) := IntWalk.i64_in _ (by omega)
  have hwk : IntKind.i64.wrap (k : Int) = (k : Int) := IntWalk.i64_in _ (by omega)
  obtain ⟨b, hb⟩ : ∃ b, b = bs.getD k 0 := ⟨_, rfl⟩
  have hb6 : b < 256 := by
    rw [hb, List.getD_eq_getElem?_getD, List.getElem?_eq_getElem (by omega : k < bs.length)]
    exact Hbb.out _ (List.getElem_mem _)
  have hxo := xor_u8 b x hb6 (by omega)
  obtain ⟨y, hy⟩ : ∃ y, y = b ^^^ x := ⟨_, rfl⟩
  rw [← hy] at hxo
  have Hy6 : Hid (y < 256) := by show _ < _; rw [hy]; exact Nat.xor_lt_two_pow (n := 8) hb6 (by omega)
  have Hyb : Hid (x = 0 ↔ y = b) := by
    show _ ↔ _
    rw [hy]
    constructor
    · rintro rfl; exact Nat.xor_zero b
    · intro h
      have := congrArg (b ^^^ ·) h
      simpa [← Nat.xor_assoc] using this
  have hcg : w3.cell? ⟨G, k, none⟩ = some (.int .u8 (b : Int)) := by
    have := World.ownsRow.cellAt (by have h := HO3.out; unfold Own at h; rw [hbl] at h; exact h) k (by omega)
    rw [this, row_get .u8 bs k (by omega), hb]
  have hfz : w3.frozen? ⟨G, k, none⟩ = false := World.ownsRow.frozenAt (by have h := HO3.out; unfold Own at h; rw [hbl] at h; exact h) k
  have Hb : Hid _ := hb
  clear hk hy hb
  have hcv3 : (convert 22 9 (.slice a0 len0 cap0)).run Tryd.prog (w3.setCell ⟨G, k, none⟩ (.int .u8 (y : Int))) = .ok (.string (strOf bs)) (w3.setCell ⟨G, k, none⟩ (.int .u8 (y : Int))) := conv_reads (Hbs.out.keep (Hf3.out.trans (fr_put _ _ _ _) (fun j hj h => by have := DG3.out; omega)))
  have Hf4 : Hid (Fr w (w3.setCell ⟨G, k, none⟩ (.int .u8 (y : Int))) (fun _ => False)) := Hf3.out.trans (fr_put _ _ _ _) (fun j hj h => by have := DG3.out; omega)
  have P4 : Hid _ := M.frame P3.out (fr_put w3 G k (.int .u8 (y : Int))) (fun j hj h => NG3.out j hj h)
  have HO4 : Hid (Own (w3.setCell ⟨G, k, none⟩ (.int .u8 (y : Int))) (.slice (some ⟨G, 0, none⟩) len0 cp) (bs.set k y)) := by
    show Own _ _ _
    have h := HO3.out
    unfold Own at h ⊢
    rw [List.length_set, row_set]
    rw [hbl] at h ⊢
    exact (h.stored k (.int .u8 (y : Int))).1
  go_wp2_with (at_builtin; refine wpList_append_run rfl (.const (.slice none 0 0)) (.tmp 39) 22 rfl rfl rfl hrun ?_)
  clear hrun hcg hfz hxo
  generalize w3.setCell ⟨G, k, none⟩ (.int .u8 (y : Int)) = w4 at hcv3 Hf4 P4 HO4 ⊢
  refine (M.word F2 v _ _ _ w4 P4.out (scNew_ok _) HS1.out (fun _ => HS0.out)).mono ?_
  rw [Hhit.out.1]
  obtain ⟨st, hst⟩ : ∃ st, st = scWord (strOf bs ++ strOf cs) (strOf bs) ⟨0, 1, 1, 0⟩ := ⟨_, rfl⟩
  have Hst : Hid (st.err = 0) := by show _ = _; rw [hst]; exact Hhit.out.2
  have Ost : Hid (ScOk (strOf bs ++ strOf cs) st) := by show ScOk _ _; rw [hst]; exact scWord_ok (scNew_ok _) _
  rw [← hst]
  clear hst
  rintro r w5 ⟨rfl, F5, p5, f5, n5⟩
  have P5 : Hid _ := p5
  have N5 : Hid (∀ k, F5 k → w.heap.size ≤ k) := fun k hk => (n5 k hk).elim (N2.out k) (fun h => Nat.le_trans Hf4.out.size h)
  have Hf5 : Hid (Fr w w5 (fun _ => False)) := Hf4.out.newer f5 N2.out
  have HO5 : Hid (Own w5 (.slice (some ⟨G, 0, none⟩) len0 cp) (bs.set k y)) := HO4.out.frame f5 (fun j hj h => by simp [Value.ownBlock] at hj; exact NG3.out j h hj.symm)
  clear p5 n5 f5 hcv3
  obtain ⟨m, hm⟩ : ∃ m, m = cut % len0 := ⟨_, rfl⟩
  have hml : m < len0 := by rw [hm]; exact Nat.mod_lt _ (by omega)
  have hme : (cut : Int) % (len0 : Int) = (m : Int) := by rw [hm]; simp
  have hmt : (cut : Int).tmod (len0 : Int) = (m : Int) := by rw [Int.tmod_eq_emod_of_nonneg (by omega)]; exact hme
  have hwc : IntKind.i64.wrap (cut : Int) = (cut : Int) := IntWalk.i64_in _ (by omega)
  have hwm : IntKind.i64.wrap (m : Int) = (m : Int) := IntWalk.i64_in _ (by omega)
  have hlc : len0 ≤ cap0 := by
    obtain ⟨ao, cap, hv, hlc, -⟩ := id Hbs.out
    cases hv
    rw [length_row] at hlc
    omega
  have hmi : (m : Int) ≤ (cap0 : Int) := by omega
  have hmi2 : (m : Int) ≤ (len0 : Int) := by omega
  have hmi3 : m ≤ cap0 := by omega
  clear hm
  have Htk : Hid (Reads .u8 w (.slice a0 m cap0) (bs.take m)) := by
    have := Holds.take Hbs.out m (by omega) cap0 (by omega)
    rw [← row_take] at this
    exact this
  have Hd5 : Hid (Fr w w5.drew (fun _ => False)) := Hf5.out.drew
  have cvd : ∀ z, Fr w5.drew z (fun _ => False) → (convert 22 9 (.slice (some ⟨G, 0, none⟩) len0 cp)).run Tryd.prog z = .ok (.string (strOf (bs.set k y))) z := fun z hz => conv_reads ((HO5.out.reads.keep (Fr.refl w5 _).drew).keep hz)
  have cvm : ∀ z, Fr w5.drew z (fun _ => False) → (convert 22 9 (.slice a0 m cap0)).run Tryd.prog z = .ok (.string (strOf (bs.take m))) z := fun z hz => conv_reads (Htk.out.keep (Hd5.out.none hz))
  have P5d : Hid _ := M.frame P5.out (Fr.refl w5 (fun _ => False)).drew (fun _ _ h => h)
  have HS2 : Hid ((strOf (bs.set k y)).size ≤ 1000000000) := by show _ ≤ _; rw [strOf_length, List.length_set]; omega
  have HS3 : Hid ((strOf (bs.take m)).size ≤ 1000000000) := by show _ ≤ _; rw [strOf_length, List.length_take]; omega
  have Hshort : Hid _ := word_short bs m (by omega) Hbb.out
  have Hbent : Hid (y ≠ bs.getD k 0 → scWordOk (strOf (bs.set k y)) (strOf bs) ⟨0, 1, 1, 0⟩ = false ∧ scWord (strOf (bs.set k y)) (strOf bs) ⟨0, 1, 1, 0⟩ = ⟨0, 1, 1, 21⟩) := word_bent bs k y (by omega) Hbb.out Hy6.out
  have Hsame : Hid (y = bs.getD k 0 → scWordOk (strOf (bs.set k y)) (strOf bs) ⟨0, 1, 1, 0⟩ = true) := fun h => by
    have e : bs.set k y = bs := by
      rw [h, List.getD_eq_getElem?_getD, List.getElem?_eq_getElem (by omega : k < bs.length)]
      simp
    rw [e]
    have := (word_hit bs []).1
    rw [strOf_append, List.append_nil] at this
    exact this
  go_upto_region 9 with fail
  refine wp_region_tree (fun _ => False) (.take 0 (.take 1 (.take 3 (.take 4 (.take 5 (.take 6 (.take 7 (.take 8 (.take 9 (.take 10 (.one 2 (.one 11 (.take 12 (.take 13 .nil)))))))))))))) (by kernel_rfl) (by kernel_rfl) (by decide) (by kernel_rfl) ?_
  iterate 10 (refine wpT_take (v := ?_) rfl rfl (fun x hx => ?_) ?_; rotate_left; (focus (go_simp; with_reducible rfl)); simp only [Act.put, List.setIfInBounds_toArray, List.set_cons_zero, List.set_cons_succ])
  refine wpT_one rfl rfl (fun K hK => ?_)
  go_simp
  refine (M.new _ _ HS2.out).mono ?_
  rintro r w6 ⟨⟨vf, F6, rfl, p6, n6⟩, f6⟩
  refine hK _ _ f6 ?_
  clear hK K cvd cvm
  have P6 : Hid _ := p6
  have C6 : Hid _ := M.frame P5d.out f6 (fun _ _ h => h)
  have A6 : Hid (∀ j, F5 j → ¬ F6 j) := fun j h4 h5 => by have := M.below P5d.out j h4; have := n6 j h5; omega
  have N6 : Hid (∀ k, F6 k → w.heap.size ≤ k) := fun k hk => Nat.le_trans Hd5.out.size (n6 k hk)
  have Hf6 : Hid (Fr w w6 (fun _ => False)) := Hd5.out.none f6
  clear p6 n6 f6
  refine wpT_one rfl rfl (fun K hK => ?_)
  go_simp
  refine (M.new _ _ HS3.out).mono ?_
  rintro r w7 ⟨⟨vg, F7, rfl, p7, n7⟩, f7⟩
  refine hK _ _ f7 ?_
  clear hK K
  have P7 : Hid _ := p7
  have C7 : Hid _ := M.frame C6.out f7 (fun _ _ h => h)
  have E7 : Hid _ := M.frame P6.out f7 (fun _ _ h => h)
  have A7 : Hid (∀ j, F5 j → ¬ F7 j) := fun j h4 h5 => by have := M.below C6.out j h4; have := n7 j h5; omega
  have B7 : Hid (∀ j, F6 j → ¬ F7 j) := fun j h4 h5 => by have := M.below P6.out j h4; have := n7 j h5; omega
  have N7 : Hid (∀ k, F7 k → w.heap.size ≤ k) := fun k hk => Nat.le_trans Hf6.out.size (n7 k hk)
  have Hf7 : Hid (Fr w w7 (fun _ => False)) := Hf6.out.none f7
  clear p7 n7 f7
  iterate 2 (refine wpT_take (v := ?_) rfl rfl (fun x hx => ?_) ?_; rotate_left; (focus (go_simp; with_reducible rfl)); simp only [Act.put, List.setIfInBounds_toArray, List.set_cons_zero, List.set_cons_succ])
  unfold wpT
  have Hd7 : Hid (Fr w w7.drew (fun _ => False)) := Hf7.out.drew
  have P7d : Hid _ := M.frame P7.out (Fr.refl w7 (fun _ => False)).drew (fun _ _ h => h)
  have C7d : Hid _ := M.frame C7.out (Fr.refl w7 (fun _ => False)).drew (fun _ _ h => h)
  have E7d : Hid _ := M.frame E7.out (Fr.refl w7 (fun _ => False)).drew (fun _ _ h => h)
  have cva : ∀ z, Fr w7.drew z (fun k => F6 k ∨ F7 k) → (convert 22 9 (.slice a0 len0 cap0)).run Tryd.prog z = .ok (.string (strOf bs)) z := fun z hz => conv_reads (Hbs.out.keep (Hd7.out.newer hz (fun i hi => hi.elim (N6.out i) (N7.out i))))
  go_wp2_with fail
  refine wp_region_tree (fun k => F6 k ∨ F7 k) (.take 0 (.take 1 (.take 2 (.take 4 (.take 5 (.take 6 (.one 3 (.one 7 (.take 8 (.take 9 .nil)))))))))) (by kernel_rfl) (by kernel_rfl) (by decide) (by kernel_rfl) ?_
  iterate 6 (refine wpT_take (v := ?_) rfl rfl (fun x hx => ?_) ?_; rotate_left; (focus (go_simp; with_reducible rfl)); simp only [Act.put, List.setIfInBounds_toArray, List.set_cons_zero, List.set_cons_succ])
  refine wpT_one rfl rfl (fun K hK => ?_)
  go_simp
  refine (M.word F6 vf _ _ _ w7.drew E7d.out (scNew_ok _) HS2.out (fun _ => HS0.out)).mono ?_
  obtain ⟨B2, hB2⟩ : ∃ B, B = scWordOk (strOf (bs.set k y)) (strOf bs) ⟨0, 1, 1, 0⟩ := ⟨_, rfl⟩
  obtain ⟨s2, hs2⟩ : ∃ B, B = scWord (strOf (bs.set k y)) (strOf bs) ⟨0, 1, 1, 0⟩ := ⟨_, rfl⟩
  have HB2 : Hid _ := hB2
  have Hs2 : Hid _ := hs2
  have O2 : Hid (ScOk (strOf (bs.set k y)) s2) := by show ScOk _ _; rw [hs2]; exact scWord_ok (scNew_ok _) _
  rw [← hB2, ← hs2]
  clear hB2 hs2
  rintro r w8 ⟨rfl, F8, p8, f8, n8⟩
  refine hK _ _ (f8.mono (fun _ _ h => .inl h)) ?_
  clear hK K cva
  have E8 : Hid _ := p8
  have C8 : Hid _ := M.frame C7d.out f8 A6.out
  have P8 : Hid _ := M.frame P7d.out f8 (fun j h1 h2 => B7.out j h2 h1)
  have A8 : Hid (∀ j, F5 j → ¬ F7 j) := A7.out
  have D8 : Hid (∀ j, F8 j → ¬ F7 j) := fun j h1 h2 => (n8 j h1).elim (fun h => B7.out j h h2) (fun h => by have := M.below P7d.out j h2; omega)
  have Hf8 : Hid (Fr w w8 (fun _ => False)) := Hd7.out.newer f8 N6.out
  have N8 : Hid (∀ k, F8 k → w.heap.size ≤ k) := fun k hk => (n8 k hk).elim (N6.out k) (fun h => Nat.le_trans Hd7.out.size h)
  clear p8 f8 n8
  refine wpT_one rfl rfl (fun K hK => ?_)
  go_simp
  refine (M.word F7 vg _ _ _ w8 P8.out (scNew_ok _) HS3.out (fun _ => HS0.out)).mono ?_
  rw [Hshort.out.1, Hshort.out.2]
  rintro r w9 ⟨rfl, F9, p9, f9, n9⟩
  refine hK _ _ (f9.mono (fun _ _ h => .inr h)) ?_
  clear hK K
  have P9 : Hid _ := p9
  have C9 : Hid _ := M.frame C8.out f9 A8.out
  have E9 : Hid _ := M.frame E8.out f9 D8.out
  have Hf9 : Hid (Fr w w9 (fun _ => False)) := Hf8.out.newer f9 N7.out
  have O9 : Hid (ScOk (strOf (bs.take m)) ⟨0, 1, 1, 20⟩) := by have := scWord_ok (scNew_ok (strOf (bs.take m))) (strOf bs); rw [Hshort.out.2] at this; exact this
  clear p9 f9 n9
  iterate 2 (refine wpT_take (v := ?_) rfl rfl (fun x hx => ?_) ?_; rotate_left; (focus (go_simp; with_reducible rfl)); simp only [Act.put, List.setIfInBounds_toArray, List.set_cons_zero, List.set_cons_succ])
  unfold wpT
  by_cases hx : x = 0
  · have HBt : Hid (B2 = true) := by show _ = _; rw [HB2.out]; exact Hsame.out (by rw [Hyb.out.1 hx]; exact Hb.out)
    obtain rfl := HBt.out
    have x1 : ((x : Int) == 0) = true := by rw [beq_iff_eq]; omega
    clear hx
    go_wp2_with fail
    refine (M.err F5 v _ _ w9 C9.out Ost.out HS1.out).mono ?_
    rw [show ((st.err : Nat) : Int) = 0 by rw [Hst.out]; rfl]
    rintro r wa ⟨rfl, fa⟩
    have Pa : Hid _ := M.frame P9.out fa (fun _ _ h => h)
    have Hfa : Hid (Fr w wa (fun _ => False)) := Hf9.out.none fa
    clear fa
    go_wp2_with fail
    refine (M.err F9 vg _ _ wa Pa.out O9.out HS3.out).mono ?_
    rw [show (((⟨0, 1, 1, 20⟩ : Sc).err : Nat) : Int) = 20 from rfl]
    rintro r wb ⟨rfl, fb⟩
    have Hfb : Hid (Fr w wb (fun _ => False)) := Hfa.out.none fb
    clear fb
    go_wp2_with fail
    go_ret
    exact ⟨rfl, cbelow Hfb.out⟩
  · have hyb : y ≠ bs.getD k 0 := fun h => hx (Hyb.out.2 (by rw [h, Hb.out]))
    have HBf : Hid (B2 = false) := by show _ = _; rw [HB2.out]; exact (Hbent.out hyb).1
    have Hs3 : Hid (s2 = ⟨0, 1, 1, 21⟩) := by show _ = _; rw [Hs2.out]; exact (Hbent.out hyb).2
    obtain rfl := HBf.out
    have x1 : ((x : Int) == 0) = false := by rw [beq_eq_false_iff_ne]; omega
    have x2 : (x == 0) = false := by rw [beq_eq_false_iff_ne]; exact hx
    clear hyb
    go_wp2_with fail
    refine (M.err F5 v _ _ w9 C9.out Ost.out HS1.out).mono ?_
    rw [show ((st.err : Nat) : Int) = 0 by rw [Hst.out]; rfl]
    rintro r wa ⟨rfl, fa⟩
    have Pa : Hid _ := M.frame P9.out fa (fun _ _ h => h)
    have Ea : Hid _ := M.frame E9.out fa (fun _ _ h => h)
    have Hfa : Hid (Fr w wa (fun _ => False)) := Hf9.out.none fa
    clear fa
    go_wp2_with fail
    refine (M.err F8 vf _ _ wa Ea.out O2.out HS2.out).mono ?_
    rw [Hs3.out, show (((⟨0, 1, 1, 21⟩ : Sc).err : Nat) : Int) = 21 from rfl]
    rintro r wb ⟨rfl, fb⟩
    have Pb : Hid _ := M.frame Pa.out fb (fun _ _ h => h)
    have Eb : Hid _ := M.frame Ea.out fb (fun _ _ h => h)
    have Hfb : Hid (Fr w wb (fun _ => False)) := Hfa.out.none fb
    clear fb
    go_wp2_with fail
    refine (M.place F8 vf _ _ wb Eb.out O2.out HS2.out).mono ?_
    rw [Hs3.out, show placeV ⟨0, 1, 1, 21⟩ = .agg #[.int .i64 1, .int .i64 1] from rfl]
    rintro r wc ⟨rfl, fc⟩
    have Pc : Hid _ := M.frame Pb.out fc (fun _ _ h => h)
    have Hfc : Hid (Fr w wc (fun _ => False)) := Hfb.out.none fc
    clear fc
    go_wp2_with fail
    refine (M.err F9 vg _ _ wc Pc.out O9.out HS3.out).mono ?_
    rw [show (((⟨0, 1, 1, 20⟩ : Sc).err : Nat) : Int) = 20 from rfl]
    rintro r we ⟨rfl, fe⟩
    have Hfe : Hid (Fr w we (fun _ => False)) := Hfc.out.none fe
    clear fe
    go_wp2_with fail
    go_ret
    exact ⟨rfl, cbelow Hfe.out⟩

end Go.Proofs.YtchkojdpnbecoaaDoor.scanWords
