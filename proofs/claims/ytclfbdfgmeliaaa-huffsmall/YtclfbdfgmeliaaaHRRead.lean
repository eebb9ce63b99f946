/-
  The contract of the reference's Read of bytes.
-/
import Derived.Test.YtclfbdfgmeliaaaHRPut
import Derived.Test.YtclfbdfgmeliaaaHRLen
import Derived.Test.YtclfbdfgmeliaaaHStr
import Derived.Test.YtclfbdfgmeliaaaRTakeC
namespace Go.Proofs.Ytclfbdfgmeliaaa
open Go.RowKit

theorem natsH (l : List Nat) : nats (l.map fun (n : Nat) => (n : Int)) = l := by
  unfold nats
  rw [List.map_map]
  conv => rhs; rw [← List.map_id l]
  apply List.map_congr_left
  intro n _
  simp
theorem rds_ltH {w : World} {v : Value} {bs : List Nat} (h : Rds w v bs) : 0 < bs.length → ∀ k, v.ownBlock = some k → k < w.heap.size := by
  intro h0 k hk
  obtain ⟨ao, cap, rfl, hc⟩ := h
  obtain ⟨b, off, rfl, hcell⟩ := hc h0
  simp [Value.ownBlock] at hk
  subst hk
  exact World.block_lt_of_cell? _ _ (hcell 0 _ (row_get .u8 bs 0 h0))
theorem pack_bytes (bl : List Bool) : ∀ x ∈ pack bl, x < 256 := fun x hx => by
  obtain ⟨j, hj⟩ := List.getElem?_of_mem hx
  have := (packs_pack bl).small j
  rw [List.getD_eq_getElem?_getD, hj] at this
  exact this
theorem hput_bytes (b : List Nat) : ∀ x ∈ hput b, x < 256 := fun x hx => by
  unfold hput at hx
  rcases List.mem_append.1 hx with h | h
  · exact enc_bytes _ x h
  · split at h
    · cases h
    · rcases List.mem_append.1 h with h | h
      · unfold headOf at h
        rcases List.mem_append.1 h with h | h
        · exact enc_bytes _ x h
        · exact encs_bytes _ x h
      · exact pack_bytes _ x h

set_option maxRecDepth 4000 in
set_option maxHeartbeats 1600000 in
theorem refHRead_any (v : Value) (bs : List Nat) (w : World) (h : Reads .u8 w v bs) (hb : ∀ x ∈ bs, x < 256) (hl : bs.length ≤ 100000) :
    Calls Try.prog 16 #[v] w fun e w' => Fr w w' (fun _ => False) ∧ ((hread bs = none ∧ e = .returned (.tuple #[.slice none 0 0, .int .i64 21])) ∨
      ∃ x, hread bs = some x ∧ ∃ sv, e = .returned (.tuple #[sv, .int .i64 0]) ∧ Own w' sv x) := by
  obtain ⟨a0, c0, rfl, hc0, -⟩ := id h
  rw [length_row] at h hc0 ⊢
  obtain ⟨n, hn⟩ : ∃ n, n = bs.length := ⟨_, rfl⟩
  rw [← hn] at h hl hc0 ⊢
  have Hr : Hid (Reads .u8 w (.slice a0 n c0) bs) := h
  have Hn : Hid _ := hn
  have Hb : Hid _ := hb
  clear h hn hb
  have Hraw : Hid (rawDec bs = if (took bs (2 ^ 62)).2.2 ≠ 0 ∨ 8 * bs.length < (took bs (2 ^ 62)).1 then none
    else if (took bs (2 ^ 62)).1 = 0 then some []
    else match parsed (bs.drop (took bs (2 ^ 62)).2.1) with
      | none => none
      | some (l, r) => if rightB (l.map fun (n : Nat) => (n : Int)) = true then takeN l (took bs (2 ^ 62)).1 (unpack r) else none) := rfl
  have htl := took_len bs (2 ^ 62)
  rw [show (2 : Nat) ^ 62 = 4611686018427387904 by decide] at Hraw htl
  rcases hT : took bs 4611686018427387904 with ⟨N0, k0, e0⟩
  rw [hT] at htl
  simp only [hT] at Hraw
  rw [← Hn.out] at htl Hraw
  dsimp only at htl
  have HT : Hid _ := hT
  clear hT
  have w8 : IntKind.u64.wrap (8 * (n : Int)) = ((8 * n : Nat) : Int) := by rw [IntKind.wrap_u64]; omega
  go_enter Try.func16, Try.ntmps16
  go_wp2_with fail
  refine (vrefTake_any _ bs 4611686018427387904 w Hr.out Hb.out (by rw [← Hn.out]; omega) (by omega)).mono ?_
  rw [HT.out]
  rintro e w1 ⟨rfl, hw1⟩
  obtain rfl : w = w1 := hw1.symm
  clear HT
  by_cases he0 : e0 = 0
  · subst he0
    by_cases hbig : 8 * n < N0
    · have hd : decide ((8 * (n : Int)) < (N0 : Int)) = true := decide_eq_true (by omega)
      have hd2 : decide (((8 * n : Nat) : Int) < (N0 : Int)) = true := decide_eq_true (by omega)
      have hd3 : decide (8 * n < N0) = true := decide_eq_true hbig
      have Hnone : Hid (hread bs = none) := by show _ = _; unfold hread; rw [Hraw.out, if_pos (.inr hbig)]
      go_wp2_with fail
      go_ret2
      exact ⟨Fr.refl _ _, .inl ⟨Hnone.out, rfl⟩⟩
    · have hd : decide ((8 * (n : Int)) < (N0 : Int)) = false := decide_eq_false (by omega)
      have hd2 : decide (((8 * n : Nat) : Int) < (N0 : Int)) = false := decide_eq_false (by omega)
      have hd3 : decide (8 * n < N0) = false := decide_eq_false hbig
      have hN0b : N0 ≤ 800000 := by omega
      by_cases hN0 : N0 = 0
      · subst hN0
        have Hraw2 : Hid (rawDec bs = some []) := by show _ = _; rw [Hraw.out, if_neg (by simp), if_pos rfl]
        clear Hraw hd hd2 hd3
        go_wp2
        obtain ⟨xs, hxs⟩ : ∃ xs : List Nat, xs = [] := ⟨_, rfl⟩
        rw [← hxs] at Hraw2
        have HxsB : Hid (∀ x ∈ xs, x < 256) := by rw [hxs]; exact fun x hx => by cases hx
        have HxsL : Hid (xs.length ≤ 1000000) := by rw [hxs]; show _ ≤ _; simp
        have HoX : Hid (Own w (.slice none 0 0) xs) := by rw [hxs]; exact Own.nil w
        have HfX : Hid (Fr w w (fun _ => False)) := Fr.refl _ _
        clear hxs
        refine wp_region_tree (fun _ => False) (.take 0 (.take 3 (.take 4 (.one 1 (.take 2 (.take 5 .nil)))))) (by kernel_rfl) (by kernel_rfl) (by decide) (by kernel_rfl) ?_
        have hcb : ∀ z, Fr w.drew z (fun _ => False) → (convert 22 9 (.slice a0 n c0)).run Try.prog z = .ok (.string (strOf bs)) z := fun z hz => conv_reads ((Hr.out.keep (HfX.out.drew)).keep hz)
        repeat (refine wpT_take (v := ?_) rfl rfl (fun x hx => ?_) ?_; rotate_left; (focus (go_simp; with_reducible rfl)); simp only [Act.put, List.setIfInBounds_toArray, List.set_cons_zero, List.set_cons_succ])
        refine wpT_one rfl rfl (fun K hK => ?_)
        go_simp
        refine (refHPut_any _ xs w.drew (HoX.out.reads.keep (Fr.refl w _).drew) HxsB.out HxsL.out).mono ?_
        rintro e wz ⟨vz, rfl, hoz, hfz, -⟩
        refine hK _ _ hfz ?_
        clear hK K hcb
        have hcz : ∀ z, Fr wz z (fun _ => False) → (convert 22 9 vz).run Try.prog z = .ok (.string (strOf (hput xs))) z := fun z hz => conv_reads (hoz.reads.keep hz)
        have HfZ : Hid (Fr w wz (fun _ => False)) := HfX.out.drew.none hfz
        have HoZ : Hid (Own wz (.slice none 0 0) xs) := HoX.out.frame ((Fr.refl w (fun _ => False)).drew.none hfz) (fun _ _ h => h)
        clear hoz hfz
        by_cases hEq : hput xs = bs
        · have Hres : Hid (hread bs = some xs) := by show _ = _; unfold hread; rw [Hraw2.out]; simp [hEq]
          rw [hEq] at hcz
          repeat (refine wpT_take (v := ?_) rfl rfl (fun x hx => ?_) ?_; rotate_left; (focus (go_simp; with_reducible rfl)); simp only [Act.put, List.setIfInBounds_toArray, List.set_cons_zero, List.set_cons_succ])
          unfold wpT
          clear hcz hEq
          generalize strOf bs = S
          go_wp2
          go_ret2
          exact ⟨HfZ.out, .inr ⟨xs, Hres.out, _, rfl, HoZ.out⟩⟩
        · have Hres : Hid (hread bs = none) := by show _ = _; unfold hread; rw [Hraw2.out]; simp [hEq]
          have hSn : strOf (hput xs) ≠ strOf bs := fun e => hEq (strOf_inj (hput_bytes xs) Hb.out e)
          repeat (refine wpT_take (v := ?_) rfl rfl (fun x hx => ?_) ?_; rotate_left; (focus (go_simp; with_reducible rfl)); simp only [Act.put, List.setIfInBounds_toArray, List.set_cons_zero, List.set_cons_succ])
          unfold wpT
          clear hcz
          generalize strOf (hput xs) = S1 at hSn
          generalize strOf bs = S2 at hSn
          have hSd := str_ne hSn
          go_wp2
          all_goals first | (rename_i hh; rw [hSd] at hh; exact absurd hh (by decide)) | (go_ret2; exact ⟨HfZ.out, .inl ⟨Hres.out, rfl⟩⟩)
      · have hNp : 0 < N0 := by omega
        have hdN : decide ((0 : Int) < (N0 : Int)) = true := decide_eq_true (by omega)
        have hdN2 : decide (0 < N0) = true := decide_eq_true hNp
        have Hraw1 : Hid (rawDec bs = match parsed (bs.drop k0) with
            | none => none
            | some (l, r) => if rightB (l.map fun (n : Nat) => (n : Int)) = true then takeN l N0 (unpack r) else none) := by
          show _ = _
          rw [Hraw.out, if_neg (by simp; omega), if_neg hN0]
        clear Hraw
        have hk0 := htl.1
        have hk0i : (k0 : Int) ≤ (n : Int) := by omega
        have hdr := reads_drop Hr.out k0 hk0
        obtain ⟨A1, hA1⟩ : ∃ A, (if c0 = k0 then a0 else Option.map (fun x => x.add k0) a0) = A := ⟨_, rfl⟩
        rw [hA1] at hdr
        have Hdr : Hid (Reads .u8 w (.slice A1 (n - k0) (c0 - k0)) (bs.drop k0)) := hdr
        clear hdr
        go_wp2_with fail
        refine (refHead_any _ (bs.drop k0) w Hdr.out (mem_drop_lt Hb.out) (by rw [List.length_drop, ← Hn.out]; omega)).mono ?_
        rintro e w2 ⟨hf2, hcase⟩
        clear hA1 Hdr
        rcases hcase with ⟨hpn, rfl⟩ | ⟨l, at2, sl, hps, hat2, rfl, hrl, hnl⟩
        · have Hnone : Hid (hread bs = none) := by show _ = _; unfold hread; rw [Hraw1.out, hpn]
          clear hpn
          go_wp2_with fail
          go_ret2
          exact ⟨hf2, .inl ⟨Hnone.out, rfl⟩⟩
        · have hll := parsed_len hps
          have Hraw2 : Hid (rawDec bs = if rightB (l.map fun (n : Nat) => (n : Int)) = true then takeN l N0 (unpack ((bs.drop k0).drop at2)) else none) := by show _ = _; rw [Hraw1.out, hps]
          rw [List.length_drop, ← Hn.out] at hat2
          rw [List.drop_drop] at Hraw2
          obtain ⟨al, cl, hsl, hcl, -⟩ := id hrl
          rw [length_row, hll] at hsl hcl
          subst hsl
          have Hrl : Hid (Reads .i64 w2 (.slice al 256 cl) l) := hrl
          have Hll : Hid _ := hll
          have Hf2 : Hid (Fr w w2 (fun _ => False)) := hf2
          have HnL : Hid (∀ k, (Value.slice al 256 cl).ownBlock = some k → k < w2.heap.size) := fun k hk => by
            obtain ⟨b, off, e2, hb2, -⟩ := hrl.at hll.symm 0 (by omega)
            rw [e2] at hk
            simp [Value.ownBlock] at hk
            omega
          clear hrl hll hf2 hnl hps Hraw1
          go_wp2_with fail
          refine (refRight_any _ _ w2 Hrl.out.z).mono ?_
          rintro e w3 ⟨rfl, hf3⟩
          have Hf3 : Hid (Fr w w3 (fun _ => False)) := Hf2.out.none hf3
          have Hrl3 : Hid (Reads .i64 w3 (.slice al 256 cl) l) := Hrl.out.keep hf3
          have HnL3 : Hid (∀ k, (Value.slice al 256 cl).ownBlock = some k → k < w3.heap.size) := fun k hk => Nat.lt_of_lt_of_le (HnL.out k hk) hf3.size
          clear hf3 Hrl Hf2 HnL
          cases hR : rightB (l.map fun (n : Nat) => (n : Int)) with
          | false =>
            have Hnone : Hid (hread bs = none) := by show _ = _; unfold hread; rw [Hraw2.out, hR]; rfl
            go_wp2_with fail
            go_ret2
            exact ⟨Hf3.out, .inl ⟨Hnone.out, rfl⟩⟩
          | true =>
            rw [if_pos hR] at Hraw2
            have HR : Hid (RightL l) := (right_of_nats l).1 hR
            have HRb : Hid _ := hR
            clear hR
            go_wp2_with fail
            refine (refCodes_any _ _ w3 Hrl3.out.z).mono ?_
            rintro e w4 ⟨sc, rfl, hrc, hf4, hnc⟩
            have hcz : codesZ (l.map fun (n : Nat) => (n : Int)) = fnRow 256 (codeOf l) := by
              unfold codesZ
              rw [if_pos HRb.out, List.length_map, Hll.out]
              have : nats (l.map fun (b : Nat) => (b : Int)) = l := by
                unfold nats
                rw [List.map_map]
                conv => rhs; rw [← List.map_id l]
                apply List.map_congr_left
                intro m _
                simp
              rw [this]
              rfl
            rw [hcz] at hrc
            obtain ⟨ac, cc, hsc, hcc, -⟩ := id hrc
            rw [length_row, fnRow_length] at hsc hcc
            subst hsc
            have Hrc4 : Hid (Reads .i64 w4 (.slice ac 256 cc) (fnRow 256 (codeOf l))) := hrc
            have Hrl4 : Hid (Reads .i64 w4 (.slice al 256 cl) l) := Hrl3.out.keep hf4
            have Hf4 : Hid (Fr w w4 (fun _ => False)) := Hf3.out.none hf4
            have HnL4 : Hid (∀ k, (Value.slice al 256 cl).ownBlock = some k → k < w4.heap.size) := fun k hk => Nat.lt_of_lt_of_le (HnL3.out k hk) hf4.size
            have HnC4 : Hid (∀ k, (Value.slice ac 256 cc).ownBlock = some k → k < w4.heap.size) := fun k hk => by
              obtain ⟨b, off, e2, hb2, -⟩ := hrc.at (by rw [fnRow_length]) 0 (by omega)
              rw [e2] at hk
              simp [Value.ownBlock] at hk
              omega
            clear hcz hrc hf4 hnc Hrl3 Hf3 HnL3
            obtain ⟨at3, hat3⟩ : ∃ a, a = k0 + at2 := ⟨_, rfl⟩
            rw [← hat3] at Hraw2
            have hadd : (k0 : Int) + (at2 : Int) = (at3 : Int) := by omega
            have hat3n : at3 ≤ n := by omega
            have hat3i : (at3 : Int) ≤ (n : Int) := by omega
            have hdr := reads_drop (Hr.out.keep Hf4.out) at3 hat3n
            obtain ⟨A2, hA2⟩ : ∃ A, (if c0 = at3 then a0 else Option.map (fun x => x.add at3) a0) = A := ⟨_, rfl⟩
            rw [hA2] at hdr
            have Hdr : Hid (Reads .u8 w4 (.slice A2 (n - at3) (c0 - at3)) (bs.drop at3)) := hdr
            obtain ⟨rb, hrb⟩ : ∃ rb, rb = bs.drop at3 := ⟨_, rfl⟩
            rw [← hrb] at Hraw2 Hdr
            have Hrbl : Hid (rb.length ≤ 100000) := by show _ ≤ _; rw [hrb, List.length_drop, ← Hn.out]; omega
            have Hrbb : Hid (∀ j, rb.getD j 0 < 256) := by rw [hrb]; exact getD_lt (by omega) (mem_drop_lt Hb.out)
            obtain ⟨TN, hTN⟩ : ∃ TN, TN = takeN l N0 (unpack rb) := ⟨_, rfl⟩
            rw [← hTN] at Hraw2
            have HTN : Hid _ := hTN
            clear hat3 hdr hrb hTN
            go_wp2
            clear hA2
            obtain ⟨p, hp⟩ : ∃ p, p = w4.heap.size := ⟨_, rfl⟩
            rw [← hp]
            have Hrd : Hid (Rd 63 (w4.alloc (.cells #[.slice A2 (n - at3) (c0 - at3), .int .i64 0] 63)) p (.slice A2 (n - at3) (c0 - at3)) rb 0) := by
              refine ⟨by rw [hp]; exact heap_alloc_new w4 _, Hdr.out.rds.frame ((Fr.refl w4 (fun _ => False)).alloc _) (fun _ _ h => h), by omega, by have := Hrbl.out; omega, Hrbb.out, fun h0 e => ?_⟩
              obtain ⟨a', c', e1, -, hc⟩ := Hdr.out
              obtain ⟨b, off, e2, hcell⟩ := hc (by rw [length_row]; exact h0)
              simp only [Value.slice.injEq] at e1
              have h3 := World.block_lt_of_cell? _ _ (hcell 0 _ (row_get .u8 rb 0 h0))
              rw [e1.1, e2] at e
              simp [Value.ownBlock] at e
              simp at h3
              omega
            have Hf5 : Hid (Fr w4 (w4.alloc (.cells #[.slice A2 (n - at3) (c0 - at3), .int .i64 0] 63)) (fun _ => False)) := (Fr.refl w4 _).alloc _
            have Hp : Hid (w4.heap.size ≤ p) := by show _ ≤ _; omega
            generalize w4.alloc (.cells #[.slice A2 (n - at3) (c0 - at3), .int .i64 0] 63) = w5 at *
            clear hp Hdr
            go_loopg [7, 13] N0 (fun g' O I wi => ∃ (i pos : Nat) (xs : List Nat), g' = N0 - i ∧ i ≤ N0 ∧ I = .int .u64 (i : Int) ∧ xs.length = i ∧ Own wi O xs ∧ (∀ x ∈ xs, x < 256) ∧ (takeN l (N0 - i) ((unpack rb).drop pos)).map (xs ++ ·) = TN ∧ Rd 63 wi p (.slice A2 (n - at3) (c0 - at3)) rb pos ∧ (∀ k, O.ownBlock = some k → w5.heap.size ≤ k) ∧ Fr w4 wi (fun _ => False) ∧ w5.heap.size ≤ wi.heap.size)
            case atStart => exact ⟨0, 0, [], rfl, by omega, rfl, rfl, Own.nil _, fun x hx => (by cases hx), by rw [HTN.out]; simp, Hrd.out, fun k hk => by simp [Value.ownBlock] at hk, Hf5.out, Nat.le_refl _⟩
            case round =>
              obtain ⟨i, pos, xs, hg', hi, rfl, hxl, ho, hxb, htk, hrd, hno, hf, hsz⟩ := hrel
              have Hg' : Hid _ := hg'
              have Hxl : Hid _ := hxl
              have Ho : Hid (Own wr u7 xs) := ho
              have Hxb : Hid (∀ x ∈ xs, x < 256) := hxb
              have Htk : Hid _ := htk
              have Hrdr : Hid (Rd 63 wr p (.slice A2 (n - at3) (c0 - at3)) rb pos) := hrd
              have Hno : Hid _ := hno
              have Hf : Hid (Fr w4 wr (fun _ => False)) := hf
              clear hg' hxl ho hxb htk hrd hno hf
              by_cases hlt : i < N0
              · have hi1 : (i : Int) < (N0 : Int) := by omega
                obtain ⟨m, hm⟩ : ∃ m, N0 - i = m + 1 := ⟨N0 - i - 1, by omega⟩
                have Hm : Hid (N0 - (i + 1) = m) := by show _ = _; omega
                have Htk2 : Hid ((takeN l (m + 1) ((unpack rb).drop pos)).map (xs ++ ·) = TN) := by rw [← hm]; exact Htk.out
                rw [takeN] at Htk2
                have hp5 : p < w5.heap.size := lt_of_block Hrd.out.1
                clear hm Htk
                go_wp2_with fail
                refine (refTakeCode_any p _ rb pos _ _ (l.map fun (n : Nat) => (n : Int)) wr Hrdr.out (Hrl4.out.keep Hf.out).z (rightB_in HRb.out) (by rw [List.length_map, Hll.out]; omega) (by rw [List.length_map, natsH, Hll.out]; exact Hrc4.out.keep Hf.out) (fun k hk => by have := HnL4.out k hk; have := Hp.out; omega) (fun k hk => by have := HnC4.out k hk; have := Hp.out; omega)).mono ?_
                rw [natsH]
                rintro e w6 ⟨rfl, hr6, hf6⟩
                have Hf6 : Hid (Fr w4 w6 (fun _ => False)) := Hf.out.newer1 hf6 Hp.out
                have ho6 : Own w6 u7 xs := Ho.out.frame hf6 (fun k hk h2 => by have := Hno.out k hk; omega)
                have hsz6 : w5.heap.size ≤ w6.heap.size := Nat.le_trans hsz hf6.size
                clear hf6
                cases hS : takeSym l ((unpack rb).drop pos) with
                | none =>
                  rw [hS] at Htk2
                  have Hnone : Hid (hread bs = none) := by show _ = _; unfold hread; rw [Hraw2.out, ← Htk2.out]; rfl
                  have HfZ : Hid (Fr w w6 (fun _ => False)) := Hf4.out.none Hf6.out
                  rw [show tkS l ((unpack rb).drop pos) = 0 by unfold tkS; rw [hS]; rfl, show tkB l ((unpack rb).drop pos) = false by unfold tkB; rw [hS]; rfl]
                  clear hr6 ho6 hS
                  go_wp2_with fail
                  go_ret2
                  exact ⟨HfZ.out, .inl ⟨Hnone.out, rfl⟩⟩
                | some q =>
                  obtain ⟨s, k⟩ := q
                  rw [hS] at Htk2
                  have hs256 : s < 256 := by have := takeSym_lt hS; rw [Hll.out] at this; exact this
                  rw [show tkN l ((unpack rb).drop pos) = k by unfold tkN; rw [hS]; rfl] at hr6
                  rw [show tkS l ((unpack rb).drop pos) = s by unfold tkS; rw [hS]; rfl, show tkB l ((unpack rb).drop pos) = true by unfold tkB; rw [hS]; rfl]
                  have Htk3 : Hid ((takeN l m ((unpack rb).drop (pos + k))).map ((xs ++ [s]) ++ ·) = TN) := by
                    show _ = _
                    have h1 := Htk2.out
                    simp only [Option.map_map] at h1
                    rw [List.drop_drop] at h1
                    rw [← h1]
                    congr 1
                    funext y
                    simp
                  obtain ⟨v7, w7, hrun7, ho7, hf7, hm7⟩ := app_byte w6 u7 xs s (s : Int) rfl ho6 (by rw [Hxl.out]; omega)
                  have hr7 : Rd 63 w7 p (.slice A2 (n - at3) (c0 - at3)) rb (pos + k) := hr6.frame' hf7 (fun h2 => by have := Hno.out p h2; omega) (fun h0 k hk h2 => by have := Hno.out k h2; have := rds_ltH Hrd.out.2.1 h0 k hk; omega)
                  have Hr7 : Hid (Rd 63 w7 p (.slice A2 (n - at3) (c0 - at3)) rb (pos + k)) := hr7
                  have Ho7 : Hid (Own w7 v7 (xs ++ [s])) := ho7
                  have Hx7 : Hid (∀ x ∈ xs ++ [s], x < 256) := fun x hx => by
                    rcases List.mem_append.1 hx with h2 | h2
                    · exact Hxb.out x h2
                    · simp at h2; omega
                  have Hn7 : Hid (∀ k, v7.ownBlock = some k → w5.heap.size ≤ k) := fun k hk => by
                    rcases hm7 k hk with h2 | h2
                    · exact Hno.out k h2
                    · omega
                  have hw45 : w4.heap.size ≤ w5.heap.size := Hf5.out.size
                  have Hf7 : Hid (Fr w4 w7 (fun _ => False)) := Hf6.out.newer hf7 (fun k hk => Nat.le_trans hw45 (Hno.out k hk))
                  have Hs7 : Hid (w5.heap.size ≤ w7.heap.size) := Nat.le_trans hsz6 hf7.size
                  have wu : IntKind.u8.wrap (s : Int) = (s : Int) := by rw [IntKind.wrap_u8]; omega
                  have wu2 : (s : Int) % 256 = (s : Int) := by omega
                  have hiw : IntKind.u64.wrap ((i : Int) + 1) = ((i + 1 : Nat) : Int) := by rw [IntKind.wrap_u64]; omega
                  clear hr6 ho6 ho7 hf7 hm7 hr7 hS Htk2
                  go_wp2_with (at_builtin; refine wpList_append_run rfl (.tmp 72) (.tmp 75) 22 rfl rfl rfl hrun7 ?_)
                  go_roundg (N0 - (i + 1))
                  case rel => exact ⟨i + 1, pos + k, xs ++ [s], rfl, by omega, by first | (go_num; done) | rfl | (rw [← hiw]), by rw [List.length_append, Hxl.out]; rfl, Ho7.out, Hx7.out, by rw [Hm.out]; exact Htk3.out, Hr7.out, Hn7.out, Hf7.out, Hs7.out⟩
                  case measure => rw [Hg'.out]; omega
              · have hi1 : ¬ (i : Int) < (N0 : Int) := by omega
                have Hraw3 : Hid (rawDec bs = some xs) := by
                  show _ = _
                  have h1 := Htk.out
                  rw [show N0 - i = 0 by omega] at h1
                  simp only [takeN, Option.map_some, List.append_nil] at h1
                  rw [Hraw2.out, ← h1]
                have HxsB : Hid (∀ x ∈ xs, x < 256) := Hxb.out
                have HxsL : Hid (xs.length ≤ 1000000) := by show _ ≤ _; rw [Hxl.out]; omega
                have HoX : Hid (Own wr u7 xs) := Ho.out
                have HfX : Hid (Fr w wr (fun _ => False)) := Hf4.out.none Hf.out
                go_wp2
                refine wp_region_tree (fun _ => False) (.take 0 (.take 3 (.take 4 (.one 1 (.take 2 (.take 5 .nil)))))) (by kernel_rfl) (by kernel_rfl) (by decide) (by kernel_rfl) ?_
                have hcb : ∀ z, Fr wr.drew z (fun _ => False) → (convert 22 9 (.slice a0 n c0)).run Try.prog z = .ok (.string (strOf bs)) z := fun z hz => conv_reads ((Hr.out.keep (HfX.out.drew)).keep hz)
                repeat (refine wpT_take (v := ?_) rfl rfl (fun x hx => ?_) ?_; rotate_left; (focus (go_simp; with_reducible rfl)); simp only [Act.put, List.setIfInBounds_toArray, List.set_cons_zero, List.set_cons_succ])
                refine wpT_one rfl rfl (fun K hK => ?_)
                go_simp
                refine (refHPut_any _ xs wr.drew (HoX.out.reads.keep (Fr.refl wr _).drew) HxsB.out HxsL.out).mono ?_
                rintro e wz ⟨vz, rfl, hoz, hfz, -⟩
                refine hK _ _ hfz ?_
                clear hK K hcb
                have hcz : ∀ z, Fr wz z (fun _ => False) → (convert 22 9 vz).run Try.prog z = .ok (.string (strOf (hput xs))) z := fun z hz => conv_reads (hoz.reads.keep hz)
                have HfZ : Hid (Fr w wz (fun _ => False)) := HfX.out.drew.none hfz
                have HoZ : Hid (Own wz u7 xs) := HoX.out.frame ((Fr.refl wr (fun _ => False)).drew.none hfz) (fun _ _ h => h)
                clear hoz hfz
                by_cases hEq : hput xs = bs
                · have Hres : Hid (hread bs = some xs) := by show _ = _; unfold hread; rw [Hraw3.out]; simp [hEq]
                  rw [hEq] at hcz
                  repeat (refine wpT_take (v := ?_) rfl rfl (fun x hx => ?_) ?_; rotate_left; (focus (go_simp; with_reducible rfl)); simp only [Act.put, List.setIfInBounds_toArray, List.set_cons_zero, List.set_cons_succ])
                  unfold wpT
                  clear hcz hEq
                  generalize strOf bs = S
                  go_wp2
                  go_ret2
                  exact ⟨HfZ.out, .inr ⟨xs, Hres.out, _, rfl, HoZ.out⟩⟩
                · have Hres : Hid (hread bs = none) := by show _ = _; unfold hread; rw [Hraw3.out]; simp [hEq]
                  have hSn : strOf (hput xs) ≠ strOf bs := fun e => hEq (strOf_inj (hput_bytes xs) Hb.out e)
                  repeat (refine wpT_take (v := ?_) rfl rfl (fun x hx => ?_) ?_; rotate_left; (focus (go_simp; with_reducible rfl)); simp only [Act.put, List.setIfInBounds_toArray, List.set_cons_zero, List.set_cons_succ])
                  unfold wpT
                  clear hcz
                  generalize strOf (hput xs) = S1 at hSn
                  generalize strOf bs = S2 at hSn
                  have hSd := str_ne hSn
                  go_wp2
                  all_goals first | (rename_i hh; rw [hSd] at hh; exact absurd hh (by decide)) | (go_ret2; exact ⟨HfZ.out, .inl ⟨Hres.out, rfl⟩⟩)
  · have hd : ((e0 : Int) != 0) = true := by simp; omega
    have hd2 : ((e0 : Int) == 0) = false := by rw [beq_eq_false_iff_ne]; omega
    have Hnone : Hid (hread bs = none) := by show _ = _; unfold hread; rw [Hraw.out, if_pos (.inl he0)]
    go_wp2_with fail
    go_ret2
    exact ⟨Fr.refl _ _, .inl ⟨Hnone.out, rfl⟩⟩

end Go.Proofs.Ytclfbdfgmeliaaa
