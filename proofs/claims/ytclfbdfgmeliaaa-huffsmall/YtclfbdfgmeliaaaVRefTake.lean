/-
  The contract of the reference's Take: what it returns; memory is as it was.
-/
import Derived.Test.YtclfbdfgmeliaaaVTake
namespace Go.Proofs.Ytclfbdfgmeliaaa
open Go.RowKit

set_option maxRecDepth 4000 in
set_option maxHeartbeats 1600000 in
theorem vrefTake_any (v : Value) (bs : List Nat) (m : Nat) (w : World) (hr : Reads .u8 w v bs) (hbs : ∀ x ∈ bs, x < 256) (hl : bs.length ≤ 1000000000) (_hm : m < 18446744073709551616) :
    Calls Try.prog 28 #[v, .int .u64 (m : Int)] w fun e w' => e = .returned (.tuple #[.int .u64 ((took bs m).1 : Int), .int .i64 ((took bs m).2.1 : Int), .int .i64 ((took bs m).2.2 : Int)]) ∧ w' = w := by
  obtain ⟨ao, cap, rfl, hlc, hc⟩ := hr
  rw [length_row] at hlc hc ⊢
  obtain ⟨n, hnn⟩ : ∃ n, n = bs.length := ⟨_, rfl⟩
  rw [← hnn] at hlc hc hl ⊢
  have Hn : Hid _ := hnn
  have Hbs : Hid _ := hbs
  have Hc : Hid _ := hc
  obtain ⟨T, hT⟩ : ∃ T, T = took bs m := ⟨_, rfl⟩
  rw [← hT]
  have Ht : Hid (∀ a b, lenFrom 0 bs = (a, b) → T = if b ≠ 0 then (0, 0, b) else if m < val bs a then (0, 0, 22) else (val bs a, a, 0)) := by
    intro a b h
    rw [hT]
    unfold took
    rw [h]
  clear hnn hbs hc hT
  go_enter Try.func28, Try.ntmps28
  go_wp2_with fail
  go_loopg [7, 8] n (fun g V I wr => ∃ i : Nat, i ≤ n ∧ g = n - i ∧ i ≤ 9 ∧ I = .int .i64 (i : Int) ∧ V = .int .u64 (val bs i : Int) ∧ lenFrom i (bs.drop i) = lenFrom 0 bs ∧ wr = w)
  case atStart => exact ⟨0, by omega, by omega, by omega, rfl, rfl, rfl, rfl⟩
  case round =>
    obtain ⟨i, hi, hgk, hi9, rfl, rfl, hst, rfl⟩ := hrel
    have Hgk : Hid _ := hgk
    by_cases hlt : i < n
    · obtain ⟨b, off, rfl, hcell⟩ := Hc.out (by omega)
      have cg := hcell i _ (row_get .u8 bs i (by rw [← Hn.out]; exact hlt))
      have hx := getD_lt (by decide) Hbs.out i
      rw [drop_step (by rw [← Hn.out]; exact hlt), lenFrom] at hst
      obtain ⟨x, hxx⟩ : ∃ x, x = bs.getD i 0 := ⟨_, rfl⟩
      rw [← hxx] at cg hx hst
      have Hx : Hid _ := hxx
      have Hst : Hid _ := hst
      clear hst hgk hcell hxx
      by_cases h1 : i = 9 ∧ 1 < x
      · have Hs : Hid (T = (0, 0, 21)) := Ht.out 0 21 (by rw [← Hst.out, if_pos h1])
        obtain ⟨h1, h2⟩ := h1
        subst h1
        go_wp2
        go_ret3
        exact ⟨by rw [Hs.out]; rfl, rfl⟩
      · have Hs1 : Hid (lenFrom 0 bs = if 128 ≤ x then lenFrom (i + 1) (bs.drop (i + 1)) else if x = 0 ∧ 0 < i then (0, 21) else (i + 1, 0)) := by
          show _ = _
          rw [← Hst.out, if_neg h1]
        clear Hst
        have hvs := val_step bs i x Hx.out hx hi9 (fun e => by omega)
        obtain ⟨V', hV'⟩ : ∃ V', V' = val bs (i + 1) := ⟨_, rfl⟩
        rw [← hV'] at hvs
        have HV : Hid _ := hV'
        clear hV'
        by_cases hbig : 128 ≤ x
        · have h9 : i < 9 := by omega
          have hd1 : ((i : Int) == 9) = false := by simp; omega
          have hd2 : (i == 9) = false := by simp; omega
          have Hs : Hid (lenFrom (i + 1) (bs.drop (i + 1)) = lenFrom 0 bs) := by show _ = _; rw [Hs1.out, if_pos hbig]
          clear Hs1 h1
          go_wp2
          go_roundg (n - (i + 1))
          case rel => exact ⟨i + 1, by omega, rfl, by omega, by go_num, by rw [HV.out], Hs.out, rfl⟩
          case measure => rw [Hgk.out]; omega
        · have hsplit : (((i : Int) == 9) = true ∧ (i == 9) = true ∧ decide (1 < (x : Int)) = false ∧ decide (1 < x) = false) ∨ (((i : Int) == 9) = false ∧ (i == 9) = false) := by
            by_cases h9 : i = 9
            · exact .inl ⟨by simp; omega, by simp; omega, by simp; omega, by simp; omega⟩
            · exact .inr ⟨by simp; omega, by simp; omega⟩
          have hs2 : lenFrom 0 bs = if x = 0 ∧ 0 < i then (0, 21) else (i + 1, 0) := by rw [Hs1.out, if_neg hbig]
          clear Hs1 h1
          by_cases hx0 : x = 0 ∧ 0 < i
          · have Hs : Hid (T = (0, 0, 21)) := Ht.out 0 21 (by rw [hs2, if_pos hx0])
            have hd3 : ((x : Int) == 0) = true := by simp; omega
            have hd4 : (x == 0) = true := by simp; omega
            obtain ⟨-, hi0⟩ := hx0
            clear hs2
            rcases hsplit with ⟨hd5, hd6, hd7, hd8⟩ | ⟨hd5, hd6⟩
            all_goals
              go_wp2
              go_ret3
              exact ⟨by rw [Hs.out]; rfl, rfl⟩
          · have hT := Ht.out (i + 1) 0 (by rw [hs2, if_neg hx0])
            rw [if_neg (by simp), ← HV.out] at hT
            have hds : (((x : Int) == 0) = true ∧ (x == 0) = true ∧ decide (0 < (i : Int)) = false ∧ decide (0 < i) = false) ∨ (((x : Int) == 0) = false ∧ (x == 0) = false) := by
              by_cases h0 : x = 0
              · exact .inl ⟨by simp; omega, by simp; omega, by simp; omega, by simp; omega⟩
              · exact .inr ⟨by simp; omega, by simp; omega⟩
            clear hs2 hx0
            by_cases hm : m < V'
            · rw [if_pos hm] at hT
              have Hs : Hid _ := hT
              clear hT
              rcases hds with ⟨hd1, hd2, hd3, hd4⟩ | ⟨hd3, hd4⟩
              all_goals
                rcases hsplit with ⟨hd5, hd6, hd7, hd8⟩ | ⟨hd5, hd6⟩
                all_goals
                  go_wp2
                  go_ret3
                  exact ⟨by rw [Hs.out]; rfl, rfl⟩
            · rw [if_neg hm] at hT
              have Hs : Hid _ := hT
              clear hT
              rcases hds with ⟨hd1, hd2, hd3, hd4⟩ | ⟨hd3, hd4⟩
              all_goals
                rcases hsplit with ⟨hd5, hd6, hd7, hd8⟩ | ⟨hd5, hd6⟩
                all_goals
                  go_wp2
                  go_ret3
                  exact ⟨by rw [Hs.out]; rfl, rfl⟩
    · have Hs : Hid (T = (0, 0, 20)) := Ht.out 0 20 (by
        rw [← hst, List.drop_eq_nil_of_le (by rw [← Hn.out]; omega)]
        rfl)
      clear hst hgk
      go_wp2
      go_ret3
      exact ⟨by rw [Hs.out]; rfl, rfl⟩

end Go.Proofs.Ytclfbdfgmeliaaa
