/-
  Texts of ours, joined: VTake VRefTake HRLen HStr BRefRead RTakeC HRRead HC HCnt Nums HPutL TArr TMath TTally.
-/
import Derived.Test.YtclfbdfgmeliaaaJ4
import Derived.Deep.LoopGhost
import Derived.Test.YtclfbdfgmeliaaaJ3
import Derived.OwnWalk
import Derived.Test.YtclfbdfgmeliaaaJ2
import Derived.WalkKit
import Derived.Lib.SlBytesConst
import Derived.Test.YtclfbdfgmeliaaaRows
import Derived.Test.YtclfbdfgmeliaaaJ1
import Derived.WalkLawsBesides
import Derived.Deep.MidRow

/-
  The contracts of varint.length, varint.value and varint.Take: what each returns; memory is as it was.
-/
namespace Go.Proofs.Ytclfbdfgmeliaaa
open Go.RowKit

set_option maxRecDepth 4000 in
set_option maxHeartbeats 800000 in
theorem vlength_any (v : Value) (bs : List Nat) (w : World) (hr : Reads .u8 w v bs) (hbs : ∀ x ∈ bs, x < 256) (hl : bs.length ≤ 1000000000) :
    Calls Try.prog 61 #[v] w fun e w' => e = .returned (.tuple #[.int .i64 ((lenFrom 0 bs).1 : Int), .int .i64 ((lenFrom 0 bs).2 : Int)]) ∧ w' = w := by
  obtain ⟨ao, cap, rfl, hlc, hc⟩ := hr
  rw [length_row] at hlc hc ⊢
  obtain ⟨n, hnn⟩ : ∃ n, n = bs.length := ⟨_, rfl⟩
  rw [← hnn] at hlc hc hl ⊢
  have Hn : Hid _ := hnn
  have Hbs : Hid _ := hbs
  have Hc : Hid _ := hc
  clear hnn hbs hc
  go_enter Try.func61, Try.ntmps61
  go_wp2_with fail
  go_loopg [8] n (fun g I wr => ∃ i : Nat, i ≤ n ∧ g = n - i ∧ i ≤ 9 ∧ I = .int .i64 (i : Int) ∧ lenFrom i (bs.drop i) = lenFrom 0 bs ∧ wr = w)
  case atStart => exact ⟨0, by omega, by omega, by omega, rfl, rfl, rfl⟩
  case round =>
    obtain ⟨i, hi, hgk, hi9, rfl, hst, rfl⟩ := hrel
    have Hgk : Hid _ := hgk
    by_cases hlt : i < n
    · obtain ⟨b, off, rfl, hcell⟩ := Hc.out (by omega)
      have cg := hcell i _ (row_get .u8 bs i (by rw [← Hn.out]; exact hlt))
      have hx := getD_lt (by decide) Hbs.out i
      rw [drop_step (by rw [← Hn.out]; exact hlt), lenFrom] at hst
      generalize bs.getD i 0 = x at cg hx hst
      have Hst : Hid _ := hst
      clear hst hgk hcell
      by_cases h1 : i = 9 ∧ 1 < x
      · have Hs : Hid (lenFrom 0 bs = (0, 21)) := by rw [← Hst.out, if_pos h1]; exact rfl
        obtain ⟨h1, h2⟩ := h1
        subst h1
        go_wp2
        go_ret2
        exact ⟨by rw [Hs.out]; rfl, rfl⟩
      · have Hs1 : Hid (lenFrom 0 bs = if 128 ≤ x then lenFrom (i + 1) (bs.drop (i + 1)) else if x = 0 ∧ 0 < i then (0, 21) else (i + 1, 0)) := by
          show _ = _
          rw [← Hst.out, if_neg h1]
        clear Hst
        have hsplit : (i = 9 ∧ x ≤ 1) ∨ (i < 9 ∧ ((i : Int) == 9) = false ∧ (i == 9) = false) := by
          by_cases h9 : i = 9
          · exact .inl ⟨h9, by omega⟩
          · exact .inr ⟨by omega, by simp; omega, by simp; omega⟩
        clear h1
        rcases hsplit with ⟨rfl, hx1⟩ | ⟨h9, hd1, hd2⟩
        · have Hs : Hid (lenFrom 0 bs = if x = 0 then (0, 21) else (10, 0)) := by show _ = _; rw [Hs1.out, if_neg (by omega)]; simp
          clear Hs1
          rcases (show x = 0 ∨ x = 1 by omega) with rfl | rfl
          · go_wp2
            go_ret2
            exact ⟨by rw [Hs.out]; rfl, rfl⟩
          · go_wp2
            go_ret2
            exact ⟨by rw [Hs.out]; rfl, rfl⟩
        · by_cases hbig : 128 ≤ x
          · have Hs : Hid (lenFrom (i + 1) (bs.drop (i + 1)) = lenFrom 0 bs) := by show _ = _; rw [Hs1.out, if_pos hbig]
            clear Hs1
            go_wp2
            go_roundg (n - (i + 1))
            case rel => exact ⟨i + 1, by omega, rfl, by omega, by go_num, Hs.out, rfl⟩
            case measure => rw [Hgk.out]; omega
          · have Hs : Hid (lenFrom 0 bs = if x = 0 ∧ 0 < i then (0, 21) else (i + 1, 0)) := by show _ = _; rw [Hs1.out, if_neg hbig]
            clear Hs1
            by_cases hx0 : x = 0
            · subst hx0
              by_cases hi0 : 0 < i
              · go_wp2
                go_ret2
                exact ⟨by rw [Hs.out, if_pos (by simp [hi0])]; rfl, rfl⟩
              · have Hs2 : Hid (lenFrom 0 bs = (i + 1, 0)) := by show _ = _; rw [Hs.out, if_neg (by simp [hi0])]
                have hd5 : decide (0 < (i : Int)) = false := by simp; omega
                have hd6 : decide (0 < i) = false := by simp; omega
                go_wp2
                go_ret2
                exact ⟨by rw [Hs2.out]; rfl, rfl⟩
            · have hd3 : ((x : Int) == 0) = false := by simp; omega
              have hd4 : (x == 0) = false := by simp; omega
              go_wp2
              go_ret2
              exact ⟨by rw [Hs.out, if_neg (fun h => hx0 h.1)]; rfl, rfl⟩
    · have Hs : Hid (lenFrom 0 bs = (0, 20)) := by
        show _ = _
        rw [← hst, List.drop_eq_nil_of_le (by rw [← Hn.out]; omega)]
        rfl
      clear hst hgk
      go_wp2
      go_ret2
      exact ⟨by rw [Hs.out]; rfl, rfl⟩

theorem val_step (bs : List Nat) (i x : Nat) (hx : x = bs.getD i 0) (hx2 : x < 256) (hi : i ≤ 9) (h9 : i = 9 → x ≤ 1) :
    bits .or .u64 (val bs i : Int) (IntKind.u64.wrap (IntKind.u64.wrap (bits .and .u8 (x : Int) 127) * 2 ^ (7 * i))) = (val bs (i + 1) : Int) := by
  have hp : (2 : Nat) ^ (7 * i) ≤ 9223372036854775808 := Nat.le_trans (Nat.pow_le_pow_right (by omega) (show 7 * i ≤ 63 by omega)) (by decide)
  have hd : x % 128 * 2 ^ (7 * i) < 18446744073709551616 := by
    by_cases e : i = 9
    · have := h9 e
      have h2 : x % 128 * 2 ^ (7 * i) ≤ 1 * 9223372036854775808 := Nat.mul_le_mul (by omega) hp
      omega
    · have hp2 : (2 : Nat) ^ (7 * i) ≤ 72057594037927936 := Nat.le_trans (Nat.pow_le_pow_right (by omega) (show 7 * i ≤ 56 by omega)) (by decide)
      have h2 : x % 128 * 2 ^ (7 * i) ≤ 127 * 72057594037927936 := Nat.mul_le_mul (by omega) hp2
      omega
  have hv : val bs i < 18446744073709551616 := by have := val_lt bs i; omega
  rw [show (127 : Int) = ((127 : Nat) : Int) from rfl, u8_and_nat _ _ hx2 (by omega), nat_mask7, IntWalk.u64_in ((x % 128 : Nat) : Int) (by omega)]
  have e1 : ((x % 128 : Nat) : Int) * 2 ^ (7 * i) = ((x % 128 * 2 ^ (7 * i) : Nat) : Int) := by simp
  rw [e1, IntWalk.u64_in _ (by omega), u64_or_nat _ _ hv hd, hx, val_or]

set_option maxRecDepth 4000 in
set_option maxHeartbeats 800000 in
theorem vvalue_any (v : Value) (bs : List Nat) (w : World) (hr : Reads .u8 w v bs) (hbs : ∀ x ∈ bs, x < 256) (hl : bs.length ≤ 10) (h9 : bs.getD 9 0 ≤ 1) :
    Calls Try.prog 62 #[v] w fun e w' => e = .returned (.int .u64 (val bs bs.length : Int)) ∧ w' = w := by
  obtain ⟨ao, cap, rfl, hlc, hc⟩ := hr
  rw [length_row] at hlc hc ⊢
  obtain ⟨n, hnn⟩ : ∃ n, n = bs.length := ⟨_, rfl⟩
  rw [← hnn] at hlc hc hl ⊢
  have Hn : Hid _ := hnn
  have Hbs : Hid _ := hbs
  have Hc : Hid _ := hc
  have H9 : Hid _ := h9
  clear hnn hbs hc h9
  go_enter Try.func62, Try.ntmps62
  go_wp2_with fail
  go_loopg [3, 8] n (fun g V I wr => ∃ i : Nat, i ≤ n ∧ g = n - i ∧ I = .int .i64 (i : Int) ∧ V = .int .u64 (val bs i : Int) ∧ wr = w)
  case atStart => exact ⟨0, by omega, by omega, rfl, rfl, rfl⟩
  case round =>
    obtain ⟨i, hi, hgk, rfl, rfl, rfl⟩ := hrel
    have Hgk : Hid _ := hgk
    clear hgk
    by_cases hlt : i < n
    · obtain ⟨b, off, rfl, hcell⟩ := Hc.out (by omega)
      have cg := hcell i _ (row_get .u8 bs i (by rw [← Hn.out]; exact hlt))
      have hx := getD_lt (by decide) Hbs.out i
      obtain ⟨x, hxx⟩ : ∃ x, x = bs.getD i 0 := ⟨_, rfl⟩
      rw [← hxx] at cg hx
      have Hx : Hid _ := hxx
      clear hcell hxx
      go_wp2
      go_roundg (n - (i + 1))
      case rel =>
        refine ⟨i + 1, by omega, rfl, by go_num, ?_, rfl⟩
        have h9 : i = 9 → x ≤ 1 := by intro e; subst e; have := H9.out; rw [← Hx.out] at this; exact this
        exact congrArg (Value.int .u64) (val_step bs i x Hx.out hx (by omega) h9)
      case measure => rw [Hgk.out]; omega
    · have Hin : Hid (i = n) := by show i = n; omega
      go_wp2
      go_ret
      exact ⟨by rw [← Hin.out]; rfl, rfl⟩

set_option maxRecDepth 4000 in
set_option maxHeartbeats 800000 in
theorem vtake_any (v : Value) (bs : List Nat) (m : Nat) (w : World) (hr : Reads .u8 w v bs) (hbs : ∀ x ∈ bs, x < 256) (hl : bs.length ≤ 1000000000) (_hm : m < 18446744073709551616) :
    Calls Try.prog 42 #[v, .int .u64 (m : Int)] w fun e w' => e = .returned (.tuple #[.int .u64 ((took bs m).1 : Int), .int .i64 ((took bs m).2.1 : Int), .int .i64 ((took bs m).2.2 : Int)]) ∧ w' = w := by
  have Hr : Hid (Reads .u8 w v bs) := hr
  obtain ⟨ao, cap, rfl, hlc, -⟩ := hr
  rw [length_row] at Hr hlc ⊢
  obtain ⟨p, hp⟩ : ∃ p, p = lenFrom 0 bs := ⟨_, rfl⟩
  obtain ⟨n, er⟩ := p
  have hok := lenFrom_ok bs 0 (by omega)
  rw [← hp] at hok
  have Hp : Hid _ := hp
  have Hbs : Hid _ := hbs
  have Hok : Hid (er = 0 → 0 < n ∧ n ≤ bs.length ∧ n ≤ 10 ∧ (bs.length ≤ 9 ∨ n ≤ 9 ∨ bs.getD 9 0 ≤ 1)) := by
    intro h0
    obtain ⟨a, b, c, d⟩ := hok h0
    exact ⟨a, by simpa using b, c, by simpa using d⟩
  have Ht : Hid (took bs m = if er ≠ 0 then (0, 0, er) else if m < val bs n then (0, 0, 22) else (val bs n, n, 0)) := by
    show _ = _
    unfold took
    rw [← hp]
  clear hok hp hbs
  go_enter Try.func42, Try.ntmps42
  go_wp2_with fail
  refine (vlength_any _ bs w Hr.out Hbs.out hl).mono ?_
  rw [← Hp.out]
  rintro e w' ⟨rfl, rfl⟩
  by_cases he : er = 0
  · subst he
    obtain ⟨h1, h2, h3, h4⟩ := Hok.out rfl
    have ht : bs.take n ++ bs.drop n = bs := List.take_append_drop n bs
    have hv : val (bs.take n) (bs.take n).length = val bs n := by
      rw [List.length_take, Nat.min_eq_left h2]
      refine val_congr _ _ _ (fun j hj => ?_)
      rw [List.getD_eq_getElem?_getD, List.getD_eq_getElem?_getD, List.getElem?_take, if_pos hj]
    have h9 : (bs.take n).getD 9 0 ≤ 1 := by
      rw [List.getD_eq_getElem?_getD, List.getElem?_take]
      split
      · rename_i hn9
        rcases h4 with h4 | h4 | h4
        · omega
        · omega
        · rw [List.getD_eq_getElem?_getD] at h4; exact h4
      · simp
    clear ht h4
    have Hv : Hid _ := hv
    clear hv
    have hrt : Reads .u8 w' (.slice ao n cap) (bs.take n) := by
      have := Holds.take Hr.out n h2 cap (by omega)
      rwa [← row_take] at this
    have H9 : Hid _ := h9
    clear h9
    go_wp2_with fail
    refine (vvalue_any _ (bs.take n) w' hrt (mem_take_lt Hbs.out) (by rw [List.length_take]; omega) H9.out).mono ?_
    rw [Hv.out]
    rintro e w'' ⟨rfl, rfl⟩
    by_cases hm : m < val bs n
    · have Ht2 : Hid (took bs m = (0, 0, 22)) := by show _ = _; rw [Ht.out, if_neg (by simp), if_pos hm]
      generalize val bs n = V at *
      go_wp2
      go_ret3
      exact ⟨by rw [Ht2.out]; rfl, rfl⟩
    · have Ht2 : Hid (took bs m = (val bs n, n, 0)) := by show _ = _; rw [Ht.out, if_neg (by simp), if_neg hm]
      generalize val bs n = V at *
      go_wp2
      go_ret3
      exact ⟨by rw [Ht2.out]; rfl, rfl⟩
  · have Ht2 : Hid (took bs m = (0, 0, er)) := by show _ = _; rw [Ht.out, if_pos he]
    have hd : ((er : Int) == 0) = false := by simp; omega
    have hd2 : (er == 0) = false := by simp; omega
    go_wp2
    go_ret3
    exact ⟨by rw [Ht2.out]; rfl, rfl⟩

end Go.Proofs.Ytclfbdfgmeliaaa

/-
  The contract of the reference's Take: what it returns; memory is as it was.
-/
namespace Go.Proofs.Ytclfbdfgmeliaaa
open Go.RowKit

set_option maxRecDepth 4000 in
set_option maxHeartbeats 1600000 in
theorem vrefTake_any (v : Value) (bs : List Nat) (m : Nat) (w : World) (hr : Reads .u8 w v bs) (hbs : ∀ x ∈ bs, x < 256) (hl : bs.length ≤ 1000000000) (_hm : m < 18446744073709551616) :
    Calls Try.prog 28 #[v, .int .u64 (m : Int)] w fun e w' => e = .returned (.tuple #[.int .u64 ((took bs m).1 : Int), .int .i64 ((took bs m).2.1 : Int), .int .i64 ((took bs m).2.2 : Int)]) ∧ w' = w := by
  obtain ⟨ao, cap, rfl, hlc, hc⟩ := hr
  rw [length_row] at hlc hc ⊢
  obtain ⟨n, hnn⟩ : ∃ n, n = bs.length := ⟨_, rfl⟩
  rw [← hnn] at hlc hc hl ⊢
  have Hn : Hid _ := hnn
  have Hbs : Hid _ := hbs
  have Hc : Hid _ := hc
  obtain ⟨T, hT⟩ : ∃ T, T = took bs m := ⟨_, rfl⟩
  rw [← hT]
  have Ht : Hid (∀ a b, lenFrom 0 bs = (a, b) → T = if b ≠ 0 then (0, 0, b) else if m < val bs a then (0, 0, 22) else (val bs a, a, 0)) := by
    intro a b h
    rw [hT]
    unfold took
    rw [h]
  clear hnn hbs hc hT
  go_enter Try.func28, Try.ntmps28
  go_wp2_with fail
  go_loopg [7, 8] n (fun g V I wr => ∃ i : Nat, i ≤ n ∧ g = n - i ∧ i ≤ 9 ∧ I = .int .i64 (i : Int) ∧ V = .int .u64 (val bs i : Int) ∧ lenFrom i (bs.drop i) = lenFrom 0 bs ∧ wr = w)
  case atStart => exact ⟨0, by omega, by omega, by omega, rfl, rfl, rfl, rfl⟩
  case round =>
    obtain ⟨i, hi, hgk, hi9, rfl, rfl, hst, rfl⟩ := hrel
    have Hgk : Hid _ := hgk
    by_cases hlt : i < n
    · obtain ⟨b, off, rfl, hcell⟩ := Hc.out (by omega)
      have cg := hcell i _ (row_get .u8 bs i (by rw [← Hn.out]; exact hlt))
      have hx := getD_lt (by decide) Hbs.out i
      rw [drop_step (by rw [← Hn.out]; exact hlt), lenFrom] at hst
      obtain ⟨x, hxx⟩ : ∃ x, x = bs.getD i 0 := ⟨_, rfl⟩
      rw [← hxx] at cg hx hst
      have Hx : Hid _ := hxx
      have Hst : Hid _ := hst
      clear hst hgk hcell hxx
      by_cases h1 : i = 9 ∧ 1 < x
      · have Hs : Hid (T = (0, 0, 21)) := Ht.out 0 21 (by rw [← Hst.out, if_pos h1])
        obtain ⟨h1, h2⟩ := h1
        subst h1
        go_wp2
        go_ret3
        exact ⟨by rw [Hs.out]; rfl, rfl⟩
      · have Hs1 : Hid (lenFrom 0 bs = if 128 ≤ x then lenFrom (i + 1) (bs.drop (i + 1)) else if x = 0 ∧ 0 < i then (0, 21) else (i + 1, 0)) := by
          show _ = _
          rw [← Hst.out, if_neg h1]
        clear Hst
        have hvs := val_step bs i x Hx.out hx hi9 (fun e => by omega)
        obtain ⟨V', hV'⟩ : ∃ V', V' = val bs (i + 1) := ⟨_, rfl⟩
        rw [← hV'] at hvs
        have HV : Hid _ := hV'
        clear hV'
        by_cases hbig : 128 ≤ x
        · have h9 : i < 9 := by omega
          have hd1 : ((i : Int) == 9) = false := by simp; omega
          have hd2 : (i == 9) = false := by simp; omega
          have Hs : Hid (lenFrom (i + 1) (bs.drop (i + 1)) = lenFrom 0 bs) := by show _ = _; rw [Hs1.out, if_pos hbig]
          clear Hs1 h1
          go_wp2
          go_roundg (n - (i + 1))
          case rel => exact ⟨i + 1, by omega, rfl, by omega, by go_num, by rw [HV.out], Hs.out, rfl⟩
          case measure => rw [Hgk.out]; omega
        · have hsplit : (((i : Int) == 9) = true ∧ (i == 9) = true ∧ decide (1 < (x : Int)) = false ∧ decide (1 < x) = false) ∨ (((i : Int) == 9) = false ∧ (i == 9) = false) := by
            by_cases h9 : i = 9
            · exact .inl ⟨by simp; omega, by simp; omega, by simp; omega, by simp; omega⟩
            · exact .inr ⟨by simp; omega, by simp; omega⟩
          have hs2 : lenFrom 0 bs = if x = 0 ∧ 0 < i then (0, 21) else (i + 1, 0) := by rw [Hs1.out, if_neg hbig]
          clear Hs1 h1
          by_cases hx0 : x = 0 ∧ 0 < i
          · have Hs : Hid (T = (0, 0, 21)) := Ht.out 0 21 (by rw [hs2, if_pos hx0])
            have hd3 : ((x : Int) == 0) = true := by simp; omega
            have hd4 : (x == 0) = true := by simp; omega
            obtain ⟨-, hi0⟩ := hx0
            clear hs2
            rcases hsplit with ⟨hd5, hd6, hd7, hd8⟩ | ⟨hd5, hd6⟩
            all_goals
              go_wp2
              go_ret3
              exact ⟨by rw [Hs.out]; rfl, rfl⟩
          · have hT := Ht.out (i + 1) 0 (by rw [hs2, if_neg hx0])
            rw [if_neg (by simp), ← HV.out] at hT
            have hds : (((x : Int) == 0) = true ∧ (x == 0) = true ∧ decide (0 < (i : Int)) = false ∧ decide (0 < i) = false) ∨ (((x : Int) == 0) = false ∧ (x == 0) = false) := by
              by_cases h0 : x = 0
              · exact .inl ⟨by simp; omega, by simp; omega, by simp; omega, by simp; omega⟩
              · exact .inr ⟨by simp; omega, by simp; omega⟩
            clear hs2 hx0
            by_cases hm : m < V'
            · rw [if_pos hm] at hT
              have Hs : Hid _ := hT
              clear hT
              rcases hds with ⟨hd1, hd2, hd3, hd4⟩ | ⟨hd3, hd4⟩
              all_goals
                rcases hsplit with ⟨hd5, hd6, hd7, hd8⟩ | ⟨hd5, hd6⟩
                all_goals
                  go_wp2
                  go_ret3
                  exact ⟨by rw [Hs.out]; rfl, rfl⟩
            · rw [if_neg hm] at hT
              have Hs : Hid _ := hT
              clear hT
              rcases hds with ⟨hd1, hd2, hd3, hd4⟩ | ⟨hd3, hd4⟩
              all_goals
                rcases hsplit with ⟨hd5, hd6, hd7, hd8⟩ | ⟨hd5, hd6⟩
                all_goals
                  go_wp2
                  go_ret3
                  exact ⟨by rw [Hs.out]; rfl, rfl⟩
    · have Hs : Hid (T = (0, 0, 20)) := Ht.out 0 20 (by
        rw [← hst, List.drop_eq_nil_of_le (by rw [← Hn.out]; omega)]
        rfl)
      clear hst hgk
      go_wp2
      go_ret3
      exact ⟨by rw [Hs.out]; rfl, rfl⟩

end Go.Proofs.Ytclfbdfgmeliaaa

/-
  The contract of the reference's lengths: those that stand at the beginning of bytes.
-/
namespace Go.Proofs.Ytclfbdfgmeliaaa
open Go.RowKit

theorem took_len (bs : List Nat) (m : Nat) : (took bs m).2.1 ≤ bs.length ∧ (took bs m).2.1 ≤ 10 := by
  unfold took
  by_cases h : (lenFrom 0 bs).2 ≠ 0
  · rw [if_pos h]; simp
  · have := lenFrom_ok bs 0 (by omega) (by simpa using h)
    rw [if_neg h]
    split
    · simp
    · simp only; omega
theorem mem_drop_lt {bs : List Nat} {n : Nat} (h : ∀ x ∈ bs, x < 256) : ∀ x ∈ bs.drop n, x < 256 := fun x hx => h x (List.mem_of_mem_drop hx)

set_option maxRecDepth 4000 in
set_option maxHeartbeats 1600000 in
theorem refHead_any (v : Value) (bs : List Nat) (w : World) (h : Reads .u8 w v bs) (hb : ∀ x ∈ bs, x < 256) (hl : bs.length ≤ 1000000) :
    Calls Try.prog 29 #[v] w fun e w' => Fr w w' (fun _ => False) ∧ ((parsed bs = none ∧ e = .returned (.tuple #[.slice none 0 0, .int .i64 0, .bool false])) ∨
      ∃ l at_ sv, parsed bs = some (l, bs.drop at_) ∧ at_ ≤ bs.length ∧ e = .returned (.tuple #[sv, .int .i64 (at_ : Int), .bool true]) ∧ Reads .i64 w' sv l ∧ (∀ k, sv.ownBlock = some k → w.heap.size ≤ k)) := by
  obtain ⟨a0, c0, rfl, hc0, -⟩ := id h
  rw [length_row] at h hc0 ⊢
  obtain ⟨n, hn⟩ : ∃ n, n = bs.length := ⟨_, rfl⟩
  rw [← hn] at h hl hc0 ⊢
  have Hr : Hid (Reads .u8 w (.slice a0 n c0) bs) := h
  have Hn : Hid _ := hn
  have Hb : Hid _ := hb
  clear h hn hb
  have Hp : Hid (parsed bs = if (took bs 256).2.2 ≠ 0 then none else (parseL (took bs 256).1 (bs.drop (took bs 256).2.1) 0 (fun _ => 0)).map fun r => (listF r.1, r.2)) := rfl
  have hcall : ∀ x, Reads .u8 x (.slice a0 n c0) bs → _ := fun x hx => vrefTake_any (.slice a0 n c0) bs 256 x hx Hb.out (by rw [← Hn.out]; omega) (by omega)
  have htl := took_len bs 256
  have htm := took_most bs 256
  rcases hT : took bs 256 with ⟨N0, k0, e0⟩
  rw [hT] at Hp htl htm
  rw [← Hn.out] at htl
  simp only [hT] at hcall
  dsimp only at htl htm
  have Hcall : Hid _ := hcall
  clear hcall hT
  go_enter Try.func29, Try.ntmps29
  go_wp2_with fail
  refine (Hcall.out w Hr.out).mono ?_
  rintro e w1 ⟨rfl, rfl⟩
  by_cases he0 : e0 = 0
  · subst he0
    have Hp2 : Hid (parsed bs = (parseL N0 (bs.drop k0) 0 (fun _ => 0)).map fun r => (listF r.1, r.2)) := by show _ = _; rw [Hp.out]; simp
    obtain ⟨R, hR⟩ : ∃ R, R = parseL N0 (bs.drop k0) 0 (fun _ => 0) := ⟨_, rfl⟩
    rw [← hR] at Hp2
    have HR : Hid _ := hR
    clear hR Hp Hcall
    obtain ⟨i0, hi0, hz0, hz1, hz2⟩ := info_parts infoIntC
    go_wp2_with (at_make; refine wpList_make_full _ rfl _ _ 28 rfl 0 3 i0 (.int .i64 0) 1 Try.underlying28 hi0 hz0 hz1 _ _ _ _ 256 rfl rfl rfl rfl ?b1 ?b2 (Nat.zero_le _) ?_)
    case b1 => rw [hz2]; omega
    case b2 => unfold maxLen; omega
    intro wm hown hgrow
    rw [zeros_fnRow] at hown
    have hfm : Fr w1 wm (fun _ => False) := (Fr.refl w1 _).grown hgrow (fun k hk => by cases hk)
    obtain ⟨g, hg⟩ : ∃ g, g = w1.heap.size := ⟨_, rfl⟩
    rw [← hg] at hown ⊢
    have Hgw : Hid (w1.heap.size ≤ g) := by show _ ≤ _; omega
    have Hkeep : Hid (∀ x, Fr wm x (fun k => k = g) → Reads .u8 x (.slice a0 n c0) bs) := fun x hx => by
      have h1 : Reads .u8 wm (.slice a0 n c0) bs := Hr.out.keep hfm
      refine h1.frame' hx (fun h0 k hk e => ?_)
      obtain ⟨b, off, e2, hb2, -⟩ := Hr.out.at Hn.out 0 (by rw [Hn.out]; exact h0)
      rw [e2] at hk
      simp [Value.ownBlock] at hk
      omega
    have Hown : Hid (OwnC wm (.slice (some ⟨g, 0, none⟩) 256 256) (fnRow 256 (fun _ => 0))) := by
      unfold OwnC
      rw [fnRow_length]
      exact hown
    have Hfm : Hid (Fr w1 wm (fun _ => False)) := hfm
    clear hgrow hfm hown hi0 hz0 hz1 hz2 hg
    go_wp2_with fail
    go_loopg [6, 9, 10] N0 (fun g' At S I wr => ∃ (i at_ nx : Nat) (f : Nat → Nat), g' = N0 - i ∧ i ≤ N0 ∧ I = .int .u64 (i : Int) ∧ At = .int .i64 (at_ : Int) ∧ at_ ≤ n ∧ S = .int .i64 ((nx : Nat) - 1 : Int) ∧ nx ≤ 256 ∧ parseL (N0 - i) (bs.drop at_) nx f = R ∧ OwnC wr (.slice (some ⟨g, 0, none⟩) 256 256) (fnRow 256 f) ∧ Fr wm wr (fun k => k = g))
    case atStart => exact ⟨0, k0, 0, fun _ => 0, rfl, by omega, rfl, rfl, htl.1, rfl, by omega, HR.out.symm, Hown.out, Fr.refl _ _⟩
    case round =>
      obtain ⟨i, at_, nx, f, hg', hi, rfl, rfl, hat, rfl, hnx, hpar, ho, hf⟩ := hrel
      have Hg' : Hid _ := hg'
      have Hpar : Hid (parseL (N0 - i) (bs.drop at_) nx f = R) := hpar
      have Ho : Hid (OwnC wr (.slice (some ⟨g, 0, none⟩) 256 256) (fnRow 256 f)) := ho
      have Hf : Hid (Fr wm wr (fun k => k = g)) := hf
      clear hg' hpar ho hf
      obtain ⟨La, hLa⟩ : ∃ La : Int, La = (nx : Int) - 1 := ⟨_, rfl⟩
      rw [← hLa]
      by_cases hlt : i < N0
      · obtain ⟨m, hm⟩ : ∃ m, N0 - i = m + 1 := ⟨N0 - i - 1, by omega⟩
        have hd1 := reads_drop (Hkeep.out _ Hf.out) at_ hat
        have htl1 := took_len (bs.drop at_) 255
        have htm1 := took_most (bs.drop at_) 255
        have Hpar1 : Hid (R = parseL (m + 1) (bs.drop at_) nx f) := by rw [← hm]; exact Hpar.out.symm
        rw [parseL] at Hpar1
        rcases hT1 : took (bs.drop at_) 255 with ⟨g1, k1, e1⟩
        rw [hT1] at htl1 htm1
        simp only [hT1] at Hpar1
        rw [List.length_drop, ← Hn.out] at htl1
        dsimp only at htl1 htm1
        have HT1 : Hid _ := hT1
        obtain ⟨A1, hA1⟩ : ∃ A, (if c0 = at_ then a0 else Option.map (fun x => x.add at_) a0) = A := ⟨_, rfl⟩
        rw [hA1] at hd1
        have Hd1 : Hid (Reads .u8 wr (.slice A1 (n - at_) (c0 - at_)) (bs.drop at_)) := hd1
        clear hd1 hT1
        have hati : (at_ : Int) ≤ (n : Int) := by omega
        have hi1 : (i : Int) < (N0 : Int) := by omega
        have hfo := Hfm.out.newer Hf.out (fun k hk => by rw [hk]; exact Hgw.out)
        have Hfo : Hid (Fr w1 wr (fun _ => False)) := hfo
        have HLa : Hid _ := hLa
        clear hfo hLa
        go_wp2_with fail
        refine (vrefTake_any _ (bs.drop at_) 255 wr Hd1.out (mem_drop_lt Hb.out) (by rw [List.length_drop, ← Hn.out]; omega) (by omega)).mono ?_
        rw [HT1.out]
        rintro e w2 ⟨rfl, hw2⟩
        obtain rfl : wr = w2 := hw2.symm
        clear HT1 Hd1 hA1
        by_cases he1 : e1 = 0
        · subst he1
          obtain ⟨at2, hat2⟩ : ∃ a, a = at_ + k1 := ⟨_, rfl⟩
          have hadd : (at_ : Int) + (k1 : Int) = (at2 : Int) := by omega
          have hat2n : at2 ≤ n := by omega
          have hd2 := reads_drop (Hkeep.out _ Hf.out) at2 hat2n
          have htl2 := took_len (bs.drop at2) 15
          have htm2 := took_most (bs.drop at2) 15
          have Hpar2 : Hid (R = if (took (bs.drop at2) 15).2.2 ≠ 0 ∨ 255 < nx + g1 then none else parseL m ((bs.drop at2).drop (took (bs.drop at2) 15).2.1) (nx + g1 + 1) (fun t => if t = nx + g1 then (took (bs.drop at2) 15).1 else f t)) := by
            have h1 := Hpar1.out
            rw [if_neg (by simp), List.drop_drop, ← hat2] at h1
            exact h1
          rcases hT2 : took (bs.drop at2) 15 with ⟨g2, k2, e2⟩
          rw [hT2] at htl2 htm2
          simp only [hT2] at Hpar2
          rw [List.length_drop, ← Hn.out] at htl2
          dsimp only at htl2 htm2
          have HT2 : Hid _ := hT2
          obtain ⟨A2, hA2⟩ : ∃ A, (if c0 = at2 then a0 else Option.map (fun x => x.add at2) a0) = A := ⟨_, rfl⟩
          rw [hA2] at hd2
          have Hd2 : Hid (Reads .u8 wr (.slice A2 (n - at2) (c0 - at2)) (bs.drop at2)) := hd2
          have hat2i : (at2 : Int) ≤ (n : Int) := by omega
          obtain ⟨s2, hs2⟩ : ∃ s, s = nx + g1 := ⟨_, rfl⟩
          rw [← hs2] at Hpar2
          have wg1 : IntKind.i64.wrap (g1 : Int) = (g1 : Int) := IntWalk.i64_in _ (by omega)
          have hsum : La + ((g1 : Int) + 1) = (s2 : Int) := by rw [HLa.out]; omega
          have hs2b : s2 ≤ 512 := by omega
          clear hd2 hT2 hat2 hs2 Hpar1
          go_wp2_with fail
          refine (vrefTake_any _ (bs.drop at2) 15 wr Hd2.out (mem_drop_lt Hb.out) (by rw [List.length_drop, ← Hn.out]; omega) (by omega)).mono ?_
          rw [HT2.out]
          rintro e w3 ⟨rfl, hw3⟩
          obtain rfl : wr = w3 := hw3.symm
          clear HT2 Hd2 hA2
          by_cases he2 : e2 = 0
          · subst he2
            by_cases hs255 : 255 < s2
            · have hd : decide ((255 : Int) < (s2 : Int)) = true := decide_eq_true (by omega)
              have Hnone : Hid (parsed bs = none) := by
                show _ = _
                have h1 := Hpar2.out
                rw [if_pos (.inr hs255)] at h1
                rw [Hp2.out, h1]
                rfl
              go_wp2_with fail
              go_ret3
              exact ⟨Hfo.out, .inl ⟨Hnone.out, rfl⟩⟩
            · have hd : decide ((255 : Int) < (s2 : Int)) = false := decide_eq_false (by omega)
              obtain ⟨at3, hat3⟩ : ∃ a, a = at2 + k2 := ⟨_, rfl⟩
              have hadd3 : (at2 : Int) + (k2 : Int) = (at3 : Int) := by omega
              have Hpar3 : Hid (parseL m (bs.drop at3) (s2 + 1) (fun t => if t = s2 then g2 else f t) = R) := by
                show _ = _
                have h1 := Hpar2.out
                rw [if_neg (by simp; omega), List.drop_drop, ← hat3] at h1
                exact h1.symm
              have hat3n : at3 ≤ n := by omega
              have wg2 : IntKind.i64.wrap (g2 : Int) = (g2 : Int) := IntWalk.i64_in _ (by omega)
              have hoc := Ho.out
              unfold OwnC at hoc
              rw [fnRow_length] at hoc
              have hfz := World.ownsRow.frozenAt hoc s2
              have hce : wr.cell? ⟨g, s2, none⟩ = some (.int .i64 ((f s2 : Nat) : Int)) := by
                rw [World.ownsRow.cellAt hoc s2 (by omega)]
                simp [row, fnRow, show s2 < 256 by omega]
              have Hset : Hid ((fnRow 256 f).set s2 g2 = fnRow 256 (fun t => if t = s2 then g2 else f t)) := fnRow_set 256 _ _ s2 g2 (by rw [if_pos rfl]) (fun t ht => by rw [if_neg ht])
              have Hst : Hid (OwnC (wr.setCell ⟨g, s2, none⟩ (.int .i64 (g2 : Int))) (.slice (some ⟨g, 0, none⟩) 256 256) (fnRow 256 (fun t => if t = s2 then g2 else f t))) := by
                have := (World.ownsRow.stored hoc s2 (.int .i64 (g2 : Int))).1
                unfold OwnC
                rw [fnRow_length, ← Hset.out, row_set]
                exact this
              have Hf2 : Hid (Fr wm (wr.setCell ⟨g, s2, none⟩ (.int .i64 (g2 : Int))) (fun k => k = g)) := Hf.out.setCell ⟨g, s2, none⟩ (fun _ => rfl) _
              have hs2i : (s2 : Int) < 256 := by omega
              have Hm : Hid (N0 - (i + 1) = m) := by show _ = _; omega
              generalize f s2 = old at hce
              clear hoc Hset hat3 Hpar2 Hpar
              go_wp2_with fail
              go_roundg (N0 - (i + 1))
              case rel => exact ⟨i + 1, at3, s2 + 1, _, rfl, by omega, by go_num, rfl, hat3n, by congr 1; omega, by omega, by rw [Hm.out]; exact Hpar3.out, Hst.out, Hf2.out⟩
              case measure => rw [Hg'.out]; omega
          · have hd : ((e2 : Int) != 0) = true := by simp; omega
            have hd2 : ((e2 : Int) == 0) = false := by rw [beq_eq_false_iff_ne]; omega
            have Hnone : Hid (parsed bs = none) := by
              show _ = _
              have h1 := Hpar2.out
              rw [if_pos (.inl he2)] at h1
              rw [Hp2.out, h1]
              rfl
            go_wp2_with fail
            go_ret3
            exact ⟨Hfo.out, .inl ⟨Hnone.out, rfl⟩⟩
        · have hd : ((e1 : Int) != 0) = true := by simp; omega
          have hd2 : ((e1 : Int) == 0) = false := by rw [beq_eq_false_iff_ne]; omega
          have Hnone : Hid (parsed bs = none) := by
            show _ = _
            have h1 := Hpar1.out
            rw [if_pos he1] at h1
            rw [Hp2.out, h1]
            rfl
          go_wp2_with fail
          go_ret3
          exact ⟨Hfo.out, .inl ⟨Hnone.out, rfl⟩⟩
      · have hi1 : ¬ (i : Int) < (N0 : Int) := by omega
        have hfo := Hfm.out.newer Hf.out (fun k hk => by rw [hk]; exact Hgw.out)
        have Hsome : Hid (parsed bs = some (listF f, bs.drop at_)) := by
          show _ = _
          have h1 := Hpar.out
          rw [show N0 - i = 0 by omega] at h1
          rw [Hp2.out, ← h1]
          rfl
        clear hLa
        go_wp2_with fail
        go_ret3
        exact ⟨hfo, .inr ⟨_, at_, Hsome.out, hat, _, rfl, holds_own Ho.out, fun k hk => by simp [Value.ownBlock] at hk; rw [← hk]; exact Hgw.out⟩⟩
  · have hd : ((e0 : Int) != 0) = true := by simp; omega
    have hd2 : ((e0 : Int) == 0) = false := by rw [beq_eq_false_iff_ne]; omega
    have Hnone : Hid (parsed bs = none) := by show _ = _; rw [Hp.out, if_pos (by simpa using he0)]
    go_wp2_with fail
    go_ret3
    exact ⟨Fr.refl _ _, .inl ⟨Hnone.out, rfl⟩⟩

end Go.Proofs.Ytclfbdfgmeliaaa

/-
  Bytes below 256 as a string: unlike bytes are unlike strings.
-/
namespace Go.Proofs.Ytclfbdfgmeliaaa

theorem strOf_inj {a b : List Nat} (ha : ∀ x ∈ a, x < 256) (hb : ∀ x ∈ b, x < 256) (h : strOf a = strOf b) : a = b := by
  unfold strOf strOfNums at h
  simp only [ByteArray.mk.injEq] at h
  have h1 := congrArg Array.toList h
  simp only [List.map_map] at h1
  have hl : a.length = b.length := by have := congrArg List.length h1; simpa using this
  apply List.ext_getElem hl
  intro i h2 h3
  have h4 := congrArg (fun l => l[i]?) h1
  simp only [List.getElem?_map, List.getElem?_eq_getElem h2, List.getElem?_eq_getElem h3, Option.map_some, Option.some.injEq, Function.comp] at h4
  have h5 := ha _ (List.getElem_mem h2)
  have h6 := hb _ (List.getElem_mem h3)
  have h7 := congrArg UInt8.toNat h4
  simp at h7
  omega
theorem str_ne {a b : ByteArray} (h : a ≠ b) : (a.toList == b.toList) = false := by
  rw [beq_eq_false_iff_ne]
  intro e
  rw [Go.ByteArray.toList_eq, Go.ByteArray.toList_eq] at e
  apply h
  cases a
  cases b
  simp only [ByteArray.mk.injEq]
  exact Array.toList_inj.1 e

end Go.Proofs.Ytclfbdfgmeliaaa

/-
  The contracts of the reference's Left and Take: as those of package bits.
-/
namespace Go.Proofs.Ytclfbdfgmeliaaa
open Go.RowKit
set_option maxRecDepth 4000

set_option maxRecDepth 4000 in
set_option maxHeartbeats 400000 in
theorem refLeft_any (p : Nat) (sv : Value) (bs : List Nat) (i : Nat) (w : World) (h : Rd 63 w p sv bs i) :
    Calls Try.prog 65 #[.pointer (some ⟨p, 0, none⟩)] w fun e w' => e = .returned (.int .i64 ((8 * bs.length - i : Nat) : Int)) ∧ ∃ n, w' = w.drewN n := by
  obtain ⟨hp, ⟨ao, cap, rfl, _⟩, hi, hl, hs, _⟩ := h
  have c0 := two_cell0 hp
  have c1 := two_cell1 hp
  generalize bs.length = len at *
  clear hp
  have e1 : IntKind.i64.wrap (8 * (len : Int)) = 8 * (len : Int) := IntWalk.i64_in _ (by omega)
  have e2 : IntKind.i64.wrap (8 * (len : Int) - (i : Int)) = ((8 * len - i : Nat) : Int) := by rw [IntWalk.i64_in _ (by omega)]; omega
  go_enter Try.func65, Try.ntmps65
  go_wp2
  go_quiet (fail)
  go_wp2
  go_ret
  exact ⟨rfl, _, rfl⟩

set_option maxRecDepth 4000 in
set_option maxHeartbeats 800000 in
theorem refTake_no (p : Nat) (sv : Value) (bs : List Nat) (i : Nat) (n : Int) (w : World) (h : Rd 63 w p sv bs i) (hno : 8 * bs.length - i < wide n) :
    Calls Try.prog 46 #[.pointer (some ⟨p, 0, none⟩), .int .i64 n] w fun e w' => e = .returned (.tuple #[.int .u64 0, .bool false]) ∧ ∃ n, w' = w.drewN n := by
  have hwd := wide_le n
  obtain ⟨m, hm⟩ : ∃ m, m = wide n := ⟨_, rfl⟩
  rw [← hm] at hwd hno
  have Hm : Hid (min (max n 0) 64 = (m : Int)) := by rw [hm]; exact (wide_cast n).symm
  clear hm
  rcases (show (n < 0 ∧ (m : Int) = 0) ∨ (64 < n ∧ (m : Int) = 64) ∨ (0 ≤ n ∧ n ≤ 64 ∧ (m : Int) = n) by have := Hm.out; omega) with ⟨c1, c2⟩ | ⟨c1, c2⟩ | ⟨c1, c2, c3⟩
  · omega
  · have Hc : Hid _ := c2
    clear c2
    go_enter Try.func46, Try.ntmps46
    go_wp2_with fail
    refine (refLeft_any p sv bs i _ h).mono ?_
    rintro e w' ⟨rfl, nq, rfl⟩
    have hlt : ((8 * bs.length - i : Nat) : Int) < 64 := by have := Hc.out; omega
    go_wp2
    go_ret2
    exact ⟨rfl, _, rfl⟩
  · have Hc : Hid _ := c3
    clear c3
    go_enter Try.func46, Try.ntmps46
    go_wp2_with fail
    refine (refLeft_any p sv bs i _ h).mono ?_
    rintro e w' ⟨rfl, nq, rfl⟩
    have hlt : ((8 * bs.length - i : Nat) : Int) < n := by have := Hc.out; omega
    go_wp2
    go_ret2
    exact ⟨rfl, _, rfl⟩

set_option maxRecDepth 4000 in
set_option maxHeartbeats 1600000 in
theorem refTake_yesM (p : Nat) (sv : Value) (bs : List Nat) (i : Nat) (m : Nat) (hwd : m ≤ 64) (w : World) (h : Rd 63 w p sv bs i) (hyes : m ≤ 8 * bs.length - i) :
    Calls Try.prog 46 #[.pointer (some ⟨p, 0, none⟩), .int .i64 (m : Int)] w fun e w' => e = .returned (.tuple #[.int .u64 (num (((unpack bs).drop i).take m) : Nat), .bool true]) ∧
      Rd 63 w' p sv bs (i + m) ∧ Fr w w' (fun k => k = p) := by
  go_enter Try.func46, Try.ntmps46
  go_wp2_with fail
  refine (refLeft_any p sv bs i _ h).mono ?_
  rintro e w' ⟨rfl, nq, rfl⟩
  have hd : decide (((8 * bs.length - i : Nat) : Int) < (m : Int)) = false := decide_eq_false (by omega)
  have hd' : decide (8 * bs.length - i < m) = false := decide_eq_false (by omega)
  go_wp2_with fail
  go_loopw [6, 7] (fun v c wr => ∃ k : Nat, k ≤ m ∧ c = .int .i64 (k : Int) ∧ (∃ V : Nat, v = .int .u64 (V : Int) ∧ V = num (((unpack bs).drop i).take k)) ∧ Rd 63 wr p sv bs (i + k) ∧ Fr w wr (fun k => k = p))
    (fun _ c _ => m - (intOf c).toNat)
  case atStart => exact ⟨0, Nat.zero_le _, rfl, ⟨0, rfl, by simp [num, numFrom]⟩, h, (Fr.refl _ _).drewN _⟩
  case round =>
    obtain ⟨k, hk, rfl, ⟨V, rfl, hV⟩, hrd, hf⟩ := hrel
    have HV : Hid _ := hV
    have Hrd : Hid _ := hrd
    clear hV
    by_cases hlt : k < m
    · obtain ⟨hp, ⟨ao, cap, rfl, hcel⟩, hi, hl, hs, hsp⟩ := hrd
      have hpos : (i + k) / 8 < bs.length := by omega
      obtain ⟨b, off, rfl, hcell⟩ := hcel (by omega)
      have cg := hcell ((i + k) / 8) _ (row_get .u8 bs _ hpos)
      obtain ⟨x, hx⟩ : ∃ x, x = bs.getD ((i + k) / 8) 0 := ⟨_, rfl⟩
      obtain ⟨j, hj⟩ : ∃ j, j = i + k := ⟨_, rfl⟩
      obtain ⟨q, hq⟩ : ∃ q, q = (i + k) / 8 := ⟨_, rfl⟩
      rw [← hx, ← hq] at cg
      rw [← hj] at hp
      have hx2 : x < 256 := by rw [hx]; exact hs _
      have c0 := two_cell0 hp
      have c1 := two_cell1 hp
      have f1 := two_free hp 1
      have hjb : (j : Int) ≤ 800000000000 := by omega
      have hrem : (j : Int).tmod 8 = ((j % 8 : Nat) : Int) := by rw [Int.tmod_eq_emod_of_nonneg (by omega)]; omega
      have hqw : IntKind.i64.wrap ((j : Int) / 8) = (q : Int) := by rw [IntWalk.i64_in _ (by omega)]; omega
      have i1 : (q : Int) < (bs.length : Int) := by omega
      have Hx : Hid _ := hx
      have Hj : Hid _ := hj
      have Hq : Hid _ := hq
      have Hs : Hid _ := hs
      have Hsp : Hid _ := hsp
      clear hcel hcell hp hx hj hq hs hsp
      go_wp2
      go_quiet (fail)
      go_wp2
      go_roundw
      case rel =>
        have hVb : V < 9223372036854775808 := by rw [HV.out]; exact num_bound bs i k (by omega)
        have hfr : Fr wr ((wr.drewN nq).setCell ⟨p, 1, none⟩ (.int .i64 ((j : Int) + 1))) (fun k => k = p) := Fr.setCell (S := fun k => k = p) ((Fr.refl _ _).drewN _) ⟨p, 1, none⟩ (fun _ => rfl) _
        refine ⟨k + 1, by omega, by go_num, ⟨_, congrArg (Value.int .u64) (take_val V x j hVb hx2), ?_⟩, ⟨?_, Hrd.out.2.1.frame' hfr (fun h0 k hk e => Hsp.out h0 (by rw [hk, e])), by omega, hl, Hs.out, Hsp.out⟩, hf.trans hfr (fun _ _ h => h)⟩
        · rw [num_step bs i k (by omega), ← HV.out, ← Hx.out, Hj.out]
        · have := two_set1 (w := wr) (u := .int .i64 ((j : Int) + 1)) Hrd.out.1
          have e3 : ((i + (k + 1) : Nat) : Int) = (j : Int) + 1 := by rw [Hj.out]; omega
          rw [e3]
          exact this
      case measure => simp [intOf]; omega
    · have Hkm : Hid (k = m) := by show k = m; omega
      clear hrd
      go_wp2
      go_ret2
      exact ⟨by rw [HV.out, Hkm.out]; rfl, by rw [← Hkm.out]; exact Hrd.out, hf⟩
set_option maxRecDepth 4000 in
set_option maxHeartbeats 1600000 in
theorem refTake_yes0 (p : Nat) (sv : Value) (bs : List Nat) (i : Nat) (n : Int) (hn : n < 0) (w : World) (h : Rd 63 w p sv bs i) (hyes : 0 ≤ 8 * bs.length - i) :
    Calls Try.prog 46 #[.pointer (some ⟨p, 0, none⟩), .int .i64 n] w fun e w' => e = .returned (.tuple #[.int .u64 (num (((unpack bs).drop i).take 0) : Nat), .bool true]) ∧
      Rd 63 w' p sv bs (i + 0) ∧ Fr w w' (fun k => k = p) := by
  go_enter Try.func46, Try.ntmps46
  go_wp2_with fail
  refine (refLeft_any p sv bs i _ h).mono ?_
  rintro e w' ⟨rfl, nq, rfl⟩
  have hd : decide (((8 * bs.length - i : Nat) : Int) < (0 : Int)) = false := decide_eq_false (by omega)
  have hd' : decide (8 * bs.length - i < 0) = false := decide_eq_false (by omega)
  go_wp2_with fail
  go_loopw [6, 7] (fun v c wr => ∃ k : Nat, k ≤ 0 ∧ c = .int .i64 (k : Int) ∧ (∃ V : Nat, v = .int .u64 (V : Int) ∧ V = num (((unpack bs).drop i).take k)) ∧ Rd 63 wr p sv bs (i + k) ∧ Fr w wr (fun k => k = p))
    (fun _ c _ => 0 - (intOf c).toNat)
  case atStart => exact ⟨0, Nat.zero_le _, rfl, ⟨0, rfl, by simp [num, numFrom]⟩, h, (Fr.refl _ _).drewN _⟩
  case round =>
    obtain ⟨k, hk, rfl, ⟨V, rfl, hV⟩, hrd, hf⟩ := hrel
    have HV : Hid _ := hV
    have Hrd : Hid _ := hrd
    clear hV
    by_cases hlt : k < 0
    · exact absurd hlt (by omega)
    · have Hkm : Hid (k = 0) := by show k = 0; omega
      clear hrd
      go_wp2
      go_ret2
      exact ⟨by rw [HV.out, Hkm.out]; rfl, by rw [← Hkm.out]; exact Hrd.out, hf⟩
set_option maxRecDepth 4000 in
set_option maxHeartbeats 1600000 in
theorem refTake_yes64 (p : Nat) (sv : Value) (bs : List Nat) (i : Nat) (n : Int) (hn : 64 < n) (w : World) (h : Rd 63 w p sv bs i) (hyes : 64 ≤ 8 * bs.length - i) :
    Calls Try.prog 46 #[.pointer (some ⟨p, 0, none⟩), .int .i64 n] w fun e w' => e = .returned (.tuple #[.int .u64 (num (((unpack bs).drop i).take 64) : Nat), .bool true]) ∧
      Rd 63 w' p sv bs (i + 64) ∧ Fr w w' (fun k => k = p) := by
  go_enter Try.func46, Try.ntmps46
  go_wp2_with fail
  refine (refLeft_any p sv bs i _ h).mono ?_
  rintro e w' ⟨rfl, nq, rfl⟩
  have hd : decide (((8 * bs.length - i : Nat) : Int) < (64 : Int)) = false := decide_eq_false (by omega)
  have hd' : decide (8 * bs.length - i < 64) = false := decide_eq_false (by omega)
  go_wp2_with fail
  go_loopw [6, 7] (fun v c wr => ∃ k : Nat, k ≤ 64 ∧ c = .int .i64 (k : Int) ∧ (∃ V : Nat, v = .int .u64 (V : Int) ∧ V = num (((unpack bs).drop i).take k)) ∧ Rd 63 wr p sv bs (i + k) ∧ Fr w wr (fun k => k = p))
    (fun _ c _ => 64 - (intOf c).toNat)
  case atStart => exact ⟨0, Nat.zero_le _, rfl, ⟨0, rfl, by simp [num, numFrom]⟩, h, (Fr.refl _ _).drewN _⟩
  case round =>
    obtain ⟨k, hk, rfl, ⟨V, rfl, hV⟩, hrd, hf⟩ := hrel
    have HV : Hid _ := hV
    have Hrd : Hid _ := hrd
    clear hV
    by_cases hlt : k < 64
    · obtain ⟨hp, ⟨ao, cap, rfl, hcel⟩, hi, hl, hs, hsp⟩ := hrd
      have hpos : (i + k) / 8 < bs.length := by omega
      obtain ⟨b, off, rfl, hcell⟩ := hcel (by omega)
      have cg := hcell ((i + k) / 8) _ (row_get .u8 bs _ hpos)
      obtain ⟨x, hx⟩ : ∃ x, x = bs.getD ((i + k) / 8) 0 := ⟨_, rfl⟩
      obtain ⟨j, hj⟩ : ∃ j, j = i + k := ⟨_, rfl⟩
      obtain ⟨q, hq⟩ : ∃ q, q = (i + k) / 8 := ⟨_, rfl⟩
      rw [← hx, ← hq] at cg
      rw [← hj] at hp
      have hx2 : x < 256 := by rw [hx]; exact hs _
      have c0 := two_cell0 hp
      have c1 := two_cell1 hp
      have f1 := two_free hp 1
      have hjb : (j : Int) ≤ 800000000000 := by omega
      have hrem : (j : Int).tmod 8 = ((j % 8 : Nat) : Int) := by rw [Int.tmod_eq_emod_of_nonneg (by omega)]; omega
      have hqw : IntKind.i64.wrap ((j : Int) / 8) = (q : Int) := by rw [IntWalk.i64_in _ (by omega)]; omega
      have i1 : (q : Int) < (bs.length : Int) := by omega
      have Hx : Hid _ := hx
      have Hj : Hid _ := hj
      have Hq : Hid _ := hq
      have Hs : Hid _ := hs
      have Hsp : Hid _ := hsp
      clear hcel hcell hp hx hj hq hs hsp
      go_wp2
      go_quiet (fail)
      go_wp2
      go_roundw
      case rel =>
        have hVb : V < 9223372036854775808 := by rw [HV.out]; exact num_bound bs i k (by omega)
        have hfr : Fr wr ((wr.drewN nq).setCell ⟨p, 1, none⟩ (.int .i64 ((j : Int) + 1))) (fun k => k = p) := Fr.setCell (S := fun k => k = p) ((Fr.refl _ _).drewN _) ⟨p, 1, none⟩ (fun _ => rfl) _
        refine ⟨k + 1, by omega, by go_num, ⟨_, congrArg (Value.int .u64) (take_val V x j hVb hx2), ?_⟩, ⟨?_, Hrd.out.2.1.frame' hfr (fun h0 k hk e => Hsp.out h0 (by rw [hk, e])), by omega, hl, Hs.out, Hsp.out⟩, hf.trans hfr (fun _ _ h => h)⟩
        · rw [num_step bs i k (by omega), ← HV.out, ← Hx.out, Hj.out]
        · have := two_set1 (w := wr) (u := .int .i64 ((j : Int) + 1)) Hrd.out.1
          have e3 : ((i + (k + 1) : Nat) : Int) = (j : Int) + 1 := by rw [Hj.out]; omega
          rw [e3]
          exact this
      case measure => simp [intOf]; omega
    · have Hkm : Hid (k = 64) := by show k = 64; omega
      clear hrd
      go_wp2
      go_ret2
      exact ⟨by rw [HV.out, Hkm.out]; rfl, by rw [← Hkm.out]; exact Hrd.out, hf⟩
theorem refTake_yes (p : Nat) (sv : Value) (bs : List Nat) (i : Nat) (n : Int) (w : World) (h : Rd 63 w p sv bs i) (hyes : wide n ≤ 8 * bs.length - i) :
    Calls Try.prog 46 #[.pointer (some ⟨p, 0, none⟩), .int .i64 n] w fun e w' => e = .returned (.tuple #[.int .u64 (num (((unpack bs).drop i).take (wide n)) : Nat), .bool true]) ∧
      Rd 63 w' p sv bs (i + wide n) ∧ Fr w w' (fun k => k = p) := by
  rcases (show n < 0 ∨ 64 < n ∨ (0 ≤ n ∧ n ≤ 64) by omega) with c | c | ⟨c, c'⟩
  · have e : wide n = 0 := by unfold wide; omega
    rw [e] at hyes ⊢
    exact refTake_yes0 p sv bs i n c w h hyes
  · have e : wide n = 64 := by unfold wide; omega
    rw [e] at hyes ⊢
    exact refTake_yes64 p sv bs i n c w h hyes
  · have hn : ((n.toNat : Nat) : Int) = n := by omega
    have e : wide n = n.toNat := by unfold wide; omega
    rw [e] at hyes ⊢
    have := refTake_yesM p sv bs i n.toNat (by omega) w h hyes
    rwa [hn] at this

theorem refLeft_fr (p : Nat) (sv : Value) (bs : List Nat) (i : Nat) (w : World) (h : Rd 63 w p sv bs i) :
    Calls Try.prog 65 #[.pointer (some ⟨p, 0, none⟩)] w fun e w' => e = .returned (.int .i64 ((8 * bs.length - i : Nat) : Int)) ∧ Rd 63 w' p sv bs i ∧ Fr w w' (fun _ => False) := by
  refine (refLeft_any p sv bs i w h).mono ?_
  rintro e w' ⟨rfl, n, rfl⟩
  exact ⟨rfl, h, (Fr.refl _ _).drewN _⟩
theorem refTake_nofr (p : Nat) (sv : Value) (bs : List Nat) (i : Nat) (n : Int) (w : World) (h : Rd 63 w p sv bs i) (hno : 8 * bs.length - i < wide n) :
    Calls Try.prog 46 #[.pointer (some ⟨p, 0, none⟩), .int .i64 n] w fun e w' => e = .returned (.tuple #[.int .u64 0, .bool false]) ∧ Rd 63 w' p sv bs i ∧ Fr w w' (fun _ => False) := by
  refine (refTake_no p sv bs i n w h hno).mono ?_
  rintro e w' ⟨rfl, n, rfl⟩
  exact ⟨rfl, h, (Fr.refl _ _).drewN _⟩

/-- Whatever is taken: the answer as a function of the bits that are left. -/
def tookV (bs : List Nat) (i : Nat) (n : Int) : Nat := if wide n ≤ 8 * bs.length - i then num (((unpack bs).drop i).take (wide n)) else 0
def tookB (bs : List Nat) (i : Nat) (n : Int) : Bool := decide (wide n ≤ 8 * bs.length - i)
def tookI (bs : List Nat) (i : Nat) (n : Int) : Nat := if wide n ≤ 8 * bs.length - i then i + wide n else i

theorem take_all (p : Nat) (sv : Value) (bs : List Nat) (i : Nat) (n : Int) (w : World) (h : Rd 124 w p sv bs i) :
    Calls Try.prog 72 #[.pointer (some ⟨p, 0, none⟩), .int .i64 n] w fun e w' => e = .returned (.tuple #[.int .u64 (tookV bs i n : Nat), .bool (tookB bs i n)]) ∧ Rd 124 w' p sv bs (tookI bs i n) ∧ Fr w w' (fun k => k = p) := by
  by_cases hy : wide n ≤ 8 * bs.length - i
  · rw [tookV, tookB, tookI, if_pos hy, if_pos hy, decide_eq_true hy]
    exact take_yes p sv bs i n w h hy
  · rw [tookV, tookB, tookI, if_neg hy, if_neg hy, decide_eq_false hy]
    refine (take_nofr p sv bs i n w h (by omega)).mono ?_
    rintro e w' ⟨rfl, h1, h2⟩
    exact ⟨rfl, h1, h2.mono (fun _ _ h => h.elim)⟩

theorem refTake_all (p : Nat) (sv : Value) (bs : List Nat) (i : Nat) (n : Int) (w : World) (h : Rd 63 w p sv bs i) :
    Calls Try.prog 46 #[.pointer (some ⟨p, 0, none⟩), .int .i64 n] w fun e w' => e = .returned (.tuple #[.int .u64 (tookV bs i n : Nat), .bool (tookB bs i n)]) ∧ Rd 63 w' p sv bs (tookI bs i n) ∧ Fr w w' (fun k => k = p) := by
  by_cases hy : wide n ≤ 8 * bs.length - i
  · rw [tookV, tookB, tookI, if_pos hy, if_pos hy, decide_eq_true hy]
    exact refTake_yes p sv bs i n w h hy
  · rw [tookV, tookB, tookI, if_neg hy, if_neg hy, decide_eq_false hy]
    refine (refTake_nofr p sv bs i n w h (by omega)).mono ?_
    rintro e w' ⟨rfl, h1, h2⟩
    exact ⟨rfl, h1, h2.mono (fun _ _ h => h.elim)⟩

end Go.Proofs.Ytclfbdfgmeliaaa

/-
  The contract of the reference's TakeCode.
-/
namespace Go.Proofs.Ytclfbdfgmeliaaa
open Go.RowKit

/-- What is taken: the symbol, whether there is one, how many bits. -/
def tkS (l : List Nat) (bits : List Bool) : Nat := ((takeSym l bits).map (·.1)).getD 0
def tkB (l : List Nat) (bits : List Bool) : Bool := (takeSym l bits).isSome
def tkN (l : List Nat) (bits : List Bool) : Nat := ((takeSym l bits).map (·.2)).getD 0

theorem num_next (l : List Bool) (k : Nat) (b : Bool) (h : l[k]? = some b) : num (l.take (k + 1)) = 2 * num (l.take k) + b.toNat := by
  rw [List.take_add_one, h]
  exact num_snoc _ _
theorem took_one (bs : List Nat) (i : Nat) (b : Bool) (h : (unpack bs)[i]? = some b) : num (((unpack bs).drop i).take 1) = b.toNat := by
  have e : ((unpack bs).drop i)[0]? = some b := by rw [List.getElem?_drop]; simpa using h
  rw [num_next _ 0 b e]
  simp [num, numFrom]

set_option maxRecDepth 4000 in
set_option maxHeartbeats 800000 in
theorem refTakeCode_any (p : Nat) (sv : Value) (bs : List Nat) (i : Nat) (vl vc : Value) (zs : List Int) (w : World) (h : Rd 63 w p sv bs i) (hz : ReadsZ w vl zs) (hin : inZ zs = true) (hlen : zs.length ≤ 256) (hc : Reads .i64 w vc (fnRow zs.length (codeOf (nats zs)))) (hlp : ∀ k, vl.ownBlock = some k → k ≠ p) (hcp : ∀ k, vc.ownBlock = some k → k ≠ p) :
    Calls Try.prog 31 #[.pointer (some ⟨p, 0, none⟩), vl, vc] w fun e w' => e = .returned (.tuple #[.int .i64 (tkS (nats zs) ((unpack bs).drop i) : Nat), .bool (tkB (nats zs) ((unpack bs).drop i))]) ∧
      Rd 63 w' p sv bs (i + tkN (nats zs) ((unpack bs).drop i)) ∧ Fr w w' (fun k => k = p) := by
  have hback := nats_back hin
  obtain ⟨l, hl⟩ : ∃ l, l = nats zs := ⟨_, rfl⟩
  rw [← hl] at hback hc ⊢
  have hln : l.length = zs.length := by rw [hl, nats_length]
  have h15 : ∀ s, ln l s ≤ 15 := fun s => by
    unfold ln
    rw [List.getD_eq_getElem?_getD]
    cases hs : l[s]? with
    | none => simp
    | some n =>
      have hm := List.mem_of_getElem? hs
      rw [hl] at hm
      obtain ⟨z, hz, rfl⟩ := List.mem_map.1 hm
      have := List.all_eq_true.1 hin z hz
      simp at this
      simp
      omega
  obtain ⟨a0, c0, rfl, hc0⟩ := hz.form
  obtain ⟨a1, c1, rfl, hc1, -⟩ := id hc
  rw [length_row, fnRow_length] at hc hc1 hcp ⊢
  obtain ⟨n, hn⟩ : ∃ n, n = zs.length := ⟨_, rfl⟩
  rw [← hn] at hz hlen hc hc0 hc1 hln hlp hcp ⊢
  have Hget : Hid (∀ s, s < n → zs[s]? = some ((ln l s : Nat) : Int)) := fun s hs => by
    rw [← hback, List.getElem?_map]
    unfold ln
    rw [List.getD_eq_getElem?_getD, List.getElem?_eq_getElem (by omega)]
    rfl
  have Hz : Hid (∀ x, Fr w x (fun k => k = p) → ∀ s, s < n → ∃ b off, a0 = some ⟨b, off, none⟩ ∧ x.cell? ⟨b, off + s, none⟩ = some (.int .i64 ((ln l s : Nat) : Int))) := fun x hx s hs => by
    obtain ⟨b', off', cp', e', hb', k'⟩ := ReadsZ.get (Holds.frame hz hx (fun k hk => hlp k hk)) s _ (Hget.out s hs)
    simp only [Value.slice.injEq] at e'
    exact ⟨b', off', e'.1, k' x (Fr.refl _ _)⟩
  have Hc : Hid (∀ x, Fr w x (fun k => k = p) → ∀ s, s < n → ∃ b off, a1 = some ⟨b, off, none⟩ ∧ x.cell? ⟨b, off + s, none⟩ = some (.int .i64 ((codeOf l s : Nat) : Int))) := fun x hx s hs => by
    obtain ⟨a', c', e, -, k⟩ := hc.frame hx (fun k hk => hcp k hk)
    simp only [Value.slice.injEq] at e
    obtain ⟨b, off, e2, k⟩ := k (by rw [length_row, fnRow_length]; omega)
    refine ⟨b, off, by rw [e.1, e2], ?_⟩
    have h1 := k s _ (row_get .i64 _ s (by rw [fnRow_length]; exact hs))
    rw [List.getD_eq_getElem?_getD, fnRow_get n _ s hs] at h1
    exact h1
  have H15 : Hid _ := h15
  have Hln : Hid _ := hln
  have Hr : Hid (Rd 63 w p sv bs i) := h
  have hib : i ≤ 8 * bs.length := h.2.2.1
  have hbl : bs.length ≤ 100000000000 := h.2.2.2.1
  obtain ⟨bits, hbits⟩ : ∃ bits, bits = (unpack bs).drop i := ⟨_, rfl⟩
  rw [← hbits]
  have Hbits : Hid _ := hbits
  have Hbl : Hid (bits.length = 8 * bs.length - i) := by show _ = _; rw [hbits, List.length_drop, length_unpack]
  clear hback hl hz hin hc hlp hcp h15 hln h hbits hn
  have hat := two_cell1 Hr.out.1
  go_enter Try.func31, Try.ntmps31
  go_wp2_with fail
  go_loopg [9, 10] 15 (fun g V J wr => ∃ (j v : Nat), g = 16 - j ∧ 1 ≤ j ∧ j ≤ 16 ∧ J = .int .i64 (j : Int) ∧ V = .int .i64 (v : Int) ∧ v = num (bits.take (j - 1)) ∧ j - 1 ≤ bits.length ∧ seekSym l bits j (16 - j) = takeSym l bits ∧ Rd 63 wr p sv bs (i + (j - 1)) ∧ Fr w wr (fun k => k = p))
  case atStart => exact ⟨1, 0, rfl, by omega, by omega, rfl, rfl, by simp [num, numFrom], by omega, rfl, Hr.out, Fr.refl _ _⟩
  case round =>
    obtain ⟨j, v, hg, hj1, hj16, rfl, rfl, hv, hjb, hsk, hrd, hf⟩ := hrel
    have Hg : Hid _ := hg
    have Hv : Hid _ := hv
    have Hsk : Hid _ := hsk
    have Hrd : Hid (Rd 63 wr p sv bs (i + (j - 1))) := hrd
    have Hf : Hid _ := hf
    have hvb : v < 32768 := by
      have h1 := num_lt (bits.take (j - 1))
      rw [← hv, List.length_take] at h1
      refine Nat.lt_of_lt_of_le h1 (Nat.le_trans (Nat.pow_le_pow_right (by omega) (by omega : min (j - 1) bits.length ≤ 15)) (by decide))
    clear hg hv hsk hrd hf
    have Hback : Hid (∀ w1, Rd 63 w1 p sv bs (i + (j - 1)) → Fr w w1 (fun k => k = p) → takeSym l bits = none → tkS l bits = 0 ∧ tkB l bits = false ∧ Rd 63 (w1.setCell ⟨p, 1, none⟩ (.int .i64 (i : Int))) p sv bs (i + tkN l bits) ∧ Fr w (w1.setCell ⟨p, 1, none⟩ (.int .i64 (i : Int))) (fun k => k = p)) := fun w1 hr1 hf1 hn => by
      have e : tkN l bits = 0 := by unfold tkN; rw [hn]; rfl
      refine ⟨by unfold tkS; rw [hn]; rfl, by unfold tkB; rw [hn]; rfl, ?_, hf1.setCell ⟨p, 1, none⟩ (fun _ => rfl) _⟩
      rw [e, Nat.add_zero]
      obtain ⟨hp, hr, _, hl, hsm, hne⟩ := hr1
      exact ⟨two_set1 hp, hr.frame' (Fr.setCell (S := fun k => k = p) (Fr.refl w1 _) ⟨p, 1, none⟩ (fun _ => rfl) _) (fun h0 k hk e => hne h0 (by rw [hk, e])), hib, hl, hsm, hne⟩
    by_cases hj : j ≤ 15
    · have hj2 : (j : Int) ≤ 15 := by omega
      go_wp2_with fail
      refine (refTake_all p sv bs (i + (j - 1)) 1 wr Hrd.out).mono ?_
      rintro e w1 ⟨rfl, hr1, hf1⟩
      have hf1' := Hf.out.trans hf1 (fun _ _ h => h)
      have hw1 : wide 1 = 1 := by decide
      by_cases hlt : i + (j - 1) < 8 * bs.length
      · rw [show tookB bs (i + (j - 1)) 1 = true by unfold tookB; rw [hw1]; exact decide_eq_true (by omega)]
        have hV : tookV bs (i + (j - 1)) 1 = (bitAt bs (i + (j - 1))).toNat := by
          unfold tookV
          rw [hw1, if_pos (by omega)]
          exact took_one bs _ _ (get_unpack bs _ hlt)
        have hI : tookI bs (i + (j - 1)) 1 = i + (j - 1) + 1 := by unfold tookI; rw [hw1, if_pos (by omega)]
        rw [hV]
        rw [hI] at hr1
        have hbt : bits[j - 1]? = some (bitAt bs (i + (j - 1))) := by rw [Hbits.out, List.getElem?_drop, get_unpack bs _ hlt]
        have hv2 := num_next bits (j - 1) _ hbt
        rw [← Hv.out, show j - 1 + 1 = j by omega] at hv2
        obtain ⟨c, hc⟩ : ∃ c, c = (bitAt bs (i + (j - 1))).toNat := ⟨_, rfl⟩
        have hc1 : c ≤ 1 := by rw [hc]; cases bitAt bs (i + (j - 1)) <;> decide
        rw [← hc] at hv2 ⊢
        have Hr1 : Hid (Rd 63 w1 p sv bs (i + j)) := by rw [show i + j = i + (j - 1) + 1 by omega]; exact hr1
        have Hf1 : Hid _ := hf1'
        obtain ⟨u, hu⟩ : ∃ u, u = 2 * v + c := ⟨_, rfl⟩
        have Hu : Hid (u = num (bits.take j)) := by show _ = _; rw [hu]; exact hv2.symm
        have hub : u < 65536 := by omega
        have wc1 : IntKind.i64.wrap (c : Int) = (c : Int) := IntWalk.i64_in _ (by omega)
        have wv2 : IntKind.i64.wrap (2 * (v : Int)) = 2 * (v : Int) := IntWalk.i64_in _ (by omega)
        have wu : IntKind.i64.wrap (2 * (v : Int) + (c : Int)) = (u : Int) := by rw [IntWalk.i64_in _ (by omega)]; omega
        have Hlj : Hid (j ≤ bits.length) := by show _ ≤ _; rw [Hbl.out]; omega
        have Hstep : Hid (seekSym l bits j (16 - j) = match findSym l j u with
            | some s => some (s, j)
            | none => seekSym l bits (j + 1) (16 - (j + 1))) := by
          show _ = _
          rw [show 16 - j = 16 - (j + 1) + 1 by omega, seekSym, if_neg (by have := Hlj.out; omega), ← Hu.out]
          cases findSym l j u <;> rfl
        clear hr1 hf1 hf1' hV hI hbt hv2 hc hw1
        go_wp2_with fail
        have hue : 2 * (v : Int) + (c : Int) = (u : Int) := by omega
        rw [hue]
        clear wc1 wv2 wu hu hue
        go_loopg [13] n (fun g S wi => ∃ s : Nat, g = n - s ∧ s ≤ n ∧ S = .int .i64 (s : Int) ∧ ((List.range s).find? fun s => ln l s == j && codeOf l s == u) = none ∧ wi = w1)
        case atStart => exact ⟨0, rfl, by omega, rfl, rfl, rfl⟩
        case round =>
          obtain ⟨s, hgs, hs, rfl, hno, rfl⟩ := hrel
          have Hgs : Hid _ := hgs
          have Hno : Hid _ := hno
          clear hgs hno
          by_cases hsn : s < n
          · obtain ⟨b0, o0, rfl, cl⟩ := Hz.out _ Hf1.out s hsn
            obtain ⟨b1, o1, rfl, cc⟩ := Hc.out _ Hf1.out s hsn
            obtain ⟨y, hy⟩ : ∃ y, y = ln l s := ⟨_, rfl⟩
            obtain ⟨d, hd⟩ : ∃ d, d = codeOf l s := ⟨_, rfl⟩
            rw [← hy] at cl
            rw [← hd] at cc
            have Hy : Hid _ := hy
            have Hd : Hid _ := hd
            have hs1 : (s : Int) < (n : Int) := by omega
            have Hno2 : Hid ((y == j && d == u) = false → ((List.range (s + 1)).find? fun s => ln l s == j && codeOf l s == u) = none) := fun e => by
              rw [List.range_succ, List.find?_append, Hno.out]
              simp [← Hy.out, ← Hd.out, e]
            clear hy hd
            by_cases hyj : y = j
            · subst hyj
              by_cases hdu : d = u
              · subst hdu
                have hfs := findSym_is H15.out (n := y) (v := d) (s := s) (by omega) Hy.out.symm Hd.out.symm
                have htk : takeSym l bits = some (s, y) := by rw [← Hsk.out, Hstep.out, hfs]
                have Hres : Hid (tkS l bits = s ∧ tkB l bits = true ∧ tkN l bits = y) := by
                  show _ ∧ _ ∧ _
                  unfold tkS tkB tkN
                  rw [htk]
                  exact ⟨rfl, rfl, rfl⟩
                clear hfs htk
                go_wp2_with fail
                go_ret2
                obtain ⟨e1, e2, e3⟩ := Hres.out
                rw [e1, e2, e3]
                exact ⟨rfl, Hr1.out, Hf1.out⟩
              · have hdu2 : ((d : Int) == (u : Int)) = false := by rw [beq_eq_false_iff_ne]; omega
                have Hno3 := Hno2.out (by simp [hdu])
                have Hno4 : Hid _ := Hno3
                clear Hno3
                go_wp2_with fail
                go_roundg (n - (s + 1))
                case rel => exact ⟨s + 1, rfl, by omega, by go_num, Hno4.out, rfl⟩
                case measure => rw [Hgs.out]; omega
            · have hyj2 : ((y : Int) == (j : Int)) = false := by rw [beq_eq_false_iff_ne]; omega
              have Hno3 := Hno2.out (by simp [hyj])
              have Hno4 : Hid _ := Hno3
              clear Hno3
              go_wp2_with fail
              go_roundg (n - (s + 1))
              case rel => exact ⟨s + 1, rfl, by omega, by go_num, Hno4.out, rfl⟩
              case measure => rw [Hgs.out]; omega
          · have hse : s = n := by omega
            have hs1 : ¬ (s : Int) < (n : Int) := by omega
            have hfs : findSym l j u = none := by unfold findSym; rw [Hln.out, ← hse]; exact Hno.out
            have Hsk2 : Hid (seekSym l bits (j + 1) (16 - (j + 1)) = takeSym l bits) := by
              have := Hstep.out
              rw [hfs, Hsk.out] at this
              exact this.symm
            clear hfs hse
            go_wp2_with fail
            go_roundg (16 - (j + 1))
            case rel => exact ⟨j + 1, u, rfl, by omega, by omega, by go_num, rfl, by rw [Nat.add_sub_cancel]; exact Hu.out, by rw [Nat.add_sub_cancel]; exact Hlj.out, Hsk2.out, by rw [Nat.add_sub_cancel]; exact Hr1.out, Hf1.out⟩
            case measure => rw [Hg.out]; omega
      · have hno : takeSym l bits = none := by
          rw [← Hsk.out, show 16 - j = 16 - (j + 1) + 1 by omega, seekSym, if_pos (by rw [Hbl.out]; omega)]
        rw [show tookB bs (i + (j - 1)) 1 = false by unfold tookB; rw [hw1]; exact decide_eq_false (by omega)]
        have hI : tookI bs (i + (j - 1)) 1 = i + (j - 1) := by unfold tookI; rw [hw1, if_neg (by omega)]
        rw [hI] at hr1
        have Hend : Hid _ := Hback.out w1 hr1 hf1' hno
        have hfz : w1.frozen? ⟨p, 1, none⟩ = false := two_free hr1.1 1
        have hcz := two_cell1 hr1.1
        clear hr1 hf1 hf1' hno hI hw1
        go_wp2_with fail
        go_ret2
        obtain ⟨e1, e2, e3, e4⟩ := Hend.out
        rw [e1, e2]
        exact ⟨rfl, e3, e4⟩
    · obtain rfl : j = 16 := by omega
      have hno : takeSym l bits = none := by rw [← Hsk.out]; rfl
      have Hend : Hid _ := Hback.out wr Hrd.out Hf.out hno
      have hfz : wr.frozen? ⟨p, 1, none⟩ = false := two_free Hrd.out.1 1
      have hcz := two_cell1 Hrd.out.1
      clear hno
      go_wp2_with fail
      go_ret2
      obtain ⟨e1, e2, e3, e4⟩ := Hend.out
      rw [e1, e2]
      exact ⟨rfl, e3, e4⟩

end Go.Proofs.Ytclfbdfgmeliaaa

/-
  The contract of the reference's Read of bytes.
-/
namespace Go.Proofs.Ytclfbdfgmeliaaa
open Go.RowKit

theorem natsH (l : List Nat) : nats (l.map fun (n : Nat) => (n : Int)) = l := by
  unfold nats
  rw [List.map_map]
  conv => rhs; rw [← List.map_id l]
  apply List.map_congr_left
  intro n _
  simp
theorem rds_ltH {w : World} {v : Value} {bs : List Nat} (h : Rds w v bs) : 0 < bs.length → ∀ k, v.ownBlock = some k → k < w.heap.size := by
  intro h0 k hk
  obtain ⟨ao, cap, rfl, hc⟩ := h
  obtain ⟨b, off, rfl, hcell⟩ := hc h0
  simp [Value.ownBlock] at hk
  subst hk
  exact World.block_lt_of_cell? _ _ (hcell 0 _ (row_get .u8 bs 0 h0))
theorem pack_bytes (bl : List Bool) : ∀ x ∈ pack bl, x < 256 := fun x hx => by
  obtain ⟨j, hj⟩ := List.getElem?_of_mem hx
  have := (packs_pack bl).small j
  rw [List.getD_eq_getElem?_getD, hj] at this
  exact this
theorem hput_bytes (b : List Nat) : ∀ x ∈ hput b, x < 256 := fun x hx => by
  unfold hput at hx
  rcases List.mem_append.1 hx with h | h
  · exact enc_bytes _ x h
  · split at h
    · cases h
    · rcases List.mem_append.1 h with h | h
      · unfold headOf at h
        rcases List.mem_append.1 h with h | h
        · exact enc_bytes _ x h
        · exact encs_bytes _ x h
      · exact pack_bytes _ x h

set_option maxRecDepth 4000 in
set_option maxHeartbeats 1600000 in
theorem refHRead_any (v : Value) (bs : List Nat) (w : World) (h : Reads .u8 w v bs) (hb : ∀ x ∈ bs, x < 256) (hl : bs.length ≤ 100000) :
    Calls Try.prog 16 #[v] w fun e w' => Fr w w' (fun _ => False) ∧ ((hread bs = none ∧ e = .returned (.tuple #[.slice none 0 0, .int .i64 21])) ∨
      ∃ x, hread bs = some x ∧ ∃ sv, e = .returned (.tuple #[sv, .int .i64 0]) ∧ Own w' sv x) := by
  obtain ⟨a0, c0, rfl, hc0, -⟩ := id h
  rw [length_row] at h hc0 ⊢
  obtain ⟨n, hn⟩ : ∃ n, n = bs.length := ⟨_, rfl⟩
  rw [← hn] at h hl hc0 ⊢
  have Hr : Hid (Reads .u8 w (.slice a0 n c0) bs) := h
  have Hn : Hid _ := hn
  have Hb : Hid _ := hb
  clear h hn hb
  have Hraw : Hid (rawDec bs = if (took bs (2 ^ 62)).2.2 ≠ 0 ∨ 8 * bs.length < (took bs (2 ^ 62)).1 then none
    else if (took bs (2 ^ 62)).1 = 0 then some []
    else match parsed (bs.drop (took bs (2 ^ 62)).2.1) with
      | none => none
      | some (l, r) => if rightB (l.map fun (n : Nat) => (n : Int)) = true then takeN l (took bs (2 ^ 62)).1 (unpack r) else none) := rfl
  have htl := took_len bs (2 ^ 62)
  rw [show (2 : Nat) ^ 62 = 4611686018427387904 by decide] at Hraw htl
  rcases hT : took bs 4611686018427387904 with ⟨N0, k0, e0⟩
  rw [hT] at htl
  simp only [hT] at Hraw
  rw [← Hn.out] at htl Hraw
  dsimp only at htl
  have HT : Hid _ := hT
  clear hT
  have w8 : IntKind.u64.wrap (8 * (n : Int)) = ((8 * n : Nat) : Int) := by rw [IntKind.wrap_u64]; omega
  go_enter Try.func16, Try.ntmps16
  go_wp2_with fail
  refine (vrefTake_any _ bs 4611686018427387904 w Hr.out Hb.out (by rw [← Hn.out]; omega) (by omega)).mono ?_
  rw [HT.out]
  rintro e w1 ⟨rfl, hw1⟩
  obtain rfl : w = w1 := hw1.symm
  clear HT
  by_cases he0 : e0 = 0
  · subst he0
    by_cases hbig : 8 * n < N0
    · have hd : decide ((8 * (n : Int)) < (N0 : Int)) = true := decide_eq_true (by omega)
      have hd2 : decide (((8 * n : Nat) : Int) < (N0 : Int)) = true := decide_eq_true (by omega)
      have hd3 : decide (8 * n < N0) = true := decide_eq_true hbig
      have Hnone : Hid (hread bs = none) := by show _ = _; unfold hread; rw [Hraw.out, if_pos (.inr hbig)]
      go_wp2_with fail
      go_ret2
      exact ⟨Fr.refl _ _, .inl ⟨Hnone.out, rfl⟩⟩
    · have hd : decide ((8 * (n : Int)) < (N0 : Int)) = false := decide_eq_false (by omega)
      have hd2 : decide (((8 * n : Nat) : Int) < (N0 : Int)) = false := decide_eq_false (by omega)
      have hd3 : decide (8 * n < N0) = false := decide_eq_false hbig
      have hN0b : N0 ≤ 800000 := by omega
      by_cases hN0 : N0 = 0
      · subst hN0
        have Hraw2 : Hid (rawDec bs = some []) := by show _ = _; rw [Hraw.out, if_neg (by simp), if_pos rfl]
        clear Hraw hd hd2 hd3
        go_wp2
        obtain ⟨xs, hxs⟩ : ∃ xs : List Nat, xs = [] := ⟨_, rfl⟩
        rw [← hxs] at Hraw2
        have HxsB : Hid (∀ x ∈ xs, x < 256) := by rw [hxs]; exact fun x hx => by cases hx
        have HxsL : Hid (xs.length ≤ 1000000) := by rw [hxs]; show _ ≤ _; simp
        have HoX : Hid (Own w (.slice none 0 0) xs) := by rw [hxs]; exact Own.nil w
        have HfX : Hid (Fr w w (fun _ => False)) := Fr.refl _ _
        clear hxs
        refine wp_region_tree (fun _ => False) (.take 0 (.take 3 (.take 4 (.one 1 (.take 2 (.take 5 .nil)))))) (by kernel_rfl) (by kernel_rfl) (by decide) (by kernel_rfl) ?_
        have hcb : ∀ z, Fr w.drew z (fun _ => False) → (convert 22 9 (.slice a0 n c0)).run Try.prog z = .ok (.string (strOf bs)) z := fun z hz => conv_reads ((Hr.out.keep (HfX.out.drew)).keep hz)
        repeat (refine wpT_take (v := ?_) rfl rfl (fun x hx => ?_) ?_; rotate_left; (focus (go_simp; with_reducible rfl)); simp only [Act.put, List.setIfInBounds_toArray, List.set_cons_zero, List.set_cons_succ])
        refine wpT_one rfl rfl (fun K hK => ?_)
        go_simp
        refine (refHPut_any _ xs w.drew (HoX.out.reads.keep (Fr.refl w _).drew) HxsB.out HxsL.out).mono ?_
        rintro e wz ⟨vz, rfl, hoz, hfz, -⟩
        refine hK _ _ hfz ?_
        clear hK K hcb
        have hcz : ∀ z, Fr wz z (fun _ => False) → (convert 22 9 vz).run Try.prog z = .ok (.string (strOf (hput xs))) z := fun z hz => conv_reads (hoz.reads.keep hz)
        have HfZ : Hid (Fr w wz (fun _ => False)) := HfX.out.drew.none hfz
        have HoZ : Hid (Own wz (.slice none 0 0) xs) := HoX.out.frame ((Fr.refl w (fun _ => False)).drew.none hfz) (fun _ _ h => h)
        clear hoz hfz
        by_cases hEq : hput xs = bs
        · have Hres : Hid (hread bs = some xs) := by show _ = _; unfold hread; rw [Hraw2.out]; simp [hEq]
          rw [hEq] at hcz
          repeat (refine wpT_take (v := ?_) rfl rfl (fun x hx => ?_) ?_; rotate_left; (focus (go_simp; with_reducible rfl)); simp only [Act.put, List.setIfInBounds_toArray, List.set_cons_zero, List.set_cons_succ])
          unfold wpT
          clear hcz hEq
          generalize strOf bs = S
          go_wp2
          go_ret2
          exact ⟨HfZ.out, .inr ⟨xs, Hres.out, _, rfl, HoZ.out⟩⟩
        · have Hres : Hid (hread bs = none) := by show _ = _; unfold hread; rw [Hraw2.out]; simp [hEq]
          have hSn : strOf (hput xs) ≠ strOf bs := fun e => hEq (strOf_inj (hput_bytes xs) Hb.out e)
          repeat (refine wpT_take (v := ?_) rfl rfl (fun x hx => ?_) ?_; rotate_left; (focus (go_simp; with_reducible rfl)); simp only [Act.put, List.setIfInBounds_toArray, List.set_cons_zero, List.set_cons_succ])
          unfold wpT
          clear hcz
          generalize strOf (hput xs) = S1 at hSn
          generalize strOf bs = S2 at hSn
          have hSd := str_ne hSn
          go_wp2
          all_goals first | (rename_i hh; rw [hSd] at hh; exact absurd hh (by decide)) | (go_ret2; exact ⟨HfZ.out, .inl ⟨Hres.out, rfl⟩⟩)
      · have hNp : 0 < N0 := by omega
        have hdN : decide ((0 : Int) < (N0 : Int)) = true := decide_eq_true (by omega)
        have hdN2 : decide (0 < N0) = true := decide_eq_true hNp
        have Hraw1 : Hid (rawDec bs = match parsed (bs.drop k0) with
            | none => none
            | some (l, r) => if rightB (l.map fun (n : Nat) => (n : Int)) = true then takeN l N0 (unpack r) else none) := by
          show _ = _
          rw [Hraw.out, if_neg (by simp; omega), if_neg hN0]
        clear Hraw
        have hk0 := htl.1
        have hk0i : (k0 : Int) ≤ (n : Int) := by omega
        have hdr := reads_drop Hr.out k0 hk0
        obtain ⟨A1, hA1⟩ : ∃ A, (if c0 = k0 then a0 else Option.map (fun x => x.add k0) a0) = A := ⟨_, rfl⟩
        rw [hA1] at hdr
        have Hdr : Hid (Reads .u8 w (.slice A1 (n - k0) (c0 - k0)) (bs.drop k0)) := hdr
        clear hdr
        go_wp2_with fail
        refine (refHead_any _ (bs.drop k0) w Hdr.out (mem_drop_lt Hb.out) (by rw [List.length_drop, ← Hn.out]; omega)).mono ?_
        rintro e w2 ⟨hf2, hcase⟩
        clear hA1 Hdr
        rcases hcase with ⟨hpn, rfl⟩ | ⟨l, at2, sl, hps, hat2, rfl, hrl, hnl⟩
        · have Hnone : Hid (hread bs = none) := by show _ = _; unfold hread; rw [Hraw1.out, hpn]
          clear hpn
          go_wp2_with fail
          go_ret2
          exact ⟨hf2, .inl ⟨Hnone.out, rfl⟩⟩
        · have hll := parsed_len hps
          have Hraw2 : Hid (rawDec bs = if rightB (l.map fun (n : Nat) => (n : Int)) = true then takeN l N0 (unpack ((bs.drop k0).drop at2)) else none) := by show _ = _; rw [Hraw1.out, hps]
          rw [List.length_drop, ← Hn.out] at hat2
          rw [List.drop_drop] at Hraw2
          obtain ⟨al, cl, hsl, hcl, -⟩ := id hrl
          rw [length_row, hll] at hsl hcl
          subst hsl
          have Hrl : Hid (Reads .i64 w2 (.slice al 256 cl) l) := hrl
          have Hll : Hid _ := hll
          have Hf2 : Hid (Fr w w2 (fun _ => False)) := hf2
          have HnL : Hid (∀ k, (Value.slice al 256 cl).ownBlock = some k → k < w2.heap.size) := fun k hk => by
            obtain ⟨b, off, e2, hb2, -⟩ := hrl.at hll.symm 0 (by omega)
            rw [e2] at hk
            simp [Value.ownBlock] at hk
            omega
          clear hrl hll hf2 hnl hps Hraw1
          go_wp2_with fail
          refine (refRight_any _ _ w2 Hrl.out.z).mono ?_
          rintro e w3 ⟨rfl, hf3⟩
          have Hf3 : Hid (Fr w w3 (fun _ => False)) := Hf2.out.none hf3
          have Hrl3 : Hid (Reads .i64 w3 (.slice al 256 cl) l) := Hrl.out.keep hf3
          have HnL3 : Hid (∀ k, (Value.slice al 256 cl).ownBlock = some k → k < w3.heap.size) := fun k hk => Nat.lt_of_lt_of_le (HnL.out k hk) hf3.size
          clear hf3 Hrl Hf2 HnL
          cases hR : rightB (l.map fun (n : Nat) => (n : Int)) with
          | false =>
            have Hnone : Hid (hread bs = none) := by show _ = _; unfold hread; rw [Hraw2.out, hR]; rfl
            go_wp2_with fail
            go_ret2
            exact ⟨Hf3.out, .inl ⟨Hnone.out, rfl⟩⟩
          | true =>
            rw [if_pos hR] at Hraw2
            have HR : Hid (RightL l) := (right_of_nats l).1 hR
            have HRb : Hid _ := hR
            clear hR
            go_wp2_with fail
            refine (refCodes_any _ _ w3 Hrl3.out.z).mono ?_
            rintro e w4 ⟨sc, rfl, hrc, hf4, hnc⟩
            have hcz : codesZ (l.map fun (n : Nat) => (n : Int)) = fnRow 256 (codeOf l) := by
              unfold codesZ
              rw [if_pos HRb.out, List.length_map, Hll.out]
              have : nats (l.map fun (b : Nat) => (b : Int)) = l := by
                unfold nats
                rw [List.map_map]
                conv => rhs; rw [← List.map_id l]
                apply List.map_congr_left
                intro m _
                simp
              rw [this]
              rfl
            rw [hcz] at hrc
            obtain ⟨ac, cc, hsc, hcc, -⟩ := id hrc
            rw [length_row, fnRow_length] at hsc hcc
            subst hsc
            have Hrc4 : Hid (Reads .i64 w4 (.slice ac 256 cc) (fnRow 256 (codeOf l))) := hrc
            have Hrl4 : Hid (Reads .i64 w4 (.slice al 256 cl) l) := Hrl3.out.keep hf4
            have Hf4 : Hid (Fr w w4 (fun _ => False)) := Hf3.out.none hf4
            have HnL4 : Hid (∀ k, (Value.slice al 256 cl).ownBlock = some k → k < w4.heap.size) := fun k hk => Nat.lt_of_lt_of_le (HnL3.out k hk) hf4.size
            have HnC4 : Hid (∀ k, (Value.slice ac 256 cc).ownBlock = some k → k < w4.heap.size) := fun k hk => by
              obtain ⟨b, off, e2, hb2, -⟩ := hrc.at (by rw [fnRow_length]) 0 (by omega)
              rw [e2] at hk
              simp [Value.ownBlock] at hk
              omega
            clear hcz hrc hf4 hnc Hrl3 Hf3 HnL3
            obtain ⟨at3, hat3⟩ : ∃ a, a = k0 + at2 := ⟨_, rfl⟩
            rw [← hat3] at Hraw2
            have hadd : (k0 : Int) + (at2 : Int) = (at3 : Int) := by omega
            have hat3n : at3 ≤ n := by omega
            have hat3i : (at3 : Int) ≤ (n : Int) := by omega
            have hdr := reads_drop (Hr.out.keep Hf4.out) at3 hat3n
            obtain ⟨A2, hA2⟩ : ∃ A, (if c0 = at3 then a0 else Option.map (fun x => x.add at3) a0) = A := ⟨_, rfl⟩
            rw [hA2] at hdr
            have Hdr : Hid (Reads .u8 w4 (.slice A2 (n - at3) (c0 - at3)) (bs.drop at3)) := hdr
            obtain ⟨rb, hrb⟩ : ∃ rb, rb = bs.drop at3 := ⟨_, rfl⟩
            rw [← hrb] at Hraw2 Hdr
            have Hrbl : Hid (rb.length ≤ 100000) := by show _ ≤ _; rw [hrb, List.length_drop, ← Hn.out]; omega
            have Hrbb : Hid (∀ j, rb.getD j 0 < 256) := by rw [hrb]; exact getD_lt (by omega) (mem_drop_lt Hb.out)
            obtain ⟨TN, hTN⟩ : ∃ TN, TN = takeN l N0 (unpack rb) := ⟨_, rfl⟩
            rw [← hTN] at Hraw2
            have HTN : Hid _ := hTN
            clear hat3 hdr hrb hTN
            go_wp2
            clear hA2
            obtain ⟨p, hp⟩ : ∃ p, p = w4.heap.size := ⟨_, rfl⟩
            rw [← hp]
            have Hrd : Hid (Rd 63 (w4.alloc (.cells #[.slice A2 (n - at3) (c0 - at3), .int .i64 0] 63)) p (.slice A2 (n - at3) (c0 - at3)) rb 0) := by
              refine ⟨by rw [hp]; exact heap_alloc_new w4 _, Hdr.out.rds.frame ((Fr.refl w4 (fun _ => False)).alloc _) (fun _ _ h => h), by omega, by have := Hrbl.out; omega, Hrbb.out, fun h0 e => ?_⟩
              obtain ⟨a', c', e1, -, hc⟩ := Hdr.out
              obtain ⟨b, off, e2, hcell⟩ := hc (by rw [length_row]; exact h0)
              simp only [Value.slice.injEq] at e1
              have h3 := World.block_lt_of_cell? _ _ (hcell 0 _ (row_get .u8 rb 0 h0))
              rw [e1.1, e2] at e
              simp [Value.ownBlock] at e
              simp at h3
              omega
            have Hf5 : Hid (Fr w4 (w4.alloc (.cells #[.slice A2 (n - at3) (c0 - at3), .int .i64 0] 63)) (fun _ => False)) := (Fr.refl w4 _).alloc _
            have Hp : Hid (w4.heap.size ≤ p) := by show _ ≤ _; omega
            generalize w4.alloc (.cells #[.slice A2 (n - at3) (c0 - at3), .int .i64 0] 63) = w5 at *
            clear hp Hdr
            go_loopg [7, 13] N0 (fun g' O I wi => ∃ (i pos : Nat) (xs : List Nat), g' = N0 - i ∧ i ≤ N0 ∧ I = .int .u64 (i : Int) ∧ xs.length = i ∧ Own wi O xs ∧ (∀ x ∈ xs, x < 256) ∧ (takeN l (N0 - i) ((unpack rb).drop pos)).map (xs ++ ·) = TN ∧ Rd 63 wi p (.slice A2 (n - at3) (c0 - at3)) rb pos ∧ (∀ k, O.ownBlock = some k → w5.heap.size ≤ k) ∧ Fr w4 wi (fun _ => False) ∧ w5.heap.size ≤ wi.heap.size)
            case atStart => exact ⟨0, 0, [], rfl, by omega, rfl, rfl, Own.nil _, fun x hx => (by cases hx), by rw [HTN.out]; simp, Hrd.out, fun k hk => by simp [Value.ownBlock] at hk, Hf5.out, Nat.le_refl _⟩
            case round =>
              obtain ⟨i, pos, xs, hg', hi, rfl, hxl, ho, hxb, htk, hrd, hno, hf, hsz⟩ := hrel
              have Hg' : Hid _ := hg'
              have Hxl : Hid _ := hxl
              have Ho : Hid (Own wr u7 xs) := ho
              have Hxb : Hid (∀ x ∈ xs, x < 256) := hxb
              have Htk : Hid _ := htk
              have Hrdr : Hid (Rd 63 wr p (.slice A2 (n - at3) (c0 - at3)) rb pos) := hrd
              have Hno : Hid _ := hno
              have Hf : Hid (Fr w4 wr (fun _ => False)) := hf
              clear hg' hxl ho hxb htk hrd hno hf
              by_cases hlt : i < N0
              · have hi1 : (i : Int) < (N0 : Int) := by omega
                obtain ⟨m, hm⟩ : ∃ m, N0 - i = m + 1 := ⟨N0 - i - 1, by omega⟩
                have Hm : Hid (N0 - (i + 1) = m) := by show _ = _; omega
                have Htk2 : Hid ((takeN l (m + 1) ((unpack rb).drop pos)).map (xs ++ ·) = TN) := by rw [← hm]; exact Htk.out
                rw [takeN] at Htk2
                have hp5 : p < w5.heap.size := lt_of_block Hrd.out.1
                clear hm Htk
                go_wp2_with fail
                refine (refTakeCode_any p _ rb pos _ _ (l.map fun (n : Nat) => (n : Int)) wr Hrdr.out (Hrl4.out.keep Hf.out).z (rightB_in HRb.out) (by rw [List.length_map, Hll.out]; omega) (by rw [List.length_map, natsH, Hll.out]; exact Hrc4.out.keep Hf.out) (fun k hk => by have := HnL4.out k hk; have := Hp.out; omega) (fun k hk => by have := HnC4.out k hk; have := Hp.out; omega)).mono ?_
                rw [natsH]
                rintro e w6 ⟨rfl, hr6, hf6⟩
                have Hf6 : Hid (Fr w4 w6 (fun _ => False)) := Hf.out.newer1 hf6 Hp.out
                have ho6 : Own w6 u7 xs := Ho.out.frame hf6 (fun k hk h2 => by have := Hno.out k hk; omega)
                have hsz6 : w5.heap.size ≤ w6.heap.size := Nat.le_trans hsz hf6.size
                clear hf6
                cases hS : takeSym l ((unpack rb).drop pos) with
                | none =>
                  rw [hS] at Htk2
                  have Hnone : Hid (hread bs = none) := by show _ = _; unfold hread; rw [Hraw2.out, ← Htk2.out]; rfl
                  have HfZ : Hid (Fr w w6 (fun _ => False)) := Hf4.out.none Hf6.out
                  rw [show tkS l ((unpack rb).drop pos) = 0 by unfold tkS; rw [hS]; rfl, show tkB l ((unpack rb).drop pos) = false by unfold tkB; rw [hS]; rfl]
                  clear hr6 ho6 hS
                  go_wp2_with fail
                  go_ret2
                  exact ⟨HfZ.out, .inl ⟨Hnone.out, rfl⟩⟩
                | some q =>
                  obtain ⟨s, k⟩ := q
                  rw [hS] at Htk2
                  have hs256 : s < 256 := by have := takeSym_lt hS; rw [Hll.out] at this; exact this
                  rw [show tkN l ((unpack rb).drop pos) = k by unfold tkN; rw [hS]; rfl] at hr6
                  rw [show tkS l ((unpack rb).drop pos) = s by unfold tkS; rw [hS]; rfl, show tkB l ((unpack rb).drop pos) = true by unfold tkB; rw [hS]; rfl]
                  have Htk3 : Hid ((takeN l m ((unpack rb).drop (pos + k))).map ((xs ++ [s]) ++ ·) = TN) := by
                    show _ = _
                    have h1 := Htk2.out
                    simp only [Option.map_map] at h1
                    rw [List.drop_drop] at h1
                    rw [← h1]
                    congr 1
                    funext y
                    simp
                  obtain ⟨v7, w7, hrun7, ho7, hf7, hm7⟩ := app_byte w6 u7 xs s (s : Int) rfl ho6 (by rw [Hxl.out]; omega)
                  have hr7 : Rd 63 w7 p (.slice A2 (n - at3) (c0 - at3)) rb (pos + k) := hr6.frame' hf7 (fun h2 => by have := Hno.out p h2; omega) (fun h0 k hk h2 => by have := Hno.out k h2; have := rds_ltH Hrd.out.2.1 h0 k hk; omega)
                  have Hr7 : Hid (Rd 63 w7 p (.slice A2 (n - at3) (c0 - at3)) rb (pos + k)) := hr7
                  have Ho7 : Hid (Own w7 v7 (xs ++ [s])) := ho7
                  have Hx7 : Hid (∀ x ∈ xs ++ [s], x < 256) := fun x hx => by
                    rcases List.mem_append.1 hx with h2 | h2
                    · exact Hxb.out x h2
                    · simp at h2; omega
                  have Hn7 : Hid (∀ k, v7.ownBlock = some k → w5.heap.size ≤ k) := fun k hk => by
                    rcases hm7 k hk with h2 | h2
                    · exact Hno.out k h2
                    · omega
                  have hw45 : w4.heap.size ≤ w5.heap.size := Hf5.out.size
                  have Hf7 : Hid (Fr w4 w7 (fun _ => False)) := Hf6.out.newer hf7 (fun k hk => Nat.le_trans hw45 (Hno.out k hk))
                  have Hs7 : Hid (w5.heap.size ≤ w7.heap.size) := Nat.le_trans hsz6 hf7.size
                  have wu : IntKind.u8.wrap (s : Int) = (s : Int) := by rw [IntKind.wrap_u8]; omega
                  have wu2 : (s : Int) % 256 = (s : Int) := by omega
                  have hiw : IntKind.u64.wrap ((i : Int) + 1) = ((i + 1 : Nat) : Int) := by rw [IntKind.wrap_u64]; omega
                  clear hr6 ho6 ho7 hf7 hm7 hr7 hS Htk2
                  go_wp2_with (at_builtin; refine wpList_append_run rfl (.tmp 72) (.tmp 75) 22 rfl rfl rfl hrun7 ?_)
                  go_roundg (N0 - (i + 1))
                  case rel => exact ⟨i + 1, pos + k, xs ++ [s], rfl, by omega, by first | (go_num; done) | rfl | (rw [← hiw]), by rw [List.length_append, Hxl.out]; rfl, Ho7.out, Hx7.out, by rw [Hm.out]; exact Htk3.out, Hr7.out, Hn7.out, Hf7.out, Hs7.out⟩
                  case measure => rw [Hg'.out]; omega
              · have hi1 : ¬ (i : Int) < (N0 : Int) := by omega
                have Hraw3 : Hid (rawDec bs = some xs) := by
                  show _ = _
                  have h1 := Htk.out
                  rw [show N0 - i = 0 by omega] at h1
                  simp only [takeN, Option.map_some, List.append_nil] at h1
                  rw [Hraw2.out, ← h1]
                have HxsB : Hid (∀ x ∈ xs, x < 256) := Hxb.out
                have HxsL : Hid (xs.length ≤ 1000000) := by show _ ≤ _; rw [Hxl.out]; omega
                have HoX : Hid (Own wr u7 xs) := Ho.out
                have HfX : Hid (Fr w wr (fun _ => False)) := Hf4.out.none Hf.out
                go_wp2
                refine wp_region_tree (fun _ => False) (.take 0 (.take 3 (.take 4 (.one 1 (.take 2 (.take 5 .nil)))))) (by kernel_rfl) (by kernel_rfl) (by decide) (by kernel_rfl) ?_
                have hcb : ∀ z, Fr wr.drew z (fun _ => False) → (convert 22 9 (.slice a0 n c0)).run Try.prog z = .ok (.string (strOf bs)) z := fun z hz => conv_reads ((Hr.out.keep (HfX.out.drew)).keep hz)
                repeat (refine wpT_take (v := ?_) rfl rfl (fun x hx => ?_) ?_; rotate_left; (focus (go_simp; with_reducible rfl)); simp only [Act.put, List.setIfInBounds_toArray, List.set_cons_zero, List.set_cons_succ])
                refine wpT_one rfl rfl (fun K hK => ?_)
                go_simp
                refine (refHPut_any _ xs wr.drew (HoX.out.reads.keep (Fr.refl wr _).drew) HxsB.out HxsL.out).mono ?_
                rintro e wz ⟨vz, rfl, hoz, hfz, -⟩
                refine hK _ _ hfz ?_
                clear hK K hcb
                have hcz : ∀ z, Fr wz z (fun _ => False) → (convert 22 9 vz).run Try.prog z = .ok (.string (strOf (hput xs))) z := fun z hz => conv_reads (hoz.reads.keep hz)
                have HfZ : Hid (Fr w wz (fun _ => False)) := HfX.out.drew.none hfz
                have HoZ : Hid (Own wz u7 xs) := HoX.out.frame ((Fr.refl wr (fun _ => False)).drew.none hfz) (fun _ _ h => h)
                clear hoz hfz
                by_cases hEq : hput xs = bs
                · have Hres : Hid (hread bs = some xs) := by show _ = _; unfold hread; rw [Hraw3.out]; simp [hEq]
                  rw [hEq] at hcz
                  repeat (refine wpT_take (v := ?_) rfl rfl (fun x hx => ?_) ?_; rotate_left; (focus (go_simp; with_reducible rfl)); simp only [Act.put, List.setIfInBounds_toArray, List.set_cons_zero, List.set_cons_succ])
                  unfold wpT
                  clear hcz hEq
                  generalize strOf bs = S
                  go_wp2
                  go_ret2
                  exact ⟨HfZ.out, .inr ⟨xs, Hres.out, _, rfl, HoZ.out⟩⟩
                · have Hres : Hid (hread bs = none) := by show _ = _; unfold hread; rw [Hraw3.out]; simp [hEq]
                  have hSn : strOf (hput xs) ≠ strOf bs := fun e => hEq (strOf_inj (hput_bytes xs) Hb.out e)
                  repeat (refine wpT_take (v := ?_) rfl rfl (fun x hx => ?_) ?_; rotate_left; (focus (go_simp; with_reducible rfl)); simp only [Act.put, List.setIfInBounds_toArray, List.set_cons_zero, List.set_cons_succ])
                  unfold wpT
                  clear hcz
                  generalize strOf (hput xs) = S1 at hSn
                  generalize strOf bs = S2 at hSn
                  have hSd := str_ne hSn
                  go_wp2
                  all_goals first | (rename_i hh; rw [hSd] at hh; exact absurd hh (by decide)) | (go_ret2; exact ⟨HfZ.out, .inl ⟨Hres.out, rfl⟩⟩)
  · have hd : ((e0 : Int) != 0) = true := by simp; omega
    have hd2 : ((e0 : Int) == 0) = false := by rw [beq_eq_false_iff_ne]; omega
    have Hnone : Hid (hread bs = none) := by show _ = _; unfold hread; rw [Hraw.out, if_pos (.inl he0)]
    go_wp2_with fail
    go_ret2
    exact ⟨Fr.refl _ _, .inl ⟨Hnone.out, rfl⟩⟩

end Go.Proofs.Ytclfbdfgmeliaaa

/-
  What the statements ask of huff's functions, as one condition; and the laws' own first test under it.
-/
namespace Go.Proofs.Ytclfbdfgmeliaaa
open Go.RowKit

structure HC : Prop where
  cnt : ∀ (v : Value) (bs : List Nat) (w : World), Reads .u8 w v bs → (∀ x ∈ bs, x < 256) → bs.length ≤ 100000 →
    Calls Try.prog 13 #[v] w fun e w' => ∃ sv, e = .returned sv ∧ Reads .i64 w' sv (cntB bs) ∧ Fr w w' (fun _ => False)
  put : ∀ (v : Value) (bs : List Nat) (w : World), Reads .u8 w v bs → (∀ x ∈ bs, x < 256) → bs.length ≤ 100000 →
    Calls Try.prog 11 #[v] w fun e w' => ∃ sv, e = .returned sv ∧ Reads .u8 w' sv (hput bs) ∧ Fr w w' (fun _ => False)
  read : ∀ (v : Value) (bs : List Nat) (w : World), Reads .u8 w v bs → (∀ x ∈ bs, x < 256) → bs.length ≤ 100000 →
    Calls Try.prog 15 #[v] w fun e w' => Fr w w' (fun _ => False) ∧ ((hread bs = none ∧ e = .returned (.tuple #[.slice none 0 0, .int .i64 21])) ∨
      ∃ x, hread bs = some x ∧ ∃ sv, e = .returned (.tuple #[sv, .int .i64 0]) ∧ Reads .u8 w' sv x)

theorem known_len : (hput [97, 98, 97, 97]).length = 7 := by decide +kernel
theorem known_form : hread [1] = none := by decide +kernel
theorem known_nil : strOf (hput []) = ⟨#[0]⟩ := by decide +kernel
theorem known_str : strOf [97, 98, 97, 97] = ⟨#[97, 98, 97, 97]⟩ := by decide +kernel
theorem known_a : cnt (cntB [97, 98, 97, 97]) 97 = 3 := by decide +kernel

theorem reads_const (w : World) (bs : List Nat) (fr : Nat × Nat) : Reads .u8 (w.alloc (.cells (row .u8 bs).toArray 5 fr)) (.slice (some ⟨w.heap.size, 0, none⟩) bs.length bs.length) bs := by
  refine ⟨some ⟨w.heap.size, 0, none⟩, bs.length, by rw [length_row], by rw [length_row]; exact Nat.le_refl _, fun _ => ⟨w.heap.size, 0, rfl, fun j u hj => ?_⟩⟩
  rw [World.cell?_alloc_mark, Nat.zero_add]
  simpa using hj
theorem conv_const (x : World) (C : Array Value) (n c : Nat) : (convert 22 22 (.slice (some ⟨x.heap.size, 0, none⟩) n c)).run Try.prog (x.alloc (.cells C 5)) = .ok (.slice (some ⟨x.heap.size, 0, none⟩) n c) (x.alloc (.cells C 5 (C.size, C.size + 1))) :=
  Go.Lib.run_convert_bytes_const x 22 5 C n c Try.underlying22 Try.underlying5
theorem blit (w : World) (bs : List Nat) (C : Array Value) (n : Nat) (hC : C = (row .u8 bs).toArray) (hn : n = bs.length) (h : bs.length ≤ 1000) : Reads .u8 (w.alloc (.cells C 5)) (.slice (some ⟨w.heap.size, 0, none⟩) n n) bs := by
  subst hC hn
  have := holds_lit w 5 (row .u8 bs) (by rw [length_row]; exact h)
  rwa [length_row] at this

set_option maxRecDepth 4000 in
set_option maxHeartbeats 1600000 in
theorem known_any (M : HC) (w : World) : Calls Try.prog 8 #[] w fun e w' => e = .returned (.bool true) ∧ Fr w w' (fun _ => False) := by
  have hcv := conv_const
  go_enter Try.func8, Try.ntmps8
  go_wp2_with fail
  refine (M.put _ [97, 98, 97, 97] _ (reads_const w [97, 98, 97, 97] _) (by decide) (by decide)).mono ?_
  rintro e w1 ⟨s1, rfl, hr1, hf1⟩
  have Hf1 : Hid (Fr w w1 (fun _ => False)) := ((Fr.refl w (fun _ => False)).alloc _).none hf1
  have Hr1 : Hid (Reads .u8 w1 s1 (hput [97, 98, 97, 97])) := hr1
  clear hr1 hf1
  have hb1 := hput_bytes [97, 98, 97, 97]
  have hh1 : hread (hput [97, 98, 97, 97]) = some [97, 98, 97, 97] := hread_put _ (by decide) (by decide)
  have hl1 := known_len
  obtain ⟨P1, hP1⟩ : ∃ P, P = hput [97, 98, 97, 97] := ⟨_, rfl⟩
  rw [← hP1] at Hr1 hb1 hh1 hl1
  have Hh1 : Hid _ := hh1
  have Hb1 : Hid (∀ x ∈ P1, x < 256) := hb1
  have Hl1 : Hid (P1.length = 7) := hl1
  obtain ⟨a1, c1, hs1, -, -⟩ := id Hr1.out
  rw [length_row, hl1] at hs1
  subst hs1
  clear hP1 hh1 hb1 hl1
  go_wp2_with fail
  refine (M.read _ P1 w1 Hr1.out Hb1.out (by rw [Hl1.out]; decide)).mono ?_
  rw [Hh1.out]
  rintro e w2 ⟨hf2, ⟨h, -⟩ | ⟨x, hx, s2, rfl, hr2⟩⟩
  · cases h
  · simp only [Option.some.injEq] at hx
    rw [← hx] at hr2
    have Hf2 : Hid (Fr w w2 (fun _ => False)) := Hf1.out.none hf2
    have Hr2 : Hid (Reads .u8 w2 s2 [97, 98, 97, 97]) := hr2
    clear hx hr2 hf2 Hf1 Hr1
    go_wp2_with fail
    refine (M.read _ [1] _ (blit w2 _ _ _ rfl rfl (by decide)) (by decide) (by decide)).mono ?_
    rw [known_form]
    rintro e w3 ⟨hf3, ⟨-, rfl⟩ | ⟨y, hy, -⟩⟩
    · have hf23 : Fr w2 w3 (fun _ => False) := ((Fr.refl w2 (fun _ => False)).alloc _).none hf3
      have Hf3 : Hid (Fr w w3 (fun _ => False)) := Hf2.out.none hf23
      have Hr3 : Hid (Reads .u8 w3 s2 [97, 98, 97, 97]) := Hr2.out.keep hf23
      clear hf3 hf23 Hf2 Hr2
      go_wp2_with fail
      refine (M.cnt _ [97, 98, 97, 97] _ (reads_const w3 [97, 98, 97, 97] _) (by decide) (by decide)).mono ?_
      rintro e w4 ⟨s4, rfl, hr4, hf4⟩
      have hf34 : Fr w3 w4 (fun _ => False) := ((Fr.refl w3 (fun _ => False)).alloc _).none hf4
      have Hf4 : Hid (Fr w w4 (fun _ => False)) := Hf3.out.none hf34
      have Hr4 : Hid (Reads .u8 w4 s2 [97, 98, 97, 97]) := Hr3.out.keep hf34
      have Hc4 : Hid (Reads .i64 w4 s4 (cntB [97, 98, 97, 97])) := hr4
      obtain ⟨a4, c4, hs4, -, -⟩ := id hr4
      rw [length_row, cntB_len] at hs4
      subst hs4
      clear hr4 hf4 hf34 Hf3 Hr3
      go_wp2_with fail
      refine (M.put _ [] _ (Own.nil w4).reads (by simp) (by decide)).mono ?_
      rintro e w5 ⟨s5, rfl, hr5, hf5⟩
      have hc5 := conv_reads hr5
      rw [known_nil] at hc5
      have hc2 := conv_reads (Hr4.out.keep hf5)
      rw [known_str] at hc2
      obtain ⟨b4, o4, rfl, -, k4⟩ := (Hc4.out.keep hf5).at (cntB_len _).symm 97 (by decide)
      rw [show (cntB [97, 98, 97, 97]).getD 97 0 = 3 from known_a] at k4
      have Hf5 : Hid (Fr w w5 (fun _ => False)) := Hf4.out.none hf5
      clear hr5 hf5 Hf4 Hr4 Hc4
      go_wp2
      go_ret
      exact ⟨rfl, Hf5.out⟩
    · cases hy

end Go.Proofs.Ytclfbdfgmeliaaa

/-
  The contract of huff's Counts.
-/
namespace Go.Proofs.Ytclfbdfgmeliaaa
open Go.RowKit

set_option maxRecDepth 4000 in
set_option maxHeartbeats 800000 in
theorem hcounts_any (v : Value) (bs : List Nat) (w : World) (h : Reads .u8 w v bs) (hb : ∀ x ∈ bs, x < 256) (hl : bs.length ≤ 1000000000) :
    Calls Try.prog 13 #[v] w fun e w' => ∃ sv, e = .returned sv ∧ Reads .i64 w' sv (cntB bs) ∧ Fr w w' (fun _ => False) ∧ (∀ k, sv.ownBlock = some k → w.heap.size ≤ k) := by
  obtain ⟨a0, c0, rfl, hc0, -⟩ := id h
  rw [length_row] at h hc0 ⊢
  obtain ⟨n, hn⟩ : ∃ n, n = bs.length := ⟨_, rfl⟩
  rw [← hn] at h hl hc0 ⊢
  have Hr : Hid (Reads .u8 w (.slice a0 n c0) bs) := h
  have Hn : Hid _ := hn
  have Hb : Hid _ := hb
  clear h hn hb
  obtain ⟨i0, hi0, hz0, hz1, hz2⟩ := info_parts infoIntC
  go_enter Try.func13, Try.ntmps13
  go_wp2_with (at_make; refine wpList_make_full _ rfl _ _ 28 rfl 0 3 i0 (.int .i64 0) 1 Try.underlying28 hi0 hz0 hz1 _ _ _ _ 256 rfl rfl rfl rfl ?b1 ?b2 (Nat.zero_le _) ?_)
  case b1 => rw [hz2]; omega
  case b2 => unfold maxLen; omega
  intro wm hown hgrow
  rw [zeros_fnRow] at hown
  have hfm : Fr w wm (fun _ => False) := (Fr.refl w _).grown hgrow (fun k hk => by cases hk)
  obtain ⟨g, hg⟩ : ∃ g, g = w.heap.size := ⟨_, rfl⟩
  rw [← hg] at hown ⊢
  have Hgw : Hid (w.heap.size ≤ g) := by show _ ≤ _; omega
  have Hkeep : Hid (∀ x, Fr wm x (fun k => k = g) → Reads .u8 x (.slice a0 n c0) bs) := fun x hx => by
    have h1 : Reads .u8 wm (.slice a0 n c0) bs := Hr.out.keep hfm
    refine h1.frame' hx (fun h0 k hk e => ?_)
    obtain ⟨b, off, e2, hb2, -⟩ := Hr.out.at Hn.out 0 (by rw [Hn.out]; exact h0)
    rw [e2] at hk
    simp [Value.ownBlock] at hk
    omega
  have Hown : Hid (OwnC wm (.slice (some ⟨g, 0, none⟩) 256 256) (fnRow 256 (fun s => (bs.take 0).count s))) := by
    have e : fnRow 256 (fun s => (bs.take 0).count s) = fnRow 256 (fun _ => 0) := fnRow_congr 256 fun t _ => by simp
    rw [e]
    unfold OwnC
    rw [fnRow_length]
    exact hown
  have Hfm : Hid _ := hfm
  clear hgrow hfm hown hi0 hz0 hz1 hz2 hg
  go_wp2_with fail
  go_loopg [9] n (fun g' I wr => ∃ i : Nat, g' = n - i ∧ i ≤ n ∧ I = .int .i64 (i : Int) ∧ OwnC wr (.slice (some ⟨g, 0, none⟩) 256 256) (fnRow 256 (fun s => (bs.take i).count s)) ∧ Fr wm wr (fun k => k = g))
  case atStart => exact ⟨0, rfl, by omega, rfl, Hown.out, Fr.refl _ _⟩
  case round =>
    obtain ⟨i, hg', hi, rfl, ho, hf⟩ := hrel
    have Hg' : Hid _ := hg'
    have Ho : Hid (OwnC wr (.slice (some ⟨g, 0, none⟩) 256 256) (fnRow 256 (fun s => (bs.take i).count s))) := ho
    have Hf : Hid (Fr wm wr (fun k => k = g)) := hf
    clear hg' ho hf
    by_cases hlt : i < n
    · obtain ⟨bb, off, rfl, hbb, cx⟩ := (Hkeep.out _ Hf.out).at Hn.out i hlt
      obtain ⟨x, hx⟩ : ∃ x, x = bs.getD i 0 := ⟨_, rfl⟩
      have hx256 : x < 256 := by rw [hx]; exact Hb.out _ (getD_mem (by rw [← Hn.out]; exact hlt))
      have Hstep : Hid (∀ s, (bs.take (i + 1)).count s = (bs.take i).count s + if s = x then 1 else 0) := fun s => by rw [hx]; exact count_step (by rw [← Hn.out]; exact hlt) s
      rw [← hx] at cx
      clear hx hbb
      have hoc := Ho.out
      unfold OwnC at hoc
      rw [fnRow_length] at hoc
      have hfz := World.ownsRow.frozenAt hoc x
      have hce : wr.cell? ⟨g, x, none⟩ = some (.int .i64 (((bs.take i).count x : Nat) : Int)) := by
        rw [World.ownsRow.cellAt hoc x (by omega)]
        simp [row, fnRow, hx256]
      have hcb : (bs.take i).count x ≤ i := Nat.le_trans List.count_le_length (by rw [List.length_take]; omega)
      have Hset : Hid ((fnRow 256 (fun s => (bs.take i).count s)).set x ((bs.take i).count x + 1) = fnRow 256 (fun s => (bs.take (i + 1)).count s)) := fnRow_set 256 _ _ x _ (by rw [Hstep.out x, if_pos rfl]) (fun t ht => by rw [Hstep.out t, if_neg ht]; rfl)
      have Hst : Hid (OwnC (wr.setCell ⟨g, x, none⟩ (.int .i64 (((bs.take i).count x + 1 : Nat) : Int))) (.slice (some ⟨g, 0, none⟩) 256 256) (fnRow 256 (fun s => (bs.take (i + 1)).count s))) := by
        have := (World.ownsRow.stored hoc x (.int .i64 (((bs.take i).count x + 1 : Nat) : Int))).1
        unfold OwnC
        rw [fnRow_length, ← Hset.out, row_set]
        exact this
      have Hf2 : Hid (Fr wm (wr.setCell ⟨g, x, none⟩ (.int .i64 (((bs.take i).count x + 1 : Nat) : Int))) (fun k => k = g)) := Hf.out.setCell ⟨g, x, none⟩ (fun _ => rfl) _
      generalize (bs.take i).count x = c at hce hcb Hst Hf2
      have hcw : IntKind.i64.wrap ((c : Int) + 1) = ((c + 1 : Nat) : Int) := by rw [IntWalk.i64_in _ (by omega)]; omega
      have hi1 : (i : Int) < (n : Int) := by omega
      have hx1 : (x : Int) < 256 := by omega
      clear hoc Hset
      go_wp2_with fail
      go_roundg (n - (i + 1))
      case rel => exact ⟨i + 1, rfl, by omega, by go_num, Hst.out, Hf2.out⟩
      case measure => rw [Hg'.out]; omega
    · have hi1 : ¬ (i : Int) < (n : Int) := by omega
      have Hrow : Hid (fnRow 256 (fun s => (bs.take i).count s) = cntB bs) := by
        show _ = _
        rw [List.take_of_length_le (by rw [← Hn.out]; omega)]
        rfl
      have hfo := Hfm.out.newer Hf.out (fun k hk => by rw [hk]; exact Hgw.out)
      go_wp2_with fail
      go_ret
      refine ⟨_, rfl, ?_, hfo, fun k hk => by simp [Value.ownBlock] at hk; rw [← hk]; exact Hgw.out⟩
      rw [← Hrow.out]
      exact holds_own Ho.out

end Go.Proofs.Ytclfbdfgmeliaaa

/-
  Slices of uint64 that the call owns: append.
-/
namespace Go.Proofs.Ytclfbdfgmeliaaa
open Go.RowKit

theorem Try.info42 : (Try.prog.info? 42).map (fun i => (i.zero, i.size, i.bytes)) = some (some (.int .u64 0), 1, 8) := by kernel_rfl


/-- A slice of numbers that the call owns. -/
def OwnU (w : World) (v : Value) (us : List Nat) : Prop := w.ownsRow 0 42 1 v us.length (row .u64 us)
theorem OwnU.nil (w : World) : OwnU w (.slice none 0 0) [] := World.ownsRow_nil _ _ _ _
theorem OwnU.reads {w : World} {v : Value} {us : List Nat} (h : OwnU w v us) : Reads .u64 w v us := holds_own h
/-- append of one number that is written out. -/
theorem app_num (w : World) (v : Value) (us : List Nat) (x : Nat) (z : Int) (hz : z = (x : Int)) (h : OwnU w v us) (hb : us.length ≤ 10000000000) :
    ∃ v' w', (Builtin.append_ #[66, 66] 66 #[v, .slice (some ⟨w.heap.size, 0, none⟩) 1 1]).run Try.prog (w.alloc (.cells #[.int .u64 z] 42)) = .ok v' w' ∧ OwnU w' v' (us ++ [x]) ∧ Fr w w' (fun k => v.ownBlock = some k) ∧ Moved w v v' := by
  subst hz
  obtain ⟨i0, hi, hz0, hz1, hz2⟩ := info_parts Try.info42
  obtain ⟨v', w', h1, h2, h3, h4, -, -⟩ := run_append_holds (P := Try.prog) (w.alloc (.cells #[.int .u64 (x : Int)] 42)) 66 66 42 i0 (.int .u64 0) 8 Try.underlying66 hi hz0 hz1 hz2 rfl (by decide) v _ _ (World.ownsRow.alloc h _) _ _ (holds_lit w 42 [.int .u64 (x : Int)] (by simp)) (row1_one _ _) (by simp; omega)
  refine ⟨v', w', h1, ?_, ((Fr.refl w _).alloc _).trans h3 (fun _ _ h => h), h4.mono' (by simp)⟩
  unfold OwnU
  rw [List.length_append, row_append]
  exact h2

end Go.Proofs.Ytclfbdfgmeliaaa

/-
  The contract of huff's putLengths: the head of the lengths.
-/
namespace Go.Proofs.Ytclfbdfgmeliaaa
open Go.RowKit

theorem rowsTo_len (l : List Nat) : ∀ s, (rowsTo l s).length = 2 * someTo l s
  | 0 => rfl
  | s + 1 => by
    have := rowsTo_len l s
    unfold rowsTo someTo
    split
    · rw [List.length_append, this]; simp; omega
    · exact this
theorem rowsTo_lt (l : List Nat) (h15 : ∀ s, ln l s ≤ 15) : ∀ s, s ≤ 256 → ∀ u ∈ rowsTo l s, u < 18446744073709551616
  | 0, _, u, hu => by cases hu
  | s + 1, hs, u, hu => by
    unfold rowsTo at hu
    split at hu
    · rcases List.mem_append.1 hu with h | h
      · exact rowsTo_lt l h15 s (by omega) u h
      · have := h15 s
        simp at h
        omega
    · exact rowsTo_lt l h15 s (by omega) u hu
/-- append of two numbers that are written out. -/
theorem app_num2 (w : World) (v : Value) (us : List Nat) (x y : Nat) (h : OwnU w v us) (hb : us.length ≤ 10000000000) :
    ∃ v' w', (Builtin.append_ #[66, 66] 66 #[v, .slice (some ⟨w.heap.size, 0, none⟩) 2 2]).run Try.prog (w.alloc (.cells #[.int .u64 (x : Int), .int .u64 (y : Int)] 42)) = .ok v' w' ∧ OwnU w' v' (us ++ [x, y]) ∧ Fr w w' (fun k => v.ownBlock = some k) ∧ Moved w v v' := by
  obtain ⟨i0, hi, hz0, hz1, hz2⟩ := info_parts Try.info42
  obtain ⟨v', w', h1, h2, h3, h4, -, -⟩ := run_append_holds (P := Try.prog) (w.alloc (.cells #[.int .u64 (x : Int), .int .u64 (y : Int)] 42)) 66 66 42 i0 (.int .u64 0) 8 Try.underlying66 hi hz0 hz1 hz2 rfl (by decide) v _ _ (World.ownsRow.alloc h _) _ _ (holds_lit w 42 [.int .u64 (x : Int), .int .u64 (y : Int)] (by simp)) (row_one .u64 [x, y]) (by simp; omega)
  refine ⟨v', w', h1, ?_, ((Fr.refl w _).alloc _).trans h3 (fun _ _ h => h), h4.mono' (by simp)⟩
  unfold OwnU
  rw [List.length_append, row_append]
  exact h2
theorem OwnU.frame {w w' : World} {v : Value} {us : List Nat} {S : Nat → Prop} (h : OwnU w v us) (f : Fr w w' S) (hs : ∀ k, v.ownBlock = some k → ¬ S k) : OwnU w' v us := f.owns h hs

set_option maxRecDepth 4000 in
set_option maxHeartbeats 1600000 in
theorem putLengths_any (v : Value) (l : List Nat) (w : World) (h : Reads .i64 w v l) (hll : l.length = 256) (h15 : ∀ s, ln l s ≤ 15) :
    Calls Try.prog 24 #[v] w fun e w' => ∃ sv, e = .returned sv ∧ Own w' sv (headOf l) ∧ Fr w w' (fun _ => False) ∧ (∀ k, sv.ownBlock = some k → w.heap.size ≤ k) := by
  obtain ⟨al, cl, rfl, hcl, -⟩ := id h
  rw [length_row, hll] at h hcl ⊢
  have Hrl : Hid (Reads .i64 w (.slice al 256 cl) l) := h
  have Hll : Hid _ := hll
  have H15 : Hid _ := h15
  clear h hll h15
  go_enter Try.func24, Try.ntmps24
  go_wp2_with fail
  go_loopg [3, 4, 10] 256 (fun g' Rw Fe S wi => ∃ s : Nat, g' = 256 - s ∧ s ≤ 256 ∧ S = .int .i64 (s : Int) ∧ Fe = .int .i64 ((nextTo l s : Nat) : Int) ∧ OwnU wi Rw (rowsTo l s) ∧ (∀ k, Rw.ownBlock = some k → w.heap.size ≤ k) ∧ Fr w wi (fun _ => False))
  case atStart => exact ⟨0, rfl, by omega, rfl, rfl, OwnU.nil _, fun k hk => by simp [Value.ownBlock] at hk, Fr.refl _ _⟩
  case round =>
    obtain ⟨s, hg', hs, rfl, rfl, ho, hnw, hf⟩ := hrel
    have Hg' : Hid _ := hg'
    have Ho : Hid (OwnU wr u3 (rowsTo l s)) := ho
    have Hnw : Hid _ := hnw
    have Hf : Hid (Fr w wr (fun _ => False)) := hf
    clear hg' ho hnw hf
    obtain ⟨nx, hnx⟩ : ∃ nx, nx = nextTo l s := ⟨_, rfl⟩
    have hnxs : nx ≤ s := by rw [hnx]; exact nextTo_le l s
    rw [← hnx]
    have Hnx : Hid _ := hnx
    clear hnx
    have Hrln := rowsTo_len l s
    have hsm := someTo_le l s
    by_cases hlt : s < 256
    · obtain ⟨bl, ol, rfl, hbl, cy⟩ := (Hrl.out.keep Hf.out).at Hll.out.symm s hlt
      obtain ⟨y, hy⟩ : ∃ y, y = ln l s := ⟨_, rfl⟩
      rw [show l.getD s 0 = y from hy.symm] at cy
      have hy15 := H15.out s
      rw [← hy] at hy15
      have hs1 : (s : Int) < 256 := by omega
      have Hy : Hid _ := hy
      clear hy hbl
      by_cases hy0 : 0 < y
      · have hd : decide ((0 : Int) < (y : Int)) = true := decide_eq_true (by omega)
        obtain ⟨gp, hgp⟩ : ∃ gp, gp = s - nx := ⟨_, rfl⟩
        have q1 : (s : Int) - (nx : Int) = (gp : Int) := by omega
        have q1b : gp ≤ 255 := by omega
        have wg : IntKind.u64.wrap (gp : Int) = (gp : Int) := by rw [IntKind.wrap_u64]; omega
        have wy : IntKind.u64.wrap (y : Int) = (y : Int) := by rw [IntKind.wrap_u64]; omega
        have Hrow : Hid (rowsTo l (s + 1) = rowsTo l s ++ [gp, y]) := by
          show _ = _
          rw [rowsTo, if_pos (by rw [← Hy.out]; exact hy0), ← Hnx.out, ← hgp, ← Hy.out]
        have Hnn : Hid (nextTo l (s + 1) = s + 1) := by
          show _ = _
          rw [nextTo, if_pos (by rw [← Hy.out]; exact hy0)]
        obtain ⟨v5, w5, hrun5, ho5, hf5, hm5⟩ := app_num2 wr u3 _ gp y Ho.out (by omega)
        rw [← Hrow.out] at ho5
        have Ho5 : Hid (OwnU w5 v5 (rowsTo l (s + 1))) := ho5
        have Hnw5 : Hid (∀ k, v5.ownBlock = some k → w.heap.size ≤ k) := fun k hk => by
          rcases hm5 k hk with h2 | h2
          · exact Hnw.out k h2
          · have := Hf.out.size; omega
        have Hf5 : Hid (Fr w w5 (fun _ => False)) := Hf.out.newer hf5 Hnw.out
        clear hgp ho5 hf5 hm5
        go_wp2_with (at_builtin; refine wpList_append_run rfl (.tmp 17) (.tmp 24) 66 rfl rfl rfl hrun5 ?_)
        go_roundg (256 - (s + 1))
        case rel => exact ⟨s + 1, rfl, by omega, by go_num, by rw [Hnn.out]; go_num, Ho5.out, Hnw5.out, Hf5.out⟩
        case measure => rw [Hg'.out]; omega
      · have hd : decide ((0 : Int) < (y : Int)) = false := decide_eq_false (by omega)
        have Hnn : Hid (nextTo l (s + 1) = nx ∧ rowsTo l (s + 1) = rowsTo l s) := by
          refine ⟨?_, ?_⟩
          · rw [nextTo, if_neg (by rw [← Hy.out]; exact hy0), Hnx.out]
          · rw [rowsTo, if_neg (by rw [← Hy.out]; exact hy0)]
        go_wp2_with fail
        go_roundg (256 - (s + 1))
        case rel => exact ⟨s + 1, rfl, by omega, by go_num, by rw [Hnn.out.1], by rw [Hnn.out.2]; exact Ho.out, Hnw.out, Hf.out⟩
        case measure => rw [Hg'.out]; omega
    · obtain rfl : s = 256 := by omega
      obtain ⟨Nn, hNn⟩ : ∃ m, m = someTo l 256 := ⟨_, rfl⟩
      rw [← hNn] at hsm Hrln
      obtain ⟨a3, l3, c3, rfl⟩ := Ho.out.reads.form
      have hl3 : l3 = 2 * Nn := by
        obtain ⟨a', c', e, -, -⟩ := Ho.out.reads
        simp only [Value.slice.injEq] at e
        rw [e.2.1, length_row, Hrln]
      have hdiv : ((l3 : Nat) : Int).tdiv 2 = (Nn : Int) := by rw [hl3, Int.tdiv_eq_ediv_of_nonneg (by omega)]; omega
      have wN : IntKind.u64.wrap (Nn : Int) = (Nn : Int) := by rw [IntKind.wrap_u64]; omega
      have HNn : Hid _ := hNn
      have Hl3 : Hid _ := hl3
      have hNb : Nn ≤ 256 := hsm
      clear hNn hl3 hsm Hrln
      go_wp2_with fail
      refine (vputs_any _ [Nn] _ (holds_lit wr 42 [.int .u64 (Nn : Int)] (by simp)) (by simp; omega) (by simp)).mono ?_
      rintro e w4 ⟨s4, rfl, ho4, hf4, hn4⟩
      have hf4' : Fr wr w4 (fun _ => False) := ((Fr.refl wr (fun _ => False)).alloc _).none hf4
      have hoR : OwnU w4 (.slice a3 l3 c3) (rowsTo l 256) := Ho.out.frame hf4' (fun _ _ h => h)
      have e1 : encs [Nn] = enc Nn := by simp [encs]
      rw [e1] at ho4
      have Ho4 : Hid (Own w4 s4 (enc Nn)) := ho4
      have Hn4 : Hid (∀ k, s4.ownBlock = some k → w.heap.size ≤ k) := fun k hk => by have h5 := hn4 k hk; simp at h5; have := Hf.out.size; omega
      have Hf4 : Hid (Fr w w4 (fun _ => False)) := Hf.out.none hf4'
      have HoR : Hid (OwnU w4 (.slice a3 l3 c3) (rowsTo l 256)) := hoR
      clear ho4 hf4 hn4 hf4' hoR e1
      go_wp2_with fail
      refine (vputs_any _ (rowsTo l 256) w4 HoR.out.reads (rowsTo_lt l H15.out 256 (Nat.le_refl _)) (by have := rowsTo_len l 256; have := someTo_le l 256; omega)).mono ?_
      rintro e w5 ⟨s5, rfl, ho5, hf5, hn5⟩
      have ho45 : Own w5 s4 (enc Nn) := Ho4.out.frame hf5 (fun _ _ h => h)
      have hel2 := enc_le Nn (by omega)
      obtain ⟨v6, w6, hrun6, ho6, hf6, hm6, -⟩ := app_bytes w5 s4 s5 _ _ ho45 ho5.reads (by have := rowsTo_small l H15.out 256 (Nat.le_refl _); omega)
      have Hres : Hid (Own w6 v6 (headOf l)) := by unfold headOf; rw [← HNn.out]; exact ho6
      have Hf6 : Hid (Fr w w6 (fun _ => False)) := (Hf4.out.none hf5).newer hf6 Hn4.out
      have Hn6 : Hid (∀ k, v6.ownBlock = some k → w.heap.size ≤ k) := fun k hk => by
        rcases hm6 k hk with h2 | h2
        · exact Hn4.out k h2
        · have := Hf4.out.size; have := hf5.size; omega
      clear ho5 hf5 hn5 ho45 hel2 ho6 hf6 hm6
      go_wp2_with (at_builtin; refine wpList_append_run rfl (.tmp 35) (.tmp 37) 22 rfl rfl rfl hrun6 ?_)
      go_ret
      exact ⟨_, rfl, Hres.out, Hf6.out, Hn6.out⟩

end Go.Proofs.Ytclfbdfgmeliaaa

/-
  Blocks of ints that a call made: cells, stores, whole parts.
-/
namespace Go.Proofs.Ytclfbdfgmeliaaa
open Go.RowKit

/-- A block of ints. -/
def Blk (w : World) (b : Nat) (t : TypeId) (n : Nat) (f : Nat → Nat) : Prop := w.heap[b]? = some (.cells (row .i64 (fnRow n f)).toArray t (0, 0))
def upd (f : Nat → Nat) (k x : Nat) : Nat → Nat := fun j => if j = k then x else f j
section
variable {w : World} {b : Nat} {t : TypeId} {n : Nat} {f : Nat → Nat}
theorem frow_get (n : Nat) (f : Nat → Nat) (k : Nat) (hk : k < n) : (row .i64 (fnRow n f))[k]? = some (.int .i64 ((f k : Nat) : Int)) := by simp [row, fnRow, hk]
theorem frow_len (n : Nat) (f : Nat → Nat) : (row .i64 (fnRow n f)).length = n := by rw [length_row, fnRow_length]
theorem Blk.cell (h : Blk w b t n f) (k : Nat) (hk : k < n) : w.cell? ⟨b, k, none⟩ = some (.int .i64 ((f k : Nat) : Int)) := by
  rw [cell_of_row w b k _ t _ h, List.getElem?_toArray]
  exact frow_get n f k hk
theorem Blk.free (h : Blk w b t n f) (k : Nat) : w.frozen? ⟨b, k, none⟩ = false := by unfold Blk at h; simp [World.frozen?, h]
theorem Blk.lt (h : Blk w b t n f) : b < w.heap.size := lt_of_block h
theorem Blk.congr {f' : Nat → Nat} (h : Blk w b t n f) (hc : ∀ j, j < n → f j = f' j) : Blk w b t n f' := by
  unfold Blk at h ⊢
  rw [h, fnRow_congr n hc]
theorem Blk.frame {w' : World} {S : Nat → Prop} (h : Blk w b t n f) (hf : Fr w w' S) (hs : ¬ S b) : Blk w' b t n f := hf.kept h hs
theorem Blk.set (h : Blk w b t n f) (k x : Nat) : Blk (w.setCell ⟨b, k, none⟩ (.int .i64 ((x : Nat) : Int))) b t n (upd f k x) := by
  unfold Blk at h ⊢
  rw [heap_setCell_same w b k _ t _ h]
  congr 2
  have e : (row .i64 (fnRow n f)).toArray.setIfInBounds k (.int .i64 ((x : Nat) : Int)) = (row .i64 ((fnRow n f).set k x)).toArray := by rw [row_set]; simp
  rw [e, fnRow_set n f (upd f k x) k x (by unfold upd; rw [if_pos rfl]) (fun t ht => by unfold upd; rw [if_neg ht])]
theorem Blk.range (h : Blk w b t n f) (o m : Nat) (g : Nat → Nat) (hm : o + m ≤ n) (hg : ∀ j, j < m → f (o + j) = g j) : w.rangeAt b o (row .i64 (fnRow m g)) := fun j v hv => by
  have hj : j < m := by have := (List.getElem?_eq_some_iff.1 hv).1; rwa [frow_len] at this
  rw [frow_get m g j hj] at hv
  rw [h.cell (o + j) (by omega), hg j hj, hv]
theorem Blk.there (h : Blk w b t n f) (o m : Nat) (hm : o + m ≤ n) : w.there b o m := fun j hj => ⟨by rw [h.cell (o + j) (by omega)]; rfl, h.free _⟩
theorem Blk.sets : ∀ (gs : List Nat) {w : World} {f : Nat → Nat} (o : Nat), Blk w b t n f → Blk (w.setCells b o (row .i64 gs)) b t n (fun j => if o ≤ j ∧ j < o + gs.length then gs.getD (j - o) 0 else f j)
  | [], w, f, o, h => Blk.congr h fun j _ => by rw [if_neg (by simp <;> omega)]
  | g :: gs, w, f, o, h => by
    have := Blk.sets gs (o + 1) (h.set o g)
    refine Blk.congr (w := w.setCells b o (row .i64 (g :: gs))) this fun j _ => ?_
    by_cases h1 : j = o
    · subst h1
      rw [if_neg (by omega), if_pos (by simp), Nat.sub_self]
      unfold upd
      rw [if_pos rfl]
      rfl
    · by_cases h2 : o + 1 ≤ j ∧ j < o + 1 + gs.length
      · rw [if_pos h2, if_pos (by simp; omega), show j - o = (j - (o + 1)) + 1 by omega]
        rfl
      · rw [if_neg h2, if_neg (by simp; omega)]
        unfold upd
        rw [if_neg h1]
theorem Blk.setRow (h : Blk w b t n f) (o m : Nat) (g : Nat → Nat) : Blk (w.setCells b o (row .i64 (fnRow m g))) b t n (fun j => if o ≤ j ∧ j < o + m then g (j - o) else f j) := by
  refine Blk.congr (Blk.sets (fnRow m g) o h) fun j _ => ?_
  rw [fnRow_length]
  by_cases h1 : o ≤ j ∧ j < o + m
  · rw [if_pos h1, if_pos h1, List.getD_eq_getElem?_getD, fnRow_get m g _ (by omega)]
    rfl
  · rw [if_neg h1, if_neg h1]
theorem frow_one (n : Nat) (f : Nat → Nat) : (row .i64 (fnRow n f)).toArray.all (·.oneCell') = true := all_oneCell_toArray (row_one .i64 _)
end
theorem Fr.setCells {a : World} {S : Nat → Prop} (b : Nat) (hb : b < a.heap.size → S b) : ∀ (vs : List Value) (o : Nat) {w : World}, Fr a w S → Fr a (w.setCells b o vs) S
  | [], _, _, h => h
  | v :: vs, o, _, h => Fr.setCells b hb vs (o + 1) (h.setCell ⟨b, o, Option.none⟩ hb v)
/-- A value of ints. -/
def arr (n : Nat) (f : Nat → Nat) : Value := .agg (row .i64 (fnRow n f)).toArray
/-- Sixteen noughts, as a walk spells them. -/
def Z16 : Array Value := (row .i64 (fnRow 16 fun _ => 0)).toArray
theorem z16 : #[Value.int IntKind.i64 0, Value.int IntKind.i64 0, Value.int IntKind.i64 0, Value.int IntKind.i64 0, Value.int IntKind.i64 0, Value.int IntKind.i64 0, Value.int IntKind.i64 0, Value.int IntKind.i64 0, Value.int IntKind.i64 0, Value.int IntKind.i64 0, Value.int IntKind.i64 0, Value.int IntKind.i64 0, Value.int IntKind.i64 0, Value.int IntKind.i64 0, Value.int IntKind.i64 0, Value.int IntKind.i64 0] = Z16 := by rfl
theorem results_cell {fn : Func} {p : Tmp} {ty : TypeId} (h : fn.results = #[.cell p ty]) {tmps : Array Value} {P : Program} {w : World} {b o : Nat} {v : Value} (hp : tmps.getD p undef = .pointer (some ⟨b, o, none⟩)) (hl : (loadVar ty ⟨b, o, none⟩).run P w = .ok v w) :
    (results fn tmps).run P w = .ok v w := by
  have hp' : tmps[p]?.getD undef = .pointer (some ⟨b, o, none⟩) := by rw [← hp]; simp
  simp [results, h, asAddr, hp', hl]
theorem sizeLen : (Try.prog.info? 102).map (·.size) = some 16 := by kernel_rfl
theorem Blk.load {w : World} {b : Nat} {t : TypeId} {n : Nat} {f : Nat → Nat} (h : Blk w b t n f) (o : Nat) (g : Nat → Nat) (hm : o + 16 ≤ n) (hg : ∀ j, j < 16 → f (o + j) = g j) : (loadVar 102 ⟨b, o, none⟩).run Try.prog w = .ok (arr 16 g) w :=
  run_loadVar_mid w b o _ _ _ (h.range o 16 g hm hg) Try.underlying102 rfl (by rw [frow_len]; exact sizeLen)

end Go.Proofs.Ytclfbdfgmeliaaa

/-
  Canonical codes by how many there are of each length: plain mathematics, no program.
-/
namespace Go.Proofs.Ytclfbdfgmeliaaa

/-- How many of the symbols below s have length n. -/
def cntTo (l : List Nat) (s n : Nat) : Nat := if n = 0 then 0 else (l.take s).count n
def cntOf (l : List Nat) (n : Nat) : Nat := cntTo l l.length n
/-- The first code of each length; how many are shorter. -/
def firstF (f : Nat → Nat) : Nat → Nat
  | 0 => 0
  | n + 1 => (firstF f n + f n) * 2
def placeF (f : Nat → Nat) : Nat → Nat
  | 0 => 0
  | n + 1 => placeF f n + f n

theorem cntTo_zero (l : List Nat) (n : Nat) : cntTo l 0 n = 0 := by unfold cntTo; simp
theorem cntTo_step (l : List Nat) (s n : Nat) (hs : s < l.length) : cntTo l (s + 1) n = cntTo l s n + if ln l s = n ∧ 0 < n then 1 else 0 := by
  unfold cntTo
  have e : l.take (s + 1) = l.take s ++ [ln l s] := by
    rw [List.take_add_one, List.getElem?_eq_getElem hs]
    unfold ln
    rw [List.getD_eq_getElem?_getD, List.getElem?_eq_getElem hs]
    rfl
  by_cases h0 : n = 0
  · rw [if_pos h0, if_pos h0, if_neg (by omega)]
  · rw [if_neg h0, if_neg h0, e, List.count_append]
    by_cases h : ln l s = n
    · rw [if_pos ⟨h, by omega⟩, h]; simp
    · rw [if_neg (fun h2 => h h2.1), List.count_singleton, if_neg (by simpa using h)]
theorem cntTo_le (l : List Nat) (s n : Nat) : cntTo l s n ≤ l.length := by
  unfold cntTo
  split
  · omega
  · exact Nat.le_trans List.count_le_length (by rw [List.length_take]; omega)
theorem cntTo_mono (l : List Nat) (n : Nat) {s t : Nat} (h : s ≤ t) (ht : t ≤ l.length) : cntTo l s n ≤ cntTo l t n := by
  induction t with
  | zero => have : s = 0 := by omega
            subst this; exact Nat.le_refl _
  | succ t ih =>
    by_cases e : s = t + 1
    · subst e; exact Nat.le_refl _
    · have := ih (by omega) (by omega)
      rw [cntTo_step l t n (by omega)]
      omega
theorem cntTo_next (l : List Nat) {s t : Nat} (hs : 0 < ln l s) (h : s < t) (ht : t ≤ l.length) : cntTo l s (ln l s) < cntTo l t (ln l s) := by
  have h1 := cntTo_mono l (ln l s) (s := s + 1) (t := t) h ht
  rw [cntTo_step l s _ (by omega), if_pos ⟨rfl, hs⟩] at h1
  omega
theorem cntTo_lt (l : List Nat) {s : Nat} (hs : 0 < ln l s) : cntTo l s (ln l s) < cntOf l (ln l s) := cntTo_next l hs (ln_lt hs) (Nat.le_refl _)
theorem cntTo_find (l : List Nat) (n k : Nat) : ∀ m, m ≤ l.length → k < cntTo l m n → ∃ s, s < m ∧ ln l s = n ∧ cntTo l s n = k
  | 0, _, h => by rw [cntTo_zero] at h; omega
  | m + 1, hm, h => by
    by_cases h1 : k < cntTo l m n
    · obtain ⟨s, h2, h3⟩ := cntTo_find l n k m (by omega) h1
      exact ⟨s, by omega, h3⟩
    · rw [cntTo_step l m n (by omega)] at h
      by_cases h2 : ln l m = n ∧ 0 < n
      · rw [if_pos h2] at h
        exact ⟨m, by omega, h2.1, by omega⟩
      · rw [if_neg h2] at h
        omega
theorem ac_cnt (l : List Nat) (n : Nat) : ∀ s, s ≤ l.length → ac l n s = ac l n 0 + cntTo l s n * 2 ^ (15 - n)
  | 0, _ => by rw [cntTo_zero]; omega
  | s + 1, h => by
    rw [ac_step l n s (by omega), cntTo_step l s n (by omega), ac_cnt l n s (by omega)]
    by_cases h2 : ln l s = n ∧ 0 < n
    · rw [if_pos h2, if_pos h2, Nat.succ_mul]; omega
    · rw [if_neg h2, if_neg h2]; rfl
theorem first_ac (l : List Nat) : ∀ n, n + 1 ≤ 15 → firstF (cntOf l) (n + 1) * 2 ^ (15 - (n + 1)) = ac l (n + 1) 0
  | 0, _ => by rw [ac_zero]; simp [firstF, cntOf, cntTo]
  | n + 1, h => by
    have ih := first_ac l n (by omega)
    rw [ac_next, ac_cnt l (n + 1) l.length (Nat.le_refl _), ← ih]
    show (firstF (cntOf l) (n + 1) + cntOf l (n + 1)) * 2 * _ = _
    rw [show 15 - (n + 1) = (15 - (n + 1 + 1)) + 1 by omega, Nat.pow_succ]
    unfold cntOf
    generalize 2 ^ (15 - (n + 1 + 1)) = y
    generalize firstF (fun n => cntTo l l.length n) (n + 1) = x
    generalize cntTo l l.length (n + 1) = z
    rw [Nat.add_mul, Nat.add_mul, Nat.mul_assoc, Nat.mul_assoc, Nat.mul_comm 2 y]
theorem firstF_le (f : Nat → Nat) (hf : ∀ n, n < 16 → f n ≤ 256) : ∀ n, n ≤ 16 → firstF f n + 512 ≤ 512 * 2 ^ n
  | 0, _ => by simp [firstF]
  | n + 1, h => by
    have ih := firstF_le f hf n (by omega)
    have := hf n (by omega)
    rw [firstF, Nat.pow_succ]
    omega
theorem firstF_small (f : Nat → Nat) (hf : ∀ n, n < 16 → f n ≤ 256) (n : Nat) (h : n ≤ 16) : firstF f n ≤ 33554432 := by
  have h1 := firstF_le f hf n h
  have h2 : 2 ^ n ≤ 2 ^ 16 := Nat.pow_le_pow_right (by omega) h
  omega
theorem placeF_small (f : Nat → Nat) (hf : ∀ n, n < 16 → f n ≤ 256) : ∀ n, n ≤ 16 → placeF f n ≤ 256 * n
  | 0, _ => by simp [placeF]
  | n + 1, h => by
    have ih := placeF_small f hf n (by omega)
    have := hf n (by omega)
    rw [placeF]
    omega
theorem code_cnt {l : List Nat} (h15 : ∀ s, ln l s ≤ 15) {s : Nat} (hs : 0 < ln l s) : codeOf l s = firstF (cntOf l) (ln l s) + cntTo l s (ln l s) := by
  have h1 := code_mul hs
  have h2 := h15 s
  obtain ⟨n, hn⟩ : ∃ n, ln l s = n + 1 := ⟨ln l s - 1, by omega⟩
  rw [hn] at h1 ⊢
  rw [ac_cnt l (n + 1) s (Nat.le_of_lt (ln_lt hs)), ← first_ac l n (by omega), ← Nat.add_mul] at h1
  exact Nat.mul_right_cancel (Nat.two_pow_pos _) h1
/-- Its place among all codes. -/
def rk (l : List Nat) (s : Nat) : Nat := placeF (cntOf l) (ln l s) + cntTo l s (ln l s)
theorem placeF_mono (f : Nat → Nat) {n m : Nat} (h : n ≤ m) : placeF f n ≤ placeF f m := by
  induction m with
  | zero => have : n = 0 := by omega
            subst this; exact Nat.le_refl _
  | succ m ih =>
    by_cases e : n = m + 1
    · subst e; exact Nat.le_refl _
    · have := ih (by omega)
      rw [placeF]
      omega
theorem rk_below {l : List Nat} {s t : Nat} (hs : 0 < ln l s) (ht : 0 < ln l t) (h : Ahd l (ln l s) s t) : rk l t < rk l s := by
  unfold rk
  have h1 := cntTo_lt l ht
  rcases h.2 with h2 | ⟨h2, h3⟩
  · have h4 := placeF_mono (cntOf l) (n := ln l t + 1) (m := ln l s) h2
    rw [placeF] at h4
    omega
  · have h4 := cntTo_next l ht h3 (Nat.le_of_lt (ln_lt hs))
    rw [h2] at h4 ⊢
    omega
theorem rk_ne {l : List Nat} {s t : Nat} (hs : 0 < ln l s) (ht : 0 < ln l t) (h : t ≠ s) : rk l t ≠ rk l s := by
  rcases ahd_or ht hs h with h1 | h1
  · have := rk_below hs ht h1; omega
  · have := rk_below ht hs h1; omega
theorem place_count (l : List Nat) : ∀ m, placeF (cntOf l) m = l.countP fun x => decide (0 < x ∧ x < m)
  | 0 => by
    rw [placeF, eq_comm, List.countP_eq_zero]
    intro x _
    simp
  | m + 1 => by
    rw [placeF, place_count l m]
    unfold cntOf cntTo
    rw [List.take_of_length_le (Nat.le_refl _)]
    clear place_count
    by_cases h0 : m = 0
    · subst h0
      rw [if_pos rfl, Nat.add_zero]
      congr 1
      funext x
      exact decide_eq_decide.2 (by omega)
    · rw [if_neg h0]
      induction l with
      | nil => rfl
      | cons a l ih =>
        rw [List.countP_cons, List.countP_cons, List.count_cons, ← ih]
        by_cases h1 : a = m
        · subst h1
          rw [if_neg (by simp), if_pos (by simp), if_pos (by simp; omega)]
          omega
        · rw [if_neg (c := (a == m) = true) (by simpa using h1)]
          by_cases h2 : 0 < a ∧ a < m
          · rw [if_pos (by simpa using h2), if_pos (by simp; omega)]; omega
          · rw [if_neg (by simpa using h2), if_neg (by simp; omega)]; omega
theorem rk_lt {l : List Nat} {s : Nat} (hs : 0 < ln l s) : rk l s < l.length := by
  have h1 := cntTo_lt l hs
  have h2 := place_count l (ln l s + 1)
  rw [placeF] at h2
  have h3 : l.countP (fun x => decide (0 < x ∧ x < ln l s + 1)) ≤ l.length := List.countP_le_length
  unfold rk
  omega
theorem find_none {l : List Nat} (h15 : ∀ s, ln l s ≤ 15) {n v : Nat} (hn : 0 < n) (h : firstF (cntOf l) n + cntOf l n ≤ v) : findSym l n v = none := by
  cases hf : findSym l n v with
  | none => rfl
  | some s =>
    obtain ⟨-, h1, h2⟩ := findSym_some hf
    have h3 := code_cnt h15 (s := s) (by omega)
    have h4 := cntTo_lt l (s := s) (by omega)
    rw [h1] at h3 h4
    omega
theorem find_some {l : List Nat} (h15 : ∀ s, ln l s ≤ 15) {n k : Nat} (hn : 0 < n) (h : k < cntOf l n) : ∃ s, 0 < ln l s ∧ ln l s = n ∧ rk l s = placeF (cntOf l) n + k ∧ findSym l n (firstF (cntOf l) n + k) = some s := by
  obtain ⟨s, h1, h2, h3⟩ := cntTo_find l n k l.length (Nat.le_refl _) h
  have hs : 0 < ln l s := by omega
  refine ⟨s, hs, h2, by unfold rk; rw [h2, h3], ?_⟩
  have h4 := code_cnt h15 hs
  rw [h2, h3] at h4
  exact findSym_is h15 hn h2 h4

end Go.Proofs.Ytclfbdfgmeliaaa

/-
  The contract of code.tally.
-/
namespace Go.Proofs.Ytclfbdfgmeliaaa
open Go.RowKit

/-- Lengths that may be, cell by cell. -/
theorem get_nats {zs : List Int} (hin : inZ zs = true) (s : Nat) (hs : s < zs.length) : zs[s]? = some ((ln (nats zs) s : Nat) : Int) := by
  conv => lhs; rw [← nats_back hin]
  rw [List.getElem?_map]
  unfold ln
  rw [List.getD_eq_getElem?_getD, List.getElem?_eq_getElem (by rw [nats_length]; exact hs)]
  rfl
theorem nats_15 {zs : List Int} (hin : inZ zs = true) (s : Nat) : ln (nats zs) s ≤ 15 := by
  unfold ln
  rw [List.getD_eq_getElem?_getD]
  cases hs : (nats zs)[s]? with
  | none => simp
  | some n =>
    have hm := List.mem_of_getElem? hs
    obtain ⟨z, hz, rfl⟩ := List.mem_map.1 hm
    have := List.all_eq_true.1 hin z hz
    simp at this
    simp
    omega

set_option maxRecDepth 4000 in
set_option maxHeartbeats 800000 in
theorem tallyC_any (v : Value) (zs : List Int) (w : World) (h : ReadsZ w v zs) (hin : inZ zs = true) (hlen : zs.length ≤ 256) :
    Calls Try.prog 55 #[v] w fun e w' => e = .returned (arr 16 (cntOf (nats zs))) ∧ Fr w w' (fun _ => False) := by
  obtain ⟨a0, c0, rfl, hc0⟩ := h.form
  have hget := get_nats hin
  have h15 := nats_15 hin
  obtain ⟨l, hl⟩ : ∃ l, l = nats zs := ⟨_, rfl⟩
  have hln : l.length = zs.length := by rw [hl, nats_length]
  rw [← hl] at hget h15 ⊢
  obtain ⟨n, hn⟩ : ∃ n, n = zs.length := ⟨_, rfl⟩
  rw [← hn] at h hc0 hlen hget hln ⊢
  have Hz : Hid (ReadsZ w (.slice a0 n c0) zs) := h
  have Hget : Hid _ := hget
  have H15 : Hid _ := h15
  have Hln : Hid _ := hln
  clear h hget h15 hln hn hl hin
  go_enter Try.func55, Try.ntmps55
  go_wp2_with fail
  rw [z16]
  have Hf0 : Hid (Fr w ((w.alloc (.cells Z16 102)).alloc (.cells Z16 102)) (fun _ => False)) := ((Fr.refl w _).alloc _).alloc _
  have Hb0 : Hid (Blk ((w.alloc (.cells Z16 102)).alloc (.cells Z16 102)) w.heap.size 102 16 (fun _ => 0)) := blk_alloc _ (heap_alloc_new w _)
  have Hb1 : Hid (Blk ((w.alloc (.cells Z16 102)).alloc (.cells Z16 102)) (w.heap.size + 1) 102 16 (fun _ => 0)) := by
    have := heap_alloc_new (w.alloc (.cells Z16 102)) (.cells Z16 102)
    rw [show (w.alloc (.cells Z16 102)).heap.size = w.heap.size + 1 by simp] at this
    exact this
  generalize (w.alloc (.cells Z16 102)).alloc (.cells Z16 102) = w2 at *
  obtain ⟨b0, hb0⟩ : ∃ b, b = w.heap.size := ⟨_, rfl⟩
  obtain ⟨b1, hb1⟩ : ∃ b, b = w.heap.size + 1 := ⟨_, rfl⟩
  rw [← hb0] at Hb0
  rw [← hb1] at Hb1
  rw [← hb1, ← hb0]
  have Hw0 : Hid (w.heap.size ≤ b0) := by show _ ≤ _; omega
  have Hw1 : Hid (w.heap.size ≤ b1) := by show _ ≤ _; omega
  have Hne : Hid (b0 ≠ b1) := by show _ ≠ _; omega
  clear hb0 hb1
  go_loopg [8] n (fun g I wr => ∃ i : Nat, g = n - i ∧ i ≤ n ∧ I = .int .i64 (i : Int) ∧ Blk wr b0 102 16 (fun _ => 0) ∧ Blk wr b1 102 16 (cntTo l i) ∧ Fr w wr (fun _ => False))
  case atStart => exact ⟨0, rfl, by omega, rfl, Hb0.out, Hb1.out.congr (fun j _ => (cntTo_zero l j).symm), Hf0.out⟩
  case round =>
    obtain ⟨i, hg, hi, rfl, hb0, hb1, hf⟩ := hrel
    have Hg : Hid _ := hg
    have Hc0 : Hid (Blk wr b0 _ 16 _) := hb0
    have Hc1 : Hid (Blk wr b1 _ 16 _) := hb1
    have Hf : Hid _ := hf
    clear hg hb0 hb1 hf
    by_cases hlt : i < n
    · obtain ⟨b, off, cp, e, hb, kx⟩ := (Hz.out.keep Hf.out).get i _ (Hget.out i hlt)
      simp only [Value.slice.injEq] at e
      obtain ⟨rfl, -, rfl⟩ := e
      have cx := kx wr (Fr.refl _ _)
      have hi1 : (i : Int) < (n : Int) := by omega
      obtain ⟨y, hy⟩ : ∃ y, y = ln l i := ⟨_, rfl⟩
      have hy15 := H15.out i
      rw [← hy] at cx hy15
      have hst := fun m => cntTo_step l i m (by rw [Hln.out]; exact hlt)
      rw [← hy] at hst
      have Hst : Hid _ := hst
      have Hy : Hid _ := hy
      clear kx hb hy hst
      by_cases hy0 : 0 < y
      · have cy := Hc1.out.cell y (by omega)
        have fy := Hc1.out.free y
        have hcb := cntTo_le l i y
        rw [Hln.out] at hcb
        have hy1 : (y : Int) < 16 := by omega
        have hy2 : (0 : Int) < (y : Int) := by omega
        have hb2 := Hc1.out.set y (cntTo l i y + 1)
        have hf2 := Hf.out.setCell ⟨b1, y, none⟩ (S := fun _ => False) (fun h => by have := Hw1.out; simp at h; omega) (.int .i64 ((cntTo l i y + 1 : Nat) : Int))
        have hb3 := Blk.frame Hc0.out (Fr.setCell (S := fun k => k = b1) (Fr.refl wr _) ⟨b1, y, none⟩ (fun _ => rfl) (.int .i64 ((cntTo l i y + 1 : Nat) : Int))) Hne.out
        have He : Hid (∀ j, j < 16 → upd (cntTo l i) y (cntTo l i y + 1) j = cntTo l (i + 1) j) := fun j _ => by
          unfold upd
          rw [Hst.out j]
          by_cases hj : j = y
          · subst hj; rw [if_pos rfl, if_pos ⟨rfl, hy0⟩]
          · rw [if_neg hj, if_neg (fun h => hj h.1.symm)]; rfl
        generalize cntTo l i y = c at cy hcb hb2 hf2 hb3 He
        have hcw : IntKind.i64.wrap ((c : Int) + 1) = ((c + 1 : Nat) : Int) := by rw [IntWalk.i64_in _ (by omega)]; omega
        have Hb2 : Hid (Blk (wr.setCell ⟨b1, y, none⟩ (.int .i64 ((c + 1 : Nat) : Int))) b1 _ 16 _) := hb2
        have Hb3 : Hid (Blk (wr.setCell ⟨b1, y, none⟩ (.int .i64 ((c + 1 : Nat) : Int))) b0 _ 16 _) := hb3
        have Hf2 : Hid _ := hf2
        clear hb2 hb3 hf2
        go_wp2
        go_roundg (n - (i + 1))
        case rel => exact ⟨i + 1, rfl, by omega, by go_num, Hb3.out, Hb2.out.congr He.out, Hf2.out⟩
        case measure => rw [Hg.out]; omega
      · have hy2 : ¬ (0 : Int) < (y : Int) := by omega
        have He : Hid (∀ j, j < 16 → cntTo l i j = cntTo l (i + 1) j) := fun j _ => by
          rw [Hst.out j, if_neg (by omega)]; rfl
        go_wp2
        go_roundg (n - (i + 1))
        case rel => exact ⟨i + 1, rfl, by omega, by go_num, Hc0.out, Hc1.out.congr He.out, Hf.out⟩
        case measure => rw [Hg.out]; omega
    · have hie : i = n := by omega
      have hi1 : ¬ (i : Int) < (n : Int) := by omega
      have hfin : Blk wr b1 102 16 (cntOf l) := Hc1.out.congr fun j _ => by unfold cntOf; rw [hie, Hln.out]
      have Hfin : Hid (Blk wr b1 102 16 (cntOf l)) := hfin
      have Hrg : Hid (wr.rangeAt b1 0 (row .i64 (fnRow 16 (cntOf l)))) := hfin.range 0 16 _ (by omega) (fun j _ => by rw [Nat.zero_add])
      have Hth : Hid (wr.there b0 0 (row .i64 (fnRow 16 (cntOf l))).toArray.size) := by
        have := Hc0.out.there 0 16 (by omega)
        rw [List.size_toArray, frow_len]
        exact this
      have Hsz : Hid ((Try.prog.info? 102).map (·.size) = some (row .i64 (fnRow 16 (cntOf l))).length) := by rw [frow_len]; exact sizeLen
      have Hb2 : Hid (Blk (wr.setCells b0 0 (row .i64 (fnRow 16 (cntOf l)))) b0 102 16 (cntOf l)) := (Hc0.out.setRow 0 16 (cntOf l)).congr fun j hj => by rw [if_pos (by omega)]; rfl
      have Hf2 : Hid (Fr w (wr.setCells b0 0 (row .i64 (fnRow 16 (cntOf l)))) (fun _ => False)) := Fr.setCells b0 (fun h => by have := Hw0.out; omega) _ _ Hf.out
      clear hfin hie
      go_wp2_with (first | refine wpList_load_mid rfl 102 _ rfl b1 0 rfl (row .i64 (fnRow 16 (cntOf l))) _ Hrg.out Try.underlying102 rfl Hsz.out ?_ | refine wpList_store_mid rfl 102 _ _ rfl b0 0 (row .i64 (fnRow 16 (cntOf l))).toArray rfl rfl Hth.out Hsz.out (frow_one _ _) ?_)
      refine bodyPost_ret (results_cell rfl rfl (Hb2.out.load 0 (cntOf l) (by omega) (fun j _ => by rw [Nat.zero_add]))) rfl ?_
      exact ⟨rfl, Hf2.out⟩

end Go.Proofs.Ytclfbdfgmeliaaa
