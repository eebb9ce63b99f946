/-
  The contracts of varint.length, varint.value and varint.Take: what each returns; memory is as it was.
-/
import Derived.Test.YtclfbdfgmeliaaaVPut
import Derived.Deep.LoopGhost
namespace Go.Proofs.Ytclfbdfgmeliaaa
open Go.RowKit

set_option maxRecDepth 4000 in
set_option maxHeartbeats 800000 in
theorem vlength_any (v : Value) (bs : List Nat) (w : World) (hr : Reads .u8 w v bs) (hbs : ∀ x ∈ bs, x < 256) (hl : bs.length ≤ 1000000000) :
    Calls Try.prog 61 #[v] w fun e w' => e = .returned (.tuple #[.int .i64 ((lenFrom 0 bs).1 : Int), .int .i64 ((lenFrom 0 bs).2 : Int)]) ∧ w' = w := by
  obtain ⟨ao, cap, rfl, hlc, hc⟩ := hr
  rw [length_row] at hlc hc ⊢
  obtain ⟨n, hnn⟩ : ∃ n, n = bs.length := ⟨_, rfl⟩
  rw [← hnn] at hlc hc hl ⊢
  have Hn : Hid _ := hnn
  have Hbs : Hid _ := hbs
  have Hc : Hid _ := hc
  clear hnn hbs hc
  go_enter Try.func61, Try.ntmps61
  go_wp2_with fail
  go_loopg [8] n (fun g I wr => ∃ i : Nat, i ≤ n ∧ g = n - i ∧ i ≤ 9 ∧ I = .int .i64 (i : Int) ∧ lenFrom i (bs.drop i) = lenFrom 0 bs ∧ wr = w)
  case atStart => exact ⟨0, by omega, by omega, by omega, rfl, rfl, rfl⟩
  case round =>
    obtain ⟨i, hi, hgk, hi9, rfl, hst, rfl⟩ := hrel
    have Hgk : Hid _ := hgk
    by_cases hlt : i < n
    · obtain ⟨b, off, rfl, hcell⟩ := Hc.out (by omega)
      have cg := hcell i _ (row_get .u8 bs i (by rw [← Hn.out]; exact hlt))
      have hx := getD_lt (by decide) Hbs.out i
      rw [drop_step (by rw [← Hn.out]; exact hlt), lenFrom] at hst
      generalize bs.getD i 0 = x at cg hx hst
      have Hst : Hid _ := hst
      clear hst hgk hcell
      by_cases h1 : i = 9 ∧ 1 < x
      · have Hs : Hid (lenFrom 0 bs = (0, 21)) := by rw [← Hst.out, if_pos h1]; exact rfl
        obtain ⟨h1, h2⟩ := h1
        subst h1
        go_wp2
        go_ret2
        exact ⟨by rw [Hs.out]; rfl, rfl⟩
      · have Hs1 : Hid (lenFrom 0 bs = if 128 ≤ x then lenFrom (i + 1) (bs.drop (i + 1)) else if x = 0 ∧ 0 < i then (0, 21) else (i + 1, 0)) := by
          show _ = _
          rw [← Hst.out, if_neg h1]
        clear Hst
        have hsplit : (i = 9 ∧ x ≤ 1) ∨ (i < 9 ∧ ((i : Int) == 9) = false ∧ (i == 9) = false) := by
          by_cases h9 : i = 9
          · exact .inl ⟨h9, by omega⟩
          · exact .inr ⟨by omega, by simp; omega, by simp; omega⟩
        clear h1
        rcases hsplit with ⟨rfl, hx1⟩ | ⟨h9, hd1, hd2⟩
        · have Hs : Hid (lenFrom 0 bs = if x = 0 then (0, 21) else (10, 0)) := by show _ = _; rw [Hs1.out, if_neg (by omega)]; simp
          clear Hs1
          rcases (show x = 0 ∨ x = 1 by omega) with rfl | rfl
          · go_wp2
            go_ret2
            exact ⟨by rw [Hs.out]; rfl, rfl⟩
          · go_wp2
            go_ret2
            exact ⟨by rw [Hs.out]; rfl, rfl⟩
        · by_cases hbig : 128 ≤ x
          · have Hs : Hid (lenFrom (i + 1) (bs.drop (i + 1)) = lenFrom 0 bs) := by show _ = _; rw [Hs1.out, if_pos hbig]
            clear Hs1
            go_wp2
            go_roundg (n - (i + 1))
            case rel => exact ⟨i + 1, by omega, rfl, by omega, by go_num, Hs.out, rfl⟩
            case measure => rw [Hgk.out]; omega
          · have Hs : Hid (lenFrom 0 bs = if x = 0 ∧ 0 < i then (0, 21) else (i + 1, 0)) := by show _ = _; rw [Hs1.out, if_neg hbig]
            clear Hs1
            by_cases hx0 : x = 0
            · subst hx0
              by_cases hi0 : 0 < i
              · go_wp2
                go_ret2
                exact ⟨by rw [Hs.out, if_pos (by simp [hi0])]; rfl, rfl⟩
              · have Hs2 : Hid (lenFrom 0 bs = (i + 1, 0)) := by show _ = _; rw [Hs.out, if_neg (by simp [hi0])]
                have hd5 : decide (0 < (i : Int)) = false := by simp; omega
                have hd6 : decide (0 < i) = false := by simp; omega
                go_wp2
                go_ret2
                exact ⟨by rw [Hs2.out]; rfl, rfl⟩
            · have hd3 : ((x : Int) == 0) = false := by simp; omega
              have hd4 : (x == 0) = false := by simp; omega
              go_wp2
              go_ret2
              exact ⟨by rw [Hs.out, if_neg (fun h => hx0 h.1)]; rfl, rfl⟩
    · have Hs : Hid (lenFrom 0 bs = (0, 20)) := by
        show _ = _
        rw [← hst, List.drop_eq_nil_of_le (by rw [← Hn.out]; omega)]
        rfl
      clear hst hgk
      go_wp2
      go_ret2
      exact ⟨by rw [Hs.out]; rfl, rfl⟩

theorem val_step (bs : List Nat) (i x : Nat) (hx : x = bs.getD i 0) (hx2 : x < 256) (hi : i ≤ 9) (h9 : i = 9 → x ≤ 1) :
    bits .or .u64 (val bs i : Int) (IntKind.u64.wrap (IntKind.u64.wrap (bits .and .u8 (x : Int) 127) * 2 ^ (7 * i))) = (val bs (i + 1) : Int) := by
  have hp : (2 : Nat) ^ (7 * i) ≤ 9223372036854775808 := Nat.le_trans (Nat.pow_le_pow_right (by omega) (show 7 * i ≤ 63 by omega)) (by decide)
  have hd : x % 128 * 2 ^ (7 * i) < 18446744073709551616 := by
    by_cases e : i = 9
    · have := h9 e
      have h2 : x % 128 * 2 ^ (7 * i) ≤ 1 * 9223372036854775808 := Nat.mul_le_mul (by omega) hp
      omega
    · have hp2 : (2 : Nat) ^ (7 * i) ≤ 72057594037927936 := Nat.le_trans (Nat.pow_le_pow_right (by omega) (show 7 * i ≤ 56 by omega)) (by decide)
      have h2 : x % 128 * 2 ^ (7 * i) ≤ 127 * 72057594037927936 := Nat.mul_le_mul (by omega) hp2
      omega
  have hv : val bs i < 18446744073709551616 := by have := val_lt bs i; omega
  rw [show (127 : Int) = ((127 : Nat) : Int) from rfl, u8_and_nat _ _ hx2 (by omega), nat_mask7, IntWalk.u64_in ((x % 128 : Nat) : Int) (by omega)]
  have e1 : ((x % 128 : Nat) : Int) * 2 ^ (7 * i) = ((x % 128 * 2 ^ (7 * i) : Nat) : Int) := by simp
  rw [e1, IntWalk.u64_in _ (by omega), u64_or_nat _ _ hv hd, hx, val_or]

set_option maxRecDepth 4000 in
set_option maxHeartbeats 800000 in
theorem vvalue_any (v : Value) (bs : List Nat) (w : World) (hr : Reads .u8 w v bs) (hbs : ∀ x ∈ bs, x < 256) (hl : bs.length ≤ 10) (h9 : bs.getD 9 0 ≤ 1) :
    Calls Try.prog 62 #[v] w fun e w' => e = .returned (.int .u64 (val bs bs.length : Int)) ∧ w' = w := by
  obtain ⟨ao, cap, rfl, hlc, hc⟩ := hr
  rw [length_row] at hlc hc ⊢
  obtain ⟨n, hnn⟩ : ∃ n, n = bs.length := ⟨_, rfl⟩
  rw [← hnn] at hlc hc hl ⊢
  have Hn : Hid _ := hnn
  have Hbs : Hid _ := hbs
  have Hc : Hid _ := hc
  have H9 : Hid _ := h9
  clear hnn hbs hc h9
  go_enter Try.func62, Try.ntmps62
  go_wp2_with fail
  go_loopg [3, 8] n (fun g V I wr => ∃ i : Nat, i ≤ n ∧ g = n - i ∧ I = .int .i64 (i : Int) ∧ V = .int .u64 (val bs i : Int) ∧ wr = w)
  case atStart => exact ⟨0, by omega, by omega, rfl, rfl, rfl⟩
  case round =>
    obtain ⟨i, hi, hgk, rfl, rfl, rfl⟩ := hrel
    have Hgk : Hid _ := hgk
    clear hgk
    by_cases hlt : i < n
    · obtain ⟨b, off, rfl, hcell⟩ := Hc.out (by omega)
      have cg := hcell i _ (row_get .u8 bs i (by rw [← Hn.out]; exact hlt))
      have hx := getD_lt (by decide) Hbs.out i
      obtain ⟨x, hxx⟩ : ∃ x, x = bs.getD i 0 := ⟨_, rfl⟩
      rw [← hxx] at cg hx
      have Hx : Hid _ := hxx
      clear hcell hxx
      go_wp2
      go_roundg (n - (i + 1))
      case rel =>
        refine ⟨i + 1, by omega, rfl, by go_num, ?_, rfl⟩
        have h9 : i = 9 → x ≤ 1 := by intro e; subst e; have := H9.out; rw [← Hx.out] at this; exact this
        exact congrArg (Value.int .u64) (val_step bs i x Hx.out hx (by omega) h9)
      case measure => rw [Hgk.out]; omega
    · have Hin : Hid (i = n) := by show i = n; omega
      go_wp2
      go_ret
      exact ⟨by rw [← Hin.out]; rfl, rfl⟩

set_option maxRecDepth 4000 in
set_option maxHeartbeats 800000 in
theorem vtake_any (v : Value) (bs : List Nat) (m : Nat) (w : World) (hr : Reads .u8 w v bs) (hbs : ∀ x ∈ bs, x < 256) (hl : bs.length ≤ 1000000000) (_hm : m < 18446744073709551616) :
    Calls Try.prog 42 #[v, .int .u64 (m : Int)] w fun e w' => e = .returned (.tuple #[.int .u64 ((took bs m).1 : Int), .int .i64 ((took bs m).2.1 : Int), .int .i64 ((took bs m).2.2 : Int)]) ∧ w' = w := by
  have Hr : Hid (Reads .u8 w v bs) := hr
  obtain ⟨ao, cap, rfl, hlc, -⟩ := hr
  rw [length_row] at Hr hlc ⊢
  obtain ⟨p, hp⟩ : ∃ p, p = lenFrom 0 bs := ⟨_, rfl⟩
  obtain ⟨n, er⟩ := p
  have hok := lenFrom_ok bs 0 (by omega)
  rw [← hp] at hok
  have Hp : Hid _ := hp
  have Hbs : Hid _ := hbs
  have Hok : Hid (er = 0 → 0 < n ∧ n ≤ bs.length ∧ n ≤ 10 ∧ (bs.length ≤ 9 ∨ n ≤ 9 ∨ bs.getD 9 0 ≤ 1)) := by
    intro h0
    obtain ⟨a, b, c, d⟩ := hok h0
    exact ⟨a, by simpa using b, c, by simpa using d⟩
  have Ht : Hid (took bs m = if er ≠ 0 then (0, 0, er) else if m < val bs n then (0, 0, 22) else (val bs n, n, 0)) := by
    show _ = _
    unfold took
    rw [← hp]
  clear hok hp hbs
  go_enter Try.func42, Try.ntmps42
  go_wp2_with fail
  refine (vlength_any _ bs w Hr.out Hbs.out hl).mono ?_
  rw [← Hp.out]
  rintro e w' ⟨rfl, rfl⟩
  by_cases he : er = 0
  · subst he
    obtain ⟨h1, h2, h3, h4⟩ := Hok.out rfl
    have ht : bs.take n ++ bs.drop n = bs := List.take_append_drop n bs
    have hv : val (bs.take n) (bs.take n).length = val bs n := by
      rw [List.length_take, Nat.min_eq_left h2]
      refine val_congr _ _ _ (fun j hj => ?_)
      rw [List.getD_eq_getElem?_getD, List.getD_eq_getElem?_getD, List.getElem?_take, if_pos hj]
    have h9 : (bs.take n).getD 9 0 ≤ 1 := by
      rw [List.getD_eq_getElem?_getD, List.getElem?_take]
      split
      · rename_i hn9
        rcases h4 with h4 | h4 | h4
        · omega
        · omega
        · rw [List.getD_eq_getElem?_getD] at h4; exact h4
      · simp
    clear ht h4
    have Hv : Hid _ := hv
    clear hv
    have hrt : Reads .u8 w' (.slice ao n cap) (bs.take n) := by
      have := Holds.take Hr.out n h2 cap (by omega)
      rwa [← row_take] at this
    have H9 : Hid _ := h9
    clear h9
    go_wp2_with fail
    refine (vvalue_any _ (bs.take n) w' hrt (mem_take_lt Hbs.out) (by rw [List.length_take]; omega) H9.out).mono ?_
    rw [Hv.out]
    rintro e w'' ⟨rfl, rfl⟩
    by_cases hm : m < val bs n
    · have Ht2 : Hid (took bs m = (0, 0, 22)) := by show _ = _; rw [Ht.out, if_neg (by simp), if_pos hm]
      generalize val bs n = V at *
      go_wp2
      go_ret3
      exact ⟨by rw [Ht2.out]; rfl, rfl⟩
    · have Ht2 : Hid (took bs m = (val bs n, n, 0)) := by show _ = _; rw [Ht.out, if_neg (by simp), if_neg hm]
      generalize val bs n = V at *
      go_wp2
      go_ret3
      exact ⟨by rw [Ht2.out]; rfl, rfl⟩
  · have Ht2 : Hid (took bs m = (0, 0, er)) := by show _ = _; rw [Ht.out, if_pos he]
    have hd : ((er : Int) == 0) = false := by simp; omega
    have hd2 : (er == 0) = false := by simp; omega
    go_wp2
    go_ret3
    exact ⟨by rw [Ht2.out]; rfl, rfl⟩

end Go.Proofs.Ytclfbdfgmeliaaa
