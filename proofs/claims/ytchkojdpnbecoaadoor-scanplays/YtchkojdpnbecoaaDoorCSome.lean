/-
  The laws' own text of pieces: its length.
-/
import Derived.Test.YtchkojdpnbecoaaDoorCActs
namespace Go.Proofs.YtchkojdpnbecoaaDoor
open Go.RowKit

theorem some_cells (w : World) : ∀ k, k < 13 → ∃ s : ByteArray, (w.alloc (.cells #[.string ⟨#[48]⟩, .string ⟨#[49]⟩, .string ⟨#[57]⟩, .string ⟨#[32]⟩, .string ⟨#[10]⟩, .string ⟨#[115, 101, 101, 107]⟩, .string ⟨#[49, 50]⟩, .string ⟨#[48, 48, 55]⟩, .string ⟨#[57, 57, 57, 57, 57, 57, 57, 57, 57, 57, 57, 57, 57, 57, 57, 57, 57, 57, 57, 57, 57, 57, 57]⟩, .string ⟨#[45]⟩, .string ⟨#[49, 56, 52, 52, 54, 55, 52, 52, 48, 55, 51, 55, 48, 57, 53, 53, 49, 54, 49, 53]⟩, .string ⟨#[120]⟩, .string ⟨#[97, 32, 98]⟩] 9)).cell? ⟨w.heap.size, k, none⟩ = some (.string s) ∧ s.size ≤ 23 := by
  intro k hk
  have h := heap_alloc_new w (.cells #[.string ⟨#[48]⟩, .string ⟨#[49]⟩, .string ⟨#[57]⟩, .string ⟨#[32]⟩, .string ⟨#[10]⟩, .string ⟨#[115, 101, 101, 107]⟩, .string ⟨#[49, 50]⟩, .string ⟨#[48, 48, 55]⟩, .string ⟨#[57, 57, 57, 57, 57, 57, 57, 57, 57, 57, 57, 57, 57, 57, 57, 57, 57, 57, 57, 57, 57, 57, 57]⟩, .string ⟨#[45]⟩, .string ⟨#[49, 56, 52, 52, 54, 55, 52, 52, 48, 55, 51, 55, 48, 57, 53, 53, 49, 54, 49, 53]⟩, .string ⟨#[120]⟩, .string ⟨#[97, 32, 98]⟩] 9)
  unfold World.cell?
  rw [h]
  match k, hk with
  | 0, _ => exact ⟨⟨#[48]⟩, rfl, by decide⟩
  | 1, _ => exact ⟨⟨#[49]⟩, rfl, by decide⟩
  | 2, _ => exact ⟨⟨#[57]⟩, rfl, by decide⟩
  | 3, _ => exact ⟨⟨#[32]⟩, rfl, by decide⟩
  | 4, _ => exact ⟨⟨#[10]⟩, rfl, by decide⟩
  | 5, _ => exact ⟨⟨#[115, 101, 101, 107]⟩, rfl, by decide⟩
  | 6, _ => exact ⟨⟨#[49, 50]⟩, rfl, by decide⟩
  | 7, _ => exact ⟨⟨#[48, 48, 55]⟩, rfl, by decide⟩
  | 8, _ => exact ⟨⟨#[57, 57, 57, 57, 57, 57, 57, 57, 57, 57, 57, 57, 57, 57, 57, 57, 57, 57, 57, 57, 57, 57, 57]⟩, rfl, by decide⟩
  | 9, _ => exact ⟨⟨#[45]⟩, rfl, by decide⟩
  | 10, _ => exact ⟨⟨#[49, 56, 52, 52, 54, 55, 52, 52, 48, 55, 51, 55, 48, 57, 53, 53, 49, 54, 49, 53]⟩, rfl, by decide⟩
  | 11, _ => exact ⟨⟨#[120]⟩, rfl, by decide⟩
  | 12, _ => exact ⟨⟨#[97, 32, 98]⟩, rfl, by decide⟩

set_option maxRecDepth 4000 in
set_option maxHeartbeats 1600000 in
theorem some_any (a0 : Option Addr) (bs : List Nat) (len cap : Nat) (w : World) (hl : bs.length = len) (hb : ∀ x ∈ bs, x < 256) (hr : Reads .u8 w (.slice a0 len cap) bs) (hlen : len ≤ 1000) : Calls Tryd.prog 9 #[.slice a0 len cap] w fun r w' => (∃ s : ByteArray, r = .returned (.string s) ∧ s.size ≤ 23000) ∧ Fr w w' (fun _ => False) := by
  have Hbs : Hid (Reads .u8 w (.slice a0 len cap) bs) := hr
  have Hbb : Hid (∀ x ∈ bs, x < 256) := hb
  have Hl : Hid (bs.length = len) := hl
  clear hr hb hl
  go_enter Tryd.func9, Tryd.ntmps9
  go_wp2_with fail
  obtain ⟨pS, hpS⟩ : ∃ p, p = w.heap.size := ⟨_, rfl⟩
  obtain ⟨w1, hw1⟩ : ∃ x, x = w.alloc (.cells #[.string ⟨#[48]⟩, .string ⟨#[49]⟩, .string ⟨#[57]⟩, .string ⟨#[32]⟩, .string ⟨#[10]⟩, .string ⟨#[115, 101, 101, 107]⟩, .string ⟨#[49, 50]⟩, .string ⟨#[48, 48, 55]⟩, .string ⟨#[57, 57, 57, 57, 57, 57, 57, 57, 57, 57, 57, 57, 57, 57, 57, 57, 57, 57, 57, 57, 57, 57, 57]⟩, .string ⟨#[45]⟩, .string ⟨#[49, 56, 52, 52, 54, 55, 52, 52, 48, 55, 51, 55, 48, 57, 53, 53, 49, 54, 49, 53]⟩, .string ⟨#[120]⟩, .string ⟨#[97, 32, 98]⟩] 9) := ⟨_, rfl⟩
  have Hc : Hid (∀ k, k < 13 → ∃ s : ByteArray, w1.cell? ⟨pS, k, none⟩ = some (.string s) ∧ s.size ≤ 23) := by show ∀ k, _; rw [hw1, hpS]; exact some_cells w
  have Hf1 : Hid (Fr w w1 (fun _ => False)) := by show Fr _ _ _; rw [hw1]; exact (Fr.refl _ _).alloc _
  have Hp : Hid (w.heap.size ≤ pS) := by show _ ≤ _; omega
  rw [← hw1, ← hpS]
  clear hw1 hpS
  go_loopg [4, 5] len (fun g S I wr => ∃ (i : Nat) (s : ByteArray), g = len - i ∧ i ≤ len ∧ I = .int .i64 (i : Int) ∧ S = .string s ∧ s.size ≤ 23 * i ∧ Fr w1 wr (fun _ => False))
  case atStart => exact ⟨0, ⟨#[]⟩, by omega, by omega, rfl, rfl, Nat.zero_le _, Fr.refl _ _⟩
  case round =>
    obtain ⟨i, s, hg, hi, rfl, rfl, hs, hf⟩ := hrel
    have Hg : Hid _ := hg
    have Hf : Hid (Fr w1 wr (fun _ => False)) := hf
    clear hg hf
    by_cases hlt : i < len
    · have hin : (i : Int) < (len : Int) := by omega
      have hin' : decide (i < len) = true := decide_eq_true hlt
      obtain ⟨b, hbe⟩ : ∃ b, b = bs.getD i 0 := ⟨_, rfl⟩
      have hb6 : b < 256 := by
        have := Hl.out
        rw [hbe, List.getD_eq_getElem?_getD, List.getElem?_eq_getElem (by omega : i < bs.length)]
        exact Hbb.out _ (List.getElem_mem _)
      obtain ⟨B, o, ha0, hcell⟩ : ∃ B o, a0 = some ⟨B, o, none⟩ ∧ wr.cell? ⟨B, o + i, none⟩ = some (.int .u8 (b : Int)) := by
        obtain ⟨ao, cap, hv, hlc, hc⟩ := id Hbs.out
        cases hv
        rw [length_row] at hc
        have := Hl.out
        obtain ⟨B, o, rfl, hcell⟩ := hc (by omega)
        refine ⟨B, o, rfl, ?_⟩
        have h1 := hcell i _ (row_get .u8 bs i (by omega))
        rw [World.cell?_of_block (w := w) ((Hf1.out.none Hf.out).block _ (World.block_lt_of_cell? _ _ h1) (fun h => h))]
        rw [h1, hbe]
      subst ha0
      clear hbe
      obtain ⟨k, hk⟩ : ∃ k, k = b % 13 := ⟨_, rfl⟩
      have hk13 : k < 13 := by omega
      have hki : (k : Int) < 13 := by omega
      have hke : (b : Int) % 13 = (k : Int) := by omega
      have hkt : (b : Int).tmod 13 = (k : Int) := by rw [Int.tmod_eq_emod_of_nonneg (by omega)]; exact hke
      have hwb : IntKind.i64.wrap (b : Int) = (b : Int) := IntWalk.i64_in _ (by omega)
      have hwk : IntKind.i64.wrap (k : Int) = (k : Int) := IntWalk.i64_in _ (by omega)
      clear hk
      obtain ⟨t, ht, hts⟩ := Hc.out k hk13
      have hct : wr.cell? ⟨pS, k, none⟩ = some (.string t) := by
        rw [World.cell?_of_block (w := w1) (Hf.out.block _ (World.block_lt_of_cell? _ _ ht) (fun h => h))]
        exact ht
      have hno : ¬ 9223372036854775807 < s.size + t.size := by omega
      have hsz : (s ++ t).size ≤ 23 * (i + 1) := by rw [ByteArray.size_append]; omega
      have Hsz : Hid _ := hsz
      clear ht hts hsz hs
      go_wp2_with fail
      go_roundg (len - (i + 1))
      case rel => exact ⟨i + 1, s ++ t, rfl, by omega, by go_num, rfl, Hsz.out, Hf.out⟩
      case measure => rw [Hg.out]; omega
    · have hin : ¬ (i : Int) < (len : Int) := by omega
      have hin' : decide (i < len) = false := decide_eq_false hlt
      have Hs : Hid (s.size ≤ 23000) := by show _ ≤ _; omega
      go_wp2_with fail
      go_ret
      exact ⟨⟨s, rfl, Hs.out⟩, Hf1.out.none Hf.out⟩

end Go.Proofs.YtchkojdpnbecoaaDoor
