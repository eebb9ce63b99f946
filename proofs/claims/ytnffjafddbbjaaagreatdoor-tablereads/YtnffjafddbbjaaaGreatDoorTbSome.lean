/-
  The law's own text of pieces: all that is asked of it is that it is not long.
-/
import Derived.Test.YtnffjafddbbjaaaGreatDoorJ1
namespace Go.Proofs.YtnffjafddbbjaaaGreatDoor
open Go.RowKit

theorem some14_cells (w : World) : ∀ k, k < 15 → ∃ s : ByteArray, (w.alloc (.cells #[.string ⟨#[116, 97, 98, 108, 101, 32, 53, 10]⟩, .string ⟨#[48, 32, 49, 32, 48, 32, 51, 10]⟩, .string ⟨#[48, 32, 49, 32, 52, 32, 45, 10]⟩, .string ⟨#[48, 32, 49, 32, 51, 32, 45, 10]⟩, .string ⟨#[49, 32, 50, 32, 48, 32, 45, 10]⟩, .string ⟨#[48, 32, 50, 32, 53, 32, 54, 10]⟩, .string ⟨#[50, 32, 49, 32, 48, 32, 45, 10]⟩, .string ⟨#[51, 32, 52, 32, 55, 32, 55, 10]⟩, .string ⟨#[51, 32, 52, 32, 48, 55, 32, 56, 10]⟩, .string ⟨#[51, 32, 52, 32, 49, 32, 52, 54, 49, 49, 54, 56, 54, 48, 49, 56, 52, 50, 55, 51, 56, 55, 57, 48, 52, 10]⟩, .string ⟨#[52, 32, 53, 32, 48, 32, 49, 10]⟩, .string ⟨#[48, 32, 49, 32, 48, 32, 45]⟩, .string ⟨#[10]⟩, .string ⟨#[48, 32, 52, 50, 57, 52, 57, 54, 55, 50, 57, 54, 32, 48, 32, 45, 10]⟩, .string ⟨#[49, 32, 51, 32, 48, 32, 120, 10]⟩] 9)).cell? ⟨w.heap.size, k, none⟩ = some (.string s) ∧ s.size ≤ 30 := by
  intro k hk
  unfold World.cell?
  rw [heap_alloc_new]
  match k, hk with
  | 0, _ => exact ⟨⟨#[116, 97, 98, 108, 101, 32, 53, 10]⟩, rfl, by decide⟩
  | 1, _ => exact ⟨⟨#[48, 32, 49, 32, 48, 32, 51, 10]⟩, rfl, by decide⟩
  | 2, _ => exact ⟨⟨#[48, 32, 49, 32, 52, 32, 45, 10]⟩, rfl, by decide⟩
  | 3, _ => exact ⟨⟨#[48, 32, 49, 32, 51, 32, 45, 10]⟩, rfl, by decide⟩
  | 4, _ => exact ⟨⟨#[49, 32, 50, 32, 48, 32, 45, 10]⟩, rfl, by decide⟩
  | 5, _ => exact ⟨⟨#[48, 32, 50, 32, 53, 32, 54, 10]⟩, rfl, by decide⟩
  | 6, _ => exact ⟨⟨#[50, 32, 49, 32, 48, 32, 45, 10]⟩, rfl, by decide⟩
  | 7, _ => exact ⟨⟨#[51, 32, 52, 32, 55, 32, 55, 10]⟩, rfl, by decide⟩
  | 8, _ => exact ⟨⟨#[51, 32, 52, 32, 48, 55, 32, 56, 10]⟩, rfl, by decide⟩
  | 9, _ => exact ⟨⟨#[51, 32, 52, 32, 49, 32, 52, 54, 49, 49, 54, 56, 54, 48, 49, 56, 52, 50, 55, 51, 56, 55, 57, 48, 52, 10]⟩, rfl, by decide⟩
  | 10, _ => exact ⟨⟨#[52, 32, 53, 32, 48, 32, 49, 10]⟩, rfl, by decide⟩
  | 11, _ => exact ⟨⟨#[48, 32, 49, 32, 48, 32, 45]⟩, rfl, by decide⟩
  | 12, _ => exact ⟨⟨#[10]⟩, rfl, by decide⟩
  | 13, _ => exact ⟨⟨#[48, 32, 52, 50, 57, 52, 57, 54, 55, 50, 57, 54, 32, 48, 32, 45, 10]⟩, rfl, by decide⟩
  | 14, _ => exact ⟨⟨#[49, 32, 51, 32, 48, 32, 120, 10]⟩, rfl, by decide⟩

set_option maxRecDepth 4000 in
set_option maxHeartbeats 1600000 in
theorem some14_any (a0 : Option Addr) (bs : List Nat) (len cap : Nat) (w : World) (hl : bs.length = len) (hb : ∀ x ∈ bs, x < 256) (hr : Reads .u8 w (.slice a0 len cap) bs) (hlen : len ≤ 1000) : Calls Tryz.prog 17 #[.slice a0 len cap] w fun r w' => (∃ s : ByteArray, r = .returned (.string s) ∧ s.size ≤ 30 * len + 30) ∧ Fr w w' (fun _ => False) := by
  have Hbs : Hid (Reads .u8 w (.slice a0 len cap) bs) := hr
  have Hbb : Hid (∀ x ∈ bs, x < 256) := hb
  have Hl : Hid (bs.length = len) := hl
  have Hlen : Hid (len ≤ 1000) := hlen
  clear hr hb hl hlen
  go_enter Tryz.func17, Tryz.ntmps17
  go_upto_region 2 with fail
  obtain ⟨pS, hpS⟩ : ∃ p, p = w.heap.size := ⟨_, rfl⟩
  obtain ⟨w1, hw1⟩ : ∃ x, x = w.alloc (.cells #[.string ⟨#[116, 97, 98, 108, 101, 32, 53, 10]⟩, .string ⟨#[48, 32, 49, 32, 48, 32, 51, 10]⟩, .string ⟨#[48, 32, 49, 32, 52, 32, 45, 10]⟩, .string ⟨#[48, 32, 49, 32, 51, 32, 45, 10]⟩, .string ⟨#[49, 32, 50, 32, 48, 32, 45, 10]⟩, .string ⟨#[48, 32, 50, 32, 53, 32, 54, 10]⟩, .string ⟨#[50, 32, 49, 32, 48, 32, 45, 10]⟩, .string ⟨#[51, 32, 52, 32, 55, 32, 55, 10]⟩, .string ⟨#[51, 32, 52, 32, 48, 55, 32, 56, 10]⟩, .string ⟨#[51, 32, 52, 32, 49, 32, 52, 54, 49, 49, 54, 56, 54, 48, 49, 56, 52, 50, 55, 51, 56, 55, 57, 48, 52, 10]⟩, .string ⟨#[52, 32, 53, 32, 48, 32, 49, 10]⟩, .string ⟨#[48, 32, 49, 32, 48, 32, 45]⟩, .string ⟨#[10]⟩, .string ⟨#[48, 32, 52, 50, 57, 52, 57, 54, 55, 50, 57, 54, 32, 48, 32, 45, 10]⟩, .string ⟨#[49, 32, 51, 32, 48, 32, 120, 10]⟩] 9) := ⟨_, rfl⟩
  have Hc : Hid (∀ k, k < 15 → ∃ s : ByteArray, w1.cell? ⟨pS, k, none⟩ = some (.string s) ∧ s.size ≤ 30) := by show ∀ k, _; rw [hw1, hpS]; exact some14_cells w
  have Hf1 : Hid (Fr w w1 (fun _ => False)) := by show Fr _ _ _; rw [hw1]; exact (Fr.refl _ _).alloc _
  have Hp : Hid (w.heap.size ≤ pS) := by show _ ≤ _; omega
  have hc0 : w1.cell? ⟨pS, 0, none⟩ = some (.string ⟨#[116, 97, 98, 108, 101, 32, 53, 10]⟩) := by unfold World.cell?; rw [hw1, hpS, heap_alloc_new]; rfl
  rw [← hw1, ← hpS]
  clear hw1 hpS
  have Hcut : Hid (∀ wr, Fr w1 wr (fun _ => False) → ∀ i, i < len → ∃ b : Nat, b < 256 ∧ ∃ B o, a0 = some ⟨B, o, none⟩ ∧ wr.cell? ⟨B, o + i, none⟩ = some (.int .u8 (b : Int))) := fun wr hf i hlt => by
    refine ⟨bs.getD i 0, ?_, ?_⟩
    · have := Hl.out
      rw [List.getD_eq_getElem?_getD, List.getElem?_eq_getElem (by omega : i < bs.length)]
      have h2 : i < bs.length := by omega
      exact Hbb.out _ (List.getElem_mem h2)
    · obtain ⟨ao, cap, hv, hlc, hc⟩ := id Hbs.out
      cases hv
      rw [length_row] at hc
      have := Hl.out
      obtain ⟨B, o, rfl, hcell⟩ := hc (by omega)
      refine ⟨B, o, rfl, ?_⟩
      have h1 := hcell i _ (row_get .u8 bs i (by omega))
      rw [World.cell?_of_block (w := w) ((Hf1.out.none hf).block _ (World.block_lt_of_cell? _ _ h1) (fun h => h))]
      exact h1
  go_upto_region 3 with fail
  go_cut [19] from 10 to 19 (fun V z => (∃ T : Bool, V = .bool T) ∧ z = w1)
  case first =>
    by_cases h0 : 0 < len
    · obtain ⟨b, hb6, B, o, rfl, hcell⟩ := Hcut.out w1 (Fr.refl _ _) 0 h0
      rw [Nat.add_zero] at hcell
      have d1 : decide ((0 : Int) < (len : Int)) = true := decide_eq_true (by omega)
      have d1' : decide (0 < len) = true := decide_eq_true h0
      have d2 : (0 : Int) < (len : Int) := by omega
      have e5 : (b : Int).tmod 5 = ((b % 5 : Nat) : Int) := by rw [Int.tmod_eq_emod_of_nonneg (by omega)]; omega
      have e6 : IntKind.u8.wrap ((b % 5 : Nat) : Int) = ((b % 5 : Nat) : Int) := by rw [IntKind.wrap_u8]; omega
      obtain ⟨m, hm⟩ : ∃ m, m = b % 5 := ⟨_, rfl⟩
      rw [← hm] at e5 e6
      clear hm
      by_cases hm4 : m = 4
      · have d3 : ((m : Int) == 4) = true := by rw [beq_iff_eq]; omega
        go_wp2
        go_meet
        case rel => exact ⟨⟨_, rfl⟩, rfl⟩
      · have d3 : ((m : Int) == 4) = false := by rw [beq_eq_false_iff_ne]; omega
        go_wp2
        go_meet
        case rel => exact ⟨⟨_, rfl⟩, rfl⟩
    · have d1 : decide ((0 : Int) < (len : Int)) = false := decide_eq_false (by omega)
      have d1' : decide (0 < len) = false := decide_eq_false h0
      go_wp2
      go_meet
      case rel => exact ⟨⟨_, rfl⟩, rfl⟩
  case rest =>
  obtain ⟨⟨T, rfl⟩, hz⟩ := hcut
  rw [hz]
  clear hz
  clear hc0
  cases T
  all_goals go_wp2_with fail
  all_goals (
    go_loopg [4, 5] len (fun g S I wr => ∃ (i : Nat) (s : ByteArray), g = len - i ∧ i ≤ len ∧ I = .int .i64 (i : Int) ∧ S = .string s ∧ s.size ≤ 30 * i + 30 ∧ Fr w1 wr (fun _ => False))
    case atStart => exact ⟨0, _, by omega, by omega, rfl, rfl, by decide, Fr.refl _ _⟩
    case round =>
      obtain ⟨i, s, hg, hi, rfl, rfl, hs, hf⟩ := hrel
      have Hg : Hid _ := hg
      have Hf : Hid (Fr w1 wr (fun _ => False)) := hf
      clear hg hf
      by_cases hlt : i < len
      · have hin : (i : Int) < (len : Int) := by omega
        have hin' : decide (i < len) = true := decide_eq_true hlt
        obtain ⟨b, hb6, B, o, rfl, hcell⟩ := Hcut.out wr Hf.out i hlt
        obtain ⟨k, hk⟩ : ∃ k, k = b % 15 := ⟨_, rfl⟩
        have hk13 : k < 15 := by omega
        have hki : (k : Int) < 15 := by omega
        have hke : (b : Int) % 15 = (k : Int) := by omega
        have hkt : (b : Int).tmod 15 = (k : Int) := by rw [Int.tmod_eq_emod_of_nonneg (by omega)]; exact hke
        have hwb : IntKind.i64.wrap (b : Int) = (b : Int) := IntWalk.i64_in _ (by omega)
        have hwk : IntKind.i64.wrap (k : Int) = (k : Int) := IntWalk.i64_in _ (by omega)
        clear hk
        obtain ⟨t, ht, hts⟩ := Hc.out k hk13
        have hct : wr.cell? ⟨pS, k, none⟩ = some (.string t) := by
          rw [World.cell?_of_block (w := w1) (Hf.out.block _ (World.block_lt_of_cell? _ _ ht) (fun h => h))]
          exact ht
        have hl1000 := Hlen.out
        have hno : ¬ 9223372036854775807 < s.size + t.size := by omega
        have hsz : (s ++ t).size ≤ 30 * (i + 1) + 30 := by rw [ByteArray.size_append]; omega
        have Hsz : Hid _ := hsz
        clear ht hts hsz hs
        go_wp2_with fail
        go_roundg (len - (i + 1))
        case rel => exact ⟨i + 1, s ++ t, rfl, by omega, by go_num, rfl, Hsz.out, Hf.out⟩
        case measure => rw [Hg.out]; omega
      · have hin : ¬ (i : Int) < (len : Int) := by omega
        have hin' : decide (i < len) = false := decide_eq_false hlt
        have Hs : Hid (s.size ≤ 30 * len + 30) := by show _ ≤ _; omega
        go_wp2_with fail
        go_ret
        exact ⟨⟨s, rfl, Hs.out⟩, Hf1.out.none Hf.out⟩)

end Go.Proofs.YtnffjafddbbjaaaGreatDoor
