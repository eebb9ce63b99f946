/-
  What the statements ask of huff's functions, as one condition; and the laws' own first test under it.
-/
import Derived.Test.YtclfbdfgmeliaaaHRRead
import Derived.Lib.SlBytesConst
namespace Go.Proofs.Ytclfbdfgmeliaaa
open Go.RowKit

structure HC : Prop where
  cnt : ∀ (v : Value) (bs : List Nat) (w : World), Reads .u8 w v bs → (∀ x ∈ bs, x < 256) → bs.length ≤ 100000 →
    Calls Try.prog 13 #[v] w fun e w' => ∃ sv, e = .returned sv ∧ Reads .i64 w' sv (cntB bs) ∧ Fr w w' (fun _ => False)
  put : ∀ (v : Value) (bs : List Nat) (w : World), Reads .u8 w v bs → (∀ x ∈ bs, x < 256) → bs.length ≤ 100000 →
    Calls Try.prog 11 #[v] w fun e w' => ∃ sv, e = .returned sv ∧ Reads .u8 w' sv (hput bs) ∧ Fr w w' (fun _ => False)
  read : ∀ (v : Value) (bs : List Nat) (w : World), Reads .u8 w v bs → (∀ x ∈ bs, x < 256) → bs.length ≤ 100000 →
    Calls Try.prog 15 #[v] w fun e w' => Fr w w' (fun _ => False) ∧ ((hread bs = none ∧ e = .returned (.tuple #[.slice none 0 0, .int .i64 21])) ∨
      ∃ x, hread bs = some x ∧ ∃ sv, e = .returned (.tuple #[sv, .int .i64 0]) ∧ Reads .u8 w' sv x)

theorem known_len : (hput [97, 98, 97, 97]).length = 7 := by decide +kernel
theorem known_form : hread [1] = none := by decide +kernel
theorem known_nil : strOf (hput []) = ⟨#[0]⟩ := by decide +kernel
theorem known_str : strOf [97, 98, 97, 97] = ⟨#[97, 98, 97, 97]⟩ := by decide +kernel
theorem known_a : cnt (cntB [97, 98, 97, 97]) 97 = 3 := by decide +kernel

theorem reads_const (w : World) (bs : List Nat) (fr : Nat × Nat) : Reads .u8 (w.alloc (.cells (row .u8 bs).toArray 5 fr)) (.slice (some ⟨w.heap.size, 0, none⟩) bs.length bs.length) bs := by
  refine ⟨some ⟨w.heap.size, 0, none⟩, bs.length, by rw [length_row], by rw [length_row]; exact Nat.le_refl _, fun _ => ⟨w.heap.size, 0, rfl, fun j u hj => ?_⟩⟩
  rw [World.cell?_alloc_mark, Nat.zero_add]
  simpa using hj
theorem conv_const (x : World) (C : Array Value) (n c : Nat) : (convert 22 22 (.slice (some ⟨x.heap.size, 0, none⟩) n c)).run Try.prog (x.alloc (.cells C 5)) = .ok (.slice (some ⟨x.heap.size, 0, none⟩) n c) (x.alloc (.cells C 5 (C.size, C.size + 1))) :=
  Go.Lib.run_convert_bytes_const x 22 5 C n c Try.underlying22 Try.underlying5
theorem blit (w : World) (bs : List Nat) (C : Array Value) (n : Nat) (hC : C = (row .u8 bs).toArray) (hn : n = bs.length) (h : bs.length ≤ 1000) : Reads .u8 (w.alloc (.cells C 5)) (.slice (some ⟨w.heap.size, 0, none⟩) n n) bs := by
  subst hC hn
  have := holds_lit w 5 (row .u8 bs) (by rw [length_row]; exact h)
  rwa [length_row] at this

set_option maxRecDepth 4000 in
set_option maxHeartbeats 1600000 in
theorem known_any (M : HC) (w : World) : Calls Try.prog 8 #[] w fun e w' => e = .returned (.bool true) ∧ Fr w w' (fun _ => False) := by
  have hcv := conv_const
  go_enter Try.func8, Try.ntmps8
  go_wp2_with fail
  refine (M.put _ [97, 98, 97, 97] _ (reads_const w [97, 98, 97, 97] _) (by decide) (by decide)).mono ?_
  rintro e w1 ⟨s1, rfl, hr1, hf1⟩
  have Hf1 : Hid (Fr w w1 (fun _ => False)) := ((Fr.refl w (fun _ => False)).alloc _).none hf1
  have Hr1 : Hid (Reads .u8 w1 s1 (hput [97, 98, 97, 97])) := hr1
  clear hr1 hf1
  have hb1 := hput_bytes [97, 98, 97, 97]
  have hh1 : hread (hput [97, 98, 97, 97]) = some [97, 98, 97, 97] := hread_put _ (by decide) (by decide)
  have hl1 := known_len
  obtain ⟨P1, hP1⟩ : ∃ P, P = hput [97, 98, 97, 97] := ⟨_, rfl⟩
  rw [← hP1] at Hr1 hb1 hh1 hl1
  have Hh1 : Hid _ := hh1
  have Hb1 : Hid (∀ x ∈ P1, x < 256) := hb1
  have Hl1 : Hid (P1.length = 7) := hl1
  obtain ⟨a1, c1, hs1, -, -⟩ := id Hr1.out
  rw [length_row, hl1] at hs1
  subst hs1
  clear hP1 hh1 hb1 hl1
  go_wp2_with fail
  refine (M.read _ P1 w1 Hr1.out Hb1.out (by rw [Hl1.out]; decide)).mono ?_
  rw [Hh1.out]
  rintro e w2 ⟨hf2, ⟨h, -⟩ | ⟨x, hx, s2, rfl, hr2⟩⟩
  · cases h
  · simp only [Option.some.injEq] at hx
    rw [← hx] at hr2
    have Hf2 : Hid (Fr w w2 (fun _ => False)) := Hf1.out.none hf2
    have Hr2 : Hid (Reads .u8 w2 s2 [97, 98, 97, 97]) := hr2
    clear hx hr2 hf2 Hf1 Hr1
    go_wp2_with fail
    refine (M.read _ [1] _ (blit w2 _ _ _ rfl rfl (by decide)) (by decide) (by decide)).mono ?_
    rw [known_form]
    rintro e w3 ⟨hf3, ⟨-, rfl⟩ | ⟨y, hy, -⟩⟩
    · have hf23 : Fr w2 w3 (fun _ => False) := ((Fr.refl w2 (fun _ => False)).alloc _).none hf3
      have Hf3 : Hid (Fr w w3 (fun _ => False)) := Hf2.out.none hf23
      have Hr3 : Hid (Reads .u8 w3 s2 [97, 98, 97, 97]) := Hr2.out.keep hf23
      clear hf3 hf23 Hf2 Hr2
      go_wp2_with fail
      refine (M.cnt _ [97, 98, 97, 97] _ (reads_const w3 [97, 98, 97, 97] _) (by decide) (by decide)).mono ?_
      rintro e w4 ⟨s4, rfl, hr4, hf4⟩
      have hf34 : Fr w3 w4 (fun _ => False) := ((Fr.refl w3 (fun _ => False)).alloc _).none hf4
      have Hf4 : Hid (Fr w w4 (fun _ => False)) := Hf3.out.none hf34
      have Hr4 : Hid (Reads .u8 w4 s2 [97, 98, 97, 97]) := Hr3.out.keep hf34
      have Hc4 : Hid (Reads .i64 w4 s4 (cntB [97, 98, 97, 97])) := hr4
      obtain ⟨a4, c4, hs4, -, -⟩ := id hr4
      rw [length_row, cntB_len] at hs4
      subst hs4
      clear hr4 hf4 hf34 Hf3 Hr3
      go_wp2_with fail
      refine (M.put _ [] _ (Own.nil w4).reads (by simp) (by decide)).mono ?_
      rintro e w5 ⟨s5, rfl, hr5, hf5⟩
      have hc5 := conv_reads hr5
      rw [known_nil] at hc5
      have hc2 := conv_reads (Hr4.out.keep hf5)
      rw [known_str] at hc2
      obtain ⟨b4, o4, rfl, -, k4⟩ := (Hc4.out.keep hf5).at (cntB_len _).symm 97 (by decide)
      rw [show (cntB [97, 98, 97, 97]).getD 97 0 = 3 from known_a] at k4
      have Hf5 : Hid (Fr w w5 (fun _ => False)) := Hf4.out.none hf5
      clear hr5 hf5 Hf4 Hr4 Hc4
      go_wp2
      go_ret
      exact ⟨rfl, Hf5.out⟩
    · cases hy

end Go.Proofs.Ytclfbdfgmeliaaa
