/-
  Beginnings of texts, by the library; why a text doesn't begin with a word; how many digits it begins with.
-/
import Derived.Test.YtchkojdpnbecoaaDoorQText
import Derived.Test.YtchkojdpnbecoaaDoorESkip
namespace Go.Proofs.YtchkojdpnbecoaaDoor
open Go.RowKit

set_option maxRecDepth 4000 in
set_option maxHeartbeats 800000 in
theorem slPrefix_any (s p : ByteArray) (w : World) : Calls Tryd.prog 33 #[.string s, .string p] w fun e w' => e = .returned (.bool (Lib.hasPrefix s.data.toList p.data.toList)) ∧ w' = w := by
  rw [← Lib.hasPrefix_of_take, ← Lib.size_eq, ← Lib.size_eq]
  go_enter Tryd.func33, Tryd.ntmps33
  go_wp2
  · rename_i h
    go_ret
    refine ⟨?_, rfl⟩
    show Ending.returned (Value.bool ((s.extract 0 p.size).toList == p.toList)) = _
    rw [Lib.extract_toList, Lib.toList_data]
    simp [h]
  · rename_i h
    go_ret
    refine ⟨?_, rfl⟩
    show Ending.returned (Value.bool false) = _
    simp [h]

set_option maxRecDepth 4000 in
set_option maxHeartbeats 800000 in
theorem prefix_any (s p : ByteArray) (w : World) : Calls Tryd.prog 29 #[.string s, .string p] w fun e w' => e = .returned (.bool (Lib.hasPrefix s.data.toList p.data.toList)) ∧ w' = w := by
  have h0 := slPrefix_any s p w
  generalize Lib.hasPrefix s.data.toList p.data.toList = b at h0 ⊢
  go_enter Tryd.func29, Tryd.ntmps29
  go_wp2_with fail
  refine h0.mono ?_
  rintro e w' ⟨rfl, rfl⟩
  go_wp2_with fail
  go_ret
  exact ⟨rfl, rfl⟩

set_option maxRecDepth 4000 in
set_option maxHeartbeats 800000 in
theorem differs_any (s v : ByteArray) (w : World) : Calls Tryd.prog 30 #[.string s, .string v] w fun e w' => e = .returned (.int .i64 ((if Lib.hasPrefix v.data.toList s.data.toList = true then 20 else 21 : Nat) : Int)) ∧ w' = w := by
  have hp := prefix_any v s w
  generalize Lib.hasPrefix v.data.toList s.data.toList = b at hp ⊢
  cases b
  all_goals
    rw [show ((if _ = true then 20 else 21 : Nat) : Int) = _ from by first | rw [if_pos rfl] | rw [if_neg (by decide)]]
    go_enter Tryd.func30, Tryd.ntmps30
    go_wp2_with fail
    refine hp.mono ?_
    rintro e w' ⟨rfl, rfl⟩
    go_wp2_with fail
    go_ret
    exact ⟨rfl, rfl⟩

set_option maxRecDepth 4000 in
set_option maxHeartbeats 1600000 in
theorem digits_any (s : ByteArray) (w : World) (hs : s.size ≤ 1000000000) : Calls Tryd.prog 31 #[.string s] w fun e w' => e = .returned (.int .i64 (digN s 0 s.size : Int)) ∧ Fr w w' (fun _ => False) := by
  obtain ⟨N, hN⟩ : ∃ N, N = digN s 0 s.size := ⟨_, rfl⟩
  rw [← hN]
  have HN : Hid _ := hN
  clear hN
  go_enter Tryd.func31, Tryd.ntmps31
  go_wp2_with fail
  go_loopg [3] s.size (fun g I wr => ∃ (i : Nat), g = s.size - i ∧ i ≤ s.size ∧ I = .int .i64 (i : Int) ∧ i + digN s i (s.size - i) = N ∧ Fr w wr (fun _ => False))
  case atStart => exact ⟨0, rfl, Nat.zero_le _, rfl, by rw [HN.out, Nat.zero_add]; rfl, Fr.refl _ _⟩
  case round =>
    obtain ⟨i, hg, hi, rfl, hd, hf⟩ := hrel
    have Hg : Hid _ := hg
    have Hd : Hid _ := hd
    have Hf : Hid (Fr w wr (fun _ => False)) := hf
    clear hg hd hf
    by_cases hlt : i < s.size
    · have hin : (i : Int) < (s.size : Int) := by omega
      have hin' : decide (i < s.size) = true := decide_eq_true hlt
      obtain ⟨b, hb⟩ : ∃ b, b = chAt s i := ⟨_, rfl⟩
      have hidx : ∀ z, (Instr.index 9 (.string s) (.int .i64 (i : Int))).run Tryd.prog z = .ok (.int .u8 (b : Int)) z := fun z => by rw [hb]; exact index_any s i hlt z
      have Hdd : Hid (digN s i (s.size - i) = if isDig b then digN s (i + 1) (s.size - (i + 1)) + 1 else 0) := by
        show _ = _
        obtain ⟨m, hm⟩ : ∃ m, s.size - i = m + 1 := ⟨s.size - (i + 1), by omega⟩
        rw [hm, show s.size - (i + 1) = m by omega, digN, hb]
      clear hb
      by_cases h1 : 48 ≤ b
      · have g1 : (48 : Int) ≤ (b : Int) := by omega
        have g1' : decide ((48 : Int) ≤ (b : Int)) = true := decide_eq_true g1
        by_cases h2 : b ≤ 57
        · have g2 : (b : Int) ≤ (57 : Int) := by omega
          have g2' : decide ((b : Int) ≤ (57 : Int)) = true := decide_eq_true g2
          have Hd2 : Hid (i + 1 + digN s (i + 1) (s.size - (i + 1)) = N) := by
            show _ = _
            have h3 := Hd.out
            rw [Hdd.out, if_pos (by unfold isDig; rw [decide_eq_true h1, decide_eq_true h2]; rfl)] at h3
            omega
          go_wp2_with fail
          go_roundg (s.size - (i + 1))
          case rel => exact ⟨i + 1, rfl, by omega, by go_num, Hd2.out, Hf.out⟩
          case measure => rw [Hg.out]; omega
        · have g2 : ¬ (b : Int) ≤ (57 : Int) := by omega
          have g2' : decide ((b : Int) ≤ (57 : Int)) = false := decide_eq_false g2
          have Hd2 : Hid (i = N) := by
            show _ = _
            have h3 := Hd.out
            rw [Hdd.out, if_neg (by unfold isDig; rw [decide_eq_false h2, Bool.and_false]; decide)] at h3
            omega
          clear h1 h2
          go_wp2_with fail
          go_ret
          exact ⟨by rw [Hd2.out]; rfl, Hf.out⟩
      · have g1 : ¬ (48 : Int) ≤ (b : Int) := by omega
        have g1' : decide ((48 : Int) ≤ (b : Int)) = false := decide_eq_false g1
        have Hd2 : Hid (i = N) := by
          show _ = _
          have h3 := Hd.out
          rw [Hdd.out, if_neg (by unfold isDig; rw [decide_eq_false h1, Bool.false_and]; decide)] at h3
          omega
        clear h1
        go_wp2_with fail
        go_ret
        exact ⟨by rw [Hd2.out]; rfl, Hf.out⟩
    · have hin : ¬ (i : Int) < (s.size : Int) := by omega
      have hin' : decide (i < s.size) = false := decide_eq_false hlt
      have Hd2 : Hid (i = N) := by
        show _ = _
        have h3 := Hd.out
        rw [show s.size - i = 0 by omega] at h3
        exact h3
      go_wp2_with fail
      go_ret
      exact ⟨by rw [Hd2.out]; rfl, Hf.out⟩

end Go.Proofs.YtchkojdpnbecoaaDoor
