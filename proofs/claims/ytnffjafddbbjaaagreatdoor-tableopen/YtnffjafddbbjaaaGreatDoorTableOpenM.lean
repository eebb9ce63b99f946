/-
  The walk of the law TableOpen, under the condition that table's functions answer as their contracts say.
-/
import Derived.Test.YtnffjafddbbjaaaGreatDoorRows
import Derived.Test.YtnffjafddbbjaaaGreatDoorJ3
import Derived.Test.YtnffjafddbbjaaaGreatDoorTHelp
namespace Go.Proofs.YtnffjafddbbjaaaGreatDoor
theorem open_str (a c : Nat) (t : Int) : ((⟨#[116, 97, 98, 108, 101, 32, 53, 10, 49, 32, 51, 32]⟩ : ByteArray)) ++ strOf (decL a) ++ ⟨#[32]⟩ ++ strOf (toB t) ++ ⟨#[10, 49, 32, 51, 32]⟩ ++ strOf (decL c) ++ ⟨#[32, 45, 10]⟩ = strOf (tabL 5 [((1, 3), (a : Int), t), ((1, 3), (c : Int), -1)]) := by
  have e1 : (⟨#[116, 97, 98, 108, 101, 32, 53, 10, 49, 32, 51, 32]⟩ : ByteArray) = strOf [116, 97, 98, 108, 101, 32, 53, 10, 49, 32, 51, 32] := rfl
  have e2 : (⟨#[32]⟩ : ByteArray) = strOf [32] := rfl
  have e3 : (⟨#[10, 49, 32, 51, 32]⟩ : ByteArray) = strOf [10, 49, 32, 51, 32] := rfl
  have e4 : (⟨#[32, 45, 10]⟩ : ByteArray) = strOf [32, 45, 10] := rfl
  rw [e1, e2, e3, e4]
  simp only [strOf_append]
  congr 1
  simp [tabL, tabW, headToks, toksL, Tok.bytes, lineT_is, toB_no, decL_small]
theorem open_in (a c : Nat) (t : Int) (ha : a < 256) (hc : c < 256) (h1 : -1 ≤ t) (h2 : t < 256) : ∀ x ∈ [(((1, 3), (a : Int), t) : Lf), ((1, 3), (c : Int), -1)], LfIn x := fun x hx => by
  simp only [List.mem_cons, List.not_mem_nil, or_false] at hx
  rcases hx with rfl | rfl
  · exact ⟨by show 1 ≤ 4294967295; decide, by show 3 ≤ 4294967295; decide, by dsimp only; omega, by dsimp only; omega, by dsimp only; omega, by dsimp only; omega⟩
  · exact ⟨by show 1 ≤ 4294967295; decide, by show 3 ≤ 4294967295; decide, by dsimp only; omega, by dsimp only; omega, by dsimp only; omega, by dsimp only; omega⟩
end Go.Proofs.YtnffjafddbbjaaaGreatDoor
namespace Go.Proofs.YtnffjafddbbjaaaGreatDoor.tableOpen
open Go.ChangeShapes Go.WideShapes Go.ChangeAt Go.RowKit

set_option maxRecDepth 4000 in
set_option maxHeartbeats 3200000 in
theorem walkM {K : World → Prop} (M : TI K) (a0 a1 a2 : Int) (a3 : Bool) (w : World) (w0 : (Lit.int .u8 a0).wf = true) (w1 : (Lit.int .u8 a1).wf = true) (w2 : (Lit.int .u8 a2).wf = true) (hK : K w) :
    Calls Tryz.prog 7 #[.int .u8 a0, .int .u8 a1, .int .u8 a2, .bool a3] w fun e w' => e = .returned (.bool true) ∧ Below w.heap.size w w' := by
  have HK : Hid (K w) := hK
  clear hK
  obtain ⟨a, rfl, ha⟩ := eu8_nat w0
  obtain ⟨b, rfl, hb⟩ := eu8_nat w1
  obtain ⟨c, rfl, hc⟩ := eu8_nat w2
  clear w0 w1 w2
  have ya : IntKind.u64.wrap (a : Int) = (a : Int) := by rw [IntKind.wrap_u64]; omega
  have yb : IntKind.u64.wrap (b : Int) = (b : Int) := by rw [IntKind.wrap_u64]; omega
  have yc : IntKind.u64.wrap (c : Int) = (c : Int) := by rw [IntKind.wrap_u64]; omega
  have zb : IntKind.i64.wrap (b : Int) = (b : Int) := by rw [IntKind.wrap_i64]; omega
  have dA := fun z => refDecimal_any a z (by omega)
  have dB := fun z => refDecimal_any b z (by omega)
  have dC := fun z => refDecimal_any c z (by omega)
  have lA : (strOf (decL a)).size ≤ 20 := by rw [strOf_length]; exact decL_len20 a (by omega)
  have lB : (strOf (decL b)).size ≤ 20 := by rw [strOf_length]; exact decL_len20 b (by omega)
  have lC : (strOf (decL c)).size ≤ 20 := by rw [strOf_length]; exact decL_len20 c (by omega)
  obtain ⟨Da, hDa⟩ : ∃ D, D = strOf (decL a) := ⟨_, rfl⟩
  obtain ⟨Db, hDb⟩ : ∃ D, D = strOf (decL b) := ⟨_, rfl⟩
  obtain ⟨Dc, hDc⟩ : ∃ D, D = strOf (decL c) := ⟨_, rfl⟩
  rw [← hDa] at dA lA
  rw [← hDb] at dB lB
  rw [← hDc] at dC lC
  have Ha : Hid (a < 256) := ha
  have Hb : Hid (b < 256) := hb
  have Hc : Hid (c < 256) := hc
  cases a3 with
  | true =>
    obtain ⟨TT, hTT⟩ : ∃ T, T = strOf (tabL 5 [((1, 3), (a : Int), -1), ((1, 3), (c : Int), -1)]) := ⟨_, rfl⟩
    have hT := open_str a c (-1)
    rw [← hDa, ← hDc, toB_no (show ¬ (0 : Int) ≤ -1 by decide), show strOf [45] = ⟨#[45]⟩ from rfl, ← hTT] at hT
    have HTT : Hid _ := hTT
    have HT : Hid (⟨#[116, 97, 98, 108, 101, 32, 53, 10, 49, 32, 51, 32]⟩ ++ Da ++ ⟨#[32]⟩ ++ ⟨#[45]⟩ ++ ⟨#[10, 49, 32, 51, 32]⟩ ++ Dc ++ ⟨#[32, 45, 10]⟩ = TT) := hT
    have s0 : ¬ 9223372036854775807 < 12 + Da.size := by omega
    have s1 : ¬ 9223372036854775807 < 12 + Da.size + 1 := by omega
    have s2 : ¬ 9223372036854775807 < 12 + Da.size + 1 + 1 := by omega
    have s3 : ¬ 9223372036854775807 < 12 + Da.size + 1 + 1 + 5 := by omega
    have s4 : ¬ 9223372036854775807 < 12 + Da.size + 1 + 1 + 5 + Dc.size := by omega
    have s5 : ¬ 9223372036854775807 < 12 + Da.size + 1 + 1 + 5 + Dc.size + 3 := by omega
    have HTz : Hid (TT.size ≤ 1000) := by
      show _ ≤ _
      rw [← hT]
      simp only [ByteArray.size_append]
      show 12 + Da.size + 1 + 1 + 5 + Dc.size + 3 ≤ 1000
      omega
    clear hDa hDb hDc hT hTT lA lB lC dB yb zb ha hb hc
    go_enter Tryz.func7, Tryz.ntmps7
    go_wp2_with fail
    refine (tknown_any M w HK.out).mono ?_
    rintro e x2 ⟨rfl, hf1⟩
    have Hf2 : Hid (Fr w x2 (fun _ => False)) := hf1
    clear hf1
    go_wp2_with fail
    refine (dA x2).mono ?_
    rintro r x3 ⟨rfl, g⟩
    have Hf3 : Hid (Fr w x3 (fun _ => False)) := Hf2.out.none g
    clear g
    go_wp2_with fail
    refine (dC x3).mono ?_
    rintro r x4 ⟨rfl, g⟩
    have Hf4 : Hid (Fr w x4 (fun _ => False)) := Hf3.out.none g
    clear g dA dC
    have hTb := HT.out
    go_upto_region 7 with fail
    try rw [hTb]
    clear hTb
    have hpp := M.parse TT x4 (by have := HTz.out; omega) (M.keep HK.out Hf4.out)
    have hres : parseTab TT = ⟨0, [], 3, 1, 23⟩ := by
      have h1 := open_fine (n := 5) (e := (1, 3)) (by decide) (by decide) (a := a) (t := -1) (by have := Ha.out; omega) (by decide) (by omega)
      have h2 := open_two (n := 5) (e := (1, 3)) (by decide) (by decide) (a := a) (c := c) (t := -1) (u := -1) (by have := Ha.out; omega) (by have := Hc.out; omega) (by decide) (by decide) (by omega) (by omega) (.inl (by decide))
      have h3 := tparse_bad_at (s := TT) (n := 5) (ls := [((1, 3), (a : Int), -1), ((1, 3), (c : Int), -1)]) (i := 1) (y := ((1, 3), (c : Int), -1)) (by decide) (open_in a c (-1) Ha.out Hc.out (by decide) (by decide)) rfl h1 (by
        show (lifeCheckF 5 [((1, 3), (a : Int), -1), ((1, 3), (c : Int), -1)]).2 ≠ 0
        rw [h2]; decide) HTT.out
      rw [h3]
      show (⟨0, [], 1 + 2, 1, (lifeCheckF 5 [((1, 3), (a : Int), -1), ((1, 3), (c : Int), -1)]).2⟩ : LogR) = _
      rw [h2]
    rw [hres] at hpp
    unfold histV placeR at hpp
    dsimp only at hpp
    clear hres
    go_wp2_with fail
    refine hpp.mono ?_
    clear hpp
    rintro r z1 ⟨⟨v5, rfl, hr5⟩, g⟩
    obtain ⟨a5, c5, rfl, -⟩ : ∃ a c, v5 = .slice a 0 c ∧ 0 ≤ c := hr5.form
    have Zf : Hid (Fr w z1 (fun _ => False)) := Hf4.out.none g
    clear g hr5
    go_upto_region 8 with fail
    obtain ⟨p1, hp1⟩ : ∃ p, p = z1.heap.size := ⟨_, rfl⟩
    obtain ⟨p2, hp2⟩ : ∃ p, p = p1 + 1 := ⟨_, rfl⟩
    obtain ⟨z2, hz2⟩ : ∃ x, x = (z1.alloc (.cells #[.int .u64 0, .slice a5 0 c5] 25)).alloc (.cells #[.int .i64 3, .int .i64 1] 38) := ⟨_, rfl⟩
    rw [← hz2, ← hp1, ← hp2]
    have Q1 : z2.heap[p1]? = some (.cells #[.int .u64 0, .slice a5 0 c5] 25 (0, 0)) := by rw [hz2, hp1]; exact blk_alloc _ (heap_alloc_new _ _)
    have Q2 : z2.heap[p2]? = some (.cells #[.int .i64 3, .int .i64 1] 38 (0, 0)) := by
      have h0 := heap_alloc_new (z1.alloc (.cells #[.int .u64 0, .slice a5 0 c5] 25)) (.cells #[.int .i64 3, .int .i64 1] 38)
      rw [hz2, hp2, hp1]
      simpa using h0
    have G12 : Hid (Fr z1 z2 (fun _ => False)) := by show Fr _ _ _; rw [hz2]; exact ((Fr.refl _ _).alloc _).alloc _
    have Hx0 : Hid (Fr w z2 (fun _ => False)) := Zf.out.none G12.out
    obtain ⟨ka, kb⟩ : z2.cell? ⟨p1, 0, none⟩ = some ((.int .u64 0)) ∧ z2.cell? ⟨p1, 1, none⟩ = some (.slice a5 0 c5) := ⟨two_cell0 Q1, two_cell1 Q1⟩
    obtain ⟨kc, kd⟩ : z2.cell? ⟨p2, 0, none⟩ = some (.int .i64 3) ∧ z2.cell? ⟨p2, 1, none⟩ = some (.int .i64 1) := ⟨two_cell0 Q2, two_cell1 Q2⟩
    clear hz2 hp1 hp2 Q1 Q2
    go_wp2
    go_ret
    exact ⟨rfl, ebelow Hx0.out⟩
  | false =>
    obtain ⟨TT, hTT⟩ : ∃ T, T = strOf (tabL 5 [((1, 3), (a : Int), (b : Int)), ((1, 3), (c : Int), -1)]) := ⟨_, rfl⟩
    have hT := open_str a c ((b : Int))
    rw [← hDa, ← hDc, toB_yes (show (0 : Int) ≤ (b : Int) by omega), Int.toNat_natCast, ← hDb, ← hTT] at hT
    have HTT : Hid _ := hTT
    have HT : Hid (⟨#[116, 97, 98, 108, 101, 32, 53, 10, 49, 32, 51, 32]⟩ ++ Da ++ ⟨#[32]⟩ ++ Db ++ ⟨#[10, 49, 32, 51, 32]⟩ ++ Dc ++ ⟨#[32, 45, 10]⟩ = TT) := hT
    have s0 : ¬ 9223372036854775807 < 12 + Da.size := by omega
    have s1 : ¬ 9223372036854775807 < 12 + Da.size + 1 := by omega
    have s2 : ¬ 9223372036854775807 < 12 + Da.size + 1 + Db.size := by omega
    have s3 : ¬ 9223372036854775807 < 12 + Da.size + 1 + Db.size + 5 := by omega
    have s4 : ¬ 9223372036854775807 < 12 + Da.size + 1 + Db.size + 5 + Dc.size := by omega
    have s5 : ¬ 9223372036854775807 < 12 + Da.size + 1 + Db.size + 5 + Dc.size + 3 := by omega
    have HTz : Hid (TT.size ≤ 1000) := by
      show _ ≤ _
      rw [← hT]
      simp only [ByteArray.size_append]
      show 12 + Da.size + 1 + Db.size + 5 + Dc.size + 3 ≤ 1000
      omega
    clear hDa hDb hDc hT hTT lA lB lC ha hb hc
    go_enter Tryz.func7, Tryz.ntmps7
    go_wp2_with fail
    refine (tknown_any M w HK.out).mono ?_
    rintro e x1 ⟨rfl, hf1⟩
    have Hf1 : Hid (Fr w x1 (fun _ => False)) := hf1
    clear hf1
    go_wp2_with fail
    refine (dB x1).mono ?_
    rintro r x2 ⟨rfl, g⟩
    have Hf2 : Hid (Fr w x2 (fun _ => False)) := Hf1.out.none g
    clear g dB
    go_wp2_with fail
    refine (dA x2).mono ?_
    rintro r x3 ⟨rfl, g⟩
    have Hf3 : Hid (Fr w x3 (fun _ => False)) := Hf2.out.none g
    clear g
    go_wp2_with fail
    refine (dC x3).mono ?_
    rintro r x4 ⟨rfl, g⟩
    have Hf4 : Hid (Fr w x4 (fun _ => False)) := Hf3.out.none g
    clear g dA dC
    have hTb := HT.out
    go_upto_region 7 with fail
    try rw [hTb]
    clear hTb
    have hpp := M.parse TT x4 (by have := HTz.out; omega) (M.keep HK.out Hf4.out)
    by_cases hba : b ≤ a
    · have e1 : decide ((b : Int) ≤ (a : Int)) = true := decide_eq_true (by omega)
      have e1' : decide (b ≤ a) = true := decide_eq_true hba
      have hres : parseTab TT = ⟨0, [], 2, 1, 23⟩ := by
        have h1 := open_one (n := 5) (e := (1, 3)) (by decide) (by decide) (a := a) (b := b) (by have := Ha.out; omega) hba
        have h3 := tparse_bad_at (s := TT) (n := 5) (ls := [((1, 3), (a : Int), (b : Int)), ((1, 3), (c : Int), -1)]) (i := 0) (y := ((1, 3), (a : Int), (b : Int))) (by decide) (open_in a c b Ha.out Hc.out (by omega) (by have := Hb.out; omega)) rfl rfl (by
          show (lifeCheckF 5 [((1, 3), (a : Int), (b : Int))]).2 ≠ 0
          rw [h1]; decide) HTT.out
        rw [h3]
        show (⟨0, [], 0 + 2, 1, (lifeCheckF 5 [((1, 3), (a : Int), (b : Int))]).2⟩ : LogR) = _
        rw [h1]
      clear hba
      rw [hres] at hpp
      unfold histV placeR at hpp
      dsimp only at hpp
      clear hres
      go_wp2_with fail
      refine hpp.mono ?_
      clear hpp
      rintro r z1 ⟨⟨v5, rfl, hr5⟩, g⟩
      obtain ⟨a5, c5, rfl, -⟩ : ∃ a c, v5 = .slice a 0 c ∧ 0 ≤ c := hr5.form
      have Zf : Hid (Fr w z1 (fun _ => False)) := Hf4.out.none g
      clear g hr5
      go_upto_region 8 with fail
      obtain ⟨p1, hp1⟩ : ∃ p, p = z1.heap.size := ⟨_, rfl⟩
      obtain ⟨p2, hp2⟩ : ∃ p, p = p1 + 1 := ⟨_, rfl⟩
      obtain ⟨z2, hz2⟩ : ∃ x, x = (z1.alloc (.cells #[.int .u64 0, .slice a5 0 c5] 25)).alloc (.cells #[.int .i64 2, .int .i64 1] 38) := ⟨_, rfl⟩
      rw [← hz2, ← hp1, ← hp2]
      have Q1 : z2.heap[p1]? = some (.cells #[.int .u64 0, .slice a5 0 c5] 25 (0, 0)) := by rw [hz2, hp1]; exact blk_alloc _ (heap_alloc_new _ _)
      have Q2 : z2.heap[p2]? = some (.cells #[.int .i64 2, .int .i64 1] 38 (0, 0)) := by
        have h0 := heap_alloc_new (z1.alloc (.cells #[.int .u64 0, .slice a5 0 c5] 25)) (.cells #[.int .i64 2, .int .i64 1] 38)
        rw [hz2, hp2, hp1]
        simpa using h0
      have G12 : Hid (Fr z1 z2 (fun _ => False)) := by show Fr _ _ _; rw [hz2]; exact ((Fr.refl _ _).alloc _).alloc _
      have Hx0 : Hid (Fr w z2 (fun _ => False)) := Zf.out.none G12.out
      obtain ⟨ka, kb⟩ : z2.cell? ⟨p1, 0, none⟩ = some ((.int .u64 0)) ∧ z2.cell? ⟨p1, 1, none⟩ = some (.slice a5 0 c5) := ⟨two_cell0 Q1, two_cell1 Q1⟩
      obtain ⟨kc, kd⟩ : z2.cell? ⟨p2, 0, none⟩ = some (.int .i64 2) ∧ z2.cell? ⟨p2, 1, none⟩ = some (.int .i64 1) := ⟨two_cell0 Q2, two_cell1 Q2⟩
      clear hz2 hp1 hp2 Q1 Q2
      go_wp2
      go_ret
      exact ⟨rfl, ebelow Hx0.out⟩
    have e1 : decide ((b : Int) ≤ (a : Int)) = false := decide_eq_false (by omega)
    have e1' : decide (b ≤ a) = false := decide_eq_false hba
    by_cases hcb : c ≤ b
    · have e2 : decide ((c : Int) ≤ (b : Int)) = true := decide_eq_true (by omega)
      have e2' : decide (c ≤ b) = true := decide_eq_true hcb
      have hres : parseTab TT = ⟨0, [], 3, 1, 23⟩ := by
        have h1 := open_fine (n := 5) (e := (1, 3)) (by decide) (by decide) (a := a) (t := (b : Int)) (by have := Ha.out; omega) (by have := Hb.out; omega) (by omega)
        have h2 := open_two (n := 5) (e := (1, 3)) (by decide) (by decide) (a := a) (c := c) (t := (b : Int)) (u := -1) (by have := Ha.out; omega) (by have := Hc.out; omega) (by have := Hb.out; omega) (by decide) (by omega) (by omega) (.inr (by omega))
        have h3 := tparse_bad_at (s := TT) (n := 5) (ls := [((1, 3), (a : Int), (b : Int)), ((1, 3), (c : Int), -1)]) (i := 1) (y := ((1, 3), (c : Int), -1)) (by decide) (open_in a c b Ha.out Hc.out (by omega) (by have := Hb.out; omega)) rfl h1 (by
          show (lifeCheckF 5 [((1, 3), (a : Int), (b : Int)), ((1, 3), (c : Int), -1)]).2 ≠ 0
          rw [h2]; decide) HTT.out
        rw [h3]
        show (⟨0, [], 1 + 2, 1, (lifeCheckF 5 [((1, 3), (a : Int), (b : Int)), ((1, 3), (c : Int), -1)]).2⟩ : LogR) = _
        rw [h2]
      clear hba hcb
      rw [hres] at hpp
      unfold histV placeR at hpp
      dsimp only at hpp
      clear hres
      go_wp2_with fail
      refine hpp.mono ?_
      clear hpp
      rintro r z1 ⟨⟨v5, rfl, hr5⟩, g⟩
      obtain ⟨a5, c5, rfl, -⟩ : ∃ a c, v5 = .slice a 0 c ∧ 0 ≤ c := hr5.form
      have Zf : Hid (Fr w z1 (fun _ => False)) := Hf4.out.none g
      clear g hr5
      go_upto_region 8 with fail
      obtain ⟨p1, hp1⟩ : ∃ p, p = z1.heap.size := ⟨_, rfl⟩
      obtain ⟨p2, hp2⟩ : ∃ p, p = p1 + 1 := ⟨_, rfl⟩
      obtain ⟨z2, hz2⟩ : ∃ x, x = (z1.alloc (.cells #[.int .u64 0, .slice a5 0 c5] 25)).alloc (.cells #[.int .i64 3, .int .i64 1] 38) := ⟨_, rfl⟩
      rw [← hz2, ← hp1, ← hp2]
      have Q1 : z2.heap[p1]? = some (.cells #[.int .u64 0, .slice a5 0 c5] 25 (0, 0)) := by rw [hz2, hp1]; exact blk_alloc _ (heap_alloc_new _ _)
      have Q2 : z2.heap[p2]? = some (.cells #[.int .i64 3, .int .i64 1] 38 (0, 0)) := by
        have h0 := heap_alloc_new (z1.alloc (.cells #[.int .u64 0, .slice a5 0 c5] 25)) (.cells #[.int .i64 3, .int .i64 1] 38)
        rw [hz2, hp2, hp1]
        simpa using h0
      have G12 : Hid (Fr z1 z2 (fun _ => False)) := by show Fr _ _ _; rw [hz2]; exact ((Fr.refl _ _).alloc _).alloc _
      have Hx0 : Hid (Fr w z2 (fun _ => False)) := Zf.out.none G12.out
      obtain ⟨ka, kb⟩ : z2.cell? ⟨p1, 0, none⟩ = some ((.int .u64 0)) ∧ z2.cell? ⟨p1, 1, none⟩ = some (.slice a5 0 c5) := ⟨two_cell0 Q1, two_cell1 Q1⟩
      obtain ⟨kc, kd⟩ : z2.cell? ⟨p2, 0, none⟩ = some (.int .i64 3) ∧ z2.cell? ⟨p2, 1, none⟩ = some (.int .i64 1) := ⟨two_cell0 Q2, two_cell1 Q2⟩
      clear hz2 hp1 hp2 Q1 Q2
      go_wp2
      go_ret
      exact ⟨rfl, ebelow Hx0.out⟩
    have e2 : decide ((c : Int) ≤ (b : Int)) = false := decide_eq_false (by omega)
    have e2' : decide (c ≤ b) = false := decide_eq_false hcb
    have hres : parseTab TT = ⟨5, [((a : Int), (1, 3), true), ((b : Int), (1, 3), false), ((c : Int), (1, 3), true)], 0, 0, 0⟩ := by
      have h2 := open_both (n := 5) (e := (1, 3)) (by decide) (by decide) (a := a) (c := c) (t := (b : Int)) (u := -1) (by have := Ha.out; omega) (by have := Hc.out; omega) (by have := Hb.out; omega) (by decide) (by omega) (by omega) ⟨by omega, by omega⟩
      rw [tparse_print (n := 5) (by decide) (open_in a c b Ha.out Hc.out (by omega) (by have := Hb.out; omega)) h2 HTT.out]
      exact open_back h2 (by omega) (by omega)
    clear hba hcb
    rw [hres] at hpp
    unfold histV placeR at hpp
    dsimp only at hpp
    clear hres
    go_wp2_with fail
    refine hpp.mono ?_
    clear hpp
    rintro r z1 ⟨⟨v5, rfl, hr5⟩, g⟩
    obtain ⟨b5, o5, c5, rfl, hb5, hc5⟩ := hr5.get 1 ((b : Int), (1, 3), false) rfl
    have Hc5 : Hid _ := hc5
    have Zf : Hid (Fr w z1 (fun _ => False)) := Hf4.out.none g
    clear g hr5 hc5 hb5
    dsimp only [List.length_cons, List.length_nil]
    go_upto_region 8 with fail
    obtain ⟨p1, hp1⟩ : ∃ p, p = z1.heap.size := ⟨_, rfl⟩
    obtain ⟨p2, hp2⟩ : ∃ p, p = p1 + 1 := ⟨_, rfl⟩
    obtain ⟨z2, hz2⟩ : ∃ x, x = (z1.alloc (.cells #[.int .u64 5, .slice (some ⟨b5, o5, none⟩) 3 c5] 25)).alloc (.cells #[.int .i64 0, .int .i64 0] 38) := ⟨_, rfl⟩
    rw [← hz2, ← hp1, ← hp2]
    have Q1 : z2.heap[p1]? = some (.cells #[.int .u64 5, .slice (some ⟨b5, o5, none⟩) 3 c5] 25 (0, 0)) := by rw [hz2, hp1]; exact blk_alloc _ (heap_alloc_new _ _)
    have Q2 : z2.heap[p2]? = some (.cells #[.int .i64 0, .int .i64 0] 38 (0, 0)) := by
      have h0 := heap_alloc_new (z1.alloc (.cells #[.int .u64 5, .slice (some ⟨b5, o5, none⟩) 3 c5] 25)) (.cells #[.int .i64 0, .int .i64 0] 38)
      rw [hz2, hp2, hp1]
      simpa using h0
    have G12 : Hid (Fr z1 z2 (fun _ => False)) := by show Fr _ _ _; rw [hz2]; exact ((Fr.refl _ _).alloc _).alloc _
    have Hx0 : Hid (Fr w z2 (fun _ => False)) := Zf.out.none G12.out
    obtain ⟨ka, kb⟩ : z2.cell? ⟨p1, 0, none⟩ = some ((.int .u64 5)) ∧ z2.cell? ⟨p1, 1, none⟩ = some (.slice (some ⟨b5, o5, none⟩) 3 c5) := ⟨two_cell0 Q1, two_cell1 Q1⟩
    obtain ⟨kc, kd⟩ : z2.cell? ⟨p2, 0, none⟩ = some (.int .i64 0) ∧ z2.cell? ⟨p2, 1, none⟩ = some (.int .i64 0) := ⟨two_cell0 Q2, two_cell1 Q2⟩
    clear hz2 hp1 hp2 Q1 Q2
    obtain ⟨l0, -, -, l3⟩ := Hc5.out z2 (G12.out.mono (fun _ _ h => h.elim))
    have l0' : z2.cell? ⟨b5, o5 + 4, none⟩ = some (.int .i64 (b : Int)) := l0
    have l3' : z2.cell? ⟨b5, o5 + 4 + 3, none⟩ = some (.bool false) := l3
    clear l0 l3
    go_wp2
    go_ret
    exact ⟨rfl, ebelow Hx0.out⟩

end Go.Proofs.YtnffjafddbbjaaaGreatDoor.tableOpen
