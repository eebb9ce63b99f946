/-
  The contracts of the reference's Left and Take: as those of package bits.
-/
import Derived.Test.YtclfbdfgmeliaaaBStr
namespace Go.Proofs.Ytclfbdfgmeliaaa
open Go.RowKit
set_option maxRecDepth 4000

set_option maxRecDepth 4000 in
set_option maxHeartbeats 400000 in
theorem refLeft_any (p : Nat) (sv : Value) (bs : List Nat) (i : Nat) (w : World) (h : Rd 63 w p sv bs i) :
    Calls Try.prog 65 #[.pointer (some ⟨p, 0, none⟩)] w fun e w' => e = .returned (.int .i64 ((8 * bs.length - i : Nat) : Int)) ∧ ∃ n, w' = w.drewN n := by
  obtain ⟨hp, ⟨ao, cap, rfl, _⟩, hi, hl, hs, _⟩ := h
  have c0 := two_cell0 hp
  have c1 := two_cell1 hp
  generalize bs.length = len at *
  clear hp
  have e1 : IntKind.i64.wrap (8 * (len : Int)) = 8 * (len : Int) := IntWalk.i64_in _ (by omega)
  have e2 : IntKind.i64.wrap (8 * (len : Int) - (i : Int)) = ((8 * len - i : Nat) : Int) := by rw [IntWalk.i64_in _ (by omega)]; omega
  go_enter Try.func65, Try.ntmps65
  go_wp2
  go_quiet (fail)
  go_wp2
  go_ret
  exact ⟨rfl, _, rfl⟩

set_option maxRecDepth 4000 in
set_option maxHeartbeats 800000 in
theorem refTake_no (p : Nat) (sv : Value) (bs : List Nat) (i : Nat) (n : Int) (w : World) (h : Rd 63 w p sv bs i) (hno : 8 * bs.length - i < wide n) :
    Calls Try.prog 46 #[.pointer (some ⟨p, 0, none⟩), .int .i64 n] w fun e w' => e = .returned (.tuple #[.int .u64 0, .bool false]) ∧ ∃ n, w' = w.drewN n := by
  have hwd := wide_le n
  obtain ⟨m, hm⟩ : ∃ m, m = wide n := ⟨_, rfl⟩
  rw [← hm] at hwd hno
  have Hm : Hid (min (max n 0) 64 = (m : Int)) := by rw [hm]; exact (wide_cast n).symm
  clear hm
  rcases (show (n < 0 ∧ (m : Int) = 0) ∨ (64 < n ∧ (m : Int) = 64) ∨ (0 ≤ n ∧ n ≤ 64 ∧ (m : Int) = n) by have := Hm.out; omega) with ⟨c1, c2⟩ | ⟨c1, c2⟩ | ⟨c1, c2, c3⟩
  · omega
  · have Hc : Hid _ := c2
    clear c2
    go_enter Try.func46, Try.ntmps46
    go_wp2_with fail
    refine (refLeft_any p sv bs i _ h).mono ?_
    rintro e w' ⟨rfl, nq, rfl⟩
    have hlt : ((8 * bs.length - i : Nat) : Int) < 64 := by have := Hc.out; omega
    go_wp2
    go_ret2
    exact ⟨rfl, _, rfl⟩
  · have Hc : Hid _ := c3
    clear c3
    go_enter Try.func46, Try.ntmps46
    go_wp2_with fail
    refine (refLeft_any p sv bs i _ h).mono ?_
    rintro e w' ⟨rfl, nq, rfl⟩
    have hlt : ((8 * bs.length - i : Nat) : Int) < n := by have := Hc.out; omega
    go_wp2
    go_ret2
    exact ⟨rfl, _, rfl⟩

set_option maxRecDepth 4000 in
set_option maxHeartbeats 1600000 in
theorem refTake_yesM (p : Nat) (sv : Value) (bs : List Nat) (i : Nat) (m : Nat) (hwd : m ≤ 64) (w : World) (h : Rd 63 w p sv bs i) (hyes : m ≤ 8 * bs.length - i) :
    Calls Try.prog 46 #[.pointer (some ⟨p, 0, none⟩), .int .i64 (m : Int)] w fun e w' => e = .returned (.tuple #[.int .u64 (num (((unpack bs).drop i).take m) : Nat), .bool true]) ∧
      Rd 63 w' p sv bs (i + m) ∧ Fr w w' (fun k => k = p) := by
  go_enter Try.func46, Try.ntmps46
  go_wp2_with fail
  refine (refLeft_any p sv bs i _ h).mono ?_
  rintro e w' ⟨rfl, nq, rfl⟩
  have hd : decide (((8 * bs.length - i : Nat) : Int) < (m : Int)) = false := decide_eq_false (by omega)
  have hd' : decide (8 * bs.length - i < m) = false := decide_eq_false (by omega)
  go_wp2_with fail
  go_loopw [6, 7] (fun v c wr => ∃ k : Nat, k ≤ m ∧ c = .int .i64 (k : Int) ∧ (∃ V : Nat, v = .int .u64 (V : Int) ∧ V = num (((unpack bs).drop i).take k)) ∧ Rd 63 wr p sv bs (i + k) ∧ Fr w wr (fun k => k = p))
    (fun _ c _ => m - (intOf c).toNat)
  case atStart => exact ⟨0, Nat.zero_le _, rfl, ⟨0, rfl, by simp [num, numFrom]⟩, h, (Fr.refl _ _).drewN _⟩
  case round =>
    obtain ⟨k, hk, rfl, ⟨V, rfl, hV⟩, hrd, hf⟩ := hrel
    have HV : Hid _ := hV
    have Hrd : Hid _ := hrd
    clear hV
    by_cases hlt : k < m
    · obtain ⟨hp, ⟨ao, cap, rfl, hcel⟩, hi, hl, hs, hsp⟩ := hrd
      have hpos : (i + k) / 8 < bs.length := by omega
      obtain ⟨b, off, rfl, hcell⟩ := hcel (by omega)
      have cg := hcell ((i + k) / 8) _ (row_get .u8 bs _ hpos)
      obtain ⟨x, hx⟩ : ∃ x, x = bs.getD ((i + k) / 8) 0 := ⟨_, rfl⟩
      obtain ⟨j, hj⟩ : ∃ j, j = i + k := ⟨_, rfl⟩
      obtain ⟨q, hq⟩ : ∃ q, q = (i + k) / 8 := ⟨_, rfl⟩
      rw [← hx, ← hq] at cg
      rw [← hj] at hp
      have hx2 : x < 256 := by rw [hx]; exact hs _
      have c0 := two_cell0 hp
      have c1 := two_cell1 hp
      have f1 := two_free hp 1
      have hjb : (j : Int) ≤ 800000000000 := by omega
      have hrem : (j : Int).tmod 8 = ((j % 8 : Nat) : Int) := by rw [Int.tmod_eq_emod_of_nonneg (by omega)]; omega
      have hqw : IntKind.i64.wrap ((j : Int) / 8) = (q : Int) := by rw [IntWalk.i64_in _ (by omega)]; omega
      have i1 : (q : Int) < (bs.length : Int) := by omega
      have Hx : Hid _ := hx
      have Hj : Hid _ := hj
      have Hq : Hid _ := hq
      have Hs : Hid _ := hs
      have Hsp : Hid _ := hsp
      clear hcel hcell hp hx hj hq hs hsp
      go_wp2
      go_quiet (fail)
      go_wp2
      go_roundw
      case rel =>
        have hVb : V < 9223372036854775808 := by rw [HV.out]; exact num_bound bs i k (by omega)
        have hfr : Fr wr ((wr.drewN nq).setCell ⟨p, 1, none⟩ (.int .i64 ((j : Int) + 1))) (fun k => k = p) := Fr.setCell (S := fun k => k = p) ((Fr.refl _ _).drewN _) ⟨p, 1, none⟩ (fun _ => rfl) _
        refine ⟨k + 1, by omega, by go_num, ⟨_, congrArg (Value.int .u64) (take_val V x j hVb hx2), ?_⟩, ⟨?_, Hrd.out.2.1.frame' hfr (fun h0 k hk e => Hsp.out h0 (by rw [hk, e])), by omega, hl, Hs.out, Hsp.out⟩, hf.trans hfr (fun _ _ h => h)⟩
        · rw [num_step bs i k (by omega), ← HV.out, ← Hx.out, Hj.out]
        · have := two_set1 (w := wr) (u := .int .i64 ((j : Int) + 1)) Hrd.out.1
          have e3 : ((i + (k + 1) : Nat) : Int) = (j : Int) + 1 := by rw [Hj.out]; omega
          rw [e3]
          exact this
      case measure => simp [intOf]; omega
    · have Hkm : Hid (k = m) := by show k = m; omega
      clear hrd
      go_wp2
      go_ret2
      exact ⟨by rw [HV.out, Hkm.out]; rfl, by rw [← Hkm.out]; exact Hrd.out, hf⟩
set_option maxRecDepth 4000 in
set_option maxHeartbeats 1600000 in
theorem refTake_yes0 (p : Nat) (sv : Value) (bs : List Nat) (i : Nat) (n : Int) (hn : n < 0) (w : World) (h : Rd 63 w p sv bs i) (hyes : 0 ≤ 8 * bs.length - i) :
    Calls Try.prog 46 #[.pointer (some ⟨p, 0, none⟩), .int .i64 n] w fun e w' => e = .returned (.tuple #[.int .u64 (num (((unpack bs).drop i).take 0) : Nat), .bool true]) ∧
      Rd 63 w' p sv bs (i + 0) ∧ Fr w w' (fun k => k = p) := by
  go_enter Try.func46, Try.ntmps46
  go_wp2_with fail
  refine (refLeft_any p sv bs i _ h).mono ?_
  rintro e w' ⟨rfl, nq, rfl⟩
  have hd : decide (((8 * bs.length - i : Nat) : Int) < (0 : Int)) = false := decide_eq_false (by omega)
  have hd' : decide (8 * bs.length - i < 0) = false := decide_eq_false (by omega)
  go_wp2_with fail
  go_loopw [6, 7] (fun v c wr => ∃ k : Nat, k ≤ 0 ∧ c = .int .i64 (k : Int) ∧ (∃ V : Nat, v = .int .u64 (V : Int) ∧ V = num (((unpack bs).drop i).take k)) ∧ Rd 63 wr p sv bs (i + k) ∧ Fr w wr (fun k => k = p))
    (fun _ c _ => 0 - (intOf c).toNat)
  case atStart => exact ⟨0, Nat.zero_le _, rfl, ⟨0, rfl, by simp [num, numFrom]⟩, h, (Fr.refl _ _).drewN _⟩
  case round =>
    obtain ⟨k, hk, rfl, ⟨V, rfl, hV⟩, hrd, hf⟩ := hrel
    have HV : Hid _ := hV
    have Hrd : Hid _ := hrd
    clear hV
    by_cases hlt : k < 0
    · exact absurd hlt (by omega)
    · have Hkm : Hid (k = 0) := by show k = 0; omega
      clear hrd
      go_wp2
      go_ret2
      exact ⟨by rw [HV.out, Hkm.out]; rfl, by rw [← Hkm.out]; exact Hrd.out, hf⟩
set_option maxRecDepth 4000 in
set_option maxHeartbeats 1600000 in
theorem refTake_yes64 (p : Nat) (sv : Value) (bs : List Nat) (i : Nat) (n : Int) (hn : 64 < n) (w : World) (h : Rd 63 w p sv bs i) (hyes : 64 ≤ 8 * bs.length - i) :
    Calls Try.prog 46 #[.pointer (some ⟨p, 0, none⟩), .int .i64 n] w fun e w' => e = .returned (.tuple #[.int .u64 (num (((unpack bs).drop i).take 64) : Nat), .bool true]) ∧
      Rd 63 w' p sv bs (i + 64) ∧ Fr w w' (fun k => k = p) := by
  go_enter Try.func46, Try.ntmps46
  go_wp2_with fail
  refine (refLeft_any p sv bs i _ h).mono ?_
  rintro e w' ⟨rfl, nq, rfl⟩
  have hd : decide (((8 * bs.length - i : Nat) : Int) < (64 : Int)) = false := decide_eq_false (by omega)
  have hd' : decide (8 * bs.length - i < 64) = false := decide_eq_false (by omega)
  go_wp2_with fail
  go_loopw [6, 7] (fun v c wr => ∃ k : Nat, k ≤ 64 ∧ c = .int .i64 (k : Int) ∧ (∃ V : Nat, v = .int .u64 (V : Int) ∧ V = num (((unpack bs).drop i).take k)) ∧ Rd 63 wr p sv bs (i + k) ∧ Fr w wr (fun k => k = p))
    (fun _ c _ => 64 - (intOf c).toNat)
  case atStart => exact ⟨0, Nat.zero_le _, rfl, ⟨0, rfl, by simp [num, numFrom]⟩, h, (Fr.refl _ _).drewN _⟩
  case round =>
    obtain ⟨k, hk, rfl, ⟨V, rfl, hV⟩, hrd, hf⟩ := hrel
    have HV : Hid _ := hV
    have Hrd : Hid _ := hrd
    clear hV
    by_cases hlt : k < 64
    · obtain ⟨hp, ⟨ao, cap, rfl, hcel⟩, hi, hl, hs, hsp⟩ := hrd
      have hpos : (i + k) / 8 < bs.length := by omega
      obtain ⟨b, off, rfl, hcell⟩ := hcel (by omega)
      have cg := hcell ((i + k) / 8) _ (row_get .u8 bs _ hpos)
      obtain ⟨x, hx⟩ : ∃ x, x = bs.getD ((i + k) / 8) 0 := ⟨_, rfl⟩
      obtain ⟨j, hj⟩ : ∃ j, j = i + k := ⟨_, rfl⟩
      obtain ⟨q, hq⟩ : ∃ q, q = (i + k) / 8 := ⟨_, rfl⟩
      rw [← hx, ← hq] at cg
      rw [← hj] at hp
      have hx2 : x < 256 := by rw [hx]; exact hs _
      have c0 := two_cell0 hp
      have c1 := two_cell1 hp
      have f1 := two_free hp 1
      have hjb : (j : Int) ≤ 800000000000 := by omega
      have hrem : (j : Int).tmod 8 = ((j % 8 : Nat) : Int) := by rw [Int.tmod_eq_emod_of_nonneg (by omega)]; omega
      have hqw : IntKind.i64.wrap ((j : Int) / 8) = (q : Int) := by rw [IntWalk.i64_in _ (by omega)]; omega
      have i1 : (q : Int) < (bs.length : Int) := by omega
      have Hx : Hid _ := hx
      have Hj : Hid _ := hj
      have Hq : Hid _ := hq
      have Hs : Hid _ := hs
      have Hsp : Hid _ := hsp
      clear hcel hcell hp hx hj hq hs hsp
      go_wp2
      go_quiet (fail)
      go_wp2
      go_roundw
      case rel =>
        have hVb : V < 9223372036854775808 := by rw [HV.out]; exact num_bound bs i k (by omega)
        have hfr : Fr wr ((wr.drewN nq).setCell ⟨p, 1, none⟩ (.int .i64 ((j : Int) + 1))) (fun k => k = p) := Fr.setCell (S := fun k => k = p) ((Fr.refl _ _).drewN _) ⟨p, 1, none⟩ (fun _ => rfl) _
        refine ⟨k + 1, by omega, by go_num, ⟨_, congrArg (Value.int .u64) (take_val V x j hVb hx2), ?_⟩, ⟨?_, Hrd.out.2.1.frame' hfr (fun h0 k hk e => Hsp.out h0 (by rw [hk, e])), by omega, hl, Hs.out, Hsp.out⟩, hf.trans hfr (fun _ _ h => h)⟩
        · rw [num_step bs i k (by omega), ← HV.out, ← Hx.out, Hj.out]
        · have := two_set1 (w := wr) (u := .int .i64 ((j : Int) + 1)) Hrd.out.1
          have e3 : ((i + (k + 1) : Nat) : Int) = (j : Int) + 1 := by rw [Hj.out]; omega
          rw [e3]
          exact this
      case measure => simp [intOf]; omega
    · have Hkm : Hid (k = 64) := by show k = 64; omega
      clear hrd
      go_wp2
      go_ret2
      exact ⟨by rw [HV.out, Hkm.out]; rfl, by rw [← Hkm.out]; exact Hrd.out, hf⟩
theorem refTake_yes (p : Nat) (sv : Value) (bs : List Nat) (i : Nat) (n : Int) (w : World) (h : Rd 63 w p sv bs i) (hyes : wide n ≤ 8 * bs.length - i) :
    Calls Try.prog 46 #[.pointer (some ⟨p, 0, none⟩), .int .i64 n] w fun e w' => e = .returned (.tuple #[.int .u64 (num (((unpack bs).drop i).take (wide n)) : Nat), .bool true]) ∧
      Rd 63 w' p sv bs (i + wide n) ∧ Fr w w' (fun k => k = p) := by
  rcases (show n < 0 ∨ 64 < n ∨ (0 ≤ n ∧ n ≤ 64) by omega) with c | c | ⟨c, c'⟩
  · have e : wide n = 0 := by unfold wide; omega
    rw [e] at hyes ⊢
    exact refTake_yes0 p sv bs i n c w h hyes
  · have e : wide n = 64 := by unfold wide; omega
    rw [e] at hyes ⊢
    exact refTake_yes64 p sv bs i n c w h hyes
  · have hn : ((n.toNat : Nat) : Int) = n := by omega
    have e : wide n = n.toNat := by unfold wide; omega
    rw [e] at hyes ⊢
    have := refTake_yesM p sv bs i n.toNat (by omega) w h hyes
    rwa [hn] at this

theorem refLeft_fr (p : Nat) (sv : Value) (bs : List Nat) (i : Nat) (w : World) (h : Rd 63 w p sv bs i) :
    Calls Try.prog 65 #[.pointer (some ⟨p, 0, none⟩)] w fun e w' => e = .returned (.int .i64 ((8 * bs.length - i : Nat) : Int)) ∧ Rd 63 w' p sv bs i ∧ Fr w w' (fun _ => False) := by
  refine (refLeft_any p sv bs i w h).mono ?_
  rintro e w' ⟨rfl, n, rfl⟩
  exact ⟨rfl, h, (Fr.refl _ _).drewN _⟩
theorem refTake_nofr (p : Nat) (sv : Value) (bs : List Nat) (i : Nat) (n : Int) (w : World) (h : Rd 63 w p sv bs i) (hno : 8 * bs.length - i < wide n) :
    Calls Try.prog 46 #[.pointer (some ⟨p, 0, none⟩), .int .i64 n] w fun e w' => e = .returned (.tuple #[.int .u64 0, .bool false]) ∧ Rd 63 w' p sv bs i ∧ Fr w w' (fun _ => False) := by
  refine (refTake_no p sv bs i n w h hno).mono ?_
  rintro e w' ⟨rfl, n, rfl⟩
  exact ⟨rfl, h, (Fr.refl _ _).drewN _⟩

/-- Whatever is taken: the answer as a function of the bits that are left. -/
def tookV (bs : List Nat) (i : Nat) (n : Int) : Nat := if wide n ≤ 8 * bs.length - i then num (((unpack bs).drop i).take (wide n)) else 0
def tookB (bs : List Nat) (i : Nat) (n : Int) : Bool := decide (wide n ≤ 8 * bs.length - i)
def tookI (bs : List Nat) (i : Nat) (n : Int) : Nat := if wide n ≤ 8 * bs.length - i then i + wide n else i

theorem take_all (p : Nat) (sv : Value) (bs : List Nat) (i : Nat) (n : Int) (w : World) (h : Rd 124 w p sv bs i) :
    Calls Try.prog 72 #[.pointer (some ⟨p, 0, none⟩), .int .i64 n] w fun e w' => e = .returned (.tuple #[.int .u64 (tookV bs i n : Nat), .bool (tookB bs i n)]) ∧ Rd 124 w' p sv bs (tookI bs i n) ∧ Fr w w' (fun k => k = p) := by
  by_cases hy : wide n ≤ 8 * bs.length - i
  · rw [tookV, tookB, tookI, if_pos hy, if_pos hy, decide_eq_true hy]
    exact take_yes p sv bs i n w h hy
  · rw [tookV, tookB, tookI, if_neg hy, if_neg hy, decide_eq_false hy]
    refine (take_nofr p sv bs i n w h (by omega)).mono ?_
    rintro e w' ⟨rfl, h1, h2⟩
    exact ⟨rfl, h1, h2.mono (fun _ _ h => h.elim)⟩

theorem refTake_all (p : Nat) (sv : Value) (bs : List Nat) (i : Nat) (n : Int) (w : World) (h : Rd 63 w p sv bs i) :
    Calls Try.prog 46 #[.pointer (some ⟨p, 0, none⟩), .int .i64 n] w fun e w' => e = .returned (.tuple #[.int .u64 (tookV bs i n : Nat), .bool (tookB bs i n)]) ∧ Rd 63 w' p sv bs (tookI bs i n) ∧ Fr w w' (fun k => k = p) := by
  by_cases hy : wide n ≤ 8 * bs.length - i
  · rw [tookV, tookB, tookI, if_pos hy, if_pos hy, decide_eq_true hy]
    exact refTake_yes p sv bs i n w h hy
  · rw [tookV, tookB, tookI, if_neg hy, if_neg hy, decide_eq_false hy]
    refine (refTake_nofr p sv bs i n w h (by omega)).mono ?_
    rintro e w' ⟨rfl, h1, h2⟩
    exact ⟨rfl, h1, h2.mono (fun _ _ h => h.elim)⟩

end Go.Proofs.Ytclfbdfgmeliaaa
