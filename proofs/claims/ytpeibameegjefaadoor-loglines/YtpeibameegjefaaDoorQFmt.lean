/-
  A number's decimal digits, by the library: strconv.FormatUint and FormatInt at base 10, by the kit's shelf.
-/
import Derived.Shelf.Strconv.Itoa4
import Derived.Lib.AppendIntMem
import Derived.Test.YtpeibameegjefaaDoorJ1
namespace Go.Proofs.YtpeibameegjefaaDoor
open Go.Shelf Go.RowKit Go.Sort Go.Lib

def lays283_ren : Go.Shelf.Ren := ⟨fun | 283 => 69 | n => n, fun | 3 => 3 | 9 => 9 | 4 => 4 | n => n, fun | n => n⟩
theorem lays283 : Go.Proofs.Lays.n283 Tryd.prog lays283_ren := {
  mixed := by kernel_rfl,
  f283 := Tryd.func69.trans (congrArg some (by kernel_rfl)),
  t3 := Tryd.underlying3,
  a3 := Tryd.isAgg3,
  z3 := Tryd.sizeOf3,
  v3 := Tryd.zeroValue3,
  t4 := Tryd.underlying4,
  a4 := Tryd.isAgg4,
  z4 := Tryd.sizeOf4,
  v4 := Tryd.zeroValue4,
  t9 := Tryd.underlying9,
  a9 := Tryd.isAgg9,
  z9 := Tryd.sizeOf9,
  v9 := Tryd.zeroValue9 }
def lays284_ren : Go.Shelf.Ren := ⟨fun | 284 => 70 | 129 => 83 | 317 => 82 | 318 => 84 | n => n, fun | 53 => 22 | 3 => 3 | 212 => 140 | 0 => 0 | 4 => 4 | 46 => 143 | 5 => 5 | 9 => 9 | n => n, fun | 17 => 0 | n => n⟩
theorem lays284 : Go.Proofs.LaysM.n284 Tryd.prog lays284_ren := {
  mixed := by kernel_rfl,
  f129 := Tryd.func83.trans (congrArg some (by kernel_rfl)),
  f284 := Tryd.func70.trans (congrArg some (by kernel_rfl)),
  f317 := Tryd.func82.trans (congrArg some (by kernel_rfl)),
  f318 := Tryd.func84.trans (congrArg some (by kernel_rfl)),
  t0 := Tryd.underlying0,
  a0 := Tryd.isAgg0,
  z0 := Tryd.sizeOf0,
  v0 := Tryd.zeroValue0,
  t3 := Tryd.underlying3,
  a3 := Tryd.isAgg3,
  z3 := Tryd.sizeOf3,
  v3 := Tryd.zeroValue3,
  t4 := Tryd.underlying4,
  a4 := Tryd.isAgg4,
  z4 := Tryd.sizeOf4,
  v4 := Tryd.zeroValue4,
  t5 := Tryd.underlying5,
  a5 := Tryd.isAgg5,
  z5 := Tryd.sizeOf5,
  v5 := Tryd.zeroValue5,
  t9 := Tryd.underlying9,
  a9 := Tryd.isAgg9,
  z9 := Tryd.sizeOf9,
  v9 := Tryd.zeroValue9,
  t46 := Tryd.underlying143,
  a46 := Tryd.isAgg143,
  z46 := Tryd.sizeOf143,
  v46 := Tryd.zeroValue143,
  t53 := Tryd.underlying22,
  a53 := Tryd.isAgg22,
  z53 := Tryd.sizeOf22,
  v53 := Tryd.zeroValue22,
  t212 := Tryd.underlying140,
  a212 := Tryd.isAgg140,
  z212 := Tryd.sizeOf140,
  v212 := Tryd.zeroValue140,
  g17 := by kernel_rfl,
  i0 := by kernel_rfl,
  i3 := by kernel_rfl,
  i4 := by kernel_rfl,
  i5 := by kernel_rfl,
  i9 := by kernel_rfl,
  i46 := by kernel_rfl,
  i53 := by kernel_rfl,
  i212 := by kernel_rfl,
  m17 := by kernel_rfl }
def lays285_ren : Go.Shelf.Ren := ⟨fun | 285 => 71 | n => n, fun | 37 => 26 | 53 => 22 | 3 => 3 | 4 => 4 | 51 => 55 | 9 => 9 | 5 => 5 | 0 => 0 | n => n, fun | n => n⟩
theorem lays285 : Go.Proofs.Lays.n285 Tryd.prog lays285_ren := {
  mixed := by kernel_rfl,
  f285 := Tryd.func71.trans (congrArg some (by kernel_rfl)),
  t0 := Tryd.underlying0,
  a0 := Tryd.isAgg0,
  z0 := Tryd.sizeOf0,
  v0 := Tryd.zeroValue0,
  t3 := Tryd.underlying3,
  a3 := Tryd.isAgg3,
  z3 := Tryd.sizeOf3,
  v3 := Tryd.zeroValue3,
  t4 := Tryd.underlying4,
  a4 := Tryd.isAgg4,
  z4 := Tryd.sizeOf4,
  v4 := Tryd.zeroValue4,
  t5 := Tryd.underlying5,
  a5 := Tryd.isAgg5,
  z5 := Tryd.sizeOf5,
  v5 := Tryd.zeroValue5,
  t9 := Tryd.underlying9,
  a9 := Tryd.isAgg9,
  z9 := Tryd.sizeOf9,
  v9 := Tryd.zeroValue9,
  t37 := Tryd.underlying26,
  a37 := Tryd.isAgg26,
  z37 := Tryd.sizeOf26,
  v37 := Tryd.zeroValue26,
  t51 := Tryd.underlying55,
  a51 := Tryd.isAgg55,
  z51 := Tryd.sizeOf55,
  v51 := Tryd.zeroValue55,
  t53 := Tryd.underlying22,
  a53 := Tryd.isAgg22,
  z53 := Tryd.sizeOf22,
  v53 := Tryd.zeroValue22 }

theorem decL_lib (u : Nat) : ByteArray.mk (Lib.decDigits u).toArray = strOf (decL u) := by
  have h : ∀ u, (Lib.decDigits u) = (decL u).map (fun b => UInt8.ofNat b) := fun u => by
    induction u using Nat.strongRecOn with
    | ind u ih =>
      by_cases h : u < 10
      · rw [Lib.decDigits_one h, decL_small u h]; rfl
      · rw [Lib.decDigits, dif_neg h, decL_big u h, ih (u / 10) (by omega), List.map_append]; rfl
  rw [h]
  unfold strOf strOfNums
  congr 1
  simp only [List.map_map]
  rfl

set_option maxHeartbeats 6400000 in
set_option maxRecDepth 100000 in
theorem ifmtUint_any (u : Nat) (hu64 : u < 18446744073709551616) (w : World) (hK : KTab w) : Calls Tryd.prog 54 #[.int .u64 (u : Int), .int .i64 10] w fun e w' => e = .returned (.string ⟨(Lib.decDigits u).toArray⟩) ∧ Fr w w' (fun _ => False) := by
  by_cases hs : u < 100
  · have g1 : (u : Int) < 100 := by omega
    have g1' : decide (u < 100) = true := decide_eq_true hs
    have g2 : IntKind.i64.wrap (u : Int) = (u : Int) := IntWalk.i64_in _ (by omega)
    have hsm : ∀ z, Calls Tryd.prog 69 #[.int .i64 (u : Int)] z fun e w' => e = .returned (.string ⟨(Lib.decDigits u).toArray⟩) ∧ w' = z := fun z => Any.internal_strconv_small lays283 u hs z
    generalize (ByteArray.mk (Lib.decDigits u).toArray) = S at hsm ⊢
    go_enter Tryd.func54, Tryd.ntmps54
    go_wp2_with fail
    refine (hsm _).mono ?_
    rintro e w' ⟨rfl, rfl⟩
    go_wp2_with fail
    go_ret
    exact ⟨rfl, Fr.refl _ _⟩
  · obtain ⟨S, hS⟩ : ∃ S, S = ByteArray.mk (Lib.decDigits u).toArray := ⟨_, rfl⟩
    rw [← hS]
    have HS : Hid (S = ByteArray.mk (Lib.decDigits u).toArray) := hS
    clear hS
    have hu1 : 1 ≤ u := by omega
    have g1 : ¬ (u : Int) < 100 := by omega
    have g1' : decide (u < 100) = false := decide_eq_false hs
    have hnd20 : Lib.nDigits u ≤ 20 := by have := Lib.numDigits_eq u hu1 hu64; split at this <;> omega
    obtain ⟨nd, hnd⟩ : ∃ nd, nd = Lib.nDigits u := ⟨_, rfl⟩
    have hal : Tryd.prog.arrayLen 126 = 24 := by simp [Program.arrayLen, Tryd.underlying126]
    have hsl1 : ∀ W, (Instr.sliceAt 126 (.pointer (some ⟨w.heap.size, 0, none⟩)) none (some (.int .i64 (nd : Int))) none).run Tryd.prog W = .ok (.slice (some ⟨w.heap.size, 0, none⟩) nd 24) W := fun W => by
      rw [run_sliceAt_array_h W 126 ⟨w.heap.size, 0, none⟩ (by simp [Program.arrayLen, Program.elem, Tryd.underlying126]) .i64 (nd : Int) (by omega) (by rw [hal]; omega)]
      go_simp
    have hdig : ∀ z, KTab z → Calls Tryd.prog 70 #[.int .u64 (u : Int)] z fun e w' => e = .returned (.int .i64 (nd : Int)) ∧ w' = z := fun z hz => by
      rw [hnd]
      exact Any.internal_strconv_numDigits lays284 u hu1 hu64 z hz
    have hH0 := Lib.holds_zero0 w 126 nd (by omega)
    have hfmt : Calls Tryd.prog 71 #[.slice (some ⟨w.heap.size, 0, none⟩) nd 24, .int .u64 (u : Int)] (w.alloc (.cells Lib.zeros24 126)) fun e w' => e = .returned (.tuple #[]) ∧ ∃ (n v' : Nat) (dk : Array UInt8), w' = (putRow (fun (b : UInt8) => Value.int .u8 (b.toNat : Int)) (w.alloc (.cells Lib.zeros24 126)) w.heap.size 0 dk).drewN n ∧ FmtInv nd u 0 v' dk := by
      have h := Any.internal_strconv_formatBase10 lays285 w.heap.size 0 24 u (Array.replicate nd 0) (w.alloc (.cells Lib.zeros24 126)) hH0 (by rw [Array.size_replicate, hnd]; exact Lib.lt_pow_nDigits u) hu64 (by rw [Array.size_replicate]; omega)
      rw [Array.size_replicate] at h
      exact h
    have HH0 := Lib.hid hH0
    have Hnd : Hid (nd = Lib.nDigits u) := hnd
    have HK : Hid (KTab (w.alloc (.cells Lib.zeros24 126))) := hK.keep ((Fr.refl _ _).alloc _)
    clear hH0 hal hnd hnd20 hK
    go_enter Tryd.func54, Tryd.ntmps54
    go_wp2_with fail
    refine (hdig _ HK.out).mono ?_
    rintro e w' ⟨rfl, rfl⟩
    go_wp2_with fail
    refine hfmt.mono ?_
    rintro e w' ⟨rfl, k, v', dk, rfl, hF⟩
    rw [Hnd.out] at hF
    have hcv : (convert 26 9 (.slice (some ⟨w.heap.size, 0, none⟩) nd 24)).run Tryd.prog ((putRow (fun (b : UInt8) => Value.int .u8 (b.toNat : Int)) (w.alloc (.cells Lib.zeros24 126)) w.heap.size 0 dk).drewN k) = .ok (.string S) ((putRow (fun (b : UInt8) => Value.int .u8 (b.toNat : Int)) (w.alloc (.cells Lib.zeros24 126)) w.heap.size 0 dk).drewN k) := by
      have h := run_convert_bytes_back (P := Tryd.prog) ((putRow (fun (b : UInt8) => Value.int .u8 (b.toNat : Int)) (w.alloc (.cells Lib.zeros24 126)) w.heap.size 0 dk).drewN k) 26 9 5 ⟨w.heap.size, 0, none⟩ 24 (Lib.decDigits u) Tryd.underlying26 Tryd.underlying5 Tryd.underlying9 (fun j hj => by
        rw [Lib.row_is_numeral hF j hj, Lib.add_plain, World.cell?_drewN]
        have hsz := hF.size
        have h5 : (Array.replicate nd (0 : UInt8)).size = nd := Array.size_replicate
        exact cell?_putRow (fun (b : UInt8) => Value.int .u8 (b.toNat : Int)) _ w.heap.size 0 _ dk HH0.out (by rw [hsz, h5, Hnd.out]) j (by rw [hsz]; rw [Lib.decDigits_length] at hj; exact hj))
      rw [Lib.decDigits_length, ← Hnd.out] at h
      rw [HS.out]
      exact h
    obtain ⟨os, eo⟩ := Lib.fin_at w (.cells Lib.zeros24 126) dk k 0
    have Hfo : Hid (Fr w ((putRow (fun (b : UInt8) => Value.int .u8 (b.toNat : Int)) (w.alloc (.cells Lib.zeros24 126)) w.heap.size 0 dk).drewN k) (fun _ => False)) := by
      show Fr _ _ _
      rw [eo]
      exact ⟨rfl, rfl, rfl, by show _ ≤ (w.heap ++ os).size; simp, fun j hj _ => Lib.heap_grow_old w k os j hj⟩
    clear eo
    generalize (putRow (fun (b : UInt8) => Value.int .u8 (b.toNat : Int)) (w.alloc (.cells Lib.zeros24 126)) w.heap.size 0 dk).drewN k = wz at hcv Hfo
    go_wp2_with fail
    go_ret
    exact ⟨rfl, Hfo.out⟩

set_option maxRecDepth 4000 in
theorem fmtUint_any (u : Nat) (hu : u < 18446744073709551616) (w : World) (hK : KTab w) : Calls Tryd.prog 31 #[.int .u64 (u : Int), .int .i64 10] w fun e w' => e = .returned (.string (strOf (decL u))) ∧ Fr w w' (fun _ => False) := by
  have h0 := ifmtUint_any u hu w hK
  rw [decL_lib] at h0
  generalize strOf (decL u) = S at h0 ⊢
  go_enter Tryd.func31, Tryd.ntmps31
  go_wp2_with fail
  refine h0.mono ?_
  rintro e w' ⟨rfl, hf⟩
  have Hf : Hid (Fr w w' (fun _ => False)) := hf
  clear hf
  go_wp2_with fail
  go_ret
  exact ⟨rfl, Hf.out⟩

def lays173_ren : Go.Shelf.Ren := ⟨fun | 173 => 55 | 246 => 73 | 283 => 69 | 284 => 70 | 285 => 71 | 286 => 72 | 129 => 83 | 317 => 82 | 318 => 84 | 319 => 85 | 320 => 86 | 337 => 90 | 338 => 91 | n => n, fun | 2 => 2 | 3 => 3 | 9 => 9 | 4 => 4 | 171 => 126 | 0 => 0 | 53 => 22 | 37 => 26 | 5 => 5 | 173 => 129 | 212 => 140 | 51 => 55 | 20 => 20 | 213 => 141 | 46 => 143 | 232 => 150 | 233 => 151 | n => n, fun | 17 => 0 | 18 => 1 | 19 => 2 | n => n⟩
theorem lays173 : Go.Proofs.LaysM.n173 Tryd.prog lays173_ren := {
  mixed := by kernel_rfl,
  f129 := Tryd.func83.trans (congrArg some (by kernel_rfl)),
  f173 := Tryd.func55.trans (congrArg some (by kernel_rfl)),
  f246 := Tryd.func73.trans (congrArg some (by kernel_rfl)),
  f283 := Tryd.func69.trans (congrArg some (by kernel_rfl)),
  f284 := Tryd.func70.trans (congrArg some (by kernel_rfl)),
  f285 := Tryd.func71.trans (congrArg some (by kernel_rfl)),
  f286 := Tryd.func72.trans (congrArg some (by kernel_rfl)),
  f317 := Tryd.func82.trans (congrArg some (by kernel_rfl)),
  f318 := Tryd.func84.trans (congrArg some (by kernel_rfl)),
  f319 := Tryd.func85.trans (congrArg some (by kernel_rfl)),
  f320 := Tryd.func86.trans (congrArg some (by kernel_rfl)),
  f337 := Tryd.func90.trans (congrArg some (by kernel_rfl)),
  f338 := Tryd.func91.trans (congrArg some (by kernel_rfl)),
  t0 := Tryd.underlying0,
  a0 := Tryd.isAgg0,
  z0 := Tryd.sizeOf0,
  v0 := Tryd.zeroValue0,
  t2 := Tryd.underlying2,
  a2 := Tryd.isAgg2,
  z2 := Tryd.sizeOf2,
  v2 := Tryd.zeroValue2,
  t3 := Tryd.underlying3,
  a3 := Tryd.isAgg3,
  z3 := Tryd.sizeOf3,
  v3 := Tryd.zeroValue3,
  t4 := Tryd.underlying4,
  a4 := Tryd.isAgg4,
  z4 := Tryd.sizeOf4,
  v4 := Tryd.zeroValue4,
  t5 := Tryd.underlying5,
  a5 := Tryd.isAgg5,
  z5 := Tryd.sizeOf5,
  v5 := Tryd.zeroValue5,
  t9 := Tryd.underlying9,
  a9 := Tryd.isAgg9,
  z9 := Tryd.sizeOf9,
  v9 := Tryd.zeroValue9,
  t20 := Tryd.underlying20,
  a20 := Tryd.isAgg20,
  z20 := Tryd.sizeOf20,
  v20 := Tryd.zeroValue20,
  t37 := Tryd.underlying26,
  a37 := Tryd.isAgg26,
  z37 := Tryd.sizeOf26,
  v37 := Tryd.zeroValue26,
  t46 := Tryd.underlying143,
  a46 := Tryd.isAgg143,
  z46 := Tryd.sizeOf143,
  v46 := Tryd.zeroValue143,
  t51 := Tryd.underlying55,
  a51 := Tryd.isAgg55,
  z51 := Tryd.sizeOf55,
  v51 := Tryd.zeroValue55,
  t53 := Tryd.underlying22,
  a53 := Tryd.isAgg22,
  z53 := Tryd.sizeOf22,
  v53 := Tryd.zeroValue22,
  t171 := Tryd.underlying126,
  a171 := Tryd.isAgg126,
  z171 := Tryd.sizeOf126,
  v171 := Tryd.zeroValue126,
  t173 := Tryd.underlying129,
  a173 := Tryd.isAgg129,
  z173 := Tryd.sizeOf129,
  v173 := Tryd.zeroValue129,
  t212 := Tryd.underlying140,
  a212 := Tryd.isAgg140,
  z212 := Tryd.sizeOf140,
  v212 := Tryd.zeroValue140,
  t213 := Tryd.underlying141,
  a213 := Tryd.isAgg141,
  z213 := Tryd.sizeOf141,
  t232 := Tryd.underlying150,
  a232 := Tryd.isAgg150,
  z232 := Tryd.sizeOf150,
  v232 := Tryd.zeroValue150,
  t233 := Tryd.underlying151,
  a233 := Tryd.isAgg151,
  z233 := Tryd.sizeOf151,
  v233 := Tryd.zeroValue151,
  g17 := by kernel_rfl,
  g18 := by kernel_rfl,
  g19 := by kernel_rfl,
  i0 := by kernel_rfl,
  i2 := by kernel_rfl,
  i3 := by kernel_rfl,
  i4 := by kernel_rfl,
  i5 := by kernel_rfl,
  i9 := by kernel_rfl,
  i20 := by kernel_rfl,
  i37 := by kernel_rfl,
  i46 := by kernel_rfl,
  i51 := by kernel_rfl,
  i53 := by kernel_rfl,
  i171 := by kernel_rfl,
  i173 := by kernel_rfl,
  i212 := by kernel_rfl,
  i232 := by kernel_rfl,
  i233 := by kernel_rfl,
  m17 := by kernel_rfl,
  m18 := by kernel_rfl,
  m19 := by kernel_rfl }

theorem fmtInt_any (u : Nat) (hu : u < 9223372036854775808) (w : World) (hK : KTab w) : Calls Tryd.prog 55 #[.int .i64 (u : Int), .int .i64 10] w fun e w' => e = .returned (.string (strOf (decL u))) ∧ Fr w w' (fun _ => False) := by
  refine Calls.mono (Any.strconv_FormatInt_10 lays173 (u : Int) (by omega) (by omega) w hK) ?_
  rintro e w' ⟨he, k, os, hw⟩
  refine ⟨by rw [he, Lib.itoa_nonneg, ← decL_lib], ?_⟩
  rw [hw]
  exact ⟨rfl, rfl, rfl, by show _ ≤ (w.heap ++ os).size; simp, fun j hj _ => Lib.heap_grow_old w k os j hj⟩

end Go.Proofs.YtpeibameegjefaaDoor
