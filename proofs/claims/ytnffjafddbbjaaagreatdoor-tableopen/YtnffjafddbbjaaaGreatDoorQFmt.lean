/-
  A number's decimal digits, by the library: strconv.FormatUint and FormatInt at base 10, by the kit's shelf.
-/
import Derived.Shelf.Strconv.Itoa4
import Derived.Lib.AppendIntMem
import Derived.Test.YtnffjafddbbjaaaGreatDoorJ1
namespace Go.Proofs.YtnffjafddbbjaaaGreatDoor
open Go.Shelf Go.RowKit Go.Sort Go.Lib

def lays283_ren : Go.Shelf.Ren := ⟨fun | 283 => 87 | n => n, fun | 3 => 3 | 9 => 9 | 4 => 4 | n => n, fun | n => n⟩
theorem lays283 : Go.Proofs.Lays.n283 Tryz.prog lays283_ren := {
  mixed := by kernel_rfl,
  f283 := Tryz.func87.trans (congrArg some (by kernel_rfl)),
  t3 := Tryz.underlying3,
  a3 := Tryz.isAgg3,
  z3 := Tryz.sizeOf3,
  v3 := Tryz.zeroValue3,
  t4 := Tryz.underlying4,
  a4 := Tryz.isAgg4,
  z4 := Tryz.sizeOf4,
  v4 := Tryz.zeroValue4,
  t9 := Tryz.underlying9,
  a9 := Tryz.isAgg9,
  z9 := Tryz.sizeOf9,
  v9 := Tryz.zeroValue9 }
def lays284_ren : Go.Shelf.Ren := ⟨fun | 284 => 88 | 129 => 111 | 317 => 120 | 318 => 121 | n => n, fun | 53 => 22 | 3 => 3 | 212 => 181 | 0 => 0 | 4 => 4 | 46 => 147 | 5 => 5 | 9 => 9 | n => n, fun | 17 => 0 | n => n⟩
theorem lays284 : Go.Proofs.LaysM.n284 Tryz.prog lays284_ren := {
  mixed := by kernel_rfl,
  f129 := Tryz.func111.trans (congrArg some (by kernel_rfl)),
  f284 := Tryz.func88.trans (congrArg some (by kernel_rfl)),
  f317 := Tryz.func120.trans (congrArg some (by kernel_rfl)),
  f318 := Tryz.func121.trans (congrArg some (by kernel_rfl)),
  t0 := Tryz.underlying0,
  a0 := Tryz.isAgg0,
  z0 := Tryz.sizeOf0,
  v0 := Tryz.zeroValue0,
  t3 := Tryz.underlying3,
  a3 := Tryz.isAgg3,
  z3 := Tryz.sizeOf3,
  v3 := Tryz.zeroValue3,
  t4 := Tryz.underlying4,
  a4 := Tryz.isAgg4,
  z4 := Tryz.sizeOf4,
  v4 := Tryz.zeroValue4,
  t5 := Tryz.underlying5,
  a5 := Tryz.isAgg5,
  z5 := Tryz.sizeOf5,
  v5 := Tryz.zeroValue5,
  t9 := Tryz.underlying9,
  a9 := Tryz.isAgg9,
  z9 := Tryz.sizeOf9,
  v9 := Tryz.zeroValue9,
  t46 := Tryz.underlying147,
  a46 := Tryz.isAgg147,
  z46 := Tryz.sizeOf147,
  v46 := Tryz.zeroValue147,
  t53 := Tryz.underlying22,
  a53 := Tryz.isAgg22,
  z53 := Tryz.sizeOf22,
  v53 := Tryz.zeroValue22,
  t212 := Tryz.underlying181,
  a212 := Tryz.isAgg181,
  z212 := Tryz.sizeOf181,
  v212 := Tryz.zeroValue181,
  g17 := by kernel_rfl,
  i0 := by kernel_rfl,
  i3 := by kernel_rfl,
  i4 := by kernel_rfl,
  i5 := by kernel_rfl,
  i9 := by kernel_rfl,
  i46 := by kernel_rfl,
  i53 := by kernel_rfl,
  i212 := by kernel_rfl,
  m17 := by kernel_rfl }
def lays285_ren : Go.Shelf.Ren := ⟨fun | 285 => 89 | n => n, fun | 37 => 26 | 53 => 22 | 3 => 3 | 4 => 4 | 51 => 56 | 9 => 9 | 5 => 5 | 0 => 0 | n => n, fun | n => n⟩
theorem lays285 : Go.Proofs.Lays.n285 Tryz.prog lays285_ren := {
  mixed := by kernel_rfl,
  f285 := Tryz.func89.trans (congrArg some (by kernel_rfl)),
  t0 := Tryz.underlying0,
  a0 := Tryz.isAgg0,
  z0 := Tryz.sizeOf0,
  v0 := Tryz.zeroValue0,
  t3 := Tryz.underlying3,
  a3 := Tryz.isAgg3,
  z3 := Tryz.sizeOf3,
  v3 := Tryz.zeroValue3,
  t4 := Tryz.underlying4,
  a4 := Tryz.isAgg4,
  z4 := Tryz.sizeOf4,
  v4 := Tryz.zeroValue4,
  t5 := Tryz.underlying5,
  a5 := Tryz.isAgg5,
  z5 := Tryz.sizeOf5,
  v5 := Tryz.zeroValue5,
  t9 := Tryz.underlying9,
  a9 := Tryz.isAgg9,
  z9 := Tryz.sizeOf9,
  v9 := Tryz.zeroValue9,
  t37 := Tryz.underlying26,
  a37 := Tryz.isAgg26,
  z37 := Tryz.sizeOf26,
  v37 := Tryz.zeroValue26,
  t51 := Tryz.underlying56,
  a51 := Tryz.isAgg56,
  z51 := Tryz.sizeOf56,
  v51 := Tryz.zeroValue56,
  t53 := Tryz.underlying22,
  a53 := Tryz.isAgg22,
  z53 := Tryz.sizeOf22,
  v53 := Tryz.zeroValue22 }

theorem decL_lib (u : Nat) : ByteArray.mk (Lib.decDigits u).toArray = strOf (decL u) := by
  have h : ∀ u, (Lib.decDigits u) = (decL u).map (fun b => UInt8.ofNat b) := fun u => by
    induction u using Nat.strongRecOn with
    | ind u ih =>
      by_cases h : u < 10
      · rw [Lib.decDigits_one h, decL_small u h]; rfl
      · rw [Lib.decDigits, dif_neg h, decL_big u h, ih (u / 10) (by omega), List.map_append]; rfl
  rw [h]
  unfold strOf strOfNums
  congr 1
  simp only [List.map_map]
  rfl

set_option maxHeartbeats 6400000 in
set_option maxRecDepth 100000 in
theorem ifmtUint_any (u : Nat) (hu64 : u < 18446744073709551616) (w : World) (hK : KTab w) : Calls Tryz.prog 59 #[.int .u64 (u : Int), .int .i64 10] w fun e w' => e = .returned (.string ⟨(Lib.decDigits u).toArray⟩) ∧ Fr w w' (fun _ => False) := by
  by_cases hs : u < 100
  · have g1 : (u : Int) < 100 := by omega
    have g1' : decide (u < 100) = true := decide_eq_true hs
    have g2 : IntKind.i64.wrap (u : Int) = (u : Int) := IntWalk.i64_in _ (by omega)
    have hsm : ∀ z, Calls Tryz.prog 87 #[.int .i64 (u : Int)] z fun e w' => e = .returned (.string ⟨(Lib.decDigits u).toArray⟩) ∧ w' = z := fun z => Any.internal_strconv_small lays283 u hs z
    generalize (ByteArray.mk (Lib.decDigits u).toArray) = S at hsm ⊢
    go_enter Tryz.func59, Tryz.ntmps59
    go_wp2_with fail
    refine (hsm _).mono ?_
    rintro e w' ⟨rfl, rfl⟩
    go_wp2_with fail
    go_ret
    exact ⟨rfl, Fr.refl _ _⟩
  · obtain ⟨S, hS⟩ : ∃ S, S = ByteArray.mk (Lib.decDigits u).toArray := ⟨_, rfl⟩
    rw [← hS]
    have HS : Hid (S = ByteArray.mk (Lib.decDigits u).toArray) := hS
    clear hS
    have hu1 : 1 ≤ u := by omega
    have g1 : ¬ (u : Int) < 100 := by omega
    have g1' : decide (u < 100) = false := decide_eq_false hs
    have hnd20 : Lib.nDigits u ≤ 20 := by have := Lib.numDigits_eq u hu1 hu64; split at this <;> omega
    obtain ⟨nd, hnd⟩ : ∃ nd, nd = Lib.nDigits u := ⟨_, rfl⟩
    have hal : Tryz.prog.arrayLen 153 = 24 := by simp [Program.arrayLen, Tryz.underlying153]
    have hsl1 : ∀ W, (Instr.sliceAt 153 (.pointer (some ⟨w.heap.size, 0, none⟩)) none (some (.int .i64 (nd : Int))) none).run Tryz.prog W = .ok (.slice (some ⟨w.heap.size, 0, none⟩) nd 24) W := fun W => by
      rw [run_sliceAt_array_h W 153 ⟨w.heap.size, 0, none⟩ (by simp [Program.arrayLen, Program.elem, Tryz.underlying153]) .i64 (nd : Int) (by omega) (by rw [hal]; omega)]
      go_simp
    have hdig : ∀ z, KTab z → Calls Tryz.prog 88 #[.int .u64 (u : Int)] z fun e w' => e = .returned (.int .i64 (nd : Int)) ∧ w' = z := fun z hz => by
      rw [hnd]
      exact Any.internal_strconv_numDigits lays284 u hu1 hu64 z hz
    have hH0 := Lib.holds_zero0 w 153 nd (by omega)
    have hfmt : Calls Tryz.prog 89 #[.slice (some ⟨w.heap.size, 0, none⟩) nd 24, .int .u64 (u : Int)] (w.alloc (.cells Lib.zeros24 153)) fun e w' => e = .returned (.tuple #[]) ∧ ∃ (n v' : Nat) (dk : Array UInt8), w' = (putRow (fun (b : UInt8) => Value.int .u8 (b.toNat : Int)) (w.alloc (.cells Lib.zeros24 153)) w.heap.size 0 dk).drewN n ∧ FmtInv nd u 0 v' dk := by
      have h := Any.internal_strconv_formatBase10 lays285 w.heap.size 0 24 u (Array.replicate nd 0) (w.alloc (.cells Lib.zeros24 153)) hH0 (by rw [Array.size_replicate, hnd]; exact Lib.lt_pow_nDigits u) hu64 (by rw [Array.size_replicate]; omega)
      rw [Array.size_replicate] at h
      exact h
    have HH0 := Lib.hid hH0
    have Hnd : Hid (nd = Lib.nDigits u) := hnd
    have HK : Hid (KTab (w.alloc (.cells Lib.zeros24 153))) := hK.keep ((Fr.refl _ _).alloc _)
    clear hH0 hal hnd hnd20 hK
    go_enter Tryz.func59, Tryz.ntmps59
    go_wp2_with fail
    refine (hdig _ HK.out).mono ?_
    rintro e w' ⟨rfl, rfl⟩
    go_wp2_with fail
    refine hfmt.mono ?_
    rintro e w' ⟨rfl, k, v', dk, rfl, hF⟩
    rw [Hnd.out] at hF
    have hcv : (convert 26 9 (.slice (some ⟨w.heap.size, 0, none⟩) nd 24)).run Tryz.prog ((putRow (fun (b : UInt8) => Value.int .u8 (b.toNat : Int)) (w.alloc (.cells Lib.zeros24 153)) w.heap.size 0 dk).drewN k) = .ok (.string S) ((putRow (fun (b : UInt8) => Value.int .u8 (b.toNat : Int)) (w.alloc (.cells Lib.zeros24 153)) w.heap.size 0 dk).drewN k) := by
      have h := run_convert_bytes_back (P := Tryz.prog) ((putRow (fun (b : UInt8) => Value.int .u8 (b.toNat : Int)) (w.alloc (.cells Lib.zeros24 153)) w.heap.size 0 dk).drewN k) 26 9 5 ⟨w.heap.size, 0, none⟩ 24 (Lib.decDigits u) Tryz.underlying26 Tryz.underlying5 Tryz.underlying9 (fun j hj => by
        rw [Lib.row_is_numeral hF j hj, Lib.add_plain, World.cell?_drewN]
        have hsz := hF.size
        have h5 : (Array.replicate nd (0 : UInt8)).size = nd := Array.size_replicate
        exact cell?_putRow (fun (b : UInt8) => Value.int .u8 (b.toNat : Int)) _ w.heap.size 0 _ dk HH0.out (by rw [hsz, h5, Hnd.out]) j (by rw [hsz]; rw [Lib.decDigits_length] at hj; exact hj))
      rw [Lib.decDigits_length, ← Hnd.out] at h
      rw [HS.out]
      exact h
    obtain ⟨os, eo⟩ := Lib.fin_at w (.cells Lib.zeros24 153) dk k 0
    have Hfo : Hid (Fr w ((putRow (fun (b : UInt8) => Value.int .u8 (b.toNat : Int)) (w.alloc (.cells Lib.zeros24 153)) w.heap.size 0 dk).drewN k) (fun _ => False)) := by
      show Fr _ _ _
      rw [eo]
      exact ⟨rfl, rfl, rfl, by show _ ≤ (w.heap ++ os).size; simp, fun j hj _ => Lib.heap_grow_old w k os j hj⟩
    clear eo
    generalize (putRow (fun (b : UInt8) => Value.int .u8 (b.toNat : Int)) (w.alloc (.cells Lib.zeros24 153)) w.heap.size 0 dk).drewN k = wz at hcv Hfo
    go_wp2_with fail
    go_ret
    exact ⟨rfl, Hfo.out⟩

set_option maxRecDepth 4000 in
theorem fmtUint_any (u : Nat) (hu : u < 18446744073709551616) (w : World) (hK : KTab w) : Calls Tryz.prog 29 #[.int .u64 (u : Int), .int .i64 10] w fun e w' => e = .returned (.string (strOf (decL u))) ∧ Fr w w' (fun _ => False) := by
  have h0 := ifmtUint_any u hu w hK
  rw [decL_lib] at h0
  generalize strOf (decL u) = S at h0 ⊢
  go_enter Tryz.func29, Tryz.ntmps29
  go_wp2_with fail
  refine h0.mono ?_
  rintro e w' ⟨rfl, hf⟩
  have Hf : Hid (Fr w w' (fun _ => False)) := hf
  clear hf
  go_wp2_with fail
  go_ret
  exact ⟨rfl, Hf.out⟩

def lays173_ren : Go.Shelf.Ren := ⟨fun | 173 => 60 | 246 => 91 | 283 => 87 | 284 => 88 | 285 => 89 | 286 => 90 | 129 => 111 | 317 => 120 | 318 => 121 | 319 => 122 | 320 => 123 | 337 => 133 | 338 => 134 | n => n, fun | 2 => 2 | 3 => 3 | 9 => 9 | 4 => 4 | 171 => 153 | 0 => 0 | 53 => 22 | 37 => 26 | 5 => 5 | 173 => 156 | 212 => 181 | 51 => 56 | 20 => 20 | 213 => 182 | 46 => 147 | 232 => 197 | 233 => 198 | n => n, fun | 17 => 0 | 18 => 1 | 19 => 2 | n => n⟩
theorem lays173 : Go.Proofs.LaysM.n173 Tryz.prog lays173_ren := {
  mixed := by kernel_rfl,
  f129 := Tryz.func111.trans (congrArg some (by kernel_rfl)),
  f173 := Tryz.func60.trans (congrArg some (by kernel_rfl)),
  f246 := Tryz.func91.trans (congrArg some (by kernel_rfl)),
  f283 := Tryz.func87.trans (congrArg some (by kernel_rfl)),
  f284 := Tryz.func88.trans (congrArg some (by kernel_rfl)),
  f285 := Tryz.func89.trans (congrArg some (by kernel_rfl)),
  f286 := Tryz.func90.trans (congrArg some (by kernel_rfl)),
  f317 := Tryz.func120.trans (congrArg some (by kernel_rfl)),
  f318 := Tryz.func121.trans (congrArg some (by kernel_rfl)),
  f319 := Tryz.func122.trans (congrArg some (by kernel_rfl)),
  f320 := Tryz.func123.trans (congrArg some (by kernel_rfl)),
  f337 := Tryz.func133.trans (congrArg some (by kernel_rfl)),
  f338 := Tryz.func134.trans (congrArg some (by kernel_rfl)),
  t0 := Tryz.underlying0,
  a0 := Tryz.isAgg0,
  z0 := Tryz.sizeOf0,
  v0 := Tryz.zeroValue0,
  t2 := Tryz.underlying2,
  a2 := Tryz.isAgg2,
  z2 := Tryz.sizeOf2,
  v2 := Tryz.zeroValue2,
  t3 := Tryz.underlying3,
  a3 := Tryz.isAgg3,
  z3 := Tryz.sizeOf3,
  v3 := Tryz.zeroValue3,
  t4 := Tryz.underlying4,
  a4 := Tryz.isAgg4,
  z4 := Tryz.sizeOf4,
  v4 := Tryz.zeroValue4,
  t5 := Tryz.underlying5,
  a5 := Tryz.isAgg5,
  z5 := Tryz.sizeOf5,
  v5 := Tryz.zeroValue5,
  t9 := Tryz.underlying9,
  a9 := Tryz.isAgg9,
  z9 := Tryz.sizeOf9,
  v9 := Tryz.zeroValue9,
  t20 := Tryz.underlying20,
  a20 := Tryz.isAgg20,
  z20 := Tryz.sizeOf20,
  v20 := Tryz.zeroValue20,
  t37 := Tryz.underlying26,
  a37 := Tryz.isAgg26,
  z37 := Tryz.sizeOf26,
  v37 := Tryz.zeroValue26,
  t46 := Tryz.underlying147,
  a46 := Tryz.isAgg147,
  z46 := Tryz.sizeOf147,
  v46 := Tryz.zeroValue147,
  t51 := Tryz.underlying56,
  a51 := Tryz.isAgg56,
  z51 := Tryz.sizeOf56,
  v51 := Tryz.zeroValue56,
  t53 := Tryz.underlying22,
  a53 := Tryz.isAgg22,
  z53 := Tryz.sizeOf22,
  v53 := Tryz.zeroValue22,
  t171 := Tryz.underlying153,
  a171 := Tryz.isAgg153,
  z171 := Tryz.sizeOf153,
  v171 := Tryz.zeroValue153,
  t173 := Tryz.underlying156,
  a173 := Tryz.isAgg156,
  z173 := Tryz.sizeOf156,
  v173 := Tryz.zeroValue156,
  t212 := Tryz.underlying181,
  a212 := Tryz.isAgg181,
  z212 := Tryz.sizeOf181,
  v212 := Tryz.zeroValue181,
  t213 := Tryz.underlying182,
  a213 := Tryz.isAgg182,
  z213 := Tryz.sizeOf182,
  t232 := Tryz.underlying197,
  a232 := Tryz.isAgg197,
  z232 := Tryz.sizeOf197,
  v232 := Tryz.zeroValue197,
  t233 := Tryz.underlying198,
  a233 := Tryz.isAgg198,
  z233 := Tryz.sizeOf198,
  v233 := Tryz.zeroValue198,
  g17 := by kernel_rfl,
  g18 := by kernel_rfl,
  g19 := by kernel_rfl,
  i0 := by kernel_rfl,
  i2 := by kernel_rfl,
  i3 := by kernel_rfl,
  i4 := by kernel_rfl,
  i5 := by kernel_rfl,
  i9 := by kernel_rfl,
  i20 := by kernel_rfl,
  i37 := by kernel_rfl,
  i46 := by kernel_rfl,
  i51 := by kernel_rfl,
  i53 := by kernel_rfl,
  i171 := by kernel_rfl,
  i173 := by kernel_rfl,
  i212 := by kernel_rfl,
  i232 := by kernel_rfl,
  i233 := by kernel_rfl,
  m17 := by kernel_rfl,
  m18 := by kernel_rfl,
  m19 := by kernel_rfl }

theorem fmtInt_any (u : Nat) (hu : u < 9223372036854775808) (w : World) (hK : KTab w) : Calls Tryz.prog 60 #[.int .i64 (u : Int), .int .i64 10] w fun e w' => e = .returned (.string (strOf (decL u))) ∧ Fr w w' (fun _ => False) := by
  refine Calls.mono (Any.strconv_FormatInt_10 lays173 (u : Int) (by omega) (by omega) w hK) ?_
  rintro e w' ⟨he, k, os, hw⟩
  refine ⟨by rw [he, Lib.itoa_nonneg, ← decL_lib], ?_⟩
  rw [hw]
  exact ⟨rfl, rfl, rfl, by show _ ≤ (w.heap ++ os).size; simp, fun j hj _ => Lib.heap_grow_old w k os j hj⟩

end Go.Proofs.YtnffjafddbbjaaaGreatDoor
