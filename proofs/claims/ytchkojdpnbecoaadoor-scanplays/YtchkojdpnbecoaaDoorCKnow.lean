/-
  The laws' first look at a program's scanner.
-/
import Derived.Test.YtchkojdpnbecoaaDoorCI
namespace Go.Proofs.YtchkojdpnbecoaaDoor
open Go.RowKit

set_option maxRecDepth 4000 in
set_option maxHeartbeats 1600000 in
theorem cknown_any {K : World → Prop} {P : (Nat → Prop) → World → Value → ByteArray → Sc → Prop} (M : CI K P) (w : World) (hK : K w) : Calls Tryd.prog 8 #[] w fun e w' => e = .returned (.bool true) ∧ Fr w w' (fun _ => False) := by
  have HK : Hid (K w) := hK
  clear hK
  obtain ⟨T, hT⟩ : ∃ T, T = kT := ⟨_, rfl⟩
  obtain ⟨A, hA⟩ : ∃ A, A = kA := ⟨_, rfl⟩
  have hTs : T.size ≤ 1000000000 := by rw [hT]; decide
  have hAs : A.size ≤ 1000000000 := by rw [hA]; decide
  have K1 := M.new T w hTs
  have e1v := k1v
  have e1s := k1s
  have e2v := k2v
  have e2s := k2s
  have e3v := k3v
  have e3s := k3s
  have e4v := k4v
  have e4s := k4s
  have e5v := k5v
  rw [← hT] at e1v e1s e2v e2s e3v e3s e4v e4s e5v
  rw [← hA] at e3v e3s
  have o1 := scNew_ok T
  have o2 : ScOk T ⟨1, 1, 2, 0⟩ := by rw [← e1s]; exact scNum_ok o1 9
  have o3 : ScOk T ⟨2, 1, 3, 0⟩ := by rw [← e2s]; exact scWord_ok o2 _
  have o4 : ScOk T ⟨4, 2, 1, 0⟩ := by rw [← e3s]; exact scWord_ok o3 _
  have o5 : ScOk T ⟨4, 2, 1, 21⟩ := by rw [← e4s]; exact scNum_ok o4 _
  have HTs : Hid _ := hTs
  have HAs : Hid _ := hAs
  have HT : Hid (T = ⟨#[55, 32, 97, 10, 48, 56]⟩) := hT
  have HA : Hid (A = ⟨#[97, 10]⟩) := hA
  have E1v : Hid _ := e1v
  have E1s : Hid _ := e1s
  have E2v : Hid _ := e2v
  have E2s : Hid _ := e2s
  have E3v : Hid _ := e3v
  have E3s : Hid _ := e3s
  have E4v : Hid _ := e4v
  have E4s : Hid _ := e4s
  have E5v : Hid _ := e5v
  have O1 : Hid _ := o1
  have O2 : Hid _ := o2
  have O3 : Hid _ := o3
  have O4 : Hid _ := o4
  have O5 : Hid _ := o5
  clear hTs hAs e1v e1s e2v e2s e3v e3s e4v e4s e5v o1 o2 o3 o4 o5 hT hA
  go_enter Tryd.func8, Tryd.ntmps8
  go_wp2_with fail
  rw [← HT.out]
  refine K1.mono ?_
  rintro r w1 ⟨⟨v, F1, rfl, p1, n1⟩, f1⟩
  obtain ⟨a, rfl⟩ := M.ptr p1
  have P1 : Hid _ := p1
  have N1 : Hid _ := n1
  have F1' : Hid (Fr w w1 (fun _ => False)) := f1
  clear p1 n1 f1 K1
  go_wp2_with fail
  refine (M.number F1 _ T _ 9 w1 P1.out O1.out HTs.out (by decide) (M.keep HK.out F1'.out)).mono ?_
  rw [E1v.out, E1s.out]
  rintro r w2 ⟨rfl, F2, p2, f2, n2⟩
  have P2 : Hid _ := p2
  have N2 : Hid (∀ k, F2 k → w.heap.size ≤ k) := fun k hk => (n2 k hk).elim (N1.out k) (fun h => Nat.le_trans F1'.out.size h)
  have F2' : Hid (Fr w w2 (fun _ => False)) := F1'.out.newer f2 N1.out
  clear p2 n2 f2
  go_wp2_with fail
  refine (M.byte F2 _ T 32 _ w2 P2.out O2.out HTs.out (by decide)).mono ?_
  rw [E2v.out, E2s.out]
  rintro r w3 ⟨rfl, F3, p3, f3, n3⟩
  have P3 : Hid _ := p3
  have N3 : Hid (∀ k, F3 k → w.heap.size ≤ k) := fun k hk => (n3 k hk).elim (N2.out k) (fun h => Nat.le_trans F2'.out.size h)
  have F3' : Hid (Fr w w3 (fun _ => False)) := F2'.out.newer f3 N2.out
  clear p3 n3 f3
  go_wp2_with fail
  rw [← HA.out]
  refine (M.word F3 _ T A _ w3 P3.out O3.out HTs.out (fun _ => HAs.out)).mono ?_
  rw [E3v.out, E3s.out]
  rintro r w4 ⟨rfl, F4, p4, f4, n4⟩
  have P4 : Hid _ := p4
  have N4 : Hid (∀ k, F4 k → w.heap.size ≤ k) := fun k hk => (n4 k hk).elim (N3.out k) (fun h => Nat.le_trans F3'.out.size h)
  have F4' : Hid (Fr w w4 (fun _ => False)) := F3'.out.newer f4 N3.out
  clear p4 n4 f4
  go_wp2_with fail
  refine (M.number F4 _ T _ 9 w4 P4.out O4.out HTs.out (by decide) (M.keep HK.out F4'.out)).mono ?_
  rw [E4v.out, E4s.out]
  rintro r w5 ⟨rfl, F5, p5, f5, n5⟩
  have P5 : Hid _ := p5
  have N5 : Hid (∀ k, F5 k → w.heap.size ≤ k) := fun k hk => (n5 k hk).elim (N4.out k) (fun h => Nat.le_trans F4'.out.size h)
  have F5' : Hid (Fr w w5 (fun _ => False)) := F4'.out.newer f5 N4.out
  clear p5 n5 f5
  go_wp2_with fail
  refine (M.err F5 _ T _ w5 P5.out O5.out HTs.out).mono ?_
  rw [show (((⟨4, 2, 1, 21⟩ : Sc).err : Nat) : Int) = 21 from rfl]
  rintro r w6 ⟨rfl, f6⟩
  have F6' : Hid (Fr w w6 (fun _ => False)) := F5'.out.none f6
  have P6 : Hid _ := M.frame P5.out f6 (fun _ _ h => h)
  clear f6
  go_wp2_with fail
  refine (M.place F5 _ T _ w6 P6.out O5.out HTs.out).mono ?_
  rw [show placeV ⟨4, 2, 1, 21⟩ = .agg #[.int .i64 2, .int .i64 1] from rfl]
  rintro r w7 ⟨rfl, f7⟩
  have F7' : Hid (Fr w w7 (fun _ => False)) := F6'.out.none f7
  have P7 : Hid _ := M.frame P6.out f7 (fun _ _ h => h)
  have N7 : Hid _ := N5.out
  clear f7
  go_wp2_with fail
  refine (M.byte F5 _ T 48 _ w7 P7.out O5.out HTs.out (by decide)).mono ?_
  rw [E5v.out]
  rintro r w8 ⟨rfl, F8, p8, f8, n8⟩
  have F8' : Hid (Fr w w8 (fun _ => False)) := F7'.out.newer f8 N5.out
  clear p8 n8 f8
  go_wp2_with fail
  go_ret
  exact ⟨rfl, F8'.out⟩

end Go.Proofs.YtchkojdpnbecoaaDoor
