/-
  What a program's scanner keeps: a condition; the laws' first look.
-/
import Derived.Test.YtchkojdpnbecoaaDoorTDec
import Derived.Test.YtchkojdpnbecoaaDoorTNext
import Derived.Test.YtchkojdpnbecoaaDoorTOk
namespace Go.Proofs.YtchkojdpnbecoaaDoor
open Go.RowKit

/-- What the program's scanner keeps: P F w v s c: in the world w the pointer v is a scanner of s in the state c, on the blocks F; K w: what the program's variables hold lies in w. -/
structure CI (K : World → Prop) (P : (Nat → Prop) → World → Value → ByteArray → Sc → Prop) : Prop where
  keep : ∀ {w w'}, K w → Fr w w' (fun _ => False) → K w'
  ptr : ∀ {F w v s c}, P F w v s c → ∃ a, v = .pointer (some a)
  frame : ∀ {F w w' v s c} {S : Nat → Prop}, P F w v s c → Fr w w' S → (∀ k, F k → ¬ S k) → P F w' v s c
  below : ∀ {F w v s c}, P F w v s c → ∀ k, F k → k < w.heap.size
  new : ∀ (s : ByteArray) (w : World), s.size ≤ 1000000000 → Calls Tryd.prog 10 #[.string s] w fun r w' => (∃ v F, r = .returned v ∧ P F w' v s ⟨0, 1, 1, 0⟩ ∧ ∀ k, F k → w.heap.size ≤ k) ∧ Fr w w' (fun _ => False)
  number : ∀ (F : Nat → Prop) (v : Value) (s : ByteArray) (c : Sc) (most : Nat) (w : World), P F w v s c → ScOk s c → s.size ≤ 1000000000 → most < 18446744073709551616 → K w → Calls Tryd.prog 12 #[v, .int .u64 (most : Int)] w fun r w' =>
    r = .returned (.int .u64 (scNumVal s most c : Int)) ∧ ∃ F', P F' w' v s (scNum s most c) ∧ Fr w w' F ∧ ∀ k, F' k → F k ∨ w.heap.size ≤ k
  word : ∀ (F : Nat → Prop) (v : Value) (s u : ByteArray) (c : Sc) (w : World), P F w v s c → ScOk s c → s.size ≤ 1000000000 → (c.err = 0 → u.size ≤ 1000000000) → Calls Tryd.prog 14 #[v, .string u] w fun r w' =>
    r = .returned (.bool (scWordOk s u c)) ∧ ∃ F', P F' w' v s (scWord s u c) ∧ Fr w w' F ∧ ∀ k, F' k → F k ∨ w.heap.size ≤ k
  byte : ∀ (F : Nat → Prop) (v : Value) (s : ByteArray) (b : Nat) (c : Sc) (w : World), P F w v s c → ScOk s c → s.size ≤ 1000000000 → b < 256 → Calls Tryd.prog 18 #[v, .int .u8 (b : Int)] w fun r w' =>
    r = .returned (.bool (scByteOk s b c)) ∧ ∃ F', P F' w' v s (scByte s b c) ∧ Fr w w' F ∧ ∀ k, F' k → F k ∨ w.heap.size ≤ k
  next : ∀ (F : Nat → Prop) (v : Value) (s : ByteArray) (c : Sc) (w : World), P F w v s c → ScOk s c → s.size ≤ 1000000000 → Calls Tryd.prog 16 #[v] w fun r w' =>
    r = .returned (.tuple #[.int .u8 ((scNext s c).1 : Int), .bool (scNext s c).2]) ∧ Fr w w' (fun _ => False)
  place : ∀ (F : Nat → Prop) (v : Value) (s : ByteArray) (c : Sc) (w : World), P F w v s c → ScOk s c → s.size ≤ 1000000000 → Calls Tryd.prog 23 #[v] w fun r w' =>
    r = .returned (placeV c) ∧ Fr w w' (fun _ => False)
  err : ∀ (F : Nat → Prop) (v : Value) (s : ByteArray) (c : Sc) (w : World), P F w v s c → ScOk s c → s.size ≤ 1000000000 → Calls Tryd.prog 22 #[v] w fun r w' =>
    r = .returned (.int .i64 (c.err : Int)) ∧ Fr w w' (fun _ => False)
  fail : ∀ (F : Nat → Prop) (v : Value) (s : ByteArray) (c : Sc) (e : Nat) (w : World), P F w v s c → ScOk s c → s.size ≤ 1000000000 → e < 256 → Calls Tryd.prog 20 #[v, .int .i64 (e : Int)] w fun r w' =>
    r = .returned (.tuple #[]) ∧ ∃ F', P F' w' v s (scFail c e) ∧ Fr w w' F ∧ ∀ k, F' k → F k ∨ w.heap.size ≤ k

def kT : ByteArray := ⟨#[55, 32, 97, 10, 48, 56]⟩
def kA : ByteArray := ⟨#[97, 10]⟩
theorem k1v : scNumVal kT 9 ⟨0, 1, 1, 0⟩ = 7 := by decide
theorem k1s : scNum kT 9 ⟨0, 1, 1, 0⟩ = ⟨1, 1, 2, 0⟩ := by decide
theorem k2v : scByteOk kT 32 ⟨1, 1, 2, 0⟩ = true := by decide
theorem k2s : scByte kT 32 ⟨1, 1, 2, 0⟩ = ⟨2, 1, 3, 0⟩ := by decide
theorem k3v : scWordOk kT kA ⟨2, 1, 3, 0⟩ = true := by decide
theorem k3s : scWord kT kA ⟨2, 1, 3, 0⟩ = ⟨4, 2, 1, 0⟩ := by decide
theorem k4v : scNumVal kT 9 ⟨4, 2, 1, 0⟩ = 0 := by decide
theorem k4s : scNum kT 9 ⟨4, 2, 1, 0⟩ = ⟨4, 2, 1, 21⟩ := by decide
theorem k5v : scByteOk kT 48 ⟨4, 2, 1, 21⟩ = false := by decide

end Go.Proofs.YtchkojdpnbecoaaDoor
