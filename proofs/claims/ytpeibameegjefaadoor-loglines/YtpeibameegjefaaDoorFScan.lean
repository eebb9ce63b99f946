/-
  The program's scanner as its own packages call it: the calls with literals; what holds where no error came.
-/
import Derived.Test.YtpeibameegjefaaDoorQProof
import Derived.Test.YtpeibameegjefaaDoorTLogE
namespace Go.Proofs.YtpeibameegjefaaDoor
open Go.RowKit

theorem sNum (m : Nat) (m' : Int) (hm : (m : Int) = m') (hlt : m < 18446744073709551616) (p : Nat) (s : ByteArray) (c : Sc) (w : World) (h : LSc w p s c) (hok : ScOk s c) (hs : s.size ≤ 1000000000) (hK : KVar w) : Calls Tryd.prog 59 #[.pointer (some ⟨p, 0, none⟩), .int .u64 m'] w fun r w' =>
    r = .returned (.int .u64 (scNumVal s m c : Int)) ∧ LSc w' p s (scNum s m c) ∧ Fr w w' (fun k => k = p) := by
  subst hm
  exact scanNumber_any p m s c w h hok hs hlt hK
theorem sB (b : Nat) (b' : Int) (hb : (b : Int) = b') (p : Nat) (s : ByteArray) (c : Sc) (w : World) (h : LSc w p s c) (hok : ScOk s c) (hs : s.size ≤ 1000000000) : Calls Tryd.prog 58 #[.pointer (some ⟨p, 0, none⟩), .int .u8 b'] w fun r w' =>
    r = .returned (.bool (scByteOk s b c)) ∧ LSc w' p s (scByte s b c) ∧ Fr w w' (fun k => k = p) := by
  subst hb
  exact scanByte_any p b s c w h hok hs
theorem byte_ok {s : ByteArray} {c : Sc} {b : Nat} (h : (scByte s b c).err = 0) : c.err = 0 ∧ scByteOk s b c = true := by
  by_cases he : c.err = 0
  · refine ⟨he, ?_⟩
    unfold scByte scWord at h
    rw [if_pos he] at h
    unfold scByteOk scWordOk
    by_cases hw : wordErr s (strOf [b]) c.pos 0 (strOf [b]).size = 0
    · rw [he, hw]; rfl
    · rw [if_neg hw] at h
      exact absurd h hw
  · rw [(scByte_stop he).2] at h
    exact absurd h he
theorem num_ok {s : ByteArray} {c : Sc} {m : Nat} (h : (scNum s m c).err = 0) : c.err = 0 := by
  by_cases he : c.err = 0
  · exact he
  · rw [(scNum_stop' he).2] at h
    exact absurd h he
theorem next_minus {s : ByteArray} {c : Sc} (h : (scNext s c).1 = 45) : scNext s c = (45, true) := by
  unfold scNext at h ⊢
  split at h
  · rename_i hc
    rw [if_pos hc]
    exact Prod.ext h rfl
  · simp at h
/-- Where a line has no error, its sign was read as it stands. -/
theorem ev_plus {s : ByteArray} {c : Sc} (h : (evEnd s c).err = 0) : evPlus s (ev2 s c) = decide ((scNext s (ev2 s c)).1 ≠ 45) := by
  have h1 := (byte_ok (num_ok (byte_ok (num_ok (byte_ok h).1)).1)).1
  unfold evPlus
  unfold evSg at h1
  by_cases hc : scNext s (ev2 s c) = (45, true)
  · rw [if_pos hc, hc]; rfl
  · rw [if_neg hc] at h1 ⊢
    rw [(byte_ok h1).2]
    rw [eq_comm, decide_eq_true_iff]
    exact fun h => hc (next_minus h)
theorem sg_sign (s : ByteArray) (c : Sc) : evSg s c = if (scNext s c).1 = 45 then scByte s 45 c else scByte s 43 c := by
  unfold evSg
  by_cases hc : scNext s c = (45, true)
  · rw [if_pos hc, hc]; rfl
  · rw [if_neg hc, if_neg (fun h => hc (next_minus h))]

end Go.Proofs.YtpeibameegjefaaDoor
