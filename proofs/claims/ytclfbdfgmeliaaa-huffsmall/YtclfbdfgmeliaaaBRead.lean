/-
  The contracts of NewWriter, Len, Bytes, NewReader, Left and Take of package bits; at most 10^11 bytes.
-/
import Derived.Test.YtclfbdfgmeliaaaBRest
namespace Go.Proofs.Ytclfbdfgmeliaaa
open Go.RowKit
set_option maxRecDepth 4000

theorem Rds.frame' {w w' : World} {v : Value} {bs : List Nat} {S : Nat → Prop} (h : Rds w v bs) (f : Fr w w' S) (hs : 0 < bs.length → ∀ k, v.ownBlock = some k → ¬ S k) : Rds w' v bs := by
  obtain ⟨ao, cap, rfl, hc⟩ := h
  refine ⟨ao, cap, rfl, fun hp => ?_⟩
  obtain ⟨b, off, rfl, hcell⟩ := hc hp
  refine ⟨b, off, rfl, fun j u hj => ?_⟩
  have h1 := hcell j u hj
  have h2 := World.block_lt_of_cell? _ _ h1
  rw [World.cell?_of_block (w := w) (f.block _ h2 (hs hp _ rfl))]
  exact h1

theorem Rds.frame {w w' : World} {v : Value} {bs : List Nat} {S : Nat → Prop} (h : Rds w v bs) (f : Fr w w' S) (hs : ∀ k, v.ownBlock = some k → ¬ S k) : Rds w' v bs :=
  h.frame' f (fun _ => hs)

/-- A reader in block p (its struct's type: T) of the bytes bs, of which i bits are taken. -/
def Rd (T : TypeId) (w : World) (p : Nat) (sv : Value) (bs : List Nat) (i : Nat) : Prop :=
  w.heap[p]? = some (.cells #[sv, .int .i64 (i : Int)] T (0, 0)) ∧ Rds w sv bs ∧ i ≤ 8 * bs.length ∧ bs.length ≤ 100000000000 ∧ (∀ j, bs.getD j 0 < 256) ∧ (0 < bs.length → sv.ownBlock ≠ some p)

theorem Rd.frame {T : TypeId} {w w' : World} {p : Nat} {sv : Value} {bs : List Nat} {i : Nat} {S : Nat → Prop} (h : Rd T w p sv bs i) (f : Fr w w' S) (hs : ∀ k, foot p sv k → ¬ S k) : Rd T w' p sv bs i := by
  obtain ⟨hp, hr, hi⟩ := h
  exact ⟨f.kept hp (hs p (.inl rfl)), hr.frame f (fun k hk => hs k (.inr hk)), hi⟩

theorem Rd.frame' {T : TypeId} {w w' : World} {p : Nat} {sv : Value} {bs : List Nat} {i : Nat} {S : Nat → Prop} (h : Rd T w p sv bs i) (f : Fr w w' S) (hp : ¬ S p) (hs : 0 < bs.length → ∀ k, sv.ownBlock = some k → ¬ S k) : Rd T w' p sv bs i := by
  obtain ⟨hb, hr, hi⟩ := h
  exact ⟨f.kept hb hp, hr.frame' f hs, hi⟩

set_option maxHeartbeats 400000 in
theorem newWriter_any (w : World) :
    Calls Try.prog 39 #[] w fun e w' => e = .returned (.pointer (some ⟨w.heap.size, 0, none⟩)) ∧ Wr w' w.heap.size (.slice none 0 0) [] ∧ Fr w w' (fun _ => False) := by
  go_enter Try.func39, Try.ntmps39
  go_wp2
  go_ret
  exact ⟨rfl, ⟨heap_alloc_new w _, [], Packs.nil, World.ownsRow_nil _ _ _ _⟩, (Fr.refl _ _).alloc _⟩

set_option maxHeartbeats 400000 in
theorem bytes_any (p : Nat) (sv : Value) (l : List Bool) (w : World) (h : Wr w p sv l) (hn : l.length ≤ 1000000000000) :
    Calls Try.prog 41 #[.pointer (some ⟨p, 0, none⟩)] w fun e w' => ∃ bs, Packs bs l ∧ e = .returned (.slice (some ⟨w.heap.size, 0, none⟩) bs.length bs.length) ∧
      w'.ownsRow 0 5 1 (.slice (some ⟨w.heap.size, 0, none⟩) bs.length bs.length) bs.length (row .u8 bs) ∧ Fr w w' (fun _ => False) := by
  obtain ⟨hp, bs, hb, ho⟩ := h
  have c0 := two_cell0 hp
  have hl := hb.len
  have hr := rds_own ho
  have Hr : Hid _ := hr
  have hl2 : bs.length ≤ 200000000000 := by omega
  clear hp ho hr hl
  go_enter Try.func41, Try.ntmps41
  go_wp2_with fail
  refine (copied_any sv bs w Hr.out hl2).mono ?_
  rintro e w1 ⟨rfl, h1, h2⟩
  go_wp2
  go_ret
  exact ⟨bs, hb, rfl, h1, h2⟩

set_option maxHeartbeats 400000 in
theorem newReader_any (v : Value) (bs : List Nat) (w : World) (hv : Rds w v bs) (hb : bs.length ≤ 100000000000) (hs : ∀ j, bs.getD j 0 < 256) :
    Calls Try.prog 63 #[v] w fun e w' => ∃ p sv, e = .returned (.pointer (some ⟨p, 0, none⟩)) ∧ Rd 124 w' p sv bs 0 ∧ Fr w w' (fun _ => False) ∧ (∀ k, foot p sv k → w.heap.size ≤ k) := by
  have Hv : Hid _ := hv
  clear hv
  go_enter Try.func63, Try.ntmps63
  go_wp2_with fail
  refine (copied_any v bs w Hv.out (by omega)).mono ?_
  rintro e w1 ⟨rfl, h1, h2⟩
  go_wp2
  go_ret
  refine ⟨w1.heap.size, _, rfl, ⟨heap_alloc_new w1 _, rds_own (h1.alloc _), by omega, hb, hs, ?_⟩, h2.alloc _, ?_⟩
  · intro _
    have := (h1.lt w.heap.size rfl).2
    simp [Value.ownBlock]; omega
  intro k hk
  have := h2.size
  rcases hk with rfl | hk
  · exact this
  · simp [Value.ownBlock] at hk; omega

set_option maxHeartbeats 400000 in
theorem left_any (p : Nat) (sv : Value) (bs : List Nat) (i : Nat) (w : World) (h : Rd 124 w p sv bs i) :
    Calls Try.prog 84 #[.pointer (some ⟨p, 0, none⟩)] w fun e w' => e = .returned (.int .i64 ((8 * bs.length - i : Nat) : Int)) ∧ ∃ n, w' = w.drewN n := by
  obtain ⟨hp, ⟨ao, cap, rfl, _⟩, hi, hl, hs, _⟩ := h
  have c0 := two_cell0 hp
  have c1 := two_cell1 hp
  generalize bs.length = len at *
  clear hp
  have e1 : IntKind.i64.wrap (8 * (len : Int)) = 8 * (len : Int) := IntWalk.i64_in _ (by omega)
  have e2 : IntKind.i64.wrap (8 * (len : Int) - (i : Int)) = ((8 * len - i : Nat) : Int) := by rw [IntWalk.i64_in _ (by omega)]; omega
  go_enter Try.func84, Try.ntmps84
  go_wp2
  go_quiet (fail)
  go_wp2
  go_ret
  exact ⟨rfl, _, rfl⟩

set_option maxHeartbeats 400000 in
theorem take_no (p : Nat) (sv : Value) (bs : List Nat) (i : Nat) (n : Int) (w : World) (h : Rd 124 w p sv bs i) (hno : 8 * bs.length - i < wide n) :
    Calls Try.prog 72 #[.pointer (some ⟨p, 0, none⟩), .int .i64 n] w fun e w' => e = .returned (.tuple #[.int .u64 0, .bool false]) ∧ ∃ n, w' = w.drewN n := by
  have hwd := wide_le n
  obtain ⟨m, hm⟩ : ∃ m, m = wide n := ⟨_, rfl⟩
  rw [← hm] at hwd hno
  have Hm : Hid (min (max n 0) 64 = (m : Int)) := by rw [hm]; exact (wide_cast n).symm
  clear hm
  go_enter Try.func72, Try.ntmps72
  go_wp2_with fail
  refine (width_any n _).mono ?_
  rintro e w' ⟨rfl, rfl⟩
  rw [Hm.out]
  go_wp2_with fail
  refine (left_any p sv bs i _ h).mono ?_
  rintro e w' ⟨rfl, nq, rfl⟩
  go_wp2
  go_ret2
  exact ⟨rfl, _, rfl⟩

theorem take_val (V x j : Nat) (hV : V < 9223372036854775808) (hx : x < 256) :
    bits .or .u64 (IntKind.u64.wrap ((V : Int) * 2)) (IntKind.u64.wrap (bits .and .u8 ((x : Int) / 2 ^ (j % 8)) 1)) = ((2 * V + (x.testBit (j % 8)).toNat : Nat) : Int) := by
  have e : (x : Int) / 2 ^ (j % 8) = ((x / 2 ^ (j % 8) : Nat) : Int) := by simp
  have hlt : x / 2 ^ (j % 8) < 256 := Nat.lt_of_le_of_lt (Nat.div_le_self _ _) hx
  rw [e, show (1 : Int) = ((1 : Nat) : Int) from rfl, u8_and_nat _ _ hlt (by omega), nat_mask1, Nat.testBit_eq_decide_div_mod_eq]
  generalize x / 2 ^ (j % 8) = y at *
  rw [IntKind.wrap_u64, IntKind.wrap_u64]
  have e1 : (V : Int) * 2 % 18446744073709551616 = ((2 * V : Nat) : Int) := by omega
  have e2 : ((y % 2 : Nat) : Int) % 18446744073709551616 = ((y % 2 : Nat) : Int) := by omega
  rw [e1, e2, u64_or_nat _ _ (by omega) (by omega)]
  have h3 := nat_join 1 (2 * V) (y % 2) (by omega) (by omega)
  rw [h3]
  have h2 : y % 2 = 0 ∨ y % 2 = 1 := by omega
  rcases h2 with h2 | h2 <;> simp [h2]

theorem num_step (bs : List Nat) (i k : Nat) (h : i + k < 8 * bs.length) :
    num (((unpack bs).drop i).take (k + 1)) = 2 * num (((unpack bs).drop i).take k) + ((bs.getD ((i + k) / 8) 0).testBit ((i + k) % 8)).toNat := by
  have hl := length_unpack bs
  have e : ((unpack bs).drop i).take (k + 1) = ((unpack bs).drop i).take k ++ [bitAt bs (i + k)] := by
    rw [List.take_add_one]
    congr 1
    rw [List.getElem?_drop, get_unpack _ _ h]
    rfl
  rw [e, num_snoc]
  rfl

theorem num_bound (bs : List Nat) (i k : Nat) (hk : k ≤ 63) : num (((unpack bs).drop i).take k) < 9223372036854775808 := by
  have h1 := num_lt (((unpack bs).drop i).take k)
  have h2 : (((unpack bs).drop i).take k).length ≤ 63 := by rw [List.length_take]; omega
  have h3 : (2 : Nat) ^ (((unpack bs).drop i).take k).length ≤ 2 ^ 63 := Nat.pow_le_pow_right (by omega) h2
  omega

set_option maxHeartbeats 800000 in
theorem take_yes (p : Nat) (sv : Value) (bs : List Nat) (i : Nat) (n : Int) (w : World) (h : Rd 124 w p sv bs i) (hyes : wide n ≤ 8 * bs.length - i) :
    Calls Try.prog 72 #[.pointer (some ⟨p, 0, none⟩), .int .i64 n] w fun e w' => e = .returned (.tuple #[.int .u64 (num (((unpack bs).drop i).take (wide n)) : Nat), .bool true]) ∧
      Rd 124 w' p sv bs (i + wide n) ∧ Fr w w' (fun k => k = p) := by
  have hwd := wide_le n
  obtain ⟨m, hm⟩ : ∃ m, m = wide n := ⟨_, rfl⟩
  rw [← hm] at hwd hyes ⊢
  have Hm : Hid (min (max n 0) 64 = (m : Int)) := by rw [hm]; exact (wide_cast n).symm
  clear hm
  go_enter Try.func72, Try.ntmps72
  go_wp2_with fail
  refine (width_any n _).mono ?_
  rintro e w' ⟨rfl, rfl⟩
  rw [Hm.out]
  go_wp2_with fail
  refine (left_any p sv bs i _ h).mono ?_
  rintro e w' ⟨rfl, nq, rfl⟩
  have hd : decide (((8 * bs.length - i : Nat) : Int) < (m : Int)) = false := by simp; omega
  have hd' : decide (8 * bs.length - i < m) = false := by simp; omega
  go_wp2_with fail
  go_loopw [7, 17] (fun v c wr => ∃ k : Nat, k ≤ m ∧ c = .int .u64 (k : Int) ∧ (∃ V : Nat, v = .int .u64 (V : Int) ∧ V = num (((unpack bs).drop i).take k)) ∧ Rd 124 wr p sv bs (i + k) ∧ Fr w wr (fun k => k = p))
    (fun _ c _ => m - (intOf c).toNat)
  case atStart => exact ⟨0, Nat.zero_le _, rfl, ⟨0, rfl, by simp [num, numFrom]⟩, h, (Fr.refl _ _).drewN _⟩
  case round =>
    obtain ⟨k, hk, rfl, ⟨V, rfl, hV⟩, hrd, hf⟩ := hrel
    have HV : Hid _ := hV
    have Hrd : Hid _ := hrd
    clear hV
    by_cases hlt : k < m
    · obtain ⟨hp, ⟨ao, cap, rfl, hcel⟩, hi, hl, hs, hsp⟩ := hrd
      have hpos : (i + k) / 8 < bs.length := by omega
      obtain ⟨b, off, rfl, hcell⟩ := hcel (by omega)
      have cg := hcell ((i + k) / 8) _ (row_get .u8 bs _ hpos)
      obtain ⟨x, hx⟩ : ∃ x, x = bs.getD ((i + k) / 8) 0 := ⟨_, rfl⟩
      obtain ⟨j, hj⟩ : ∃ j, j = i + k := ⟨_, rfl⟩
      obtain ⟨q, hq⟩ : ∃ q, q = (i + k) / 8 := ⟨_, rfl⟩
      rw [← hx, ← hq] at cg
      rw [← hj] at hp
      have hx2 : x < 256 := by rw [hx]; exact hs _
      have c0 := two_cell0 hp
      have c1 := two_cell1 hp
      have f1 := two_free hp 1
      have hjb : (j : Int) ≤ 800000000000 := by omega
      have hqw : IntKind.i64.wrap ((j : Int) / 8) = (q : Int) := by rw [IntWalk.i64_in _ (by omega)]; omega
      have i1 : (q : Int) < (bs.length : Int) := by omega
      have Hx : Hid _ := hx
      have Hj : Hid _ := hj
      have Hq : Hid _ := hq
      have Hs : Hid _ := hs
      have Hsp : Hid _ := hsp
      clear hcel hcell hp hx hj hq hs hsp
      go_wp2
      go_quiet ((go_at_call 83; exact Calls.quiet_of_same (place_any _ _ (by omega) (by omega))))
      go_wp2
      go_roundw
      case rel =>
        have hVb : V < 9223372036854775808 := by rw [HV.out]; exact num_bound bs i k (by omega)
        have hfr : Fr wr ((wr.drewN nq).setCell ⟨p, 1, none⟩ (.int .i64 ((j : Int) + 1))) (fun k => k = p) := Fr.setCell (S := fun k => k = p) ((Fr.refl _ _).drewN _) ⟨p, 1, none⟩ (fun _ => rfl) _
        refine ⟨k + 1, by omega, by go_num, ⟨_, congrArg (Value.int .u64) (take_val V x j hVb hx2), ?_⟩, ⟨?_, Hrd.out.2.1.frame' hfr (fun h0 k hk e => Hsp.out h0 (by rw [hk, e])), by omega, hl, Hs.out, Hsp.out⟩, hf.trans hfr (fun _ _ h => h)⟩
        · rw [num_step bs i k (by omega), ← HV.out, ← Hx.out, Hj.out]
        · have := two_set1 (w := wr) (u := .int .i64 ((j : Int) + 1)) Hrd.out.1
          have e3 : ((i + (k + 1) : Nat) : Int) = (j : Int) + 1 := by rw [Hj.out]; omega
          rw [e3]
          exact this
      case measure => simp [intOf]; omega
    · have Hkm : Hid (k = m) := by show k = m; omega
      clear hrd
      go_wp2
      go_ret2
      exact ⟨by rw [HV.out, Hkm.out]; rfl, by rw [← Hkm.out]; exact Hrd.out, hf⟩

end Go.Proofs.Ytclfbdfgmeliaaa
