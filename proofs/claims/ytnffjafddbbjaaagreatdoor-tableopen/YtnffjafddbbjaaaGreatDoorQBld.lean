/-
  A strings.Builder that a call has made itself: copyCheck, WriteString, WriteByte (the library's own text walked; the ways are the kit's shelf's).
-/
import Derived.Shelf.Strings.BuilderX
import Derived.Lib.Builder
import Derived.Lib.AppendStr
import Derived.Lib.UnsafeStr
import Derived.Lib.Walk
import Derived.WalkKit
import Derived.Laws.Externs
import Derived.Test.YtnffjafddbbjaaaGreatDoorJ1
import Derived.Test.YtnffjafddbbjaaaGreatDoorRows
set_option linter.unusedVariables false
namespace Go.Proofs.YtnffjafddbbjaaaGreatDoor
open Go.Shelf Go.RowKit

theorem fr_belowB {w w' : World} {B : Nat} (h : Below B w w') : Fr w w' (fun k => B ≤ k) := ⟨h.os, h.tape, h.output, h.size, fun k _ hs => h.block k (by omega)⟩
theorem bytes_append (s u : ByteArray) : (s ++ u).data.toList = s.data.toList ++ u.data.toList := by simp
theorem strCells_append (s u : ByteArray) : Lib.strCells (s ++ u) = Lib.strCells s ++ Lib.strCells u := by
  unfold Lib.strCells
  rw [← List.map_append, bytes_append]
theorem bldSize : (Tryz.prog.info? 74).map (·.size) = some 2 := by kernel_rfl
theorem bldLies : liesAt Tryz.prog Tryz.prog.depth 74 (2 / Tryz.prog.cellsOf 74) 0 74 1 = true := by kernel_rfl
theorem bldByte : (Tryz.prog.info? 5).map (fun i => (i.zero, i.size, i.bytes)) = some (some (.int .u8 0), 1, 1) := by kernel_rfl

set_option maxHeartbeats 1000000 in
set_option maxRecDepth 100000 in
theorem copyCheck_used (b : Nat) (w : World) (h0 : w.cell? ⟨b, 0, none⟩ = some (.pointer (some ⟨b, 0, none⟩))) :
    Calls Tryz.prog 58 #[.pointer (some ⟨b, 0, none⟩)] w fun e w' => e = .returned (.tuple #[]) ∧ w' = w := by
  obtain ⟨j, hj, _⟩ := Option.map_eq_some_iff.1 bldSize
  go_enter Tryz.func58, Tryz.ntmps58
  go_wp2
  rw [Lib.run_neq_ptr_same w _ Tryz.underlying72 hj]
  go_wp2
  go_end0
  exact ⟨rfl, rfl⟩
set_option maxHeartbeats 1000000 in
set_option maxRecDepth 100000 in
theorem copyCheck_fresh (b : Nat) (w : World) (h0 : w.cell? ⟨b, 0, none⟩ = some (.pointer none)) (hsh : w.shape? b = some (74, 2)) (hfz : w.frozen? ⟨b, 0, none⟩ = false) :
    Calls Tryz.prog 58 #[.pointer (some ⟨b, 0, none⟩)] w fun e w' => e = .returned (.tuple #[]) ∧ w' = w.setCell ⟨b, 0, none⟩ (.pointer (some ⟨b, 0, none⟩)) := by
  obtain ⟨j, hj, hjs⟩ := Option.map_eq_some_iff.1 bldSize
  go_enter Tryz.func58, Tryz.ntmps58
  go_wp2
  rw [Lib.run_to_unsafe w ⟨b, 0, none⟩ Tryz.underlying72 Tryz.underlying138 hj (by rw [hjs]; decide) hsh (Nat.zero_lt_succ 1)]
  simp only [Result.andThen]
  rw [Oper.upon_value]
  go_wp2
  rw [run_callFunc_extern Tryz.func86 (by kernel_rfl) (by kernel_rfl) (by kernel_rfl) (e := Extern.AbiNoEscape.same) (by kernel_rfl)]
  rw [Lib.run_noEscape]
  simp only [Result.andThen]
  rw [Oper.upon_value]
  go_wp2
  rw [Lib.run_from_unsafe w ⟨b, 0, none⟩ Tryz.underlying138 Tryz.underlying72 hj hsh bldLies]
  simp only [Result.andThen]
  rw [Oper.upon_value]
  go_wp2
  go_end0
  exact ⟨rfl, rfl⟩
/-- The blocks that a builder's writes touch: its own and its row's. -/
def bfoot (w : World) (b : Nat) (k : Nat) : Prop := k = b ∨ ∃ v, w.cell? ⟨b, 1, none⟩ = some v ∧ v.ownBlock = some k
theorem copyCheck_any (B b : Nat) (bs : List Value) (w : World) (h : Lib.IsBuilder 74 5 B b bs w) :
    Calls Tryz.prog 58 #[.pointer (some ⟨b, 0, none⟩)] w fun e w' => e = .returned (.tuple #[]) ∧ B ≤ b ∧ ∃ v, w.cell? ⟨b, 1, none⟩ = some v ∧ w'.heap[b]? = some (.cells #[.pointer (some ⟨b, 0, none⟩), v] 74 (0, 0)) ∧ w'.ownsRow B 5 1 v bs.length bs ∧ v.ownBlock ≠ some b ∧ Fr w w' (fun k => k = b) := by
  rcases h with h | h
  · refine (copyCheck_fresh b w h.cell0 h.shape h.frozen0).mono ?_
    rintro e w' ⟨rfl, rfl⟩
    obtain ⟨hB, v, hb, hown, hne⟩ := h
    have hs := heap_setCell_same w b 0 #[.pointer none, v] 74 (.pointer (some ⟨b, 0, none⟩)) hb
    obtain ⟨-, v2, hb2, hown2, hne2⟩ := Lib.BuilderAt.used ⟨hB, v, hb, hown, hne⟩ (.pointer (some ⟨b, 0, none⟩))
    rw [hs] at hb2
    simp at hb2
    subst hb2
    exact ⟨rfl, hB, v, by rw [Lib.cell_of_heap hb]; rfl, by simpa using hs, hown2, hne2, (Fr.refl w (fun k => k = b)).setCell _ (fun _ => rfl) _⟩
  · refine (copyCheck_used b w h.cell0).mono ?_
    rintro e w' ⟨rfl, rfl⟩
    obtain ⟨hB, v, hb, hown, hne⟩ := h
    exact ⟨rfl, hB, v, by rw [Lib.cell_of_heap hb]; rfl, hb, hown, hne, Fr.refl _ _⟩

set_option maxHeartbeats 2000000 in
set_option maxRecDepth 100000 in
theorem bldWriteByte (B b : Nat) (bs : List Value) (c : Int) (w : World) (h : Lib.IsBuilder 74 5 B b bs w) (hlen : bs.length + 1 ≤ 140737488355328) (hBw : B ≤ w.heap.size) :
    Calls Tryz.prog 28 #[.pointer (some ⟨b, 0, none⟩), .int .u8 c] w fun e w' => e = .returned .nilIface ∧ (Lib.BuilderAt 74 5 B b (.pointer (some ⟨b, 0, none⟩)) (bs ++ [.int .u8 c]) w' ∧ Fr w w' (bfoot w b)) := by
  obtain ⟨i0, hi, hz0, hz1, hz2⟩ := info_parts bldByte
  go_enter Tryz.func28, Tryz.ntmps28
  go_wp2_with (go_at_call 58; refine (copyCheck_any B b bs _ h).mono ?_)
  rintro e w1 ⟨rfl, hB, v, hv0, hbk, hown, hne, hb1⟩
  have c0 : w1.cell? ⟨b, 0, none⟩ = some (.pointer (some ⟨b, 0, none⟩)) := by rw [Lib.cell_of_heap hbk]; rfl
  have c1 : w1.cell? ⟨b, 1, none⟩ = some v := by rw [Lib.cell_of_heap hbk]; rfl
  go_wp2_with (at_builtin; refine wpList_append_own _ rfl _ _ 26 rfl B 5 i0 (.int .u8 0) 1 1 Tryz.underlying26 hi hz0 hz1 hz2 rfl (by decide) _ _ _ rfl (hown.alloc _) ⟨w1.heap.size, 0, none⟩ 1 1 [.int .u8 c] rfl rfl ?c1 ?c2 ?c3 ?c4 ?c5 ?_)
  case c1 =>
    intro j u hj
    match j, hj with
    | 0, hj => simp at hj; subst hj; simp [Addr.add]
  case c2 => intro u hu; simp at hu; subst hu; rfl
  case c3 => unfold maxLen; omega
  case c4 => omega
  case c5 => have := hb1.size; simp; omega
  intro v' w2 hown' hgrow _
  have hlt : b < w1.heap.size := by
    rcases Nat.lt_or_ge b w1.heap.size with h' | h'
    · exact h'
    · simp [Array.getElem?_eq_none h'] at hbk
  have hb2 : w2.heap[b]? = some (.cells #[.pointer (some ⟨b, 0, none⟩), v] 74 (0, 0)) := by
    rw [hgrow.block b (by simp; omega) (fun e => hne e.symm), Lib.alloc_old w1 _ b hlt]
    exact hbk
  have d0 : w2.cell? ⟨b, 0, none⟩ = some (.pointer (some ⟨b, 0, none⟩)) := by rw [Lib.cell_of_heap hb2]; rfl
  have d1 : w2.cell? ⟨b, 1, none⟩ = some v := by rw [Lib.cell_of_heap hb2]; rfl
  have f1 : w2.frozen? ⟨b, 1, none⟩ = false := Lib.frozen_of_heap hb2 1
  obtain ⟨g, cap, rfl⟩ : ∃ g cap, v' = .slice (some ⟨g, 0, none⟩) (bs.length + 1) cap := by
    rcases hown'.2 with ⟨_, h0⟩ | ⟨g, cap, cur, hv, _⟩
    · omega
    · exact ⟨g, cap, hv⟩
  go_wp2
  go_ret
  refine ⟨rfl, ?_, ?_⟩
  · exact Lib.BuilderAt.put (T := 74) (e := 5) hB hb2 (bs' := bs ++ [.int .u8 c]) (by simpa using hown') (by decide)
  · exact (((hb1.mono (fun _ _ h => .inl h)).alloc _).grown hgrow (fun k hk _ => .inr ⟨v, hv0, hk⟩)).setCell _ (fun _ => .inl rfl) _

set_option maxHeartbeats 2000000 in
set_option maxRecDepth 100000 in
theorem bldWriteString (B b : Nat) (bs : List Value) (s : ByteArray) (w : World) (h : Lib.IsBuilder 74 5 B b bs w) (hlen : bs.length + s.size ≤ 140737488355328) (hBw : B ≤ w.heap.size) :
    Calls Tryz.prog 27 #[.pointer (some ⟨b, 0, none⟩), .string s] w fun e w' => e = .returned (.tuple #[.int .i64 s.size, .nilIface]) ∧ (Lib.BuilderAt 74 5 B b (.pointer (some ⟨b, 0, none⟩)) (bs ++ Lib.strCells s) w' ∧ Fr w w' (bfoot w b)) := by
  obtain ⟨i0, hi, hz0, hz1, hz2⟩ := info_parts bldByte
  go_enter Tryz.func27, Tryz.ntmps27
  go_wp2_with (go_at_call 58; refine (copyCheck_any B b bs _ h).mono ?_)
  rintro e w1 ⟨rfl, hB, v, hv0, hbk, hown, hne, hb1⟩
  have c0 : w1.cell? ⟨b, 0, none⟩ = some (.pointer (some ⟨b, 0, none⟩)) := by rw [Lib.cell_of_heap hbk]; rfl
  have c1 : w1.cell? ⟨b, 1, none⟩ = some v := by rw [Lib.cell_of_heap hbk]; rfl
  go_wp2_with (at_builtin; refine Lib.wpList_append_own_string _ rfl _ _ 26 9 rfl B 5 i0 Tryz.underlying26 Tryz.underlying9 hi hz0 hz1 hz2 _ _ _ rfl hown s rfl ?c3 ?c4 ?c5 ?_)
  case c3 => unfold maxLen; omega
  case c4 => omega
  case c5 => have := hb1.size; omega
  intro v' w2 hown' hgrow _
  have hlt : b < w1.heap.size := by
    rcases Nat.lt_or_ge b w1.heap.size with h' | h'
    · exact h'
    · simp [Array.getElem?_eq_none h'] at hbk
  have hb2 : w2.heap[b]? = some (.cells #[.pointer (some ⟨b, 0, none⟩), v] 74 (0, 0)) := by
    rw [hgrow.block b hlt (fun e => hne e.symm)]
    exact hbk
  have d0 : w2.cell? ⟨b, 0, none⟩ = some (.pointer (some ⟨b, 0, none⟩)) := by rw [Lib.cell_of_heap hb2]; rfl
  have d1 : w2.cell? ⟨b, 1, none⟩ = some v := by rw [Lib.cell_of_heap hb2]; rfl
  have f1 : w2.frozen? ⟨b, 1, none⟩ = false := Lib.frozen_of_heap hb2 1
  obtain ⟨ao, n', cap, rfl⟩ : ∃ ao n' cap, v' = .slice ao n' cap := by
    rcases hown'.2 with ⟨hv, _⟩ | ⟨g, cap, cur, hv, _⟩
    · exact ⟨_, _, _, hv⟩
    · exact ⟨_, _, _, hv⟩
  go_wp2
  go_ret2
  refine ⟨rfl, ?_, ?_⟩
  · exact Lib.BuilderAt.put (T := 74) (e := 5) hB hb2 (bs' := bs ++ Lib.strCells s) (by simpa [Lib.strCells_length] using hown') (by decide)
  · exact ((hb1.mono (fun _ _ h => .inl h)).grown hgrow (fun k hk _ => .inr ⟨v, hv0, hk⟩)).setCell _ (fun _ => .inl rfl) _

/-- A builder of the call's own (its blocks from B on) that holds a text. -/
def Bld (B : Nat) (w : World) (b : Nat) (s : ByteArray) : Prop := Lib.IsBuilder 74 5 B b (Lib.strCells s) w
theorem Bld.lt {B : Nat} {w : World} {b : Nat} {s : ByteArray} (h : Bld B w b s) : B ≤ b ∧ b < w.heap.size := by
  rcases h with h | h <;> exact ⟨h.1, h.lt⟩
theorem bld_new (w : World) : Bld w.heap.size (w.alloc (.cells #[.pointer none, .slice none 0 0] 74)) w.heap.size ⟨#[]⟩ := Lib.fresh_isBuilder _ _ w
theorem Bld.keep {B : Nat} {w w' : World} {b : Nat} {s : ByteArray} (h : Bld B w b s) (f : Fr w w' (fun _ => False)) : Bld B w' b s := by
  rcases h with ⟨h1, v, h2, h3, h4⟩ | ⟨h1, v, h2, h3, h4⟩
  · exact .inl ⟨h1, v, f.kept h2 (fun h => h), f.owns h3 (fun _ _ h => h), h4⟩
  · exact .inr ⟨h1, v, f.kept h2 (fun h => h), f.owns h3 (fun _ _ h => h), h4⟩
theorem Bld.at {B : Nat} {w : World} {b : Nat} {s : ByteArray} (h : Bld B w b s) : B ≤ b ∧ ∃ p v, w.heap[b]? = some (.cells #[p, v] 74 (0, 0)) ∧ w.ownsRow B 5 1 v (Lib.strCells s).length (Lib.strCells s) := by
  rcases h with ⟨h1, v, h2, h3, -⟩ | ⟨h1, v, h2, h3, -⟩
  · exact ⟨h1, _, v, h2, h3⟩
  · exact ⟨h1, _, v, h2, h3⟩
/-- A builder's blocks lie from B on. -/
theorem Bld.foot {B : Nat} {w : World} {b : Nat} {s : ByteArray} (h : Bld B w b s) {k : Nat} (hk : bfoot w b k) : B ≤ k ∧ k < w.heap.size := by
  obtain ⟨hB, p, v, hb, hown⟩ := h.at
  rcases hk with rfl | ⟨v2, hc, ho⟩
  · exact ⟨hB, h.lt.2⟩
  · rw [Lib.cell_of_heap hb] at hc
    obtain rfl : v = v2 := by simpa using hc
    exact hown.lt k ho
/-- .. and no block of another type is one of them. -/
theorem Bld.apart {B : Nat} {w : World} {b p : Nat} {s : ByteArray} {cs : Array Value} {T : TypeId} {fr : Nat × Nat} (h : Bld B w b s) (hp : w.heap[p]? = some (.cells cs T fr)) (hT : T ≠ 5) (hb : p ≠ b) : ¬ bfoot w b p := by
  obtain ⟨hB, q, v, hbk, hown⟩ := h.at
  rintro (hk | ⟨v2, hc, ho⟩)
  · exact hb hk
  · rw [Lib.cell_of_heap hbk] at hc
    obtain rfl : v = v2 := by simpa using hc
    exact Lib.ownBlock_ne hown hp hT ho
theorem writeString_any (B b : Nat) (s u : ByteArray) (w : World) (h : Bld B w b s) (hB : B ≤ w.heap.size) (hl : s.size + u.size ≤ 100000000000) : Calls Tryz.prog 27 #[.pointer (some ⟨b, 0, none⟩), .string u] w fun e w' => e = .returned (.tuple #[.int .i64 (u.size : Int), .nilIface]) ∧ Bld B w' b (s ++ u) ∧ Fr w w' (bfoot w b) := by
  refine (bldWriteString B b (Lib.strCells s) u w h (by rw [Lib.strCells_length]; omega) hB).mono ?_
  rintro e w' ⟨he, hb, hf⟩
  refine ⟨he, .inr ?_, hf⟩
  rw [strCells_append]
  exact hb
theorem writeByte_any (B b c : Nat) (s : ByteArray) (w : World) (h : Bld B w b s) (hB : B ≤ w.heap.size) (hl : s.size + 1 ≤ 100000000000) (hc : c < 256) : Calls Tryz.prog 28 #[.pointer (some ⟨b, 0, none⟩), .int .u8 (c : Int)] w fun e w' => e = .returned .nilIface ∧ Bld B w' b (s ++ strOf [c]) ∧ Fr w w' (bfoot w b) := by
  refine (bldWriteByte B b (Lib.strCells s) (c : Int) w h (by rw [Lib.strCells_length]; omega) hB).mono ?_
  rintro e w' ⟨he, hb, hf⟩
  refine ⟨he, .inr ?_, hf⟩
  have h1 : (strOf [c]).data.toList = [UInt8.ofNat c] := by simp [strOf, strOfNums]
  have h2 : Lib.strCells (strOf [c]) = [.int .u8 (c : Int)] := by
    unfold Lib.strCells
    rw [h1, List.map_cons, List.map_nil, UInt8.toNat_ofNat_of_lt' hc]
  rw [strCells_append, h2]
  exact hb

end Go.Proofs.YtnffjafddbbjaaaGreatDoor
