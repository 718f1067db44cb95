/- Texts, merged in one. -/
import Derived.Test.YtlmakdclebbbkaaGreatRows
import Derived.Test.YtlmakdclebbbkaaGreatBase
import Derived.Shelf.Strings.Builder1
import Derived.Lib.FrozenHead2
import Derived.Lib.OthersKept
import Derived.WalkKit
import Derived.ProofKit
import Derived.RegionTactic
import Derived.Lib.Hide
import Derived.Test.YtlmakdclebbbkaaGreatShelf
import Derived.Test.YtlmakdclebbbkaaGreatBase2
namespace Go.Proofs.YtlmakdclebbbkaaGreat
open Go.ChangeShapes Go.WideShapes Go.ChangeAt Go.RowKit Go.Shelf
set_option linter.unusedVariables false
set_option maxRecDepth 1000000
def Bld (w : World) (B b : Nat) (l : List Value) : Prop := Lib.IsBuilderF 130 5 B b l w
def BldAt (w : World) (B b : Nat) (l : List Value) : Prop := Lib.BuilderAtF 130 5 B b (.pointer (some ⟨b, 0, none⟩)) l w
theorem BldAt.is {w : World} {B b : Nat} {l : List Value} (h : BldAt w B b l) : Bld w B b l := .inr h
def BldKept (B b : Nat) (w w' : World) : Prop := Below B w w' ∧ Lib.OthersKept 5 (some b) w w'
theorem bld_size : (Tryz.prog.info? 130).map (·.size) = some 2 := by kernel_rfl
theorem bld_lies : liesAt Tryz.prog Tryz.prog.depth 130 (2 / Tryz.prog.cellsOf 130) 0 130 1 = true := by kernel_rfl
theorem Tryz.infoU8x : (Tryz.prog.info? 5).map (fun i => (i.zero, i.size, i.bytes)) = some (some (.int .u8 0), 1, 1) := by kernel_rfl
theorem bCheck_used (b : Nat) (w : World) (h0 : w.cell? ⟨b, 0, none⟩ = some (.pointer (some ⟨b, 0, none⟩))) :
    Calls Tryz.prog 110 #[.pointer (some ⟨b, 0, none⟩)] w fun e w' => e = .returned (.tuple #[]) ∧ w' = w := by
  obtain ⟨j, hj, hjs⟩ := Option.map_eq_some_iff.1 bld_size
  go_enter Tryz.func110, Tryz.ntmps110
  go_wp2
  rw [Lib.run_neq_ptr_same w _ Tryz.underlying128 hj]
  go_wp2
  go_end0
  exact ⟨rfl, rfl⟩
theorem bCheck_fresh (b : Nat) (w : World) (h0 : w.cell? ⟨b, 0, none⟩ = some (.pointer none)) (hsh : w.shape? b = some (130, 2)) (hfz : w.frozen? ⟨b, 0, none⟩ = false) :
    Calls Tryz.prog 110 #[.pointer (some ⟨b, 0, none⟩)] w fun e w' => e = .returned (.tuple #[]) ∧ w' = w.setCell ⟨b, 0, none⟩ (.pointer (some ⟨b, 0, none⟩)) := by
  obtain ⟨j, hj, hjs⟩ := Option.map_eq_some_iff.1 bld_size
  go_enter Tryz.func110, Tryz.ntmps110
  go_wp2
  rw [Lib.run_to_unsafe w ⟨b, 0, none⟩ Tryz.underlying128 Tryz.underlying198 hj (by rw [hjs]; decide) hsh (Nat.zero_lt_succ 1)]
  simp only [Result.andThen]
  rw [Oper.upon_value]
  go_wp2
  rw [run_callFunc_extern Tryz.func143 (by kernel_rfl) (by kernel_rfl) (by kernel_rfl) (e := Extern.AbiNoEscape.same) (by kernel_rfl)]
  rw [Lib.run_noEscape]
  simp only [Result.andThen]
  rw [Oper.upon_value]
  go_wp2
  rw [Lib.run_from_unsafe w ⟨b, 0, none⟩ Tryz.underlying198 Tryz.underlying128 hj hsh bld_lies]
  simp only [Result.andThen]
  rw [Oper.upon_value]
  go_wp2
  go_end0
  exact ⟨rfl, rfl⟩
theorem bCheck (B b : Nat) (l : List Value) (w : World) (h : Bld w B b l) :
    Calls Tryz.prog 110 #[.pointer (some ⟨b, 0, none⟩)] w fun e w' => e = .returned (.tuple #[]) ∧ BldAt w' B b l ∧ BldKept B b w w' := by
  rcases h with h | h
  · refine (bCheck_fresh b w h.cell0 h.shape h.frozen0).mono ?_
    rintro e w' ⟨rfl, rfl⟩
    exact ⟨rfl, h.used _, (Below.refl B w).setCell (p := ⟨b, 0, none⟩) h.1 _, (Lib.OthersKept.refl _ _ w).setCell ⟨b, 0, none⟩ rfl _⟩
  · refine (bCheck_used b w h.cell0).mono ?_
    rintro e w' ⟨rfl, rfl⟩
    exact ⟨rfl, h, Below.refl B _, Lib.OthersKept.refl _ _ _⟩
set_option maxHeartbeats 2000000 in
theorem bByte (B b : Nat) (l : List Value) (c : Int) (w : World) (h : Bld w B b l) (hlen : l.length + 1 ≤ 140737488355328) (hBw : B ≤ w.heap.size) :
    Calls Tryz.prog 61 #[.pointer (some ⟨b, 0, none⟩), .int .u8 c] w fun e w' => e = .returned .nilIface ∧ BldAt w' B b (l ++ [.int .u8 c]) ∧ BldKept B b w w' := by
  obtain ⟨i0, hi, hz0, hz1, hz2⟩ := info_parts Tryz.infoU8x
  go_enter Tryz.func61, Tryz.ntmps61
  go_wp2_with fail
  refine (bCheck B b l _ h).mono ?_
  rintro e w1 ⟨rfl, h1, hb1, hk1⟩
  obtain ⟨hB, v, hbk, hown, hne⟩ := h1
  have c0 : w1.cell? ⟨b, 0, none⟩ = some (.pointer (some ⟨b, 0, none⟩)) := by rw [Lib.cell_of_heap hbk]; rfl
  have c1 : w1.cell? ⟨b, 1, none⟩ = some v := by rw [Lib.cell_of_heap hbk]; rfl
  go_wp2_with (at_builtin; refine wpList_append_ownF _ rfl _ _ 107 rfl B 5 i0 (.int .u8 0) 1 1 Tryz.underlying107 hi hz0 hz1 hz2 rfl (by decide) _ _ _ rfl (hown.alloc _) ⟨w1.heap.size, 0, none⟩ 1 1 [.int .u8 c] rfl rfl ?c1 ?c2 ?c3 ?c4 ?c5 ?_)
  case c1 =>
    intro j u hj
    match j, hj with
    | 0, hj => simp at hj; subst hj; simp [Addr.add]
  case c2 => intro u hu; simp at hu; subst hu; rfl
  case c3 => unfold maxLen; omega
  case c4 => omega
  case c5 => have := hb1.size; simp; omega
  intro v' w2 hown' hgrow _
  have hlt : b < w1.heap.size := by
    rcases Nat.lt_or_ge b w1.heap.size with h' | h'
    · exact h'
    · simp [Array.getElem?_eq_none h'] at hbk
  have hb2 : w2.heap[b]? = some (.cells #[.pointer (some ⟨b, 0, none⟩), v] 130 (0, 0)) := by
    rw [hgrow.block b (by simp; omega) (fun e => hne e.symm), Lib.alloc_old w1 _ b hlt]
    exact hbk
  have d0 : w2.cell? ⟨b, 0, none⟩ = some (.pointer (some ⟨b, 0, none⟩)) := by rw [Lib.cell_of_heap hb2]; rfl
  have d1 : w2.cell? ⟨b, 1, none⟩ = some v := by rw [Lib.cell_of_heap hb2]; rfl
  have f1 : w2.frozen? ⟨b, 1, none⟩ = false := Lib.frozen_of_heap hb2 1
  obtain ⟨g, cap, rfl⟩ : ∃ g cap, v' = .slice (some ⟨g, 0, none⟩) (l.length + 1) cap := by
    rcases hown'.2 with ⟨_, h0⟩ | ⟨g, cap, cur, fz, hv, _⟩
    · omega
    · exact ⟨g, cap, hv⟩
  go_wp2
  go_ret
  refine ⟨rfl, ?_, ?_, ((hk1.alloc _).grown hgrow (Lib.ownsRowF_kind (hown.alloc _))).setCell ⟨b, 1, none⟩ rfl _⟩
  · exact Lib.BuilderAtF.put (T := 130) (e := 5) hB hb2 (bs' := l ++ [.int .u8 c]) (by simpa using hown') (by decide)
  · exact ((hb1.alloc (by have := hb1.size; omega) _).grown hgrow (by have := hb1.size; simp; omega) (fun k hk => (hown.lt k hk).1)).setCell (p := ⟨b, 1, none⟩) hB _
set_option maxHeartbeats 2000000 in
theorem bString (B b : Nat) (l : List Value) (s : ByteArray) (w : World) (h : Bld w B b l) (hlen : l.length + s.size ≤ 140737488355328) (hBw : B ≤ w.heap.size) :
    Calls Tryz.prog 62 #[.pointer (some ⟨b, 0, none⟩), .string s] w fun e w' => e = .returned (.tuple #[.int .i64 s.size, .nilIface]) ∧ BldAt w' B b (l ++ Lib.strCells s) ∧ BldKept B b w w' := by
  obtain ⟨i0, hi, hz0, hz1, hz2⟩ := info_parts Tryz.infoU8x
  go_enter Tryz.func62, Tryz.ntmps62
  go_wp2_with fail
  refine (bCheck B b l _ h).mono ?_
  rintro e w1 ⟨rfl, h1, hb1, hk1⟩
  obtain ⟨hB, v, hbk, hown, hne⟩ := h1
  have c0 : w1.cell? ⟨b, 0, none⟩ = some (.pointer (some ⟨b, 0, none⟩)) := by rw [Lib.cell_of_heap hbk]; rfl
  have c1 : w1.cell? ⟨b, 1, none⟩ = some v := by rw [Lib.cell_of_heap hbk]; rfl
  go_wp2_with (at_builtin; refine Lib.wpList_append_own_stringF _ rfl _ _ 107 9 rfl B 5 i0 Tryz.underlying107 Tryz.underlying9 hi hz0 hz1 hz2 _ _ _ rfl hown s rfl ?c3 ?c4 ?c5 ?_)
  case c3 => unfold maxLen; omega
  case c4 => omega
  case c5 => have := hb1.size; omega
  intro v' w2 hown' hgrow _
  have hlt : b < w1.heap.size := by
    rcases Nat.lt_or_ge b w1.heap.size with h' | h'
    · exact h'
    · simp [Array.getElem?_eq_none h'] at hbk
  have hb2 : w2.heap[b]? = some (.cells #[.pointer (some ⟨b, 0, none⟩), v] 130 (0, 0)) := by
    rw [hgrow.block b hlt (fun e => hne e.symm)]
    exact hbk
  have d0 : w2.cell? ⟨b, 0, none⟩ = some (.pointer (some ⟨b, 0, none⟩)) := by rw [Lib.cell_of_heap hb2]; rfl
  have d1 : w2.cell? ⟨b, 1, none⟩ = some v := by rw [Lib.cell_of_heap hb2]; rfl
  have f1 : w2.frozen? ⟨b, 1, none⟩ = false := Lib.frozen_of_heap hb2 1
  obtain ⟨ao, n', cap, rfl⟩ : ∃ ao n' cap, v' = .slice ao n' cap := by
    rcases hown'.2 with ⟨hv, _⟩ | ⟨g, cap, cur, fz, hv, _⟩
    · exact ⟨_, _, _, hv⟩
    · exact ⟨_, _, _, hv⟩
  go_wp2
  go_ret2
  refine ⟨rfl, ?_, ?_, (hk1.grown hgrow (Lib.ownsRowF_kind hown)).setCell ⟨b, 1, none⟩ rfl _⟩
  · exact Lib.BuilderAtF.put (T := 130) (e := 5) hB hb2 (bs' := l ++ Lib.strCells s) (by simpa [Lib.strCells_length] using hown') (by decide)
  · exact (hb1.grown hgrow (by have := hb1.size; omega) (fun k hk => (hown.lt k hk).1)).setCell (p := ⟨b, 1, none⟩) hB _
set_option maxHeartbeats 2000000 in
theorem bgrow_fresh (B b n : Nat) (w : World) (hB : B ≤ b) (hbk : w.heap[b]? = some (.cells #[.pointer (some ⟨b, 0, none⟩), .slice none 0 0] 130 (0, 0))) (hBw : B ≤ w.heap.size) (hn : n ≤ 281474976710656) :
    Calls Tryz.prog 167 #[.pointer (some ⟨b, 0, none⟩), .int .i64 n] w fun e w' => e = .returned (.tuple #[]) ∧ (Lib.BuilderAt 130 5 B b (.pointer (some ⟨b, 0, none⟩)) [] w' ∧ Below B w w') := by
  obtain ⟨cs, hrun, hle, hmax⟩ := Lib.run_makeNoZero (P := Tryz.prog) w.drew #[3] 107 5 Tryz.underlying107 n hn
  have hw : IntKind.i64.wrap (IntKind.i64.wrap 0 + (n : Int)) = n := by
    rw [IntKind.wrap_i64, IntKind.wrap_i64]
    omega
  have hcall : (callFunc 172 #[.int .i64 (n : Int)]).run Tryz.prog w.drew = .ok (.value (.slice (some ⟨w.heap.size, 0, none⟩) n cs.size)) (w.drew.drew.drew.alloc (.cells cs 5)) := by
    rw [run_callFunc_extern Tryz.func172 (by kernel_rfl) (by kernel_rfl) (by kernel_rfl) (e := Extern.BytealgMakeNoZero.makeNoZero #[3] #[107]) (by kernel_rfl), hrun]
    rfl
  have hcall2 : (callFunc 172 #[.int .i64 (IntKind.i64.wrap (IntKind.i64.wrap 0 + (n : Int)))]).run Tryz.prog w.drew = .ok (.value (.slice (some ⟨w.heap.size, 0, none⟩) n cs.size)) (w.drew.drew.drew.alloc (.cells cs 5)) := by
    rw [hw]; exact hcall
  have c1 : w.drew.cell? ⟨b, 1, none⟩ = some (.slice none 0 0) := by
    have : w.drew.heap[b]? = _ := hbk
    rw [Lib.cell_of_heap this]; rfl
  have c2 : (w.alloc (.cells cs 5)).cell? ⟨b, 1, none⟩ = some (.slice none 0 0) := by
    have hlt : b < w.heap.size := by
      rcases Nat.lt_or_ge b w.heap.size with h' | h'
      · exact h'
      · simp [Array.getElem?_eq_none h'] at hbk
    have : (w.alloc (.cells cs 5)).heap[b]? = _ := (Lib.alloc_old w _ b hlt).trans hbk
    rw [Lib.cell_of_heap this]; rfl
  have f2 : (w.alloc (.cells cs 5)).frozen? ⟨b, 1, none⟩ = false := by
    have hlt : b < w.heap.size := by
      rcases Nat.lt_or_ge b w.heap.size with h' | h'
      · exact h'
      · simp [Array.getElem?_eq_none h'] at hbk
    exact Lib.frozen_of_heap ((Lib.alloc_old w _ b hlt).trans hbk) 1
  have hcopy : ∀ W : World, (Builtin.copy_ #[107, 107] 3 #[.slice (some ⟨w.heap.size, 0, none⟩) 0 cs.size, .slice none 0 0]).run Tryz.prog W = .ok (goInt 0) W :=
    fun W => run_copy_none W 107 107 3 5 _ _ 0 cs.size 0 0 Tryz.underlying107 (by kernel_rfl) rfl
  have hfin := Lib.grown_fresh (T := 130) (e := 5) (cs := cs) hB hbk hBw (hmax (by unfold maxLen; omega)) (by decide)
  clear hw
  go_enter Tryz.func167, Tryz.ntmps167
  go_wp2
  go_region
  all_goals (go_wp2; go_end0; exact ⟨rfl, hfin⟩)
set_option maxHeartbeats 2000000 in
theorem bGrow (B b n : Nat) (w : World) (hB : B ≤ b) (hbk : w.heap[b]? = some (.cells #[.pointer none, .slice none 0 0] 130 (0, 0))) (hBw : B ≤ w.heap.size) (hn : n ≤ 281474976710656) :
    Calls Tryz.prog 144 #[.pointer (some ⟨b, 0, none⟩), .int .i64 n] w fun e w' => e = .returned (.tuple #[]) ∧ BldAt w' B b [] ∧ Below B w w' := by
  have hbk1 : (w.setCell ⟨b, 0, none⟩ (.pointer (some ⟨b, 0, none⟩))).heap[b]? = some (.cells #[.pointer (some ⟨b, 0, none⟩), .slice none 0 0] 130 (0, 0)) := by
    simp [World.setCell, Array.getElem?_modify, hbk]
  have c1 : (w.setCell ⟨b, 0, none⟩ (.pointer (some ⟨b, 0, none⟩))).cell? ⟨b, 1, none⟩ = some (.slice none 0 0) := by rw [Lib.cell_of_heap hbk1]; rfl
  have hb1 : Below B w (w.setCell ⟨b, 0, none⟩ (.pointer (some ⟨b, 0, none⟩))) := (Below.refl B w).setCell (p := ⟨b, 0, none⟩) hB _
  have hU : Lib.BuilderAt 130 5 B b (.pointer (some ⟨b, 0, none⟩)) [] (w.setCell ⟨b, 0, none⟩ (.pointer (some ⟨b, 0, none⟩))) := ⟨hB, .slice none 0 0, hbk1, World.ownsRow_nil _ _ _ _, by simp [Value.ownBlock]⟩
  have c1' : (w.setCell ⟨b, 0, none⟩ (.pointer (some ⟨b, 0, none⟩))).drew.cell? ⟨b, 1, none⟩ = some (.slice none 0 0) := c1
  have H0 := Lib.hid (show w.cell? ⟨b, 0, none⟩ = some (.pointer none) by rw [Lib.cell_of_heap hbk]; rfl)
  have H1 := Lib.hid (show w.shape? b = some (130, 2) by simp [World.shape?, hbk])
  have H2 := Lib.hid (Lib.frozen_of_heap hbk 0)
  have H3 := Lib.hid hbk1
  clear hbk hbk1
  go_enter Tryz.func144, Tryz.ntmps144
  go_wp2_with fail
  refine (bCheck_fresh b w H0.out H1.out H2.out).mono ?_; rintro e w' ⟨rfl, rfl⟩
  go_wp2_with fail
  go_region
  all_goals go_wp2_with fail
  all_goals first
    | (go_end0; exact ⟨rfl, Lib.BuilderAtF.of hU.drew, hb1.drew⟩)
    | (refine (bgrow_fresh B b n (w.setCell ⟨b, 0, none⟩ (.pointer (some ⟨b, 0, none⟩))).drew hB H3.out (by simpa [World.setCell, World.drew, -World.drew_eq] using hBw) hn).mono ?_; rintro e w' ⟨rfl, h1, h2⟩; go_wp2_with fail; go_end0; exact ⟨rfl, Lib.BuilderAtF.of h1, hb1.drew.trans h2⟩)
end Go.Proofs.YtlmakdclebbbkaaGreat

namespace Go.Proofs.YtlmakdclebbbkaaGreat
open Go.ChangeShapes Go.WideShapes Go.ChangeAt Go.RowKit
set_option linter.unusedVariables false
set_option maxRecDepth 100000
def escB (c : UInt8) : Bool := escN c.toNat
def escL (l : List UInt8) : List UInt8 := l.flatMap fun c => if escB c then [92, c] else [c]
def quoteL (l : List UInt8) : List UInt8 := 34 :: (escL l ++ [34])
theorem escL_append (a b : List UInt8) : escL (a ++ b) = escL a ++ escL b := by simp [escL]
theorem escL_one (c : UInt8) : escL [c] = if escB c then [92, c] else [c] := by simp [escL]
theorem escL_length_le (l : List UInt8) : (escL l).length ≤ 2 * l.length := by
  induction l with
  | nil => simp [escL]
  | cons c l ih =>
    have e : escL (c :: l) = escL [c] ++ escL l := by rw [← escL_append]; rfl
    rw [e, escL_one, List.length_append, List.length_cons]
    split <;> simp <;> omega
theorem quoteL_length_le (l : List UInt8) : (quoteL l).length ≤ 2 * l.length + 2 := by
  have := escL_length_le l; simp [quoteL]; omega
theorem take_snoc_b (s : ByteArray) (k : Nat) (h : k < s.size) : s.data.toList.take (k + 1) = s.data.toList.take k ++ [s[k]] := by
  rw [List.take_succ_eq_append_getElem (by simpa using h)]; rfl
theorem bByteU (B b : Nat) (l : List UInt8) (c : UInt8) (v : Int) (hv : v = c.toNat) (w : World) (h : Bld w B b (Lib.byteCells l)) (hlen : l.length + 1 ≤ 140737488355328) (hBw : B ≤ w.heap.size) :
    Calls Tryz.prog 61 #[.pointer (some ⟨b, 0, none⟩), .int .u8 v] w fun e w' => e = .returned .nilIface ∧ BldAt w' B b (Lib.byteCells (l ++ [c])) ∧ BldKept B b w w' := by
  subst hv
  have e : Lib.byteCells (l ++ [c]) = Lib.byteCells l ++ [.int .u8 c.toNat] := by rw [Lib.byteCells_append]; rfl
  rw [e]
  exact bByte B b _ _ w h (by rw [Lib.byteCells_length]; exact hlen) hBw
theorem bStringU (B b : Nat) (l : List UInt8) (s : ByteArray) (w : World) (h : Bld w B b (Lib.byteCells l)) (hlen : l.length + s.size ≤ 140737488355328) (hBw : B ≤ w.heap.size) :
    Calls Tryz.prog 62 #[.pointer (some ⟨b, 0, none⟩), .string s] w fun e w' => e = .returned (.tuple #[.int .i64 s.size, .nilIface]) ∧ BldAt w' B b (Lib.byteCells (l ++ s.data.toList)) ∧ BldKept B b w w' := by
  have e : Lib.byteCells (l ++ s.data.toList) = Lib.byteCells l ++ Lib.strCells s := by rw [Lib.byteCells_append, Lib.strCells_eq]
  rw [e]
  exact bString B b _ s w h (by rw [Lib.byteCells_length]; exact hlen) hBw
theorem bTold (B b : Nat) (l : List UInt8) (w : World) (h : BldAt w B b (Lib.byteCells l)) (hBw : B ≤ w.heap.size) :
    Calls Tryz.prog 64 #[.pointer (some ⟨b, 0, none⟩)] w fun e w' => e = .returned (.string ⟨l.toArray⟩) ∧ Below B w w' :=
  (Tryz.Builder_String_any_k B b l w h.is hBw).mono fun _ _ h => ⟨h.1, h.2.2.1⟩
theorem bld_new (w : World) : Bld (w.alloc (.cells #[.pointer none, .slice none 0 0] 130)) w.heap.size w.heap.size (Lib.byteCells []) := Lib.IsBuilderF.of (Lib.fresh_isBuilder _ _ w)
theorem BldAt.below {w w' : World} {B b : Nat} {l : List Value} (h : BldAt w B b l) (hb : Below w.heap.size w w') : BldAt w' B b l := by
  obtain ⟨hB, v, hbk, hown, hne⟩ := h
  have hlt : b < w.heap.size := by
    rcases Nat.lt_or_ge b w.heap.size with h' | h'
    · exact h'
    · simp [Array.getElem?_eq_none h'] at hbk
  refine ⟨hB, v, (hb.block b hlt).trans hbk, ⟨hown.1, ?_⟩, hne⟩
  rcases hown.2 with h | ⟨g, cap, cur, fz, hv, hg, hh, rest⟩
  · exact .inl h
  · refine .inr ⟨g, cap, cur, fz, hv, hg, ?_, rest⟩
    have : g < w.heap.size := (Array.getElem?_eq_some_iff.1 hh).1
    exact (hb.block g this).trans hh
set_option maxHeartbeats 2000000 in
theorem quote_any (s : ByteArray) (w : World) (hs : s.size ≤ 35184372088832) :
    Calls Tryz.prog 111 #[.string s] w fun e w' => e = .returned (.string ⟨(quoteL s.data.toList).toArray⟩) ∧ Below w.heap.size w w' := by
  have HSZ := Lib.hid (show (s.size : Int) + 2 = ((s.size + 2 : Nat) : Int) by omega)
  go_enter Tryz.func111, Tryz.ntmps111
  go_wp2_with fail
  rw [HSZ.out]
  clear HSZ
  refine (bGrow w.heap.size w.heap.size (s.size + 2) _ (Nat.le_refl _) (heap_alloc_new w _) (by simp) (by omega)).mono ?_
  rintro e w1 ⟨rfl, hbl, hb1⟩
  have hs1 := hb1.size
  have HBL := Lib.hid hbl
  have HB := Lib.hid (((Below.refl w.heap.size w).alloc (Nat.le_refl _) _).trans hb1)
  clear hbl hb1
  have hs0 : w.heap.size + 1 ≤ w1.heap.size := by have h := hs1; simp at h; omega
  clear hs1
  go_wp2_with fail
  refine (bByteU w.heap.size w.heap.size [] 34 34 rfl _ HBL.out.is (by simp) (by omega)).mono ?_
  rintro e w2 ⟨rfl, hbl, hk⟩
  have hs2 := hk.1.size
  have HBL2 := Lib.hid hbl
  have HB2 := Lib.hid (HB.out.trans hk.1)
  clear hbl hk HBL HB
  go_wp2_with fail
  go_loopg [12] s.size (fun g x12 wr => ∃ k : Nat, k + g = s.size ∧ x12 = .int .i64 k ∧ BldAt wr w.heap.size w.heap.size (Lib.byteCells (34 :: escL (s.data.toList.take k))) ∧ Below w.heap.size w wr)
  case atStart => exact ⟨0, by omega, rfl, HBL2.out, HB2.out⟩
  case round =>
    obtain ⟨k, hkg, rfl, hbl, hbel⟩ := hrel
    have HBL := Lib.hid hbl; have HB := Lib.hid hbel
    have hws := hbel.size
    have hel := escL_length_le (s.data.toList.take k)
    have hll : (s.data.toList.take k).length ≤ k := List.length_take_le _ _
    clear hbl hbel HBL2 HB2
    cases gk with
    | zero =>
      obtain rfl : k = s.size := by omega
      have HQ := Lib.hid (show 34 :: escL (s.data.toList.take s.size) ++ [34] = quoteL s.data.toList by rw [List.take_of_length_le (by simp)]; rfl)
      go_wp2_with fail
      refine (bByteU w.heap.size w.heap.size _ 34 34 rfl _ HBL.out.is (by rw [List.length_cons]; omega) hws).mono ?_
      rintro e w2 ⟨rfl, hbl, hk⟩
      rw [HQ.out] at hbl
      have hs2 := hk.1.size
      have HBL3 := Lib.hid hbl; have HB3 := Lib.hid (HB.out.trans hk.1)
      clear hbl hk HBL HB HQ
      go_wp2_with fail
      refine (bTold w.heap.size w.heap.size _ _ HBL3.out (by omega)).mono ?_
      rintro e w3 ⟨rfl, hb3⟩
      have HB4 := Lib.hid (HB3.out.trans hb3)
      clear hb3
      go_wp2_with fail
      go_ret
      exact ⟨rfl, HB4.out⟩
    | succ g =>
      have hlt : k < s.size := by omega
      have HT := Lib.hid (take_snoc_b s k hlt)
      have HE := Lib.hid (escaped_any (s[k].toNat) wr)
      have HN : Hid (34 :: escL (s.data.toList.take (k + 1)) = (34 :: escL (s.data.toList.take k)) ++ (if escB s[k] then [92, s[k]] else [s[k]])) := Lib.hid (by rw [HT.out, escL_append, escL_one]; rfl)
      have HD : Hid (escB s[k] = escN s[k].toNat) := Lib.hid rfl
      clear HT
      obtain ⟨new, hnew⟩ : ∃ new, 34 :: escL (s.data.toList.take (k + 1)) = new := ⟨_, rfl⟩
      rw [hnew] at HN
      have HNEW := Lib.hid hnew
      clear hnew
      obtain ⟨old, hold⟩ : ∃ old, 34 :: escL (s.data.toList.take k) = old := ⟨_, rfl⟩
      have hol : old.length ≤ 2 * k + 1 := by rw [← hold, List.length_cons]; omega
      rw [hold] at HBL HN
      clear hold hel hll
      cases hesc : escN s[k].toNat
      · rw [hesc] at HE HD
        rw [HD.out] at HN
        clear hesc HD
        go_wp2_with fail
        refine HE.out.mono ?_; rintro e w' ⟨rfl, rfl⟩
        go_wp2_with fail
        refine (bByteU w.heap.size w.heap.size _ s[k] _ rfl _ HBL.out.is (by omega) hws).mono ?_
        rintro e w2 ⟨rfl, hbl, hk⟩
        have HBL3 : Hid (BldAt w2 w.heap.size w.heap.size (Lib.byteCells new)) := Lib.hid (by rw [HN.out]; exact hbl)
        have HB3 := Lib.hid (HB.out.trans hk.1)
        clear hbl hk HBL HB HN HE
        go_wp2_with fail
        go_roundg g
        case measure => omega
        case rel => exact ⟨k + 1, by omega, by go_num, by rw [HNEW.out]; exact HBL3.out, HB3.out⟩
      · rw [hesc] at HE HD
        rw [HD.out] at HN
        clear hesc HD
        go_wp2_with fail
        refine HE.out.mono ?_; rintro e w' ⟨rfl, rfl⟩
        go_wp2_with fail
        refine (bByteU w.heap.size w.heap.size _ 92 92 rfl _ HBL.out.is (by omega) hws).mono ?_
        rintro e w2 ⟨rfl, hbl, hk⟩
        have hs2 := hk.1.size
        have HBL3 := Lib.hid hbl
        have HB3 := Lib.hid (HB.out.trans hk.1)
        clear hbl hk HBL HB HE
        go_wp2_with fail
        refine (bByteU w.heap.size w.heap.size _ s[k] _ rfl _ HBL3.out.is (by rw [List.length_append]; simp; omega) (by omega)).mono ?_
        rintro e w3 ⟨rfl, hbl, hk⟩
        have HBL4 : Hid (BldAt w3 w.heap.size w.heap.size (Lib.byteCells new)) := Lib.hid (by rw [HN.out]; simpa using hbl)
        have HB4 := Lib.hid (HB3.out.trans hk.1)
        clear hbl hk HBL3 HB3 HN
        go_wp2_with fail
        go_roundg g
        case measure => omega
        case rel => exact ⟨k + 1, by omega, by go_num, by rw [HNEW.out]; exact HBL4.out, HB4.out⟩
theorem lquote_any (s : ByteArray) (w : World) (hs : s.size ≤ 35184372088832) :
    Calls Tryz.prog 63 #[.string s] w fun e w' => e = .returned (.string ⟨(quoteL s.data.toList).toArray⟩) ∧ Below w.heap.size w w' := by
  go_enter Tryz.func63, Tryz.ntmps63
  go_wp2_with fail
  refine (quote_any s w hs).mono ?_
  rintro e w1 ⟨rfl, hb⟩
  have HB := Lib.hid hb; clear hb
  go_wp2_with fail
  go_ret
  exact ⟨rfl, HB.out⟩
end Go.Proofs.YtlmakdclebbbkaaGreat
