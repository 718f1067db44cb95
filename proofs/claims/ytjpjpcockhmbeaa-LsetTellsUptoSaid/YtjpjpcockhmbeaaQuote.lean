/- A text in quotes: text.Quote, lset.Quote. -/
import Derived.Test.YtjpjpcockhmbeaaBuilder
import Derived.Test.YtjpjpcockhmbeaaShelf
import Derived.Test.YtjpjpcockhmbeaaWord
import Derived.Test.YtjpjpcockhmbeaaRight
namespace Go.Proofs.Ytjpjpcockhmbeaa
open Go.ChangeShapes Go.WideShapes Go.ChangeAt Go.RowKit
set_option linter.unusedVariables false
set_option maxRecDepth 100000
/-- A byte that has a backslash ahead of it. -/
def escB (c : UInt8) : Bool := escN c.toNat
def escL (l : List UInt8) : List UInt8 := l.flatMap fun c => if escB c then [92, c] else [c]
/-- A text in quotes. -/
def quoteL (l : List UInt8) : List UInt8 := 34 :: (escL l ++ [34])
theorem escL_append (a b : List UInt8) : escL (a ++ b) = escL a ++ escL b := by simp [escL]
theorem escL_one (c : UInt8) : escL [c] = if escB c then [92, c] else [c] := by simp [escL]
theorem escL_length_le (l : List UInt8) : (escL l).length ≤ 2 * l.length := by
  induction l with
  | nil => simp [escL]
  | cons c l ih =>
    have e : escL (c :: l) = escL [c] ++ escL l := by rw [← escL_append]; rfl
    rw [e, escL_one, List.length_append, List.length_cons]
    split <;> simp <;> omega
theorem quoteL_length_le (l : List UInt8) : (quoteL l).length ≤ 2 * l.length + 2 := by
  have := escL_length_le l; simp [quoteL]; omega
theorem take_snoc_b (s : ByteArray) (k : Nat) (h : k < s.size) : s.data.toList.take (k + 1) = s.data.toList.take k ++ [s[k]] := by
  rw [List.take_succ_eq_append_getElem (by simpa using h)]; rfl
theorem bByteU (B b : Nat) (l : List UInt8) (c : UInt8) (v : Int) (hv : v = c.toNat) (w : World) (h : Bld w B b (Lib.byteCells l)) (hlen : l.length + 1 ≤ 140737488355328) (hBw : B ≤ w.heap.size) :
    Calls Try.prog 20 #[.pointer (some ⟨b, 0, none⟩), .int .u8 v] w fun e w' => e = .returned .nilIface ∧ BldAt w' B b (Lib.byteCells (l ++ [c])) ∧ BldKept B b w w' := by
  subst hv
  have e : Lib.byteCells (l ++ [c]) = Lib.byteCells l ++ [.int .u8 c.toNat] := by rw [Lib.byteCells_append]; rfl
  rw [e]
  exact bByte B b _ _ w h (by rw [Lib.byteCells_length]; exact hlen) hBw
theorem bStringU (B b : Nat) (l : List UInt8) (s : ByteArray) (w : World) (h : Bld w B b (Lib.byteCells l)) (hlen : l.length + s.size ≤ 140737488355328) (hBw : B ≤ w.heap.size) :
    Calls Try.prog 21 #[.pointer (some ⟨b, 0, none⟩), .string s] w fun e w' => e = .returned (.tuple #[.int .i64 s.size, .nilIface]) ∧ BldAt w' B b (Lib.byteCells (l ++ s.data.toList)) ∧ BldKept B b w w' := by
  have e : Lib.byteCells (l ++ s.data.toList) = Lib.byteCells l ++ Lib.strCells s := by rw [Lib.byteCells_append, Lib.strCells_eq]
  rw [e]
  exact bString B b _ s w h (by rw [Lib.byteCells_length]; exact hlen) hBw
theorem bTold (B b : Nat) (l : List UInt8) (w : World) (h : BldAt w B b (Lib.byteCells l)) (hBw : B ≤ w.heap.size) :
    Calls Try.prog 22 #[.pointer (some ⟨b, 0, none⟩)] w fun e w' => e = .returned (.string ⟨l.toArray⟩) ∧ Below B w w' :=
  (Try.Builder_String_any_k B b l w h.is hBw).mono fun _ _ h => ⟨h.1, h.2.2.1⟩
theorem bld_new (w : World) : Bld (w.alloc (.cells #[.pointer none, .slice none 0 0] 40)) w.heap.size w.heap.size (Lib.byteCells []) := Lib.IsBuilderF.of (Lib.fresh_isBuilder _ _ w)
theorem BldAt.below {w w' : World} {B b : Nat} {l : List Value} (h : BldAt w B b l) (hb : Below w.heap.size w w') : BldAt w' B b l := by
  obtain ⟨hB, v, hbk, hown, hne⟩ := h
  have hlt : b < w.heap.size := by
    rcases Nat.lt_or_ge b w.heap.size with h' | h'
    · exact h'
    · simp [Array.getElem?_eq_none h'] at hbk
  refine ⟨hB, v, (hb.block b hlt).trans hbk, ⟨hown.1, ?_⟩, hne⟩
  rcases hown.2 with h | ⟨g, cap, cur, fz, hv, hg, hh, rest⟩
  · exact .inl h
  · refine .inr ⟨g, cap, cur, fz, hv, hg, ?_, rest⟩
    have : g < w.heap.size := (Array.getElem?_eq_some_iff.1 hh).1
    exact (hb.block g this).trans hh
set_option maxHeartbeats 2000000 in
theorem quote_any (s : ByteArray) (w : World) (hs : s.size ≤ 35184372088832) :
    Calls Try.prog 26 #[.string s] w fun e w' => e = .returned (.string ⟨(quoteL s.data.toList).toArray⟩) ∧ Below w.heap.size w w' := by
  have HSZ := Lib.hid (show (s.size : Int) + 2 = ((s.size + 2 : Nat) : Int) by omega)
  go_enter Try.func26, Try.ntmps26
  go_wp2_with fail
  rw [HSZ.out]
  clear HSZ
  refine (bGrow w.heap.size w.heap.size (s.size + 2) _ (Nat.le_refl _) (heap_alloc_new w _) (by simp) (by omega)).mono ?_
  rintro e w1 ⟨rfl, hbl, hb1⟩
  have hs1 := hb1.size
  have HBL := Lib.hid hbl
  have HB := Lib.hid (((Below.refl w.heap.size w).alloc (Nat.le_refl _) _).trans hb1)
  clear hbl hb1
  have hs0 : w.heap.size + 1 ≤ w1.heap.size := by have h := hs1; simp at h; omega
  clear hs1
  go_wp2_with fail
  refine (bByteU w.heap.size w.heap.size [] 34 34 rfl _ HBL.out.is (by simp) (by omega)).mono ?_
  rintro e w2 ⟨rfl, hbl, hk⟩
  have hs2 := hk.1.size
  have HBL2 := Lib.hid hbl
  have HB2 := Lib.hid (HB.out.trans hk.1)
  clear hbl hk HBL HB
  go_wp2_with fail
  go_loopg [12] s.size (fun g x12 wr => ∃ k : Nat, k + g = s.size ∧ x12 = .int .i64 k ∧ BldAt wr w.heap.size w.heap.size (Lib.byteCells (34 :: escL (s.data.toList.take k))) ∧ Below w.heap.size w wr)
  case atStart => exact ⟨0, by omega, rfl, HBL2.out, HB2.out⟩
  case round =>
    obtain ⟨k, hkg, rfl, hbl, hbel⟩ := hrel
    have HBL := Lib.hid hbl; have HB := Lib.hid hbel
    have hws := hbel.size
    have hel := escL_length_le (s.data.toList.take k)
    have hll : (s.data.toList.take k).length ≤ k := List.length_take_le _ _
    clear hbl hbel HBL2 HB2
    cases gk with
    | zero =>
      obtain rfl : k = s.size := by omega
      have HQ := Lib.hid (show 34 :: escL (s.data.toList.take s.size) ++ [34] = quoteL s.data.toList by rw [List.take_of_length_le (by simp)]; rfl)
      go_wp2_with fail
      refine (bByteU w.heap.size w.heap.size _ 34 34 rfl _ HBL.out.is (by rw [List.length_cons]; omega) hws).mono ?_
      rintro e w2 ⟨rfl, hbl, hk⟩
      rw [HQ.out] at hbl
      have hs2 := hk.1.size
      have HBL3 := Lib.hid hbl; have HB3 := Lib.hid (HB.out.trans hk.1)
      clear hbl hk HBL HB HQ
      go_wp2_with fail
      refine (bTold w.heap.size w.heap.size _ _ HBL3.out (by omega)).mono ?_
      rintro e w3 ⟨rfl, hb3⟩
      have HB4 := Lib.hid (HB3.out.trans hb3)
      clear hb3
      go_wp2_with fail
      go_ret
      exact ⟨rfl, HB4.out⟩
    | succ g =>
      have hlt : k < s.size := by omega
      have HT := Lib.hid (take_snoc_b s k hlt)
      have HE := Lib.hid (escaped_any (s[k].toNat) wr)
      have HN : Hid (34 :: escL (s.data.toList.take (k + 1)) = (34 :: escL (s.data.toList.take k)) ++ (if escB s[k] then [92, s[k]] else [s[k]])) := Lib.hid (by rw [HT.out, escL_append, escL_one]; rfl)
      have HD : Hid (escB s[k] = escN s[k].toNat) := Lib.hid rfl
      clear HT
      obtain ⟨new, hnew⟩ : ∃ new, 34 :: escL (s.data.toList.take (k + 1)) = new := ⟨_, rfl⟩
      rw [hnew] at HN
      have HNEW := Lib.hid hnew
      clear hnew
      obtain ⟨old, hold⟩ : ∃ old, 34 :: escL (s.data.toList.take k) = old := ⟨_, rfl⟩
      have hol : old.length ≤ 2 * k + 1 := by rw [← hold, List.length_cons]; omega
      rw [hold] at HBL HN
      clear hold hel hll
      cases hesc : escN s[k].toNat
      · rw [hesc] at HE HD
        rw [HD.out] at HN
        clear hesc HD
        go_wp2_with fail
        refine HE.out.mono ?_; rintro e w' ⟨rfl, rfl⟩
        go_wp2_with fail
        refine (bByteU w.heap.size w.heap.size _ s[k] _ rfl _ HBL.out.is (by omega) hws).mono ?_
        rintro e w2 ⟨rfl, hbl, hk⟩
        have HBL3 : Hid (BldAt w2 w.heap.size w.heap.size (Lib.byteCells new)) := Lib.hid (by rw [HN.out]; exact hbl)
        have HB3 := Lib.hid (HB.out.trans hk.1)
        clear hbl hk HBL HB HN HE
        go_wp2_with fail
        go_roundg g
        case measure => omega
        case rel => exact ⟨k + 1, by omega, by go_num, by rw [HNEW.out]; exact HBL3.out, HB3.out⟩
      · rw [hesc] at HE HD
        rw [HD.out] at HN
        clear hesc HD
        go_wp2_with fail
        refine HE.out.mono ?_; rintro e w' ⟨rfl, rfl⟩
        go_wp2_with fail
        refine (bByteU w.heap.size w.heap.size _ 92 92 rfl _ HBL.out.is (by omega) hws).mono ?_
        rintro e w2 ⟨rfl, hbl, hk⟩
        have hs2 := hk.1.size
        have HBL3 := Lib.hid hbl
        have HB3 := Lib.hid (HB.out.trans hk.1)
        clear hbl hk HBL HB HE
        go_wp2_with fail
        refine (bByteU w.heap.size w.heap.size _ s[k] _ rfl _ HBL3.out.is (by rw [List.length_append]; simp; omega) (by omega)).mono ?_
        rintro e w3 ⟨rfl, hbl, hk⟩
        have HBL4 : Hid (BldAt w3 w.heap.size w.heap.size (Lib.byteCells new)) := Lib.hid (by rw [HN.out]; simpa using hbl)
        have HB4 := Lib.hid (HB3.out.trans hk.1)
        clear hbl hk HBL3 HB3 HN
        go_wp2_with fail
        go_roundg g
        case measure => omega
        case rel => exact ⟨k + 1, by omega, by go_num, by rw [HNEW.out]; exact HBL4.out, HB4.out⟩
theorem lquote_any (s : ByteArray) (w : World) (hs : s.size ≤ 35184372088832) :
    Calls Try.prog 15 #[.string s] w fun e w' => e = .returned (.string ⟨(quoteL s.data.toList).toArray⟩) ∧ Below w.heap.size w w' := by
  go_enter Try.func15, Try.ntmps15
  go_wp2_with fail
  refine (quote_any s w hs).mono ?_
  rintro e w1 ⟨rfl, hb⟩
  have HB := Lib.hid hb; clear hb
  go_wp2_with fail
  go_ret
  exact ⟨rfl, HB.out⟩
end Go.Proofs.Ytjpjpcockhmbeaa
