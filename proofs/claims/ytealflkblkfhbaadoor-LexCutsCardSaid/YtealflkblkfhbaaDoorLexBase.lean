/- What lex needs of XQuote, XParseMath, XParse, at a seat without labels. -/
import Derived.Test.YtealflkblkfhbaaDoorBuilder
import Derived.Test.YtealflkblkfhbaaDoorShelf
import Derived.Test.YtealflkblkfhbaaDoorText
import Derived.Test.YtealflkblkfhbaaDoorWhere
import Derived.Test.YtealflkblkfhbaaDoorAppend
import Derived.Laws.IdiomStrings
import Derived.Laws.BytesArg
import Derived.Deep.CutBlock
import Derived.Deep.DeepCutAuto
namespace Go.Proofs.YtealflkblkfhbaaDoor
open Go.ChangeShapes Go.WideShapes Go.ChangeAt Go.RowKit
set_option linter.unusedVariables false
set_option maxRecDepth 100000
/-- A byte that has a backslash ahead of it. -/
def escB (c : UInt8) : Bool := escN c.toNat
def escL (l : List UInt8) : List UInt8 := l.flatMap fun c => if escB c then [92, c] else [c]
/-- A text in quotes. -/
def quoteL (l : List UInt8) : List UInt8 := 34 :: (escL l ++ [34])
theorem escL_append (a b : List UInt8) : escL (a ++ b) = escL a ++ escL b := by simp [escL]
theorem escL_one (c : UInt8) : escL [c] = if escB c then [92, c] else [c] := by simp [escL]
theorem escL_length_le (l : List UInt8) : (escL l).length ≤ 2 * l.length := by
  induction l with
  | nil => simp [escL]
  | cons c l ih =>
    have e : escL (c :: l) = escL [c] ++ escL l := by rw [← escL_append]; rfl
    rw [e, escL_one, List.length_append, List.length_cons]
    split <;> simp <;> omega
theorem quoteL_length_le (l : List UInt8) : (quoteL l).length ≤ 2 * l.length + 2 := by
  have := escL_length_le l; simp [quoteL]; omega
theorem take_snoc_b (s : ByteArray) (k : Nat) (h : k < s.size) : s.data.toList.take (k + 1) = s.data.toList.take k ++ [s[k]] := by
  rw [List.take_succ_eq_append_getElem (by simpa using h)]; rfl
theorem bByteU (B b : Nat) (l : List UInt8) (c : UInt8) (v : Int) (hv : v = c.toNat) (w : World) (h : Bld w B b (Lib.byteCells l)) (hlen : l.length + 1 ≤ 140737488355328) (hBw : B ≤ w.heap.size) :
    Calls Tryd.prog 18 #[.pointer (some ⟨b, 0, none⟩), .int .u8 v] w fun e w' => e = .returned .nilIface ∧ BldAt w' B b (Lib.byteCells (l ++ [c])) ∧ BldKept B b w w' := by
  subst hv
  have e : Lib.byteCells (l ++ [c]) = Lib.byteCells l ++ [.int .u8 c.toNat] := by rw [Lib.byteCells_append]; rfl
  rw [e]
  exact bByte B b _ _ w h (by rw [Lib.byteCells_length]; exact hlen) hBw
theorem bStringU (B b : Nat) (l : List UInt8) (s : ByteArray) (w : World) (h : Bld w B b (Lib.byteCells l)) (hlen : l.length + s.size ≤ 140737488355328) (hBw : B ≤ w.heap.size) :
    Calls Tryd.prog 19 #[.pointer (some ⟨b, 0, none⟩), .string s] w fun e w' => e = .returned (.tuple #[.int .i64 s.size, .nilIface]) ∧ BldAt w' B b (Lib.byteCells (l ++ s.data.toList)) ∧ BldKept B b w w' := by
  have e : Lib.byteCells (l ++ s.data.toList) = Lib.byteCells l ++ Lib.strCells s := by rw [Lib.byteCells_append, Lib.strCells_eq]
  rw [e]
  exact bString B b _ s w h (by rw [Lib.byteCells_length]; exact hlen) hBw
theorem bTold (B b : Nat) (l : List UInt8) (w : World) (h : BldAt w B b (Lib.byteCells l)) (hBw : B ≤ w.heap.size) :
    Calls Tryd.prog 22 #[.pointer (some ⟨b, 0, none⟩)] w fun e w' => e = .returned (.string ⟨l.toArray⟩) ∧ Below B w w' :=
  (Tryd.Builder_String_any_k B b l w h.is hBw).mono fun _ _ h => ⟨h.1, h.2.2.1⟩
theorem bld_new (w : World) : Bld (w.alloc (.cells #[.pointer none, .slice none 0 0] 54)) w.heap.size w.heap.size (Lib.byteCells []) := Lib.IsBuilderF.of (Lib.fresh_isBuilder _ _ w)
theorem BldAt.below {w w' : World} {B b : Nat} {l : List Value} (h : BldAt w B b l) (hb : Below w.heap.size w w') : BldAt w' B b l := by
  obtain ⟨hB, v, hbk, hown, hne⟩ := h
  have hlt : b < w.heap.size := by
    rcases Nat.lt_or_ge b w.heap.size with h' | h'
    · exact h'
    · simp [Array.getElem?_eq_none h'] at hbk
  refine ⟨hB, v, (hb.block b hlt).trans hbk, ⟨hown.1, ?_⟩, hne⟩
  rcases hown.2 with h | ⟨g, cap, cur, fz, hv, hg, hh, rest⟩
  · exact .inl h
  · refine .inr ⟨g, cap, cur, fz, hv, hg, ?_, rest⟩
    have : g < w.heap.size := (Array.getElem?_eq_some_iff.1 hh).1
    exact (hb.block g this).trans hh
set_option maxHeartbeats 2000000 in
theorem quote_any (s : ByteArray) (w : World) (hs : s.size ≤ 35184372088832) :
    Calls Tryd.prog 21 #[.string s] w fun e w' => e = .returned (.string ⟨(quoteL s.data.toList).toArray⟩) ∧ Below w.heap.size w w' := by
  have HSZ := Lib.hid (show (s.size : Int) + 2 = ((s.size + 2 : Nat) : Int) by omega)
  go_enter Tryd.func21, Tryd.ntmps21
  go_wp2_with fail
  rw [HSZ.out]
  clear HSZ
  refine (bGrow w.heap.size w.heap.size (s.size + 2) _ (Nat.le_refl _) (heap_alloc_new w _) (by simp) (by omega)).mono ?_
  rintro e w1 ⟨rfl, hbl, hb1⟩
  have hs1 := hb1.size
  have HBL := Lib.hid hbl
  have HB := Lib.hid (((Below.refl w.heap.size w).alloc (Nat.le_refl _) _).trans hb1)
  clear hbl hb1
  have hs0 : w.heap.size + 1 ≤ w1.heap.size := by have h := hs1; simp at h; omega
  clear hs1
  go_wp2_with fail
  refine (bByteU w.heap.size w.heap.size [] 34 34 rfl _ HBL.out.is (by simp) (by omega)).mono ?_
  rintro e w2 ⟨rfl, hbl, hk⟩
  have hs2 := hk.1.size
  have HBL2 := Lib.hid hbl
  have HB2 := Lib.hid (HB.out.trans hk.1)
  clear hbl hk HBL HB
  go_wp2_with fail
  go_loopg [12] s.size (fun g x12 wr => ∃ k : Nat, k + g = s.size ∧ x12 = .int .i64 k ∧ BldAt wr w.heap.size w.heap.size (Lib.byteCells (34 :: escL (s.data.toList.take k))) ∧ Below w.heap.size w wr)
  case atStart => exact ⟨0, by omega, rfl, HBL2.out, HB2.out⟩
  case round =>
    obtain ⟨k, hkg, rfl, hbl, hbel⟩ := hrel
    have HBL := Lib.hid hbl; have HB := Lib.hid hbel
    have hws := hbel.size
    have hel := escL_length_le (s.data.toList.take k)
    have hll : (s.data.toList.take k).length ≤ k := List.length_take_le _ _
    clear hbl hbel HBL2 HB2
    cases gk with
    | zero =>
      obtain rfl : k = s.size := by omega
      have HQ := Lib.hid (show 34 :: escL (s.data.toList.take s.size) ++ [34] = quoteL s.data.toList by rw [List.take_of_length_le (by simp)]; rfl)
      go_wp2_with fail
      refine (bByteU w.heap.size w.heap.size _ 34 34 rfl _ HBL.out.is (by rw [List.length_cons]; omega) hws).mono ?_
      rintro e w2 ⟨rfl, hbl, hk⟩
      rw [HQ.out] at hbl
      have hs2 := hk.1.size
      have HBL3 := Lib.hid hbl; have HB3 := Lib.hid (HB.out.trans hk.1)
      clear hbl hk HBL HB HQ
      go_wp2_with fail
      refine (bTold w.heap.size w.heap.size _ _ HBL3.out (by omega)).mono ?_
      rintro e w3 ⟨rfl, hb3⟩
      have HB4 := Lib.hid (HB3.out.trans hb3)
      clear hb3
      go_wp2_with fail
      go_ret
      exact ⟨rfl, HB4.out⟩
    | succ g =>
      have hlt : k < s.size := by omega
      have HT := Lib.hid (take_snoc_b s k hlt)
      have HE := Lib.hid (escaped_any (s[k].toNat) wr)
      have HN : Hid (34 :: escL (s.data.toList.take (k + 1)) = (34 :: escL (s.data.toList.take k)) ++ (if escB s[k] then [92, s[k]] else [s[k]])) := Lib.hid (by rw [HT.out, escL_append, escL_one]; rfl)
      have HD : Hid (escB s[k] = escN s[k].toNat) := Lib.hid rfl
      clear HT
      obtain ⟨new, hnew⟩ : ∃ new, 34 :: escL (s.data.toList.take (k + 1)) = new := ⟨_, rfl⟩
      rw [hnew] at HN
      have HNEW := Lib.hid hnew
      clear hnew
      obtain ⟨old, hold⟩ : ∃ old, 34 :: escL (s.data.toList.take k) = old := ⟨_, rfl⟩
      have hol : old.length ≤ 2 * k + 1 := by rw [← hold, List.length_cons]; omega
      rw [hold] at HBL HN
      clear hold hel hll
      cases hesc : escN s[k].toNat
      · rw [hesc] at HE HD
        rw [HD.out] at HN
        clear hesc HD
        go_wp2_with fail
        refine HE.out.mono ?_; rintro e w' ⟨rfl, rfl⟩
        go_wp2_with fail
        refine (bByteU w.heap.size w.heap.size _ s[k] _ rfl _ HBL.out.is (by omega) hws).mono ?_
        rintro e w2 ⟨rfl, hbl, hk⟩
        have HBL3 : Hid (BldAt w2 w.heap.size w.heap.size (Lib.byteCells new)) := Lib.hid (by rw [HN.out]; exact hbl)
        have HB3 := Lib.hid (HB.out.trans hk.1)
        clear hbl hk HBL HB HN HE
        go_wp2_with fail
        go_roundg g
        case measure => omega
        case rel => exact ⟨k + 1, by omega, by go_num, by rw [HNEW.out]; exact HBL3.out, HB3.out⟩
      · rw [hesc] at HE HD
        rw [HD.out] at HN
        clear hesc HD
        go_wp2_with fail
        refine HE.out.mono ?_; rintro e w' ⟨rfl, rfl⟩
        go_wp2_with fail
        refine (bByteU w.heap.size w.heap.size _ 92 92 rfl _ HBL.out.is (by omega) hws).mono ?_
        rintro e w2 ⟨rfl, hbl, hk⟩
        have hs2 := hk.1.size
        have HBL3 := Lib.hid hbl
        have HB3 := Lib.hid (HB.out.trans hk.1)
        clear hbl hk HBL HB HE
        go_wp2_with fail
        refine (bByteU w.heap.size w.heap.size _ s[k] _ rfl _ HBL3.out.is (by rw [List.length_append]; simp; omega) (by omega)).mono ?_
        rintro e w3 ⟨rfl, hbl, hk⟩
        have HBL4 : Hid (BldAt w3 w.heap.size w.heap.size (Lib.byteCells new)) := Lib.hid (by rw [HN.out]; simpa using hbl)
        have HB4 := Lib.hid (HB3.out.trans hk.1)
        clear hbl hk HBL3 HB3 HN
        go_wp2_with fail
        go_roundg g
        case measure => omega
        case rel => exact ⟨k + 1, by omega, by go_num, by rw [HNEW.out]; exact HBL4.out, HB4.out⟩
/-- What is read behind the first quote: the text, and what is left behind the second one. -/
def unq : List UInt8 → List UInt8 → Option (List UInt8 × List UInt8)
  | [], _ => none
  | c :: r, acc => if 24 < acc.length then none else if c = 34 then some (acc, r) else if c = 92 then
      (match r with
        | [] => none
        | d :: r' => if escB d then unq r' (acc ++ [d]) else none)
      else unq r (acc ++ [c])
termination_by l => l.length
decreasing_by all_goals (simp_wf; try omega)
/-- string(b) of a row of the call's own. -/
theorem conv_own {base n c : Nat} {A : Option Addr} {l : List UInt8} (w : World) (h : w.ownsRow base 5 1 (.slice A n c) n (Lib.byteCells l)) (hl : l.length = n) :
    (convert 41 9 (.slice A n c)).run Tryd.prog w = .ok (.string ⟨l.toArray⟩) w := by
  cases A with
  | none =>
    have hn : n = 0 := by
      rcases Nat.eq_zero_or_pos n with h0 | h0
      · exact h0
      · obtain ⟨g, c', hv, _⟩ := h.form h0; cases hv
    have : l = [] := List.eq_nil_of_length_eq_zero (by omega)
    subst this
    exact run_convert_bytes_nil (w := w) 41 5 Tryd.underlying41 Tryd.underlying5 n c _ Tryd.underlying9
  | some a =>
    subst hl
    exact run_convert_bytes_back w 41 9 5 a c l Tryd.underlying41 Tryd.underlying5 Tryd.underlying9 fun j hj => by
      have hS := Sees.of_own h
      obtain ⟨ad, e, _, hc⟩ := hS.at_ (by omega)
      injection e with e; subst e
      exact hc j _ (by simp [Lib.byteCells, hj])
theorem own_drewN {w : World} {base : Nat} {t : TypeId} {s n : Nat} {v : Value} {xs : List Value} (h : w.ownsRow base t s v n xs) (q : Nat) : (w.drewN q).ownsRow base t s v n xs := h
theorem own_nil (w : World) (base : Nat) (t : TypeId) (s : Nat) : w.ownsRow base t s (.slice none 0 0) 0 [] := World.ownsRow_nil w base t s
theorem byteCells_one' (l : List UInt8) : ∀ u ∈ Lib.byteCells l, u.oneCell' = true := by
  intro u hu; simp only [Lib.byteCells, List.mem_map] at hu; obtain ⟨b, _, rfl⟩ := hu; rfl
theorem drop_byte (r : List UInt8) (k : Nat) (h : k < r.length) : r.drop k = r[k] :: r.drop (k + 1) := List.drop_eq_getElem_cons h
theorem getByte (r : List UInt8) (k : Nat) (h : k < (⟨r.toArray⟩ : ByteArray).size) : (⟨r.toArray⟩ : ByteArray)[k] = r[k]'(by simpa [ByteArray.size] using h) := rfl
theorem unq_step {r acc : List UInt8} {k : Nat} (h : k < r.length) (ha : acc.length ≤ 24) (h34 : r[k] ≠ 34) (h92 : r[k] ≠ 92) : unq (r.drop k) acc = unq (r.drop (k + 1)) (acc ++ [r[k]]) := by
  rw [drop_byte r k h]
  conv => lhs; unfold unq
  rw [if_neg (by omega), if_neg h34, if_neg h92]
theorem unq_end {r acc : List UInt8} {k : Nat} (h : k < r.length) (ha : acc.length ≤ 24) (h34 : r[k] = 34) : unq (r.drop k) acc = some (acc, r.drop (k + 1)) := by
  rw [drop_byte r k h]
  conv => lhs; unfold unq
  rw [if_neg (by omega), if_pos h34]
theorem unq_long {r acc : List UInt8} {k : Nat} (ha : 24 < acc.length) : unq (r.drop k) acc = none := by
  cases r.drop k with
  | nil => unfold unq; rfl
  | cons c t => unfold unq; rw [if_pos ha]
theorem unq_over {r acc : List UInt8} {k : Nat} (h : r.length ≤ k) : unq (r.drop k) acc = none := by
  rw [List.drop_of_length_le h]; unfold unq; rfl
theorem unq_esc {r acc : List UInt8} {k : Nat} (h : k + 1 < r.length) (ha : acc.length ≤ 24) (h92 : r[k] = 92) (he : escB r[k + 1] = true) : unq (r.drop k) acc = unq (r.drop (k + 2)) (acc ++ [r[k + 1]]) := by
  rw [drop_byte r k (by omega), drop_byte r (k + 1) h]
  conv => lhs; unfold unq
  rw [if_neg (by omega), if_neg (by rw [h92]; decide), if_pos h92]
  simp only
  rw [if_pos he]
theorem unq_bad {r acc : List UInt8} {k : Nat} (h : k + 1 < r.length) (ha : acc.length ≤ 24) (h92 : r[k] = 92) (he : escB r[k + 1] = false) : unq (r.drop k) acc = none := by
  rw [drop_byte r k (by omega), drop_byte r (k + 1) h]
  unfold unq
  rw [if_neg (by omega), if_neg (by rw [h92]; decide), if_pos h92]
  simp only
  rw [he]; rfl
theorem unq_last {r acc : List UInt8} {k : Nat} (h : k + 1 = r.length) (ha : acc.length ≤ 24) (h92 : r[k]'(by omega) = 92) : unq (r.drop k) acc = none := by
  rw [drop_byte r k (by omega), List.drop_of_length_le (by omega)]
  unfold unq
  rw [if_neg (by omega), if_neg (by rw [h92]; decide), if_pos h92]
end Go.Proofs.YtealflkblkfhbaaDoor
