/- Texts, merged in one. -/
import Derived.Test.YtlmakdclebbbkaaGreatBase5
import Derived.Deep.RegionHeld3
import Derived.Deep.DeepCutAuto
import Derived.Lib.Overlaps
import Derived.Lib.AppendZerosOnto
namespace Go.Proofs.YtlmakdclebbbkaaGreat
open Go.ChangeShapes Go.WideShapes Go.ChangeAt Go.RowKit
set_option linter.unusedVariables false
set_option maxRecDepth 100000
def lowBit (x : Int) : Bool := bits BinOp.and IntKind.i64 x 1 == 1
def keepBit (has : List Int) (i : Nat) : Bool := if h : i < has.length then lowBit has[i] else false
def setStep (k : KSet) (i : Nat) : List (ByteArray × ByteArray) := if keepBit k.has i then [(keepNames.getD i ⟨#[]⟩, keepValues.getD (nWithin (pickF k.vals i) 0 7).toNat ⟨#[]⟩)] else []
def setUp (k : KSet) : Nat → List (ByteArray × ByteArray)
  | 0 => []
  | m + 1 => setUp k m ++ setStep k m
def setF (k : KSet) : List (ByteArray × ByteArray) := setUp k 3
structure SetAt (k : KSet) (B : Nat) (bk bv bn : Nat) (w : World) : Prop where
  ok : k.ok B w
  box : Blk w bk 105 [.slice k.A k.n k.c, .slice k.A2 k.n2 k.c2]
  vals : Blk w bv 9 (strs keepValues)
  names : Blk w bn 9 (strs keepNames)
theorem SetAt.below {k : KSet} {B bk bv bn : Nat} {w w' : World} (h : SetAt k B bk bv bn w) (hb : Below w.heap.size w w') (hB : B ≤ w.heap.size) : SetAt k B bk bv bn w' :=
  ⟨h.ok.below (hb.mono hB), h.box.below hb h.box.lt, h.vals.below hb h.vals.lt, h.names.below hb h.names.lt⟩
set_option maxHeartbeats 4000000 in
theorem keepset_any (k : KSet) (B : Nat) (w : World) (h : k.ok B w) (hB : B ≤ w.heap.size) :
    Calls Tryz.prog 40 #[k.val] w (OwnAns 25 2 (setF k).length (lbls (setF k)) w) := by
  obtain ⟨i0, hi0, hz0, hz1, hz2⟩ := info_parts Tryz.infoLabel
  have H := Lib.hid h
  have hn := h.n_
  have hn2 := h.n2_
  clear h
  show Calls _ _ #[.agg #[.slice k.A k.n k.c, .slice k.A2 k.n2 k.c2]] _ _
  go_enter Tryz.func40, Tryz.ntmps40
  go_wp2_with fail
  refine (values_any _).mono ?_; rintro e w1 ⟨rfl, hw1⟩
  have HW1 := Lib.hid hw1; clear hw1
  go_wp2_with fail
  refine (names_any _).mono ?_; rintro e w2 ⟨rfl, hw2⟩
  have HW2 := Lib.hid hw2; clear hw2
  have HB2 : Hid (Below w.heap.size w w2) := Lib.hid (by
    rw [← HW2.out, ← HW1.out]
    exact (((Below.refl _ _).alloc (Nat.le_refl _) _).alloc (by simp) _).alloc (by simp; omega) _)
  have HA : Hid (SetAt k B w.heap.size (w.heap.size + 1) w1.heap.size w2) := Lib.hid (by
    have hb1 : Below w.heap.size w w2 := HB2.out
    refine ⟨H.out.below (hb1.mono hB), ?_, ?_, ?_⟩
    · rw [← HW2.out, ← HW1.out]
      exact ((Blk.mk (heap_alloc_new w _)).alloc _).alloc _
    · rw [← HW2.out, ← HW1.out]
      have h : Blk ((w.alloc (.cells #[.slice k.A k.n k.c, .slice k.A2 k.n2 k.c2] 105)).alloc (.cells (strs keepValues).toArray 9)) (w.alloc (.cells #[.slice k.A k.n k.c, .slice k.A2 k.n2 k.c2] 105)).heap.size 9 (strs keepValues) := Blk.mk (heap_alloc_new _ _)
      rw [show (w.alloc (.cells #[.slice k.A k.n k.c, .slice k.A2 k.n2 k.c2] 105)).heap.size = w.heap.size + 1 by simp] at h
      exact h.alloc _
    · rw [← HW2.out]
      exact Blk.mk (heap_alloc_new w1 _))
  have hsw := HB2.out.size
  have hs1 : w1.heap.size + 1 = w2.heap.size := by rw [← HW2.out]; simp
  clear HW1 HW2 H
  obtain ⟨bk, hbk⟩ : ∃ bk, w.heap.size = bk := ⟨_, rfl⟩
  obtain ⟨bv, hbv⟩ : ∃ bv, w.heap.size + 1 = bv := ⟨_, rfl⟩
  obtain ⟨bn, hbn⟩ : ∃ bn, w1.heap.size = bn := ⟨_, rfl⟩
  rw [hbv, hbn] at HA
  rw [hbv, hbn]
  rw [show (⟨w.heap.size, 0, none⟩ : Addr) = ⟨bk, 0, none⟩ by rw [hbk], hbk] at *
  have hB2 : B ≤ w2.heap.size := by omega
  clear hbv hbn hbk hs1
  go_wp2_with fail
  go_loopg [11, 3] 3 (fun g x11 x3 wr => ∃ (m : Nat) (X : Option Addr) (cx : Nat), m + g = 3 ∧ x11 = .int .i64 m ∧ x3 = .slice X (setUp k m).length cx ∧ wr.ownsRow w2.heap.size 25 2 (.slice X (setUp k m).length cx) (setUp k m).length (lbls (setUp k m)) ∧ Below w2.heap.size w2 wr)
  case atStart => exact ⟨0, none, 0, rfl, rfl, rfl, own_nil _ _ _ _, Below.refl _ _⟩
  case round =>
    obtain ⟨m, X, cx, hmg, rfl, rfl, hown, hbel⟩ := hrel
    have HO := Lib.hid hown; have HBR := Lib.hid hbel
    have hws := hbel.size
    clear hown hbel
    cases gk with
    | zero =>
      obtain rfl : m = 3 := by omega
      obtain ⟨X', cx', h1, h2, h3⟩ := own_slice HO.out
      injection h1 with h1 h4 h5; subst h1; subst h5
      have HE := Lib.hid (show setUp k 3 = setF k from rfl)
      have HBZ := Lib.hid (HB2.out.trans (HBR.out.mono hsw))
      have HOZ := Lib.hid (own_mono HO.out hsw)
      rw [HE.out] at HOZ h2
      clear h4
      go_wp2_with fail
      go_ret
      exact ownAns HOZ.out HBZ.out rfl h2 h3
    | succ g =>
      have hm3 : m < 3 := by omega
      have HAR := Lib.hid (HA.out.below HBR.out hB2)
      obtain ⟨e0, e1⟩ : wr.cell? ⟨bk, 0, none⟩ = some (.slice k.A k.n k.c) ∧ wr.cell? ⟨bk, 1, none⟩ = some (.slice k.A2 k.n2 k.c2) := by
        have h0 := HAR.out.box.cell 0
        have h1 := HAR.out.box.cell 1
        exact ⟨by simpa using h0, by simpa using h1⟩
      have hnm : wr.cell? ⟨bn, m, none⟩ = some (.string (keepNames.getD m ⟨#[]⟩)) := by
        rw [HAR.out.names.cell m]
        match m, hm3 with
        | 0, _ => rfl
        | 1, _ => rfl
        | 2, _ => rfl
      by_cases hmn : m < k.n
      · obtain ⟨ad, hkl, hA, hc⟩ := HAR.out.ok.has_.int hmn
        rw [hA] at e0
        clear hA
        cases hbit : lowBit k.has[m] with
        | true =>
          have HBIT : Hid (keepBit k.has m = true) := Lib.hid (by rw [keepBit, dif_pos hkl]; exact hbit)
          have t1 : (bits BinOp.and IntKind.i64 k.has[m] 1 == 1) = true := hbit
          have HPK := Lib.hid (pick_any k.A2 k.n2 k.c2 B k.vals m wr HAR.out.ok.vals_ (by omega) (by omega))
          have hpi : I64 (pickF k.vals m) := by
            rw [pickF]
            split
            · exact HAR.out.ok.valsI _ (List.getElem_mem _)
            · unfold I64; omega
          have HST : Hid (setStep k m = [(keepNames.getD m ⟨#[]⟩, keepValues.getD (nWithin (pickF k.vals m) 0 7).toNat ⟨#[]⟩)]) := Lib.hid (by rw [setStep, HBIT.out]; rfl)
          generalize pickF k.vals m = pk at *
          have HWI := Lib.hid (within_any pk 0 7 wr hpi (by omega) (by omega) (by omega))
          obtain ⟨hw1, hw2⟩ := nWithin_in pk (lo := 0) (hi := 7) (by omega)
          generalize nWithin pk 0 7 = q at *
          obtain ⟨qn, rfl⟩ := Int.eq_ofNat_of_zero_le hw1
          have hq8 : qn < 8 := by omega
          simp only [Int.toNat_natCast] at HST
          have hvl : wr.cell? ⟨bv, qn, none⟩ = some (.string (keepValues.getD qn ⟨#[]⟩)) := by
            rw [HAR.out.vals.cell qn]
            match qn, hq8 with
            | 0, _ => rfl
            | 1, _ => rfl
            | 2, _ => rfl
            | 3, _ => rfl
            | 4, _ => rfl
            | 5, _ => rfl
            | 6, _ => rfl
            | 7, _ => rfl
          generalize keepValues.getD qn ⟨#[]⟩ = vb at *
          generalize keepNames.getD m ⟨#[]⟩ = va at *
          have HN := Lib.hid (show setUp k (m + 1) = setUp k m ++ [(va, vb)] by rw [setUp, HST.out])
          have hlm : (setUp k m).length ≤ 3 := by
            have h : ∀ j, (setUp k j).length ≤ j := by
              intro j
              induction j with
              | zero => simp [setUp]
              | succ j ih => rw [setUp, List.length_append]; have : (setStep k j).length ≤ 1 := (by unfold setStep; split <;> simp); omega
            have := h m; omega
          have HX := Lib.hid (show Sees (wr.alloc (.cells #[.string va, .string vb] 25)) (wr.alloc (.cells #[.string va, .string vb] 25)).heap.size 2 (some ⟨wr.heap.size, 0, none⟩) 1 (lbls [(va, vb)]) from (Blk.mk (heap_alloc_new wr _) : Blk _ wr.heap.size 25 [.string va, .string vb]).sees rfl (List.prefix_refl _))
          have HOA := Lib.hid (HO.out.alloc (.cells #[.string va, .string vb] 25))
          have HBA := Lib.hid (HBR.out.alloc hws (.cells #[.string va, .string vb] 25))
          have hbx : ∀ g, (Value.slice X (setUp k m).length cx).ownBlock = some g → w2.heap.size ≤ g := fun g hg => (HO.out.lt g hg).1
          have HBX := Lib.hid hbx
          have HLN := Lib.hid (show (setUp k (m + 1)).length = (setUp k m).length + 1 by rw [HN.out, List.length_append]; rfl)
          obtain ⟨new, hnew⟩ : ∃ new, setUp k (m + 1) = new := ⟨_, rfl⟩
          rw [hnew] at HN HLN
          have HNEW := Lib.hid hnew
          clear hnew
          generalize setUp k m = old at *
          clear HO HBR hbx hbit HBIT HST
          go_wp2_with fail
          refine HPK.out.mono ?_; rintro e w' ⟨rfl, rfl⟩
          go_wp2_with fail
          refine HWI.out.mono ?_; rintro e w' ⟨rfl, rfl⟩
          go_wp2_with (at_builtin; refine wpList_append_at rfl (.tmp 30) (.tmp 44) 26 rfl w2.heap.size 25 i0 (.agg #[.string ⟨#[]⟩, .string ⟨#[]⟩]) 2 32 Tryz.underlying26 hi0 hz0 hz1 hz2 rfl (by decide) (.slice X old.length cx) old.length (lbls old) rfl HOA.out _ _ 1 1 (lbls [(va, vb)]) rfl HX.out (lbls_one _) (by unfold maxLen; omega) (by omega) (by simp; omega) ?_)
          intro v3 w3 hown3 hgr3 hwh3
          obtain ⟨A3, c3, rfl, hc3, hc4⟩ := own_slice hown3
          rw [← lbls_append, ← HN.out] at hown3
          have HO3 := Lib.hid hown3
          have HB3 := Lib.hid (HBA.out.grown hgr3 (by simp; omega) HBX.out)
          clear hown3 hgr3 hwh3 HOA HX HBA HBX
          go_wp2_with fail
          go_roundg g
          case measure => omega
          case rel => exact ⟨m + 1, A3, c3, by omega, by go_num, by rw [HNEW.out, HLN.out], by rw [HNEW.out, HLN.out]; exact HO3.out, HB3.out⟩
        | false =>
          have HBIT : Hid (keepBit k.has m = false) := Lib.hid (by rw [keepBit, dif_pos hkl]; exact hbit)
          have t1 : (bits BinOp.and IntKind.i64 k.has[m] 1 == 1) = false := hbit
          clear hbit
          have HN := Lib.hid (show setUp k (m + 1) = setUp k m by rw [setUp, setStep, HBIT.out]; simp)
          go_wp2_with fail
          go_roundg g
          case measure => omega
          case rel => exact ⟨m + 1, X, cx, by omega, by go_num, by rw [HN.out], by rw [HN.out]; exact HO.out, HBR.out⟩
      · have hhl := HAR.out.ok.has_.int_len
        have HBIT : Hid (keepBit k.has m = false) := Lib.hid (by rw [keepBit, dif_neg (by omega)])
        clear hhl
        have HN := Lib.hid (show setUp k (m + 1) = setUp k m by rw [setUp, setStep, HBIT.out]; simp)
        go_wp2_with fail
        go_roundg g
        case measure => omega
        case rel => exact ⟨m + 1, X, cx, by omega, by go_num, by rw [HN.out], by rw [HN.out]; exact HO.out, HBR.out⟩
theorem setStep_mem {k : KSet} {i : Nat} {x : ByteArray × ByteArray} (h : x ∈ setStep k i) : x.1 = keepNames.getD i ⟨#[]⟩ ∧ ∃ q : Nat, q < 8 ∧ x.2 = keepValues.getD q ⟨#[]⟩ := by
  unfold setStep at h
  split at h
  · simp only [List.mem_singleton] at h
    subst h
    obtain ⟨h1, h2⟩ := nWithin_in (pickF k.vals i) (lo := 0) (hi := 7) (by omega)
    exact ⟨rfl, _, by omega, rfl⟩
  · cases h
theorem keepValue_ok {q : Nat} (h : q < 8) : 1 ≤ (keepValues.getD q ⟨#[]⟩).size ∧ (keepValues.getD q ⟨#[]⟩).size ≤ 24 := by
  match q, h with
  | 0, _ => decide
  | 1, _ => decide
  | 2, _ => decide
  | 3, _ => decide
  | 4, _ => decide
  | 5, _ => decide
  | 6, _ => decide
  | 7, _ => decide
theorem bytesLess_one (a b : UInt8) : Op.bytesLess (⟨#[a]⟩ : ByteArray).toList (⟨#[b]⟩ : ByteArray).toList = Op.bytesLess [a] [b] := by
  rw [ByteArray.toList_eq, ByteArray.toList_eq]
theorem less_lt {i j : Nat} (h : i < j) (hj : j < 3) : Op.bytesLess (keepNames.getD i ⟨#[]⟩).toList (keepNames.getD j ⟨#[]⟩).toList = true := by
  have hc : (i = 0 ∧ j = 1) ∨ (i = 0 ∧ j = 2) ∨ (i = 1 ∧ j = 2) := by omega
  rcases hc with ⟨rfl, rfl⟩ | ⟨rfl, rfl⟩ | ⟨rfl, rfl⟩
  · exact (bytesLess_one 97 98).trans (by decide)
  · exact (bytesLess_one 97 99).trans (by decide)
  · exact (bytesLess_one 98 99).trans (by decide)
theorem keepName_word {i : Nat} (h : i < 3) : wordF (keepNames.getD i ⟨#[]⟩) = true := by
  match i, h with
  | 0, _ => decide
  | 1, _ => decide
  | 2, _ => decide
theorem rightS_of {l : List (ByteArray × ByteArray)} (h6 : l.length ≤ 6) (hok : ∀ x ∈ l, lblOk x = true) (hp : l.Pairwise fun x y => Op.bytesLess x.1.toList y.1.toList = true) : rightS l = true := by
  have key : ∀ n, n ≤ l.length → rightK l n = true := by
    intro n
    induction n with
    | zero => intro _; rfl
    | succ n ih =>
      intro hn
      have h1 : lblOk (lblAt l n) = true := by rw [lblAt_get (by omega)]; exact hok _ (List.getElem_mem _)
      have h2 : riseAt l n = true := by
        cases n with
        | zero => rfl
        | succ n =>
          rw [riseAt_get (q := n) rfl (by omega)]
          exact List.pairwise_iff_getElem.1 hp n (n + 1) (by omega) (by omega) (by omega)
      unfold rightK
      rw [ih (by omega), h1, h2]; rfl
  exact rightS_yes h6 (key _ (Nat.le_refl _))
theorem setUp_right (k : KSet) : ∀ m, m ≤ 3 → (setUp k m).length ≤ m ∧ (∀ x ∈ setUp k m, lblOk x = true) ∧ (setUp k m).Pairwise (fun x y => Op.bytesLess x.1.toList y.1.toList = true) ∧ ∀ x ∈ setUp k m, ∃ i, i < m ∧ x.1 = keepNames.getD i ⟨#[]⟩
  | 0, _ => ⟨Nat.le_refl _, (fun x hx => by simp [setUp] at hx), List.Pairwise.nil, (fun x hx => by simp [setUp] at hx)⟩
  | m + 1, hm => by
    obtain ⟨h1, h2, h3, h4⟩ := setUp_right k m (by omega)
    have hs : (setStep k m).length ≤ 1 := by unfold setStep; split <;> simp
    have hp1 : (setStep k m).Pairwise (fun x y => Op.bytesLess x.1.toList y.1.toList = true) := by unfold setStep; split <;> simp
    refine ⟨by rw [setUp, List.length_append]; omega, fun x hx => ?_, ?_, fun x hx => ?_⟩
    · rw [setUp, List.mem_append] at hx
      rcases hx with hx | hx
      · exact h2 x hx
      · obtain ⟨e1, q, hq, e2⟩ := setStep_mem hx
        have := keepValue_ok hq
        rw [← e2] at this
        unfold lblOk
        rw [e1, keepName_word (by omega), decide_eq_true this.1, decide_eq_true this.2]; rfl
    · rw [setUp, List.pairwise_append]
      refine ⟨h3, hp1, fun x hx y hy => ?_⟩
      obtain ⟨i, hi, e1⟩ := h4 x hx
      obtain ⟨e2, _⟩ := setStep_mem hy
      rw [e1, e2]
      exact less_lt hi (by omega)
    · rw [setUp, List.mem_append] at hx
      rcases hx with hx | hx
      · obtain ⟨i, hi, e⟩ := h4 x hx
        exact ⟨i, by omega, e⟩
      · exact ⟨m, by omega, (setStep_mem hx).1⟩
theorem setF_len (k : KSet) : (setF k).length ≤ 3 := (setUp_right k 3 (Nat.le_refl _)).1
theorem setF_names (k : KSet) : ∀ x ∈ setF k, ∃ i, i < 3 ∧ x.1 = keepNames.getD i ⟨#[]⟩ := (setUp_right k 3 (Nat.le_refl _)).2.2.2
end Go.Proofs.YtlmakdclebbbkaaGreat

namespace Go.Proofs.YtlmakdclebbbkaaGreat
open Go.ChangeShapes Go.WideShapes Go.ChangeAt Go.RowKit
set_option linter.unusedVariables false
set_option maxRecDepth 100000
theorem less_irrefl : ∀ a : List UInt8, Op.bytesLess a a = false
  | [] => rfl
  | a :: x => by
    have hn : ¬ a < a := fun h => u8_not h h
    unfold Op.bytesLess
    simp [hn, less_irrefl x]
theorem cmp_ne : ∀ {a b : List UInt8}, a ≠ b → Op.bytesLess a b = true ∨ Op.bytesLess b a = true
  | [], [], h => absurd rfl h
  | [], _ :: _, _ => .inl rfl
  | _ :: _, [], _ => .inr rfl
  | a :: x, b :: y, h => by
    unfold Op.bytesLess
    rcases u8_tri a b with h1 | h1 | h1
    · exact .inl (by simp [h1])
    · subst h1
      rcases cmp_ne (a := x) (b := y) (fun e => h (by rw [e])) with h2 | h2
      · exact .inl (by simp [h2])
      · exact .inr (by simp [h2])
    · exact .inr (by simp [h1])
theorem print_inj {a b : List (ByteArray × ByteArray)} (ha : rightS a = true) (hb : rightS b = true) (h : printL a = printL b) : a = b := by
  have h1 := parseF_print ha
  rw [h, parseF_print hb] at h1
  injection h1 with h1
  exact h1.symm
end Go.Proofs.YtlmakdclebbbkaaGreat

namespace Go.Proofs.YtlmakdclebbbkaaGreat
open Go.ChangeShapes Go.WideShapes Go.ChangeAt Go.RowKit
set_option linter.unusedVariables false
set_option maxRecDepth 100000
def HasL (w : World) (v : Value) (l : List (ByteArray × ByteArray)) : Prop := ∃ A c, v = .slice A l.length c ∧ Sees w w.heap.size 2 A l.length (lbls l) ∧ l.length ≤ c ∧ c ≤ 9223372036854775807
theorem HasL.below {w w' : World} {v : Value} {l : List (ByteArray × ByteArray)} (h : HasL w v l) (hb : Below w.heap.size w w') : HasL w' v l := by
  obtain ⟨A, c, h1, h2, h3⟩ := h
  exact ⟨A, c, h1, (h2.below hb).more hb.size, h3⟩
theorem HasL.drewN {w : World} {v : Value} {l : List (ByteArray × ByteArray)} (h : HasL w v l) (n : Nat) : HasL (w.drewN n) v l := by
  obtain ⟨A, c, h1, h2, h3⟩ := h
  exact ⟨A, c, h1, h2.drewN n, h3⟩
theorem OwnAns.hasL {w w' : World} {e : Ending} {l : List (ByteArray × ByteArray)} (h : OwnAns 25 2 l.length (lbls l) w e w') : ∃ v, e = .returned v ∧ HasL w' v l ∧ Below w.heap.size w w' := by
  obtain ⟨A, c, h1, h2, h3, h4, h5⟩ := h
  exact ⟨_, h1, ⟨A, c, rfl, Sees.of_own h2, h4, h5⟩, h3⟩
theorem HasL.slice {w : World} {A : Option Addr} {n c : Nat} {l : List (ByteArray × ByteArray)} (h : HasL w (.slice A n c) l) : Sees w w.heap.size 2 A n (lbls l) ∧ l.length = n ∧ n ≤ c ∧ c ≤ 9223372036854775807 := by
  obtain ⟨A', c', h1, h2, h3, h4⟩ := h
  injection h1 with h1 h5 h6
  subst h1; subst h5; subst h6
  exact ⟨h2, rfl, h3, h4⟩
theorem HasL.form {w : World} {v : Value} {l : List (ByteArray × ByteArray)} (h : HasL w v l) : ∃ A c, v = .slice A l.length c := by
  obtain ⟨A, c, h1, _⟩ := h; exact ⟨A, c, h1⟩
theorem printL_length_le {l : List (ByteArray × ByteArray)} (h : rightS l = true) : (printL l).length ≤ 500 := by
  rw [printL, if_pos h]
  have h1 := joinL_length_le l (rightS_sizes h)
  have h2 := rightS_len h
  have h3 : 76 * l.length ≤ 456 := Nat.mul_le_mul_left 76 h2
  simp only [List.length_cons, List.length_append, List.length_nil]
  omega
end Go.Proofs.YtlmakdclebbbkaaGreat

namespace Go.Proofs.YtlmakdclebbbkaaGreat
open Go.ChangeShapes Go.WideShapes Go.ChangeAt Go.RowKit
set_option linter.unusedVariables false
abbrev Lbl := ByteArray × ByteArray
theorem less_trans : ∀ {a b c : List UInt8}, Op.bytesLess a b = true → Op.bytesLess b c = true → Op.bytesLess a c = true
  | _, [], _, h, _ => by unfold Op.bytesLess at h; cases h
  | _, _ :: _, [], _, h => by unfold Op.bytesLess at h; cases h
  | [], _ :: _, _ :: _, _, _ => rfl
  | a :: x, b :: y, c :: z, h1, h2 => by
    unfold Op.bytesLess at h1 h2 ⊢
    simp only [Bool.or_eq_true, decide_eq_true_eq, Bool.and_eq_true, beq_iff_eq] at h1 h2 ⊢
    rcases h1 with h1 | ⟨rfl, h1⟩ <;> rcases h2 with h2 | ⟨rfl, h2⟩
    · exact .inl (by rw [UInt8.lt_iff_toNat_lt] at *; omega)
    · exact .inl h1
    · exact .inl h2
    · exact .inr ⟨rfl, less_trans h1 h2⟩
theorem less_asymm {a b : List UInt8} (h : Op.bytesLess a b = true) : Op.bytesLess b a = false := by
  cases hq : Op.bytesLess b a with
  | false => rfl
  | true => have := less_trans h hq; rw [less_irrefl] at this; cases this
theorem rightS_ok {l : List Lbl} (h : rightS l = true) : ∀ x ∈ l, lblOk x = true := by
  intro x hx
  obtain ⟨k, hk, rfl⟩ := List.getElem_of_mem hx
  exact (rightS_at h hk).1
def getF (l : List Lbl) (name : ByteArray) : ByteArray := match l.find? (fun x => decide (x.1 = name)) with | some x => x.2 | none => ⟨#[]⟩
theorem getF_none {l : List Lbl} {name : ByteArray} (h : ∀ x ∈ l, x.1 ≠ name) : getF l name = ⟨#[]⟩ := by
  unfold getF
  rw [List.find?_eq_none.2 fun x hx => by simpa using h x hx]
end Go.Proofs.YtlmakdclebbbkaaGreat

namespace Go.Proofs.YtlmakdclebbbkaaGreat
set_option linter.unusedVariables false
def insAtK {α : Type} (key : α → List UInt8) (pre : List α) (x : α) : Nat → Nat
  | 0 => 0
  | j + 1 => if (pre[j]?.map fun y => Op.bytesLess (key x) (key y)) = some true then insAtK key pre x j else j + 1
theorem insAt_le {α : Type} (key : α → List UInt8) (pre : List α) (x : α) : ∀ j, insAtK key pre x j ≤ j
  | 0 => Nat.le_refl _
  | j + 1 => by unfold insAtK; split; exact Nat.le_succ_of_le (insAt_le key pre x j); exact Nat.le_refl _
def insK {α : Type} (key : α → List UInt8) (pre : List α) (x : α) : List α := pre.take (insAtK key pre x pre.length) ++ x :: pre.drop (insAtK key pre x pre.length)
def sortK {α : Type} (key : α → List UInt8) (l : List α) : List α := l.foldl (insK key) []
theorem sortK_snoc {α : Type} (key : α → List UInt8) (l : List α) (x : α) : sortK key (l ++ [x]) = insK key (sortK key l) x := by unfold sortK; rw [List.foldl_append]; rfl
theorem sortK_next {α : Type} (key : α → List UInt8) (l : List α) {k : Nat} (h : k < l.length) : sortK key (l.take (k + 1)) = insK key (sortK key (l.take k)) l[k] := by
  rw [List.take_succ_eq_append_getElem h, sortK_snoc]
theorem insK_perm {α : Type} (key : α → List UInt8) (pre : List α) (x : α) : (insK key pre x).Perm (x :: pre) := by
  unfold insK
  refine List.perm_middle.trans ?_
  rw [List.take_append_drop]
theorem list_snoc_ind {α : Type} {P : List α → Prop} (h0 : P []) (h1 : ∀ l x, P l → P (l ++ [x])) (l : List α) : P l := by
  have key : ∀ n, ∀ l : List α, l.length = n → P l := by
    intro n
    induction n with
    | zero => intro l h; rw [List.eq_nil_of_length_eq_zero h]; exact h0
    | succ n ih =>
      intro l h
      have e : l = l.take n ++ [l[n]] := by
        rw [← List.take_succ_eq_append_getElem (by omega), List.take_of_length_le (by omega)]
      rw [e]
      exact h1 _ _ (ih _ (by rw [List.length_take]; omega))
  exact key _ l rfl
theorem sortK_perm {α : Type} (key : α → List UInt8) (l : List α) : (sortK key l).Perm l := by
  induction l using list_snoc_ind with
  | h0 => exact List.Perm.refl _
  | h1 l x ih =>
    rw [sortK_snoc]
    refine (insK_perm key _ x).trans ?_
    exact (List.Perm.cons x ih).trans (by simpa using (List.perm_append_comm (l₁ := [x]) (l₂ := l)))
theorem sortK_length {α : Type} (key : α → List UInt8) (l : List α) : (sortK key l).length = l.length := (sortK_perm key l).length_eq
theorem sortK_mem {α : Type} (key : α → List UInt8) (l : List α) (x : α) : x ∈ sortK key l ↔ x ∈ l := (sortK_perm key l).mem_iff
def LeK {α : Type} (key : α → List UInt8) (a b : α) : Prop := Op.bytesLess (key b) (key a) = false
theorem leK_trans {α : Type} {key : α → List UInt8} {a b c : α} (h : LeK key a b) (k : LeK key b c) : LeK key a c := by
  unfold LeK at *
  cases e : Op.bytesLess (key c) (key a) with
  | false => rfl
  | true =>
    by_cases hab : key a = key b
    · rw [← hab] at k; rw [e] at k; cases k
    · rcases cmp_ne hab with h1 | h1
      · rw [less_trans e h1] at k; cases k
      · rw [h1] at h; cases h
theorem leK_total {α : Type} (key : α → List UInt8) (a b : α) : LeK key a b ∨ LeK key b a := by
  unfold LeK
  cases e : Op.bytesLess (key b) (key a) with
  | false => exact .inl rfl
  | true => exact .inr (less_asymm e)
theorem insAt_mid {α : Type} (key : α → List UInt8) (pre : List α) (x : α) : ∀ j, j ≤ pre.length → (∀ p, insAtK key pre x j ≤ p → p < j → ∀ y, pre[p]? = some y → Op.bytesLess (key x) (key y) = true) ∧ (∀ y, 0 < insAtK key pre x j → pre[insAtK key pre x j - 1]? = some y → Op.bytesLess (key x) (key y) = false)
  | 0, _ => ⟨fun p _ h => absurd h (Nat.not_lt_zero _), fun y h => absurd h (by simp [insAtK])⟩
  | j + 1, hj => by
    have ih := insAt_mid key pre x j (by omega)
    have hg : pre[j]? = some pre[j] := List.getElem?_eq_getElem (by omega)
    unfold insAtK
    by_cases h : (pre[j]?.map fun y => Op.bytesLess (key x) (key y)) = some true
    · rw [if_pos h]
      refine ⟨fun p h1 h2 y hy => ?_, ih.2⟩
      by_cases hp : p = j
      · subst hp; rw [hy] at h; simpa using h
      · exact ih.1 p h1 (by omega) y hy
    · rw [if_neg h]
      refine ⟨fun p h1 h2 => absurd h2 (by omega), fun y _ hy => ?_⟩
      rw [Nat.add_sub_cancel] at hy
      rw [hy] at h
      cases e : Op.bytesLess (key x) (key y) with
      | false => rfl
      | true => exact absurd (by simp [e]) h
theorem insK_sorted {α : Type} (key : α → List UInt8) (pre : List α) (x : α) (h : pre.Pairwise (LeK key)) : (insK key pre x).Pairwise (LeK key) := by
  unfold insK
  obtain ⟨h1, h2⟩ := insAt_mid key pre x pre.length (Nat.le_refl _)
  have hle := insAt_le key pre x pre.length
  generalize insAtK key pre x pre.length = j at *
  have hs : pre.take j ++ pre.drop j = pre := List.take_append_drop j pre
  have hp := h
  rw [← hs, List.pairwise_append] at hp
  obtain ⟨p1, p2, p3⟩ := hp
  have hx1 : ∀ a ∈ pre.take j, LeK key a x := by
    intro a ha
    by_cases h0 : j = 0
    · subst h0; simp at ha
    · have hlt : j - 1 < pre.length := by omega
      have hl : LeK key pre[j - 1] x := h2 _ (by omega) (List.getElem?_eq_getElem hlt)
      obtain ⟨q, hq, rfl⟩ := List.getElem_of_mem ha
      rw [List.length_take] at hq
      rw [List.getElem_take]
      by_cases he : q = j - 1
      · subst he; exact hl
      · exact leK_trans (List.pairwise_iff_getElem.1 h q (j - 1) (by omega) hlt (by omega)) hl
  have hx2 : ∀ b ∈ pre.drop j, LeK key x b := by
    intro b hb
    obtain ⟨q, hq, rfl⟩ := List.getElem_of_mem hb
    rw [List.length_drop] at hq
    rw [List.getElem_drop]
    exact less_asymm (h1 (j + q) (by omega) (by omega) _ (List.getElem?_eq_getElem (by omega)))
  rw [List.pairwise_append, List.pairwise_cons]
  refine ⟨p1, ⟨hx2, p2⟩, fun a ha b hb => ?_⟩
  rcases List.mem_cons.1 hb with rfl | hb
  · exact hx1 a ha
  · exact p3 a ha b hb
theorem sortK_sorted {α : Type} (key : α → List UInt8) (l : List α) : (sortK key l).Pairwise (LeK key) := by
  induction l using list_snoc_ind with
  | h0 => exact List.Pairwise.nil
  | h1 l x ih => rw [sortK_snoc]; exact insK_sorted key _ x ih
theorem leK_eq {α : Type} {key : α → List UInt8} {a b : α} (h : LeK key a b) (k : LeK key b a) : key a = key b := by
  by_cases e : key a = key b
  · exact e
  · rcases cmp_ne e with h1 | h1
    · unfold LeK at k; rw [h1] at k; cases k
    · unfold LeK at h; rw [h1] at h; cases h
theorem insK_last {α : Type} (key : α → List UInt8) (pre : List α) (x : α) (h : ∀ y ∈ pre, LeK key y x) : insK key pre x = pre ++ [x] := by
  have hj : insAtK key pre x pre.length = pre.length := by
    cases e : pre.length with
    | zero => rfl
    | succ j =>
      unfold insAtK
      rw [List.getElem?_eq_getElem (by omega)]
      have := h pre[j] (List.getElem_mem _)
      unfold LeK at this
      simp [this]
  unfold insK
  rw [hj]; simp
theorem sortK_self {α : Type} (key : α → List UInt8) (l : List α) (h : l.Pairwise (LeK key)) : sortK key l = l := by
  induction l using list_snoc_ind with
  | h0 => rfl
  | h1 l x ih =>
    rw [List.pairwise_append] at h
    rw [sortK_snoc, ih h.1, insK_last key l x (fun y hy => h.2.2 y hy x (List.mem_singleton.2 rfl))]
theorem insAt_map {α β : Type} (f : α → β) (key : β → List UInt8) (pre : List α) (x : α) : ∀ j, insAtK key (pre.map f) (f x) j = insAtK (fun a => key (f a)) pre x j
  | 0 => rfl
  | j + 1 => by
    unfold insAtK
    rw [insAt_map f key pre x j, List.getElem?_map, Option.map_map]
    rfl
theorem insK_map {α β : Type} (f : α → β) (key : β → List UInt8) (pre : List α) (x : α) : insK key (pre.map f) (f x) = (insK (fun a => key (f a)) pre x).map f := by
  unfold insK
  rw [List.length_map, insAt_map]
  simp
theorem sortK_map {α β : Type} (f : α → β) (key : β → List UInt8) (l : List α) : sortK key (l.map f) = (sortK (fun a => key (f a)) l).map f := by
  induction l using list_snoc_ind with
  | h0 => rfl
  | h1 l x ih => rw [List.map_append, List.map_singleton, sortK_snoc, sortK_snoc, ih, insK_map]
end Go.Proofs.YtlmakdclebbbkaaGreat
