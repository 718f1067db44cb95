/- klaxonkeep: Set. -/
import Derived.Test.YtfcjalojgmpnoaaSet
namespace Go.Proofs.Ytfcjalojgmpnoaa
open Go.ChangeShapes Go.WideShapes Go.ChangeAt Go.RowKit
set_option linter.unusedVariables false
set_option maxRecDepth 100000
/-- The label that a set has of the i'th name, if any. -/
def lowBit (x : Int) : Bool := bits BinOp.and IntKind.i64 x 1 == 1
def keepBit (has : List Int) (i : Nat) : Bool := if h : i < has.length then lowBit has[i] else false
def setStep (k : KSet) (i : Nat) : List (ByteArray × ByteArray) := if keepBit k.has i then [(keepNames.getD i ⟨#[]⟩, keepValues.getD (nWithin (pickF k.vals i) 0 7).toNat ⟨#[]⟩)] else []
def setUp (k : KSet) : Nat → List (ByteArray × ByteArray)
  | 0 => []
  | m + 1 => setUp k m ++ setStep k m
/-- The set of numbers. -/
def setF (k : KSet) : List (ByteArray × ByteArray) := setUp k 3
/-- What a set is made of, in memory. -/
structure SetAt (k : KSet) (B : Nat) (bk bv bn : Nat) (w : World) : Prop where
  ok : k.ok B w
  box : Blk w bk 43 [.slice k.A k.n k.c, .slice k.A2 k.n2 k.c2]
  vals : Blk w bv 9 (strs keepValues)
  names : Blk w bn 9 (strs keepNames)
theorem SetAt.below {k : KSet} {B bk bv bn : Nat} {w w' : World} (h : SetAt k B bk bv bn w) (hb : Below w.heap.size w w') (hB : B ≤ w.heap.size) : SetAt k B bk bv bn w' :=
  ⟨h.ok.below (hb.mono hB), h.box.below hb h.box.lt, h.vals.below hb h.vals.lt, h.names.below hb h.names.lt⟩
set_option maxHeartbeats 4000000 in
theorem keepset_any (k : KSet) (B : Nat) (w : World) (h : k.ok B w) (hB : B ≤ w.heap.size) :
    Calls Try.prog 12 #[k.val] w (OwnAns 23 2 (setF k).length (lbls (setF k)) w) := by
  obtain ⟨i0, hi0, hz0, hz1, hz2⟩ := info_parts Try.infoLabel
  have H := Lib.hid h
  have hn := h.n_
  have hn2 := h.n2_
  clear h
  show Calls _ _ #[.agg #[.slice k.A k.n k.c, .slice k.A2 k.n2 k.c2]] _ _
  go_enter Try.func12, Try.ntmps12
  go_wp2_with fail
  refine (values_any _).mono ?_; rintro e w1 ⟨rfl, hw1⟩
  have HW1 := Lib.hid hw1; clear hw1
  go_wp2_with fail
  refine (names_any _).mono ?_; rintro e w2 ⟨rfl, hw2⟩
  have HW2 := Lib.hid hw2; clear hw2
  have HB2 : Hid (Below w.heap.size w w2) := Lib.hid (by
    rw [← HW2.out, ← HW1.out]
    exact (((Below.refl _ _).alloc (Nat.le_refl _) _).alloc (by simp) _).alloc (by simp; omega) _)
  have HA : Hid (SetAt k B w.heap.size (w.heap.size + 1) w1.heap.size w2) := Lib.hid (by
    have hb1 : Below w.heap.size w w2 := HB2.out
    refine ⟨H.out.below (hb1.mono hB), ?_, ?_, ?_⟩
    · rw [← HW2.out, ← HW1.out]
      exact ((Blk.mk (heap_alloc_new w _)).alloc _).alloc _
    · rw [← HW2.out, ← HW1.out]
      have h : Blk ((w.alloc (.cells #[.slice k.A k.n k.c, .slice k.A2 k.n2 k.c2] 43)).alloc (.cells (strs keepValues).toArray 9)) (w.alloc (.cells #[.slice k.A k.n k.c, .slice k.A2 k.n2 k.c2] 43)).heap.size 9 (strs keepValues) := Blk.mk (heap_alloc_new _ _)
      rw [show (w.alloc (.cells #[.slice k.A k.n k.c, .slice k.A2 k.n2 k.c2] 43)).heap.size = w.heap.size + 1 by simp] at h
      exact h.alloc _
    · rw [← HW2.out]
      exact Blk.mk (heap_alloc_new w1 _))
  have hsw := HB2.out.size
  have hs1 : w1.heap.size + 1 = w2.heap.size := by rw [← HW2.out]; simp
  clear HW1 HW2 H
  obtain ⟨bk, hbk⟩ : ∃ bk, w.heap.size = bk := ⟨_, rfl⟩
  obtain ⟨bv, hbv⟩ : ∃ bv, w.heap.size + 1 = bv := ⟨_, rfl⟩
  obtain ⟨bn, hbn⟩ : ∃ bn, w1.heap.size = bn := ⟨_, rfl⟩
  rw [hbv, hbn] at HA
  rw [hbv, hbn]
  rw [show (⟨w.heap.size, 0, none⟩ : Addr) = ⟨bk, 0, none⟩ by rw [hbk], hbk] at *
  have hB2 : B ≤ w2.heap.size := by omega
  clear hbv hbn hbk hs1
  go_wp2_with fail
  go_loopg [11, 3] 3 (fun g x11 x3 wr => ∃ (m : Nat) (X : Option Addr) (cx : Nat), m + g = 3 ∧ x11 = .int .i64 m ∧ x3 = .slice X (setUp k m).length cx ∧ wr.ownsRow w2.heap.size 23 2 (.slice X (setUp k m).length cx) (setUp k m).length (lbls (setUp k m)) ∧ Below w2.heap.size w2 wr)
  case atStart => exact ⟨0, none, 0, rfl, rfl, rfl, own_nil _ _ _ _, Below.refl _ _⟩
  case round =>
    obtain ⟨m, X, cx, hmg, rfl, rfl, hown, hbel⟩ := hrel
    have HO := Lib.hid hown; have HBR := Lib.hid hbel
    have hws := hbel.size
    clear hown hbel
    cases gk with
    | zero =>
      obtain rfl : m = 3 := by omega
      obtain ⟨X', cx', h1, h2, h3⟩ := own_slice HO.out
      injection h1 with h1 h4 h5; subst h1; subst h5
      have HE := Lib.hid (show setUp k 3 = setF k from rfl)
      have HBZ := Lib.hid (HB2.out.trans (HBR.out.mono hsw))
      have HOZ := Lib.hid (own_mono HO.out hsw)
      rw [HE.out] at HOZ h2
      clear h4
      go_wp2_with fail
      go_ret
      exact ownAns HOZ.out HBZ.out rfl h2 h3
    | succ g =>
      have hm3 : m < 3 := by omega
      have HAR := Lib.hid (HA.out.below HBR.out hB2)
      obtain ⟨e0, e1⟩ : wr.cell? ⟨bk, 0, none⟩ = some (.slice k.A k.n k.c) ∧ wr.cell? ⟨bk, 1, none⟩ = some (.slice k.A2 k.n2 k.c2) := by
        have h0 := HAR.out.box.cell 0
        have h1 := HAR.out.box.cell 1
        exact ⟨by simpa using h0, by simpa using h1⟩
      have hnm : wr.cell? ⟨bn, m, none⟩ = some (.string (keepNames.getD m ⟨#[]⟩)) := by
        rw [HAR.out.names.cell m]
        match m, hm3 with
        | 0, _ => rfl
        | 1, _ => rfl
        | 2, _ => rfl
      by_cases hmn : m < k.n
      · obtain ⟨ad, hkl, hA, hc⟩ := HAR.out.ok.has_.int hmn
        rw [hA] at e0
        clear hA
        cases hbit : lowBit k.has[m] with
        | true =>
          have HBIT : Hid (keepBit k.has m = true) := Lib.hid (by rw [keepBit, dif_pos hkl]; exact hbit)
          have t1 : (bits BinOp.and IntKind.i64 k.has[m] 1 == 1) = true := hbit
          have HPK := Lib.hid (pick_any k.A2 k.n2 k.c2 B k.vals m wr HAR.out.ok.vals_ (by omega) (by omega))
          have hpi : I64 (pickF k.vals m) := by
            rw [pickF]
            split
            · exact HAR.out.ok.valsI _ (List.getElem_mem _)
            · unfold I64; omega
          have HST : Hid (setStep k m = [(keepNames.getD m ⟨#[]⟩, keepValues.getD (nWithin (pickF k.vals m) 0 7).toNat ⟨#[]⟩)]) := Lib.hid (by rw [setStep, HBIT.out]; rfl)
          generalize pickF k.vals m = pk at *
          have HWI := Lib.hid (within_any pk 0 7 wr hpi (by omega) (by omega) (by omega))
          obtain ⟨hw1, hw2⟩ := nWithin_in pk (lo := 0) (hi := 7) (by omega)
          generalize nWithin pk 0 7 = q at *
          obtain ⟨qn, rfl⟩ := Int.eq_ofNat_of_zero_le hw1
          have hq8 : qn < 8 := by omega
          simp only [Int.toNat_natCast] at HST
          have hvl : wr.cell? ⟨bv, qn, none⟩ = some (.string (keepValues.getD qn ⟨#[]⟩)) := by
            rw [HAR.out.vals.cell qn]
            match qn, hq8 with
            | 0, _ => rfl
            | 1, _ => rfl
            | 2, _ => rfl
            | 3, _ => rfl
            | 4, _ => rfl
            | 5, _ => rfl
            | 6, _ => rfl
            | 7, _ => rfl
          generalize keepValues.getD qn ⟨#[]⟩ = vb at *
          generalize keepNames.getD m ⟨#[]⟩ = va at *
          have HN := Lib.hid (show setUp k (m + 1) = setUp k m ++ [(va, vb)] by rw [setUp, HST.out])
          have hlm : (setUp k m).length ≤ 3 := by
            have h : ∀ j, (setUp k j).length ≤ j := by
              intro j
              induction j with
              | zero => simp [setUp]
              | succ j ih => rw [setUp, List.length_append]; have : (setStep k j).length ≤ 1 := (by unfold setStep; split <;> simp); omega
            have := h m; omega
          have HX := Lib.hid (show Sees (wr.alloc (.cells #[.string va, .string vb] 23)) (wr.alloc (.cells #[.string va, .string vb] 23)).heap.size 2 (some ⟨wr.heap.size, 0, none⟩) 1 (lbls [(va, vb)]) from (Blk.mk (heap_alloc_new wr _) : Blk _ wr.heap.size 23 [.string va, .string vb]).sees rfl (List.prefix_refl _))
          have HOA := Lib.hid (HO.out.alloc (.cells #[.string va, .string vb] 23))
          have HBA := Lib.hid (HBR.out.alloc hws (.cells #[.string va, .string vb] 23))
          have hbx : ∀ g, (Value.slice X (setUp k m).length cx).ownBlock = some g → w2.heap.size ≤ g := fun g hg => (HO.out.lt g hg).1
          have HBX := Lib.hid hbx
          have HLN := Lib.hid (show (setUp k (m + 1)).length = (setUp k m).length + 1 by rw [HN.out, List.length_append]; rfl)
          obtain ⟨new, hnew⟩ : ∃ new, setUp k (m + 1) = new := ⟨_, rfl⟩
          rw [hnew] at HN HLN
          have HNEW := Lib.hid hnew
          clear hnew
          generalize setUp k m = old at *
          clear HO HBR hbx hbit HBIT HST
          go_wp2_with fail
          refine HPK.out.mono ?_; rintro e w' ⟨rfl, rfl⟩
          go_wp2_with fail
          refine HWI.out.mono ?_; rintro e w' ⟨rfl, rfl⟩
          go_wp2_with (at_builtin; refine wpList_append_at rfl (.tmp 30) (.tmp 44) 24 rfl w2.heap.size 23 i0 (.agg #[.string ⟨#[]⟩, .string ⟨#[]⟩]) 2 32 Try.underlying24 hi0 hz0 hz1 hz2 rfl (by decide) (.slice X old.length cx) old.length (lbls old) rfl HOA.out _ _ 1 1 (lbls [(va, vb)]) rfl HX.out (lbls_one _) (by unfold maxLen; omega) (by omega) (by simp; omega) ?_)
          intro v3 w3 hown3 hgr3 hwh3
          obtain ⟨A3, c3, rfl, hc3, hc4⟩ := own_slice hown3
          rw [← lbls_append, ← HN.out] at hown3
          have HO3 := Lib.hid hown3
          have HB3 := Lib.hid (HBA.out.grown hgr3 (by simp; omega) HBX.out)
          clear hown3 hgr3 hwh3 HOA HX HBA HBX
          go_wp2_with fail
          go_roundg g
          case measure => omega
          case rel => exact ⟨m + 1, A3, c3, by omega, by go_num, by rw [HNEW.out, HLN.out], by rw [HNEW.out, HLN.out]; exact HO3.out, HB3.out⟩
        | false =>
          have HBIT : Hid (keepBit k.has m = false) := Lib.hid (by rw [keepBit, dif_pos hkl]; exact hbit)
          have t1 : (bits BinOp.and IntKind.i64 k.has[m] 1 == 1) = false := hbit
          clear hbit
          have HN := Lib.hid (show setUp k (m + 1) = setUp k m by rw [setUp, setStep, HBIT.out]; simp)
          go_wp2_with fail
          go_roundg g
          case measure => omega
          case rel => exact ⟨m + 1, X, cx, by omega, by go_num, by rw [HN.out], by rw [HN.out]; exact HO.out, HBR.out⟩
      · have hhl := HAR.out.ok.has_.int_len
        have HBIT : Hid (keepBit k.has m = false) := Lib.hid (by rw [keepBit, dif_neg (by omega)])
        clear hhl
        have HN := Lib.hid (show setUp k (m + 1) = setUp k m by rw [setUp, setStep, HBIT.out]; simp)
        go_wp2_with fail
        go_roundg g
        case measure => omega
        case rel => exact ⟨m + 1, X, cx, by omega, by go_num, by rw [HN.out], by rw [HN.out]; exact HO.out, HBR.out⟩
theorem setStep_mem {k : KSet} {i : Nat} {x : ByteArray × ByteArray} (h : x ∈ setStep k i) : x.1 = keepNames.getD i ⟨#[]⟩ ∧ ∃ q : Nat, q < 8 ∧ x.2 = keepValues.getD q ⟨#[]⟩ := by
  unfold setStep at h
  split at h
  · simp only [List.mem_singleton] at h
    subst h
    obtain ⟨h1, h2⟩ := nWithin_in (pickF k.vals i) (lo := 0) (hi := 7) (by omega)
    exact ⟨rfl, _, by omega, rfl⟩
  · cases h
theorem keepValue_ok {q : Nat} (h : q < 8) : 1 ≤ (keepValues.getD q ⟨#[]⟩).size ∧ (keepValues.getD q ⟨#[]⟩).size ≤ 24 := by
  match q, h with
  | 0, _ => decide
  | 1, _ => decide
  | 2, _ => decide
  | 3, _ => decide
  | 4, _ => decide
  | 5, _ => decide
  | 6, _ => decide
  | 7, _ => decide
theorem bytesLess_one (a b : UInt8) : Op.bytesLess (⟨#[a]⟩ : ByteArray).toList (⟨#[b]⟩ : ByteArray).toList = Op.bytesLess [a] [b] := by
  rw [ByteArray.toList_eq, ByteArray.toList_eq]
theorem less_lt {i j : Nat} (h : i < j) (hj : j < 3) : Op.bytesLess (keepNames.getD i ⟨#[]⟩).toList (keepNames.getD j ⟨#[]⟩).toList = true := by
  have hc : (i = 0 ∧ j = 1) ∨ (i = 0 ∧ j = 2) ∨ (i = 1 ∧ j = 2) := by omega
  rcases hc with ⟨rfl, rfl⟩ | ⟨rfl, rfl⟩ | ⟨rfl, rfl⟩
  · exact (bytesLess_one 97 98).trans (by decide)
  · exact (bytesLess_one 97 99).trans (by decide)
  · exact (bytesLess_one 98 99).trans (by decide)
theorem keepName_word {i : Nat} (h : i < 3) : wordF (keepNames.getD i ⟨#[]⟩) = true := by
  match i, h with
  | 0, _ => decide
  | 1, _ => decide
  | 2, _ => decide
/-- A row of labels of rising names is right. -/
theorem rightS_of {l : List (ByteArray × ByteArray)} (h6 : l.length ≤ 6) (hok : ∀ x ∈ l, lblOk x = true) (hp : l.Pairwise fun x y => Op.bytesLess x.1.toList y.1.toList = true) : rightS l = true := by
  have key : ∀ n, n ≤ l.length → rightK l n = true := by
    intro n
    induction n with
    | zero => intro _; rfl
    | succ n ih =>
      intro hn
      have h1 : lblOk (lblAt l n) = true := by rw [lblAt_get (by omega)]; exact hok _ (List.getElem_mem _)
      have h2 : riseAt l n = true := by
        cases n with
        | zero => rfl
        | succ n =>
          rw [riseAt_get (q := n) rfl (by omega)]
          exact List.pairwise_iff_getElem.1 hp n (n + 1) (by omega) (by omega) (by omega)
      unfold rightK
      rw [ih (by omega), h1, h2]; rfl
  exact rightS_yes h6 (key _ (Nat.le_refl _))
theorem setUp_right (k : KSet) : ∀ m, m ≤ 3 → (setUp k m).length ≤ m ∧ (∀ x ∈ setUp k m, lblOk x = true) ∧ (setUp k m).Pairwise (fun x y => Op.bytesLess x.1.toList y.1.toList = true) ∧ ∀ x ∈ setUp k m, ∃ i, i < m ∧ x.1 = keepNames.getD i ⟨#[]⟩
  | 0, _ => ⟨Nat.le_refl _, (fun x hx => by simp [setUp] at hx), List.Pairwise.nil, (fun x hx => by simp [setUp] at hx)⟩
  | m + 1, hm => by
    obtain ⟨h1, h2, h3, h4⟩ := setUp_right k m (by omega)
    have hs : (setStep k m).length ≤ 1 := by unfold setStep; split <;> simp
    have hp1 : (setStep k m).Pairwise (fun x y => Op.bytesLess x.1.toList y.1.toList = true) := by unfold setStep; split <;> simp
    refine ⟨by rw [setUp, List.length_append]; omega, fun x hx => ?_, ?_, fun x hx => ?_⟩
    · rw [setUp, List.mem_append] at hx
      rcases hx with hx | hx
      · exact h2 x hx
      · obtain ⟨e1, q, hq, e2⟩ := setStep_mem hx
        have := keepValue_ok hq
        rw [← e2] at this
        unfold lblOk
        rw [e1, keepName_word (by omega), decide_eq_true this.1, decide_eq_true this.2]; rfl
    · rw [setUp, List.pairwise_append]
      refine ⟨h3, hp1, fun x hx y hy => ?_⟩
      obtain ⟨i, hi, e1⟩ := h4 x hx
      obtain ⟨e2, _⟩ := setStep_mem hy
      rw [e1, e2]
      exact less_lt hi (by omega)
    · rw [setUp, List.mem_append] at hx
      rcases hx with hx | hx
      · obtain ⟨i, hi, e⟩ := h4 x hx
        exact ⟨i, by omega, e⟩
      · exact ⟨m, by omega, (setStep_mem hx).1⟩
theorem setF_right (k : KSet) : rightS (setF k) = true := by
  obtain ⟨h1, h2, h3, _⟩ := setUp_right k 3 (Nat.le_refl _)
  exact rightS_of (by show (setUp k 3).length ≤ 6; omega) h2 h3
theorem setF_len (k : KSet) : (setF k).length ≤ 3 := (setUp_right k 3 (Nat.le_refl _)).1
theorem setF_names (k : KSet) : ∀ x ∈ setF k, ∃ i, i < 3 ∧ x.1 = keepNames.getD i ⟨#[]⟩ := (setUp_right k 3 (Nat.le_refl _)).2.2.2
end Go.Proofs.Ytfcjalojgmpnoaa
