/- The walk of LsetQuote. -/
import Derived.Test.YtkebmdcljeaacaaLsetBack
namespace Go.Proofs.Ytkebmdcljeaacaa
open Go.ChangeShapes Go.WideShapes Go.ChangeAt Go.RowKit
set_option linter.unusedVariables false
set_option maxRecDepth 100000
/-- How many bytes of a text are escaped. -/
def escN' (l : List UInt8) : Nat := (l.filter escB).length
theorem quoteL_length (l : List UInt8) : (quoteL l).length = l.length + 2 + escN' l := by
  have h : ∀ l : List UInt8, (escL l).length = l.length + escN' l := by
    intro l
    induction l with
    | nil => rfl
    | cons c l ih =>
      have e : escL (c :: l) = escL [c] ++ escL l := by rw [← escL_append]; rfl
      rw [e, escL_one, List.length_append, ih]
      cases hc : escB c <;> simp [escN', hc] <;> omega
  simp only [quoteL, List.length_cons, List.length_append, h]
  simp; omega
theorem escL_inj : ∀ a b : List UInt8, escL a = escL b → a = b
  | [], [], _ => rfl
  | [], d :: b, h => by
    have e : escL (d :: b) = escL [d] ++ escL b := by rw [← escL_append]; rfl
    rw [e, escL_one] at h
    cases hd : escB d <;> rw [hd] at h <;> simp [escL] at h
  | c :: a, [], h => by
    have e : escL (c :: a) = escL [c] ++ escL a := by rw [← escL_append]; rfl
    rw [e, escL_one] at h
    cases hd : escB c <;> rw [hd] at h <;> simp [escL] at h
  | c :: a, d :: b, h => by
    have e1 : escL (c :: a) = escL [c] ++ escL a := by rw [← escL_append]; rfl
    have e2 : escL (d :: b) = escL [d] ++ escL b := by rw [← escL_append]; rfl
    rw [e1, e2, escL_one, escL_one] at h
    have h92 : escB 92 = true := by decide
    cases hc : escB c <;> cases hd : escB d <;> rw [hc, hd] at h <;> simp at h
    · rw [h.1, escL_inj a b h.2]
    · rw [h.1, h92] at hc; cases hc
    · rw [← h.1, h92] at hd; cases hd
    · rw [h.1, escL_inj a b h.2]
theorem quoteL_inj {a b : List UInt8} (h : quoteL a = quoteL b) : a = b := by
  simp only [quoteL, List.cons.injEq, true_and] at h
  exact escL_inj _ _ (List.append_cancel_right h)
/-- The labels a=x, b=x, .. -/
def letterB (i : Nat) : ByteArray := ⟨#[UInt8.ofNat (97 + i)]⟩
def letters : Nat → List (ByteArray × ByteArray)
  | 0 => []
  | k + 1 => letters k ++ [(letterB k, ⟨#[120]⟩)]
theorem letters_length : ∀ k, (letters k).length = k
  | 0 => rfl
  | k + 1 => by rw [letters, List.length_append, letters_length k]; rfl
theorem letters_right {k : Nat} (h : k ≤ 6) : rightS (letters k) = true := by
  have hc : k = 0 ∨ k = 1 ∨ k = 2 ∨ k = 3 ∨ k = 4 ∨ k = 5 ∨ k = 6 := by omega
  have hl : ∀ i j : Nat, i < j → j < 6 → Op.bytesLess (letterB i).toList (letterB j).toList = true := by
    intro i j hij hj
    unfold letterB
    rw [bytesLess_one]
    have h1 : UInt8.ofNat (97 + i) < UInt8.ofNat (97 + j) := by
      rw [UInt8.lt_iff_toNat_lt, UInt8.toNat_ofNat', UInt8.toNat_ofNat']
      omega
    generalize UInt8.ofNat (97 + i) = x at *
    generalize UInt8.ofNat (97 + j) = y at *
    simp [Op.bytesLess, h1]
  have key : ∀ k, k ≤ 6 → (∀ x ∈ letters k, lblOk x = true) ∧ (letters k).Pairwise (fun x y => Op.bytesLess x.1.toList y.1.toList = true) ∧ ∀ x ∈ letters k, ∃ i, i < k ∧ x.1 = letterB i := by
    intro k
    induction k with
    | zero => intro _; exact ⟨(fun x hx => by cases hx), List.Pairwise.nil, (fun x hx => by cases hx)⟩
    | succ k ih =>
      intro hk
      obtain ⟨h1, h2, h3⟩ := ih (by omega)
      refine ⟨fun x hx => ?_, ?_, fun x hx => ?_⟩
      · rw [letters, List.mem_append] at hx
        rcases hx with hx | hx
        · exact h1 x hx
        · simp only [List.mem_singleton] at hx; subst hx
          have : k = 0 ∨ k = 1 ∨ k = 2 ∨ k = 3 ∨ k = 4 ∨ k = 5 := by omega
          rcases this with rfl | rfl | rfl | rfl | rfl | rfl <;> decide
      · rw [letters, List.pairwise_append]
        refine ⟨h2, by simp, fun x hx y hy => ?_⟩
        obtain ⟨i, hi, e⟩ := h3 x hx
        simp only [List.mem_singleton] at hy; subst hy
        rw [e]
        exact hl i k hi (by omega)
      · rw [letters, List.mem_append] at hx
        rcases hx with hx | hx
        · obtain ⟨i, hi, e⟩ := h3 x hx; exact ⟨i, by omega, e⟩
        · simp only [List.mem_singleton] at hx; subst hx; exact ⟨k, by omega, rfl⟩
  obtain ⟨h1, h2, _⟩ := key k h
  exact rightS_of (by rw [letters_length]; exact h) h1 h2
theorem letters_wrong {k : Nat} (h : 6 < k) : rightS (letters k) = false := rightS_long (by rw [letters_length]; omega)
theorem letters_rightS (k : Nat) : rightS (letters k) = decide (k ≤ 6) := by
  by_cases h : k ≤ 6
  · rw [letters_right h, decide_eq_true h]
  · rw [letters_wrong (by omega), decide_eq_false h]
theorem printL_empty (l : List (ByteArray × ByteArray)) : (printL l).isEmpty = !rightS l := by
  unfold printL
  cases rightS l <;> rfl
theorem right_one {x : ByteArray × ByteArray} (h : lblOk x = false) : rightS [x] = false := by
  simp only [rightS, rightK, riseAt, lblAt, List.length_cons, List.length_nil]
  simp [h]
theorem print_none {l : List (ByteArray × ByteArray)} (h : rightS l = false) : printL l = [] := by rw [printL, h]; rfl
/-- string([]byte{c}). -/
theorem conv_one (w : World) (c : UInt8) (v : Int) (hv : v = c.toNat) :
    (convert 49 9 (.slice (some ⟨w.heap.size, 0, none⟩) 1 1)).run Try.prog (w.alloc (.cells #[.int .u8 v] 5)) = .ok (.string ⟨#[c]⟩) (w.alloc (.cells #[.int .u8 v] 5)) := by
  subst hv
  refine run_convert_bytes_back _ 49 9 5 ⟨w.heap.size, 0, none⟩ 1 [c] Try.underlying49 Try.underlying5 Try.underlying9 fun j hj => ?_
  have hj0 : j = 0 := by simpa using hj
  subst hj0
  rw [add_zero']
  exact (Blk.mk (heap_alloc_new w _) : Blk _ w.heap.size 5 [.int .u8 c.toNat]).cell 0
theorem zero_cells (n : Nat) : List.replicate n (Value.int .u8 0) = Lib.byteCells (List.replicate n 0) := by simp [Lib.byteCells]
/-- A list, and a box with a label. -/
def QuoteAt (w0 : World) (v : Value) (l : List (ByteArray × ByteArray)) (b : Nat) (zs : ByteArray) (w : World) : Prop := HasL w v l ∧ Blk w b 23 [.string ⟨#[97]⟩, .string zs] ∧ Below w0.heap.size w0 w
theorem QuoteAt.below {w0 w w' : World} {v : Value} {l : List (ByteArray × ByteArray)} {b : Nat} {zs : ByteArray} (h : QuoteAt w0 v l b zs w) (hb : Below w.heap.size w w') : QuoteAt w0 v l b zs w' := ⟨h.1.below hb, h.2.1.below hb h.2.1.lt, h.2.2.trans (hb.mono h.2.2.size)⟩
set_option maxHeartbeats 8000000 in
theorem lset_quote (s t : ByteArray) (n : Int) (w : World) (hs : s.size ≤ maxLen) (ht : t.size ≤ maxLen) (wn : I64 n) :
    Calls Try.prog 7 #[.string s, .string t, .int .i64 n] w fun e w' => e = .returned (.bool true) ∧ Below w.heap.size w w' := by
  unfold maxLen at hs ht
  obtain ⟨i0, hi0, hz0, hz1, hz2⟩ := info_parts Try.infoLabel
  obtain ⟨i8, hi8, y0, y1, y2⟩ := info_parts Try.infoU8x
  have WN := Lib.hid wn; clear wn
  go_enter Try.func7, Try.ntmps7
  go_upto_region 1 with fail
  go_cut [0, 1] (fun x0 x1 wx => (∃ a b : ByteArray, x0 = .string a ∧ x1 = .string b ∧ a.size ≤ 30 ∧ b.size ≤ 30) ∧ Below w.heap.size w wx)
  case first =>
    go_quiet (fail)
    go_wp2_with fail
    go_meet
    refine ⟨⟨_, _, rfl, rfl, ?_, ?_⟩, below_drewN3 (Below.refl _ _) _⟩
    · rw [ByteArray.size_extract]; omega
    · rw [ByteArray.size_extract]; omega
  case rest =>
    obtain ⟨⟨a, b, rfl, rfl, ha, hb⟩, hbel⟩ := hcut
    have HB := Lib.hid hbel
    have hws := hbel.size
    clear hbel
    have HQ := Lib.hid (fun (x : ByteArray) (hx : x.size ≤ 30) W => lquote_any x W (by omega))
    go_wp2_with fail
    (with_reducible refine (HQ.out a ha _).mono ?_); rintro e w1 ⟨rfl, hb1⟩
    have HB1 := Lib.hid (HB.out.trans (hb1.mono hws)); clear hb1 HB
    go_wp2_with fail
    (with_reducible refine (HQ.out b hb _).mono ?_); rintro e w2 ⟨rfl, hb1⟩
    have HB2 := Lib.hid (HB1.out.trans (hb1.mono HB1.out.size)); clear hb1 HB1
    have HEQ := Lib.hid (show (quoteL a.data.toList == quoteL b.data.toList) = (a.toList == b.toList) by
      rw [ByteArray.toList_eq, ByteArray.toList_eq]
      by_cases h : a.data.toList = b.data.toList
      · rw [h]; simp
      · rw [beq_eq_false_iff_ne.2 h, beq_eq_false_iff_ne.2 (fun e => h (quoteL_inj e))])
    have HQL := Lib.hid (show ((quoteL a.data.toList).length : Int) = (a.size : Int) + 2 + (escN' a.data.toList : Int) by
      rw [quoteL_length]; have : a.data.toList.length = a.size := (by simp); omega)
    have hel : escN' a.data.toList ≤ a.size := by
      have h := List.length_filter_le escB a.data.toList
      have h2 : a.data.toList.length = a.size := by simp
      unfold escN'; omega
    go_wp2_with fail
    go_loop [9, 31] (fun x9 x31 => ∃ k : Nat, k ≤ a.size ∧ x31 = .int .i64 k ∧ x9 = .int .i64 (escN' (a.data.toList.take k) : Int)) (fun _ x => a.size - (intOf x).toNat)
    case atStart => exact ⟨0, Nat.zero_le _, rfl, rfl⟩
    case round =>
      obtain ⟨k, hk, rfl, rfl⟩ := hrel
      have hm1 : escN' (a.data.toList.take k) ≤ k := by
        have h1 := List.length_filter_le escB (a.data.toList.take k)
        have h2 : (a.data.toList.take k).length ≤ k := List.length_take_le _ _
        unfold escN'; omega
      by_cases hlt : k < a.size
      · have HST := Lib.hid (show escN' (a.data.toList.take (k + 1)) = escN' (a.data.toList.take k) + (if escB a[k] then 1 else 0) by
          rw [take_snoc_b a k hlt, escN', List.filter_append, List.length_append]
          cases hc : escB a[k] <;> simp [hc, escN'])
        have HEB : Hid (escB a[k] = escN a[k].toNat) := Lib.hid rfl
        by_cases h1 : a[k].toNat = 34
        · have t1 : ((a[k].toNat : Int) == 34) = true := by rw [beq_iff_eq]; omega
          have HS2 := Lib.hid (show ((escN' (a.data.toList.take (k + 1)) : Nat) : Int) = (escN' (a.data.toList.take k) : Int) + 1 by rw [HST.out, HEB.out, h1]; simp [escN])
          clear HST HEB h1
          go_wp2_with fail
          go_round
          case rel => exact ⟨k + 1, by omega, by go_num, by rw [HS2.out]⟩
          case measure => simp [intOf]; omega
        · have t1 : ((a[k].toNat : Int) == 34) = false := by rw [beq_eq_false_iff_ne]; omega
          by_cases h2 : a[k].toNat = 92
          · have t2 : ((a[k].toNat : Int) == 92) = true := by rw [beq_iff_eq]; omega
            have HS2 := Lib.hid (show ((escN' (a.data.toList.take (k + 1)) : Nat) : Int) = (escN' (a.data.toList.take k) : Int) + 1 by rw [HST.out, HEB.out, h2]; simp [escN])
            clear HST HEB h1 h2
            go_wp2_with fail
            go_round
            case rel => exact ⟨k + 1, by omega, by go_num, by rw [HS2.out]⟩
            case measure => simp [intOf]; omega
          · have t2 : ((a[k].toNat : Int) == 92) = false := by rw [beq_eq_false_iff_ne]; omega
            have HS2 := Lib.hid (show escN' (a.data.toList.take (k + 1)) = escN' (a.data.toList.take k) by rw [HST.out, HEB.out]; simp [escN, h1, h2])
            clear HST HEB h1 h2
            go_wp2_with fail
            go_round
            case rel => exact ⟨k + 1, by omega, by go_num, by rw [HS2.out]⟩
            case measure => simp [intOf]; omega
      · obtain rfl : k = a.size := by omega
        rw [List.take_of_length_le (by simp)]
        generalize escN' a.data.toList = m at *
        generalize quoteL a.data.toList = qa at *
        generalize quoteL b.data.toList = qb at *
        have t1 : ((qa.length : Int) != (a.size : Int) + 2 + m) = false := by rw [HQL.out]; simp
        have t2 : ((qa.length : Int) == (a.size : Int) + 2 + m) = true := by rw [HQL.out]; simp
        obtain ⟨q, hq⟩ : ∃ q, (a.toList == b.toList) = q := ⟨_, rfl⟩
        have t3 : (qa == qb) = q := HEQ.out.trans hq
        have HWI := Lib.hid (within_any n 0 9 w2 WN.out (by omega) (by omega) (by omega))
        obtain ⟨hw1, hw2⟩ := nWithin_in n (lo := 0) (hi := 9) (by omega)
        generalize nWithin n 0 9 = kk at *
        obtain ⟨kn, rfl⟩ := Int.eq_ofNat_of_zero_le hw1
        have hkn : kn ≤ 9 := by omega
        clear HEQ HQL hm1 hlt hw1 hw2 WN
        cases q
        all_goals
          go_wp2_with fail
          (with_reducible refine HWI.out.mono ?_); rintro e w' ⟨rfl, rfl⟩
          go_wp2_with fail
          go_loopg [12, 13] kn (fun g x12 x13 wr => ∃ (i : Nat) (X : Option Addr) (cx : Nat), i + g = kn ∧ x13 = .int .i64 i ∧ x12 = .slice X i cx ∧ wr.ownsRow w.heap.size 23 2 (.slice X i cx) i (lbls (letters i)) ∧ Below w.heap.size w wr)
          case atStart => exact ⟨0, none, 0, by omega, rfl, rfl, own_nil _ _ _ _, HB2.out⟩
          case round =>
            obtain ⟨i, X, cx, hig, rfl, rfl, hown, hbel⟩ := hrel
            have HO := Lib.hid hown; have HBR := Lib.hid hbel
            have hwr := hbel.size
            clear hown hbel HB2 HWI
            cases gk with
            | succ g =>
              have hik : i < kn := by omega
              have hu8 : IntKind.u8.wrap (97 + (i : Int)) = 97 + (i : Int) := by rw [IntKind.wrap_u8]; omega
              have hv : (97 + (i : Int)) = ((UInt8.ofNat (97 + i)).toNat : Int) := by rw [UInt8.toNat_ofNat']; omega
              have hcv := conv_one wr (UInt8.ofNat (97 + i)) (97 + (i : Int)) hv
              have HX := Lib.hid (show Sees ((wr.alloc (.cells #[.int .u8 (97 + (i : Int))] 5)).alloc (.cells #[.string (letterB i), .string ⟨#[120]⟩] 23)) ((wr.alloc (.cells #[.int .u8 (97 + (i : Int))] 5)).alloc (.cells #[.string (letterB i), .string ⟨#[120]⟩] 23)).heap.size 2 (some ⟨(wr.alloc (.cells #[.int .u8 (97 + (i : Int))] 5)).heap.size, 0, none⟩) 1 (lbls [(letterB i, ⟨#[120]⟩)]) from (Blk.mk (heap_alloc_new (wr.alloc (.cells #[.int .u8 (97 + (i : Int))] 5)) _) : Blk _ _ 23 [.string (letterB i), .string ⟨#[120]⟩]).sees rfl (List.prefix_refl _))
              rw [show (wr.alloc (.cells #[.int .u8 (97 + (i : Int))] 5)).heap.size = wr.heap.size + 1 by simp] at HX
              have HOA := Lib.hid ((HO.out.alloc (.cells #[.int .u8 (97 + (i : Int))] 5)).alloc (.cells #[.string (letterB i), .string ⟨#[120]⟩] 23))
              have HBA := Lib.hid ((HBR.out.alloc hwr (.cells #[.int .u8 (97 + (i : Int))] 5)).alloc (by simp; omega) (.cells #[.string (letterB i), .string ⟨#[120]⟩] 23))
              have hbx : ∀ g, (Value.slice X i cx).ownBlock = some g → w.heap.size ≤ g := fun g hg => (HO.out.lt g hg).1
              have HBX := Lib.hid hbx
              have HLB : Hid ((⟨#[UInt8.ofNat (97 + i)]⟩ : ByteArray) = letterB i) := Lib.hid rfl
              rw [HLB.out] at hcv
              clear hbx hv HO HBR
              go_wp2_with (at_builtin; refine wpList_append_at rfl (.tmp 71) (.tmp 78) 24 rfl w.heap.size 23 i0 (.agg #[.string ⟨#[]⟩, .string ⟨#[]⟩]) 2 32 Try.underlying24 hi0 hz0 hz1 hz2 rfl (by decide) (.slice X i cx) i (lbls (letters i)) rfl HOA.out _ _ 1 1 (lbls [(letterB i, ⟨#[120]⟩)]) rfl HX.out (lbls_one _) (by unfold maxLen; omega) (by omega) (by simp; omega) ?_)
              intro v3 w3 hown3 hgr3 hwh3
              obtain ⟨A3, c3, rfl, hc3, hc4⟩ := own_slice hown3
              rw [← lbls_append] at hown3
              have HO3 : Hid (w3.ownsRow w.heap.size 23 2 (.slice A3 (i + 1) c3) (i + 1) (lbls (letters (i + 1)))) := Lib.hid hown3
              have HB3 := Lib.hid (HBA.out.grown hgr3 (by simp; omega) HBX.out)
              clear hown3 hgr3 hwh3 HOA HX HBA HBX hcv hu8
              go_wp2_with fail
              go_roundg g
              case measure => omega
              case rel => exact ⟨i + 1, A3, c3, by omega, by go_num, rfl, HO3.out, HB3.out⟩
            | zero =>
              obtain rfl : i = kn := by omega
              obtain ⟨X', cx', h1, hx2, hx3⟩ := own_slice HO.out
              injection h1 with h1 h4 h5; subst h1; subst h5
              clear h4
              obtain ⟨zn, hzn⟩ : ∃ zn, 25 + i = zn := ⟨_, rfl⟩
              have hzi : (25 : Int) + (i : Int) = (zn : Int) := by omega
              have HZN := Lib.hid hzn
              have hz34 : zn ≤ 34 := by omega
              clear hzn
              go_wp2_with (at_make; refine wpList_make_full _ rfl _ _ 49 rfl wr.heap.size 5 i8 (.int .u8 0) 1 Try.underlying49 hi8 y0 y1 _ _ _ _ zn rfl rfl ?l1 ?l2 (by rw [y2]; omega) (by unfold maxLen; omega) (Nat.le_refl _) ?_)
              case l1 => first | rfl | simp [hzi]
              case l2 => first | rfl | simp [hzi]
              intro w3 hown3 hg3
              rw [toList_madeCells_one, zero_cells] at hown3
              have hcv := conv_own w3 hown3 (by simp)
              obtain ⟨zs, hzs⟩ : ∃ zs : ByteArray, zs = ⟨(List.replicate zn (0 : UInt8)).toArray⟩ := ⟨_, rfl⟩
              rw [← hzs] at hcv
              have hzz : zs.size = zn := by rw [hzs]; simp [ByteArray.size]
              have HLONG := Lib.hid (show printL [((⟨#[97]⟩ : ByteArray), zs)] = [] from print_none (right_one (by
                have : ¬ zs.size ≤ 24 := by have := HZN.out; omega
                simp [lblOk, this])))
              have HSHORT := Lib.hid (show printL [((⟨#[97]⟩ : ByteArray), (⟨#[]⟩ : ByteArray))] = [] from print_none (right_one (by decide)))
              have HB3 := Lib.hid ((HBR.out.grown hg3 (by omega) (by simp)))
              have HO3 := Lib.hid (HO.out.kept hg3 (by cases X with | none => exact .inl rfl | some x => exact .inr (by simp [Value.ownBlock])))
              have hw3 := HB3.out.size
              have HA5 : Hid (QuoteAt w (.slice X i cx) (letters i) w3.heap.size zs (w3.alloc (.cells #[.string ⟨#[97]⟩, .string zs] 23))) := Lib.hid ⟨⟨X, cx, by rw [letters_length], by rw [letters_length]; exact Sees.of_own (HO3.out.alloc _), by rw [letters_length]; exact hx2, hx3⟩, Blk.mk (heap_alloc_new w3 _), HB3.out.alloc hw3 _⟩
              have HS5 := Lib.hid HA5.out.1.slice.1
              have HRT := Lib.hid (fun W (h : Sees W W.heap.size 2 X i (lbls (letters i))) => rightSet_any X i cx (letters i) _ W h (Nat.le_refl _) (by omega))
              have HPT := Lib.hid (fun W (h : Sees W W.heap.size 2 X i (lbls (letters i))) => print_any X i cx (letters i) _ W h (Nat.le_refl _) (by omega))
              clear hown3 hg3 HB3 HO3 HO HBR hzs hzz
              by_cases hk6 : i ≤ 6
              · have t6 : (i : Int) ≤ 6 := by omega
                have HK6 := Lib.hid (decide_eq_true hk6)
                have t7 : decide ((i : Int) ≤ 6) = true := decide_eq_true t6
                go_wp2_with fail
                (with_reducible refine (HRT.out _ HS5.out).mono ?_); rintro e w6 ⟨rfl, hb6⟩
                rw [letters_rightS, HK6.out]
                have HA6 := Lib.hid (HA5.out.below hb6)
                clear hb6 HA5 HS5
                have HS6 := Lib.hid HA6.out.1.slice.1
                go_wp2_with fail
                (with_reducible refine (HPT.out _ HS6.out).mono ?_); rintro e w7 ⟨rfl, hb7⟩
                have HA7 := Lib.hid (HA6.out.below hb7)
                clear hb7 HA6 HS6
                have e0 := HA7.out.2.1.cell 0
                have e1 := HA7.out.2.1.cell 1
                simp only [List.getElem?_cons_zero, List.getElem?_cons_succ] at e0 e1
                have hE : (printL (letters i)).isEmpty = false := by rw [printL_empty, letters_rightS, HK6.out]; rfl
                have hE2 : (!(printL (letters i)).isEmpty) = !false := by rw [hE]
                generalize printL (letters i) = pl at *
                go_wp2_with fail
                have HL1 := Lib.hid (show Sees (w7.alloc (.cells #[.string ⟨#[97]⟩, .string zs] 23)) (w7.alloc (.cells #[.string ⟨#[97]⟩, .string zs] 23)).heap.size 2 (some ⟨w7.heap.size, 0, none⟩) 1 (lbls [(⟨#[97]⟩, zs)]) from (Blk.mk (heap_alloc_new w7 _) : Blk _ w7.heap.size 23 [.string ⟨#[97]⟩, .string zs]).sees rfl (List.prefix_refl _))
                (with_reducible refine (print_any _ 1 1 [(⟨#[97]⟩, zs)] _ _ HL1.out (Nat.le_refl _) (by omega)).mono ?_); rintro e w8 ⟨rfl, hb8⟩
                rw [HLONG.out]
                have HA8 := Lib.hid (HA7.out.below (((Below.refl _ _).alloc (Nat.le_refl _) (.cells #[.string ⟨#[97]⟩, .string zs] 23)).trans (hb8.mono (by simp))))
                clear hb8 HA7 e0 e1 HL1
                go_wp2_with fail
                have HL2 := Lib.hid (show Sees (w8.alloc (.cells #[.string ⟨#[97]⟩, .string ⟨#[]⟩] 23)) (w8.alloc (.cells #[.string ⟨#[97]⟩, .string ⟨#[]⟩] 23)).heap.size 2 (some ⟨w8.heap.size, 0, none⟩) 1 (lbls [(⟨#[97]⟩, ⟨#[]⟩)]) from (Blk.mk (heap_alloc_new w8 _) : Blk _ w8.heap.size 23 [.string ⟨#[97]⟩, .string ⟨#[]⟩]).sees rfl (List.prefix_refl _))
                (with_reducible refine (print_any _ 1 1 [(⟨#[97]⟩, ⟨#[]⟩)] _ _ HL2.out (Nat.le_refl _) (by omega)).mono ?_); rintro e w9 ⟨rfl, hb9⟩
                rw [HSHORT.out]
                have HA9 := Lib.hid (HA8.out.below (((Below.refl _ _).alloc (Nat.le_refl _) (.cells #[.string ⟨#[97]⟩, .string ⟨#[]⟩] 23)).trans (hb9.mono (by simp))))
                clear hb9 HA8 HL2
                go_wp2_with fail
                (with_reducible refine (word_any ⟨#[]⟩ _).mono ?_); rintro e w' ⟨rfl, rfl⟩
                rw [show wordF ⟨#[]⟩ = false by decide]
                go_wp2_with fail
                (with_reducible refine (word_any ⟨#[57]⟩ _).mono ?_); rintro e w' ⟨rfl, rfl⟩
                rw [show wordF ⟨#[57]⟩ = false by decide]
                go_wp2_with fail
                (with_reducible refine (word_any ⟨#[97, 95, 57]⟩ _).mono ?_); rintro e w' ⟨rfl, rfl⟩
                rw [show wordF ⟨#[97, 95, 57]⟩ = true by decide]
                go_wp2_with fail
                (with_reducible refine (lset_runs _).mono ?_); rintro e w10 ⟨rfl, hb10⟩
                have HBL := Lib.hid (HA9.out.2.2.trans (hb10.mono HA9.out.2.2.size))
                clear hb10 HA9
                go_wp2_with fail
                go_ret
                exact ⟨rfl, HBL.out⟩
              · have t6 : ¬ (i : Int) ≤ 6 := by omega
                have HK6 := Lib.hid (decide_eq_false hk6)
                have t7 : decide ((i : Int) ≤ 6) = false := decide_eq_false t6
                go_wp2_with fail
                (with_reducible refine (HRT.out _ HS5.out).mono ?_); rintro e w6 ⟨rfl, hb6⟩
                rw [letters_rightS, HK6.out]
                have HA6 := Lib.hid (HA5.out.below hb6)
                clear hb6 HA5 HS5
                have HS6 := Lib.hid HA6.out.1.slice.1
                go_wp2_with fail
                (with_reducible refine (HPT.out _ HS6.out).mono ?_); rintro e w7 ⟨rfl, hb7⟩
                have HA7 := Lib.hid (HA6.out.below hb7)
                clear hb7 HA6 HS6
                have e0 := HA7.out.2.1.cell 0
                have e1 := HA7.out.2.1.cell 1
                simp only [List.getElem?_cons_zero, List.getElem?_cons_succ] at e0 e1
                have hE : (printL (letters i)).isEmpty = true := by rw [printL_empty, letters_rightS, HK6.out]; rfl
                have hE2 : (!(printL (letters i)).isEmpty) = !true := by rw [hE]
                generalize printL (letters i) = pl at *
                go_wp2_with fail
                have HL1 := Lib.hid (show Sees (w7.alloc (.cells #[.string ⟨#[97]⟩, .string zs] 23)) (w7.alloc (.cells #[.string ⟨#[97]⟩, .string zs] 23)).heap.size 2 (some ⟨w7.heap.size, 0, none⟩) 1 (lbls [(⟨#[97]⟩, zs)]) from (Blk.mk (heap_alloc_new w7 _) : Blk _ w7.heap.size 23 [.string ⟨#[97]⟩, .string zs]).sees rfl (List.prefix_refl _))
                (with_reducible refine (print_any _ 1 1 [(⟨#[97]⟩, zs)] _ _ HL1.out (Nat.le_refl _) (by omega)).mono ?_); rintro e w8 ⟨rfl, hb8⟩
                rw [HLONG.out]
                have HA8 := Lib.hid (HA7.out.below (((Below.refl _ _).alloc (Nat.le_refl _) (.cells #[.string ⟨#[97]⟩, .string zs] 23)).trans (hb8.mono (by simp))))
                clear hb8 HA7 e0 e1 HL1
                go_wp2_with fail
                have HL2 := Lib.hid (show Sees (w8.alloc (.cells #[.string ⟨#[97]⟩, .string ⟨#[]⟩] 23)) (w8.alloc (.cells #[.string ⟨#[97]⟩, .string ⟨#[]⟩] 23)).heap.size 2 (some ⟨w8.heap.size, 0, none⟩) 1 (lbls [(⟨#[97]⟩, ⟨#[]⟩)]) from (Blk.mk (heap_alloc_new w8 _) : Blk _ w8.heap.size 23 [.string ⟨#[97]⟩, .string ⟨#[]⟩]).sees rfl (List.prefix_refl _))
                (with_reducible refine (print_any _ 1 1 [(⟨#[97]⟩, ⟨#[]⟩)] _ _ HL2.out (Nat.le_refl _) (by omega)).mono ?_); rintro e w9 ⟨rfl, hb9⟩
                rw [HSHORT.out]
                have HA9 := Lib.hid (HA8.out.below (((Below.refl _ _).alloc (Nat.le_refl _) (.cells #[.string ⟨#[97]⟩, .string ⟨#[]⟩] 23)).trans (hb9.mono (by simp))))
                clear hb9 HA8 HL2
                go_wp2_with fail
                (with_reducible refine (word_any ⟨#[]⟩ _).mono ?_); rintro e w' ⟨rfl, rfl⟩
                rw [show wordF ⟨#[]⟩ = false by decide]
                go_wp2_with fail
                (with_reducible refine (word_any ⟨#[57]⟩ _).mono ?_); rintro e w' ⟨rfl, rfl⟩
                rw [show wordF ⟨#[57]⟩ = false by decide]
                go_wp2_with fail
                (with_reducible refine (word_any ⟨#[97, 95, 57]⟩ _).mono ?_); rintro e w' ⟨rfl, rfl⟩
                rw [show wordF ⟨#[97, 95, 57]⟩ = true by decide]
                go_wp2_with fail
                (with_reducible refine (lset_runs _).mono ?_); rintro e w10 ⟨rfl, hb10⟩
                have HBL := Lib.hid (HA9.out.2.2.trans (hb10.mono HA9.out.2.2.size))
                clear hb10 HA9
                go_wp2_with fail
                go_ret
                exact ⟨rfl, HBL.out⟩
end Go.Proofs.Ytkebmdcljeaacaa
