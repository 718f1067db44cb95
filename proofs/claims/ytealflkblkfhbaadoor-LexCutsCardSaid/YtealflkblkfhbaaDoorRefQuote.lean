/- klaxonref1.Quote; klaxonref7.num. -/
import Derived.Test.YtealflkblkfhbaaDoorRefLex1
import Derived.Lib.ItoaLen
import Derived.Test.YtealflkblkfhbaaDoorKeepCells
namespace Go.Proofs.YtealflkblkfhbaaDoor
open Go.ChangeShapes Go.WideShapes Go.ChangeAt Go.RowKit
set_option linter.unusedVariables false
set_option linter.unusedSimpArgs false
set_option maxRecDepth 100000
/-- Within Quote: a row of its own of these bytes. -/
structure QAt (w : World) (A : Option Addr) (n c : Nat) (l : List UInt8) (wx : World) : Prop where
  row : wx.ownsRow w.heap.size 5 1 (.slice A n c) n (Lib.byteCells l)
  len : l.length = n
  bel : Below w.heap.size w wx
theorem QAt.one {w : World} (b : UInt8) (z : Int) (hz : z = b.toNat) : QAt w (some ⟨w.heap.size, 0, none⟩) 1 1 [b] (w.alloc (.cells #[.int .u8 z] 5)) := by
  subst hz
  exact ⟨(Blk.mk (heap_alloc_new w _) : Blk _ w.heap.size 5 [.int .u8 (b.toNat : Int)]).owns (n := 1) (cap := 1) (size := 1) (Nat.le_refl _) (Nat.le_refl _) (by unfold maxLen; omega) rfl, rfl, (Below.refl _ _).alloc (Nat.le_refl _) _⟩
theorem QAt.next {w wx w3 : World} {A A3 : Option Addr} {n c c3 : Nat} {l : List UInt8} {o : Obj} (h : QAt w A n c l wx) (b : UInt8) (hown : w3.ownsRow w.heap.size 5 1 (.slice A3 (n + 1) c3) (n + 1) (Lib.byteCells l ++ Lib.byteCells [b])) (hg : (wx.alloc o).grownBy w3 (Value.slice A n c).ownBlock) : QAt w A3 (n + 1) c3 (l ++ [b]) w3 :=
  ⟨by rw [Lib.byteCells_append]; exact hown, by rw [List.length_append, h.len]; rfl, (h.bel.alloc h.bel.size o).grown hg (Nat.le_trans h.bel.size (by simp)) (fun g hg => (h.row.lt g hg).1)⟩
theorem byte_eq {x : UInt8} {k : Nat} (hk : k < 256) : ((x.toNat : Int) == (k : Int)) = decide (x = UInt8.ofNat k) := by
  rw [Bool.eq_iff_iff, beq_iff_eq, decide_eq_true_iff]
  constructor
  · intro h; exact UInt8.toNat_inj.1 (by rw [UInt8.toNat_ofNat']; omega)
  · intro h; rw [h, UInt8.toNat_ofNat']; omega
theorem escL_snoc (s : ByteArray) (k : Nat) (h : k < s.size) : escL (s.data.toList.take (k + 1)) = escL (s.data.toList.take k) ++ (if escB s[k] then [92, s[k]] else [s[k]]) := by
  rw [take_snoc_b s k h, escL_append, escL_one]
set_option maxHeartbeats 4000000 in
theorem rquote_any (s : ByteArray) (w : World) (hs : s.size ≤ 35184372088832) :
    Calls Tryd.prog 52 #[.string s] w fun e w' => e = .returned (.string ⟨(quoteL s.data.toList).toArray⟩) ∧ Below w.heap.size w w' := by
  obtain ⟨i0, hi0, hz0, hz1, hz2⟩ := info_parts Tryd.infoU8x
  have HQ0 := Lib.hid (QAt.one (w := w) 34 34 rfl)
  go_enter Tryd.func52, Tryd.ntmps52
  go_wp2_with fail
  go_loopg [3, 4] s.size (fun g x3 x4 wr => ∃ (k n : Nat) (A : Option Addr) (c : Nat) (l : List UInt8), k + g = s.size ∧ x4 = .int .i64 k ∧ x3 = .slice A n c ∧ n ≤ 2 * k + 1 ∧ l = 34 :: escL (s.data.toList.take k) ∧ QAt w A n c l wr)
  case atStart => exact ⟨0, 1, _, 1, [34], by omega, rfl, rfl, by omega, rfl, HQ0.out⟩
  case round =>
    obtain ⟨k, n, A, c, l, hkg, rfl, rfl, hn, hl, hat⟩ := hrel
    have HQ := Lib.hid hat
    have HL := Lib.hid hl
    clear hat hl HQ0
    have hws := HQ.out.bel.size
    cases gk with
    | zero =>
      have hk : (s.size : Int) ≤ k := by omega
      have HE := Lib.hid (show l ++ [34] = quoteL s.data.toList by rw [HL.out, List.take_of_length_le (by simp; omega)]; rfl)
      have HOA := Lib.hid (own_below HQ.out.row ((Below.refl wr.heap.size wr).alloc (Nat.le_refl _) (.cells #[.int .u8 34] 5)) (Nat.le_refl _))
      have HX := Lib.hid (show Sees (wr.alloc (.cells #[.int .u8 34] 5)) (wr.alloc (.cells #[.int .u8 34] 5)).heap.size 1 (some ⟨wr.heap.size, 0, none⟩) 1 (Lib.byteCells [34]) from (Blk.mk (heap_alloc_new wr _) : Blk _ wr.heap.size 5 [.int .u8 34]).sees rfl (List.prefix_refl _))
      have hbl : w.heap.size ≤ (wr.alloc (.cells #[.int .u8 34] 5)).heap.size := by simp; omega
      go_upto_region 8 with fail
      go_wp2_with (at_builtin; refine wpList_append_at rfl (.tmp 31) (.tmp 32) 41 rfl w.heap.size 5 i0 (.int .u8 0) 1 1 Tryd.underlying41 hi0 hz0 hz1 hz2 rfl (by decide) _ n (Lib.byteCells l) rfl HOA.out _ _ 1 1 (Lib.byteCells [34]) rfl HX.out (byteCells_one' _) (by unfold maxLen; omega) (by omega) hbl ?_)
      intro v3 w3 hown3 hgr3 hwh3
      obtain ⟨A3, c3, rfl, _, _⟩ := own_slice hown3
      have HZ := Lib.hid (HQ.out.next 34 hown3 hgr3)
      have hcv := conv_own w3 HZ.out.row HZ.out.len
      clear hown3 hgr3 hwh3 HOA HX hbl HQ
      go_wp2_with fail
      go_ret
      exact ⟨by rw [HE.out]; rfl, HZ.out.bel⟩
    | succ g =>
      have hlt : k < s.size := by omega
      have hki : (k : Int) < s.size := by omega
      have HSN := Lib.hid (escL_snoc s k hlt)
      obtain ⟨b, hb⟩ : ∃ b, s[k] = b := ⟨_, rfl⟩
      rw [hb] at HSN
      obtain ⟨q, hq⟩ : ∃ q, escB b = q := ⟨_, rfl⟩
      have HQB := Lib.hid hq
      rw [hq] at HSN
      clear hq
      have HB := Lib.hid hb
      clear hb
      go_upto_region 5 with fail
      go_cut [21] from 12 to 21 (fun x21 wx => x21 = .bool q ∧ QAt w A n c l wx)
      case first =>
        by_cases h34 : b = 34
        · have hq1 : q = true := by rw [← HQB.out, h34]; decide
          have t1 : ((s[k].toNat : Int) == 34) = true := by rw [HB.out, h34]; rfl
          clear h34
          go_wp2_with fail
          go_meet
          exact ⟨by subst hq1; rfl, HQ.out⟩
        · have t1 : ((s[k].toNat : Int) == 34) = false := by
            rw [HB.out, beq_eq_false_iff_ne]; intro e; exact h34 (UInt8.toNat_inj.1 (by have h : b.toNat = 34 := (by omega); rw [h]; rfl))
          by_cases h92 : b = 92
          · have hq1 : q = true := by rw [← HQB.out, h92]; decide
            have t2 : ((s[k].toNat : Int) == 92) = true := by rw [HB.out, h92]; rfl
            clear h34 h92
            go_wp2_with fail
            go_meet
            exact ⟨by subst hq1; rfl, HQ.out⟩
          · have hq1 : q = false := by
              rw [← HQB.out]; unfold escB escN
              rw [decide_eq_false (fun e => h34 (UInt8.toNat_inj.1 (by rw [e]; rfl))), decide_eq_false (fun e => h92 (UInt8.toNat_inj.1 (by rw [e]; rfl)))]; rfl
            have t2 : ((s[k].toNat : Int) == 92) = false := by
              rw [HB.out, beq_eq_false_iff_ne]; intro e; exact h92 (UInt8.toNat_inj.1 (by have h : b.toNat = 92 := (by omega); rw [h]; rfl))
            clear h34 h92
            go_wp2_with fail
            go_meet
            exact ⟨by subst hq1; rfl, HQ.out⟩
      case rest =>
        obtain ⟨rfl, hat⟩ := hcut
        have HQ2 := Lib.hid hat
        clear hat HQ HQB
        go_upto_if 21 with fail
        go_cut [3] from 22 to 24 (fun x3 wx => ∃ (A2 : Option Addr) (n2 c2 : Nat), x3 = .slice A2 n2 c2 ∧ n2 ≤ n + 1 ∧ QAt w A2 n2 c2 (l ++ (if q then [92] else [])) wx)
        case first =>
          cases q with
          | false =>
            go_wp2_with fail
            go_meet
            exact ⟨A, n, c, rfl, by omega, by simpa using HQ2.out⟩
          | true =>
            have HOA := Lib.hid (own_below HQ2.out.row ((Below.refl wc.heap.size wc).alloc (Nat.le_refl _) (.cells #[.int .u8 92] 5)) (Nat.le_refl _))
            have HX := Lib.hid (show Sees (wc.alloc (.cells #[.int .u8 92] 5)) (wc.alloc (.cells #[.int .u8 92] 5)).heap.size 1 (some ⟨wc.heap.size, 0, none⟩) 1 (Lib.byteCells [92]) from (Blk.mk (heap_alloc_new wc _) : Blk _ wc.heap.size 5 [.int .u8 92]).sees rfl (List.prefix_refl _))
            have hbl : w.heap.size ≤ (wc.alloc (.cells #[.int .u8 92] 5)).heap.size := by have := HQ2.out.bel.size; simp; omega
            go_wp2_with (at_builtin; refine wpList_append_at rfl (.tmp 22) (.tmp 23) 41 rfl w.heap.size 5 i0 (.int .u8 0) 1 1 Tryd.underlying41 hi0 hz0 hz1 hz2 rfl (by decide) _ n (Lib.byteCells l) rfl HOA.out _ _ 1 1 (Lib.byteCells [92]) rfl HX.out (byteCells_one' _) (by unfold maxLen; omega) (by omega) hbl ?_)
            intro v3 w3 hown3 hgr3 hwh3
            obtain ⟨A3, c3, rfl, _, _⟩ := own_slice hown3
            have HZ := Lib.hid (HQ2.out.next 92 hown3 hgr3)
            clear hown3 hgr3 hwh3 HOA HX hbl HQ2
            go_wp2_with fail
            go_meet
            exact ⟨A3, n + 1, c3, rfl, by omega, by simpa using HZ.out⟩
        case rest =>
          obtain ⟨A2, n2, c2, rfl, hn2, hat⟩ := hcut
          have HQ3 := Lib.hid hat
          clear hat HQ2
          obtain ⟨l2, hl2⟩ : ∃ l2, l ++ (if q then [92] else []) = l2 := ⟨_, rfl⟩
          have HL2 := Lib.hid hl2
          rw [hl2] at HQ3
          clear hl2
          have HLN := Lib.hid (show l2 ++ [b] = 34 :: escL (s.data.toList.take (k + 1)) by rw [HSN.out, ← HL2.out, HL.out]; cases q <;> simp)
          have HOA := Lib.hid (own_below HQ3.out.row ((Below.refl wc.heap.size wc).alloc (Nat.le_refl _) (.cells #[.int .u8 (s[k].toNat : Int)] 5)) (Nat.le_refl _))
          have HX := Lib.hid (show Sees (wc.alloc (.cells #[.int .u8 (s[k].toNat : Int)] 5)) (wc.alloc (.cells #[.int .u8 (s[k].toNat : Int)] 5)).heap.size 1 (some ⟨wc.heap.size, 0, none⟩) 1 (Lib.byteCells [s[k]]) from (Blk.mk (heap_alloc_new wc _) : Blk _ wc.heap.size 5 [.int .u8 (s[k].toNat : Int)]).sees rfl (List.prefix_refl _))
          have hbl : w.heap.size ≤ (wc.alloc (.cells #[.int .u8 (s[k].toNat : Int)] 5)).heap.size := by have := HQ3.out.bel.size; simp; omega
          go_wp2_with (at_builtin; refine wpList_append_at rfl (.tmp 25) (.tmp 29) 41 rfl w.heap.size 5 i0 (.int .u8 0) 1 1 Tryd.underlying41 hi0 hz0 hz1 hz2 rfl (by decide) _ n2 (Lib.byteCells l2) rfl HOA.out _ _ 1 1 (Lib.byteCells [s[k]]) rfl HX.out (byteCells_one' _) (by unfold maxLen; omega) (by omega) hbl ?_)
          intro v3 w3 hown3 hgr3 hwh3
          obtain ⟨A3, c3, rfl, _, _⟩ := own_slice hown3
          have HZ := Lib.hid (show QAt w A3 (n2 + 1) c3 (l2 ++ [b]) w3 from by rw [← HB.out]; exact HQ3.out.next s[k] hown3 hgr3)
          clear hown3 hgr3 hwh3 HOA HX hbl HQ3
          go_wp2_with fail
          go_roundg g
          case measure => omega
          case rel => exact ⟨k + 1, n2 + 1, A3, c3, _, by omega, by go_num, rfl, by omega, HLN.out, HZ.out⟩
/-- Decimal digits, none of nought. -/
def preD (u : Nat) : List UInt8 := if u = 0 then [] else Lib.decDigits u
theorem decD_step (u : Nat) : Lib.decDigits u = preD (u / 10) ++ [UInt8.ofNat (48 + u % 10)] := by
  by_cases h : u < 10
  · rw [Lib.decDigits, dif_pos h, preD, if_pos (by omega), List.nil_append, Nat.mod_eq_of_lt h]
  · rw [Lib.decDigits, dif_neg h, preD, if_neg (by omega)]
theorem preD_pos {u : Nat} (h : 0 < u) : preD u = Lib.decDigits u := by rw [preD, if_neg (by omega)]
theorem ba_cat (a b : List UInt8) : (⟨a.toArray⟩ : ByteArray) ++ ⟨b.toArray⟩ = ⟨(a ++ b).toArray⟩ := by
  show ByteArray.append _ _ = _
  apply ByteArray.ext
  simp
def NumInv (U u : Nat) (l : List UInt8) : Prop := (l = [] ∧ u = U) ∨ (l ≠ [] ∧ u ≤ U ∧ Lib.decDigits U = preD u ++ l)
theorem NumInv.le {U u : Nat} {l : List UInt8} (h : NumInv U u l) : u ≤ U := by
  rcases h with ⟨_, h⟩ | ⟨_, h, _⟩ <;> omega
theorem decD_len (u : Nat) : (Lib.decDigits u).length = Lib.nDigits u := by
  induction u using Nat.strongRecOn with
  | _ u ih =>
    rw [Lib.decDigits, Lib.nDigits]
    split
    · rfl
    · rw [List.length_append, ih _ (by omega)]; rfl
theorem NumInv.len {U u : Nat} {l : List UInt8} (h : NumInv U u l) (hU : U ≤ 9223372036854775808) : l.length ≤ 20 := by
  rcases h with ⟨h, _⟩ | ⟨_, _, h⟩
  · rw [h]; simp
  · have h1 := congrArg List.length h
    rw [decD_len, List.length_append] at h1
    have := Lib.nDigits_le20 U (by omega)
    omega
theorem NumInv.next {U u : Nat} {l : List UInt8} (h : NumInv U u l) (hu : l = [] ∨ 0 < u) : NumInv U (u / 10) (UInt8.ofNat (48 + u % 10) :: l) := by
  have hl := h.le
  refine .inr ⟨by simp, by omega, ?_⟩
  rcases h with ⟨h1, h2⟩ | ⟨h1, _, h2⟩
  · subst h1; subst h2; exact decD_step u
  · have h3 : 0 < u := hu.resolve_left h1
    rw [h2, preD_pos h3, decD_step u, List.append_assoc]; rfl
set_option maxHeartbeats 4000000 in
theorem rnum_any (n : Int) (w : World) (hn : I64 n) :
    Calls Tryd.prog 36 #[.int .i64 n] w fun e w' => e = .returned (.string ⟨(Lib.itoa n).toArray⟩) ∧ Below w.heap.size w w' := by
  unfold I64 at hn
  obtain ⟨U, hU⟩ : ∃ U, n.natAbs = U := ⟨_, rfl⟩
  have hU2 : U ≤ 9223372036854775808 := by omega
  have HU := Lib.hid hU
  go_enter Tryd.func36, Tryd.ntmps36
  obtain ⟨m, hm⟩ : ∃ m, IntKind.u64.wrap n = m := ⟨_, rfl⟩
  have hm0 : 0 ≤ n → m = (U : Int) := fun h => by rw [← hm]; show n % 18446744073709551616 = _; omega
  have hm1 : n < 0 → IntKind.u64.wrap (-m) = (U : Int) := fun h => by
    have h1 : m = n % 18446744073709551616 := hm.symm
    show (-m) % 18446744073709551616 = _
    omega
  have HM0 := Lib.hid hm0
  have HM1 := Lib.hid hm1
  have HN := Lib.hid hn
  clear hm0 hm1 hU hn
  go_upto_if 8 with fail
  go_cut [3] from 9 to 10 (fun x3 wx => x3 = .int .u64 (U : Nat) ∧ wx = w)
  case first =>
    by_cases h0 : n < 0
    · have h2 := HM1.out h0
      go_wp2_with fail
      go_meet
      exact ⟨rfl, rfl⟩
    · have h1 : 0 ≤ n := by omega
      have HE := Lib.hid (HM0.out h1)
      go_wp2_with fail
      go_meet
      exact ⟨by rw [HE.out], rfl⟩
  case rest =>
    obtain ⟨rfl, hwc⟩ := hcut
    subst hwc
    go_wp2_with fail
    go_loopg [3, 4] (U + 1) (fun g x3 x4 wr => ∃ (u : Nat) (l : List UInt8), u + (if l = [] then 1 else 0) = g ∧ x3 = .int .u64 u ∧ x4 = .string ⟨l.toArray⟩ ∧ NumInv U u l ∧ Below wc.heap.size wc wr)
    case atStart => exact ⟨U, [], by rw [if_pos rfl], rfl, rfl, .inl ⟨rfl, rfl⟩, Below.refl _ _⟩
    case round =>
      obtain ⟨u, l, hug, rfl, rfl, hinv, hbel⟩ := hrel
      have HI := Lib.hid hinv
      have HB := Lib.hid hbel
      have huU := hinv.le
      have hl20 := hinv.len hU2
      clear hinv hbel
      cases l with
      | nil =>
        rw [if_pos rfl] at hug
        obtain ⟨r, hr⟩ : ∃ r, u % 10 = r := ⟨_, rfl⟩
        obtain ⟨q, hq⟩ : ∃ q, u / 10 = q := ⟨_, rfl⟩
        have hr9 : r ≤ 9 := by omega
        obtain ⟨ch, hch⟩ : ∃ ch, UInt8.ofNat (48 + r) = ch := ⟨_, rfl⟩
        have hcn : (48 + (r : Int)) = ch.toNat := by rw [← hch, UInt8.toNat_ofNat']; omega
        have HNX := Lib.hid (show NumInv U q (ch :: []) by rw [← hch, ← hr, ← hq]; exact HI.out.next (.inl rfl))
        have hqg : q < gk := by omega
        have k1 : (u : Int).tmod 10 = (r : Int) := by rw [← hr]; rfl
        have k2 : (u : Int) % 10 = (r : Int) := by omega
        have k3 : (u : Int).tdiv 10 = (q : Int) := by rw [← hq]; rfl
        have k4 : (u : Int) / 10 = (q : Int) := by omega
        have k5 : IntKind.u64.wrap (48 + (r : Int)) = 48 + r := by rw [IntKind.wrap_u64]; omega
        have k6 : IntKind.u8.wrap (48 + (r : Int)) = 48 + r := by show (48 + (r : Int)) % 256 = _; omega
        have k7 : IntKind.u64.wrap (r : Int) = r := by rw [IntKind.wrap_u64]; omega
        have k8 : IntKind.u64.wrap (q : Int) = q := by rw [IntKind.wrap_u64]; omega
        have hcv := conv_at (wr.alloc (.cells #[.int .u8 (48 + (r : Int))] 5)) wr.heap.size ch (48 + (r : Int)) hcn (Blk.mk (heap_alloc_new wr _))
        have HB2 := Lib.hid (HB.out.alloc HB.out.size (.cells #[.int .u8 (48 + (r : Int))] 5))
        have HCT := Lib.hid (show (⟨#[ch]⟩ : ByteArray) ++ ⟨([]).toArray⟩ = ⟨(ch :: []).toArray⟩ from ba_cat [_] _)
        clear hr hq hch hcn
        by_cases h0 : 0 < u
        · have h0i : (0 : Int) < u := by omega
          go_wp2_with fail
          go_roundg q
          case measure => omega
          case rel => exact ⟨q, _, by rw [if_neg (by simp)]; rfl, rfl, by rw [HCT.out], HNX.out, HB2.out⟩
        · have h0i : ¬ (0 : Int) < u := by omega
          go_wp2_with fail
          go_roundg q
          case measure => omega
          case rel => exact ⟨q, _, by rw [if_neg (by simp)]; rfl, rfl, by rw [HCT.out], HNX.out, HB2.out⟩
      | cons a l =>
        rw [if_neg (by simp)] at hug
        by_cases h0 : 0 < u
        · have h0i : (0 : Int) < u := by omega
          obtain ⟨r, hr⟩ : ∃ r, u % 10 = r := ⟨_, rfl⟩
          obtain ⟨q, hq⟩ : ∃ q, u / 10 = q := ⟨_, rfl⟩
          have hr9 : r ≤ 9 := by omega
          obtain ⟨ch, hch⟩ : ∃ ch, UInt8.ofNat (48 + r) = ch := ⟨_, rfl⟩
          have hcn : (48 + (r : Int)) = ch.toNat := by rw [← hch, UInt8.toNat_ofNat']; omega
          have HNX := Lib.hid (show NumInv U q (ch :: (a :: l)) by rw [← hch, ← hr, ← hq]; exact HI.out.next (.inr h0))
          have hqg : q < gk := by omega
          have k1 : (u : Int).tmod 10 = (r : Int) := by rw [← hr]; rfl
          have k2 : (u : Int) % 10 = (r : Int) := by omega
          have k3 : (u : Int).tdiv 10 = (q : Int) := by rw [← hq]; rfl
          have k4 : (u : Int) / 10 = (q : Int) := by omega
          have k5 : IntKind.u64.wrap (48 + (r : Int)) = 48 + r := by rw [IntKind.wrap_u64]; omega
          have k6 : IntKind.u8.wrap (48 + (r : Int)) = 48 + r := by show (48 + (r : Int)) % 256 = _; omega
          have k7 : IntKind.u64.wrap (r : Int) = r := by rw [IntKind.wrap_u64]; omega
          have k8 : IntKind.u64.wrap (q : Int) = q := by rw [IntKind.wrap_u64]; omega
          have hcv := conv_at (wr.alloc (.cells #[.int .u8 (48 + (r : Int))] 5)) wr.heap.size ch (48 + (r : Int)) hcn (Blk.mk (heap_alloc_new wr _))
          have HB2 := Lib.hid (HB.out.alloc HB.out.size (.cells #[.int .u8 (48 + (r : Int))] 5))
          have HCT := Lib.hid (show (⟨#[ch]⟩ : ByteArray) ++ ⟨((a :: l)).toArray⟩ = ⟨(ch :: (a :: l)).toArray⟩ from ba_cat [_] _)
          clear hr hq hch hcn
          have hsz : (⟨(a :: l).toArray⟩ : ByteArray).size ≤ 20 := hl20
          generalize (⟨(a :: l).toArray⟩ : ByteArray) = S at *
          go_wp2_with fail
          go_roundg q
          case measure => omega
          case rel => exact ⟨q, _, by rw [if_neg (by simp)]; rfl, rfl, by rw [HCT.out], HNX.out, HB2.out⟩
        · have hu0 : u = 0 := by omega
          have HU0 := Lib.hid hu0
          have h0i : ¬ (0 : Int) < u := by omega
          clear hug hu0
          have HD := Lib.hid (show Lib.decDigits U = a :: l by
            rcases HI.out with ⟨h, _⟩ | ⟨_, _, h⟩
            · cases h
            · rw [h, HU0.out]; rfl)
          by_cases hneg : n < 0
          · have HE := Lib.hid (show (⟨#[45]⟩ : ByteArray) ++ ⟨(a :: l).toArray⟩ = ⟨(Lib.itoa n).toArray⟩ by
              rw [Lib.itoa, if_pos hneg, HU.out, HD.out]; exact ba_cat [45] _)
            have hsz : (⟨(a :: l).toArray⟩ : ByteArray).size ≤ 20 := hl20
            go_upto_region 8 with fail
            generalize (⟨(a :: l).toArray⟩ : ByteArray) = S at *
            go_wp2_with fail
            go_ret
            exact ⟨by rw [← HE.out]; rfl, HB.out⟩
          · have HE := Lib.hid (show (⟨(a :: l).toArray⟩ : ByteArray) = ⟨(Lib.itoa n).toArray⟩ by
              rw [Lib.itoa, if_neg hneg, show n.toNat = U by have := HU.out; omega, HD.out])
            go_wp2_with fail
            go_ret
            exact ⟨by rw [← HE.out]; rfl, HB.out⟩
end Go.Proofs.YtealflkblkfhbaaDoor
