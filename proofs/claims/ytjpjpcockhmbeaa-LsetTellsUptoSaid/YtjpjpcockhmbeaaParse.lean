/- lset.Parse, and what it calls. -/
import Derived.Test.YtjpjpcockhmbeaaCut
import Derived.Test.YtjpjpcockhmbeaaGrown
import Derived.Laws.IdiomStrings
import Derived.Laws.BytesArg
namespace Go.Proofs.Ytjpjpcockhmbeaa
open Go.ChangeShapes Go.WideShapes Go.ChangeAt Go.RowKit
set_option linter.unusedVariables false
set_option maxRecDepth 100000
/-- string(b) of a row of the call's own. -/
theorem conv_own {base n c : Nat} {A : Option Addr} {l : List UInt8} (w : World) (h : w.ownsRow base 5 1 (.slice A n c) n (Lib.byteCells l)) (hl : l.length = n) :
    (convert 38 9 (.slice A n c)).run Try.prog w = .ok (.string ⟨l.toArray⟩) w := by
  cases A with
  | none =>
    have hn : n = 0 := by
      rcases Nat.eq_zero_or_pos n with h0 | h0
      · exact h0
      · obtain ⟨g, c', hv, _⟩ := h.form h0; cases hv
    have : l = [] := List.eq_nil_of_length_eq_zero (by omega)
    subst this
    exact run_convert_bytes_nil (w := w) 38 5 Try.underlying38 Try.underlying5 n c _ Try.underlying9
  | some a =>
    subst hl
    exact run_convert_bytes_back w 38 9 5 a c l Try.underlying38 Try.underlying5 Try.underlying9 fun j hj => by
      have hS := Sees.of_own h
      obtain ⟨ad, e, _, hc⟩ := hS.at_ (by omega)
      injection e with e; subst e
      exact hc j _ (by simp [Lib.byteCells, hj])
theorem own_drewN {w : World} {base : Nat} {t : TypeId} {s n : Nat} {v : Value} {xs : List Value} (h : w.ownsRow base t s v n xs) (q : Nat) : (w.drewN q).ownsRow base t s v n xs := h
theorem own_nil (w : World) (base : Nat) (t : TypeId) (s : Nat) : w.ownsRow base t s (.slice none 0 0) 0 [] := World.ownsRow_nil w base t s
theorem byteCells_one' (l : List UInt8) : ∀ u ∈ Lib.byteCells l, u.oneCell' = true := by
  intro u hu; simp only [Lib.byteCells, List.mem_map] at hu; obtain ⟨b, _, rfl⟩ := hu; rfl
/-- What is told of a text that may be one in quotes. -/
def UnqAns (r : Option (List UInt8 × List UInt8)) (w : World) (e : Ending) (w' : World) : Prop :=
  Below w.heap.size w w' ∧ match r with
    | none => e = .returned (.tuple #[.string ⟨#[]⟩, .string ⟨#[]⟩, .bool false])
    | some (v, t) => e = .returned (.tuple #[.string ⟨v.toArray⟩, .string ⟨t.toArray⟩, .bool true])
theorem unqAns_no {w w' : World} {e : Ending} {r : Option (List UInt8 × List UInt8)} (hr : r = none) (hb : Below w.heap.size w w') (he : e = .returned (.tuple #[.string ⟨#[]⟩, .string ⟨#[]⟩, .bool false])) : UnqAns r w e w' := by subst hr; exact ⟨hb, he⟩
theorem unqAns_yes {w w' : World} {e : Ending} {r : Option (List UInt8 × List UInt8)} {v t : List UInt8} (hr : r = some (v, t)) (hb : Below w.heap.size w w') (he : e = .returned (.tuple #[.string ⟨v.toArray⟩, .string ⟨t.toArray⟩, .bool true])) : UnqAns r w e w' := by subst hr; exact ⟨hb, he⟩
theorem drop_byte (r : List UInt8) (k : Nat) (h : k < r.length) : r.drop k = r[k] :: r.drop (k + 1) := List.drop_eq_getElem_cons h
theorem getByte (r : List UInt8) (k : Nat) (h : k < (⟨r.toArray⟩ : ByteArray).size) : (⟨r.toArray⟩ : ByteArray)[k] = r[k]'(by simpa [ByteArray.size] using h) := rfl
theorem unq_step {r acc : List UInt8} {k : Nat} (h : k < r.length) (ha : acc.length ≤ 24) (h34 : r[k] ≠ 34) (h92 : r[k] ≠ 92) : unq (r.drop k) acc = unq (r.drop (k + 1)) (acc ++ [r[k]]) := by
  rw [drop_byte r k h]
  conv => lhs; unfold unq
  rw [if_neg (by omega), if_neg h34, if_neg h92]
theorem unq_end {r acc : List UInt8} {k : Nat} (h : k < r.length) (ha : acc.length ≤ 24) (h34 : r[k] = 34) : unq (r.drop k) acc = some (acc, r.drop (k + 1)) := by
  rw [drop_byte r k h]
  conv => lhs; unfold unq
  rw [if_neg (by omega), if_pos h34]
theorem unq_long {r acc : List UInt8} {k : Nat} (ha : 24 < acc.length) : unq (r.drop k) acc = none := by
  cases r.drop k with
  | nil => unfold unq; rfl
  | cons c t => unfold unq; rw [if_pos ha]
theorem unq_over {r acc : List UInt8} {k : Nat} (h : r.length ≤ k) : unq (r.drop k) acc = none := by
  rw [List.drop_of_length_le h]; unfold unq; rfl
theorem unq_esc {r acc : List UInt8} {k : Nat} (h : k + 1 < r.length) (ha : acc.length ≤ 24) (h92 : r[k] = 92) (he : escB r[k + 1] = true) : unq (r.drop k) acc = unq (r.drop (k + 2)) (acc ++ [r[k + 1]]) := by
  rw [drop_byte r k (by omega), drop_byte r (k + 1) h]
  conv => lhs; unfold unq
  rw [if_neg (by omega), if_neg (by rw [h92]; decide), if_pos h92]
  simp only
  rw [if_pos he]
theorem unq_bad {r acc : List UInt8} {k : Nat} (h : k + 1 < r.length) (ha : acc.length ≤ 24) (h92 : r[k] = 92) (he : escB r[k + 1] = false) : unq (r.drop k) acc = none := by
  rw [drop_byte r k (by omega), drop_byte r (k + 1) h]
  unfold unq
  rw [if_neg (by omega), if_neg (by rw [h92]; decide), if_pos h92]
  simp only
  rw [he]; rfl
theorem unq_last {r acc : List UInt8} {k : Nat} (h : k + 1 = r.length) (ha : acc.length ≤ 24) (h92 : r[k]'(by omega) = 92) : unq (r.drop k) acc = none := by
  rw [drop_byte r k (by omega), List.drop_of_length_le (by omega)]
  unfold unq
  rw [if_neg (by omega), if_neg (by rw [h92]; decide), if_pos h92]
set_option maxHeartbeats 4000000 in
theorem unquote_any (s : ByteArray) (w : World) (hs : s.size ≤ 9223372036854775807) :
    Calls Try.prog 41 #[.string s] w (UnqAns (unqText s.data.toList) w) := by
  obtain ⟨i0, hi0, hz0, hz1, hz2⟩ := info_parts Try.infoU8x
  by_cases hq : ∃ r, s.data.toList = 34 :: r
  · obtain ⟨r, hr⟩ := hq
    have HP := Lib.hid (pre_yes 34 r s w hr)
    have hrl : r.length + 1 = s.size := by have := congrArg List.length hr; simpa using this.symm
    have HU : Hid (unqText s.data.toList = unq (r.drop 0) []) := Lib.hid (by rw [hr]; rfl)
    generalize unqText s.data.toList = tot at *
    obtain ⟨R, hR⟩ : ∃ R : ByteArray, R = ⟨r.toArray⟩ := ⟨_, rfl⟩
    have hRs : R.size = r.length := by rw [hR]; simp [ByteArray.size]
    have HR := Lib.hid hR
    have HRS := Lib.hid hRs
    rw [← hR] at HP
    have hRb : R.size < 9223372036854775807 := by omega
    clear hr hR hRs hrl
    go_enter Try.func41, Try.ntmps41
    go_wp2_with fail
    refine HP.out.mono ?_; rintro e w' ⟨rfl, rfl⟩
    clear HP
    go_wp2_with fail
    go_loopg [7, 8] R.size (fun g x7 x8 wr => ∃ (k : Nat) (acc : List UInt8) (A : Option Addr) (c : Nat), k + g = R.size ∧ x8 = .int .i64 k ∧ x7 = .slice A acc.length c ∧ wr.ownsRow w.heap.size 5 1 (.slice A acc.length c) acc.length (Lib.byteCells acc) ∧ Below w.heap.size w wr ∧ acc.length ≤ 25 ∧ tot = unq (r.drop k) acc)
    case atStart => exact ⟨0, [], none, 0, by omega, rfl, rfl, own_nil _ _ _ _, Below.refl _ _, by simp, HU.out⟩
    case round =>
      obtain ⟨k, acc, A, c, hkg, rfl, rfl, hown, hbel, hac, htot⟩ := hrel
      have HO := Lib.hid hown; have HB := Lib.hid hbel; have HT := Lib.hid htot
      have hws := hbel.size
      clear hown hbel htot HU
      cases gk with
      | zero =>
        obtain rfl : k = R.size := by omega
        have HN : Hid (tot = none) := Lib.hid (by rw [HT.out]; exact unq_over (by rw [HRS.out]; exact Nat.le_refl _))
        go_wp2_with fail
        go_ret3
        exact unqAns_no HN.out HB.out rfl
      | succ g =>
        have hlt : k < R.size := by omega
        by_cases ha : acc.length ≤ 24
        · have hklr : k < r.length := by rw [← HRS.out]; exact hlt
          have HG : Hid (R[k] = r[k]) := Lib.hid (by have := HR.out; subst this; rfl)
          by_cases h34 : r[k] = 34
          · have HN := Lib.hid (HT.out.trans (unq_end hklr ha h34))
            have t1 : ((R[k].toNat : Int) == 34) = true := by rw [HG.out, h34]; rfl
            have HC := Lib.hid (fun q => conv_own (wr.drewN q) (own_drewN HO.out q) rfl)
            have HC0 := HC.out
            have z1 : IntKind.i64.wrap ((k : Int) + 1) = (k : Int) + 1 := IntWalk.i64_in _ (by omega)
            have z2 : 0 ≤ (k : Int) + 1 := by omega
            have z3 : ((k : Int) + 1).toNat = k + 1 := by omega
            have z4 : k + 1 ≤ R.size := by omega
            have z5 : (k : Int) + 1 ≤ R.size := by omega
            have HX := Lib.hid (show R.extract (k + 1) R.size = ⟨(r.drop (k + 1)).toArray⟩ by rw [Lib.Pa.extract_from, HR.out])
            clear HC h34 HT
            go_wp2_with fail
            go_quiet (fail)
            go_wp2_with fail
            go_ret3
            exact unqAns_yes HN.out (below_drewN3 HB.out _) (by rw [HX.out]; rfl)
          · have t1 : ((R[k].toNat : Int) == 34) = false := by
              rw [HG.out, beq_eq_false_iff_ne]
              intro e
              exact h34 (UInt8.toNat_inj.1 (by have h : r[k].toNat = 34 := (by omega); rw [h]; rfl))
            by_cases h92 : r[k] = 92
            · have t2 : ((R[k].toNat : Int) == 92) = true := by rw [HG.out, h92]; rfl
              obtain ⟨j, hjk⟩ : ∃ j, j = k + 1 := ⟨_, rfl⟩
              have hj : (k : Int) + 1 = j := by omega
              have HJ := Lib.hid hjk
              by_cases hl : k + 1 = r.length
              · have HN : Hid (tot = none) := Lib.hid (HT.out.trans (unq_last hl ha h92))
                have t3 : ((j : Int) == R.size) = true := by rw [beq_iff_eq]; have := HRS.out; omega
                clear HT h34 h92 hl hjk
                go_wp2_with fail
                go_ret3
                exact unqAns_no HN.out HB.out rfl
              · have hk1 : k + 1 < r.length := by omega
                have hjR : j < R.size := by have := HRS.out; omega
                have t3 : ((j : Int) == R.size) = false := by rw [beq_eq_false_iff_ne]; omega
                have HE := Lib.hid (escaped_any (R[j].toNat) wr)
                have HGJ : Hid (R[j] = r[k + 1]) := Lib.hid (by subst hjk; have := HR.out; subst this; rfl)
                obtain ⟨q, hq⟩ : ∃ q, escN R[j].toNat = q := ⟨_, rfl⟩
                have HQ : Hid (escB r[k + 1] = q) := Lib.hid (by rw [← hq, HGJ.out]; rfl)
                rw [hq] at HE
                clear hq hjk
                cases q with
                | false =>
                  have HN : Hid (tot = none) := Lib.hid (HT.out.trans (unq_bad hk1 ha h92 HQ.out))
                  clear HT h34 h92 hl
                  go_wp2_with fail
                  refine HE.out.mono ?_; rintro e w' ⟨rfl, rfl⟩
                  go_wp2_with fail
                  go_ret3
                  exact unqAns_no HN.out HB.out rfl
                | true =>
                  have HT2 : Hid (tot = unq (r.drop (k + 2)) (acc ++ [R[j]])) := Lib.hid (by rw [HGJ.out]; exact HT.out.trans (unq_esc hk1 ha h92 HQ.out))
                  have hj2 : (j : Int) + 1 = ((k + 2 : Nat) : Int) := by have := HJ.out; omega
                  have HJ2 := Lib.hid hj2
                  clear HT h34 h92 hl HQ HGJ hj2
                  go_wp2_with fail
                  refine HE.out.mono ?_; rintro e w' ⟨rfl, rfl⟩
                  have HX := Lib.hid (show Sees (wr.alloc (.cells #[.int .u8 (R[j].toNat : Int)] 5)) (wr.alloc (.cells #[.int .u8 (R[j].toNat : Int)] 5)).heap.size 1 (some ⟨wr.heap.size, 0, none⟩) 1 (Lib.byteCells [R[j]]) from (Blk.mk (heap_alloc_new wr _) : Blk _ wr.heap.size 5 [.int .u8 (R[j].toNat : Int)]).sees rfl (List.prefix_refl _))
                  have HOA := Lib.hid (HO.out.alloc (.cells #[.int .u8 (R[j].toNat : Int)] 5))
                  have HBA := Lib.hid (HB.out.alloc hws (.cells #[.int .u8 (R[j].toNat : Int)] 5))
                  have hbv : ∀ g, (Value.slice A acc.length c).ownBlock = some g → w.heap.size ≤ g := fun g hg => (HO.out.lt g hg).1
                  have HBV := Lib.hid hbv
                  clear HO HB hbv
                  go_wp2_with (at_builtin; refine wpList_append_at rfl (.tmp 56) (.tmp 60) 38 rfl w.heap.size 5 i0 (.int .u8 0) 1 1 Try.underlying38 hi0 hz0 hz1 hz2 rfl (by decide) _ acc.length (Lib.byteCells acc) rfl HOA.out _ _ 1 1 (Lib.byteCells [R[j]]) rfl HX.out (byteCells_one' _) (by unfold maxLen; omega) (by omega) (by simp; omega) ?_)
                  intro v3 w3 hown3 hgr3 hwh3
                  obtain ⟨A3, c3, rfl, hc3, hc4⟩ := own_slice hown3
                  rw [← Lib.byteCells_append] at hown3
                  have HO3 := Lib.hid hown3
                  have HB3 := Lib.hid (HBA.out.grown hgr3 (by simp; omega) HBV.out)
                  clear hown3 hgr3 hwh3 HOA HX HBA HBV
                  go_wp2_with fail
                  go_roundg (g - 1)
                  case measure => omega
                  case rel => exact ⟨k + 2, acc ++ [R[j]], A3, c3, by omega, (by rw [HJ2.out]), by rw [List.length_append, List.length_singleton], by rw [List.length_append, List.length_singleton]; exact HO3.out, HB3.out, by rw [List.length_append, List.length_singleton]; omega, HT2.out⟩
            · have t2 : ((R[k].toNat : Int) == 92) = false := by
                rw [HG.out, beq_eq_false_iff_ne]
                intro e
                exact h92 (UInt8.toNat_inj.1 (by have h : r[k].toNat = 92 := (by omega); rw [h]; rfl))
              have HT2 : Hid (tot = unq (r.drop (k + 1)) (acc ++ [R[k]])) := Lib.hid (by rw [HG.out]; exact HT.out.trans (unq_step hklr ha h34 h92))
              clear HT h34 h92
              have HX := Lib.hid (show Sees (wr.alloc (.cells #[.int .u8 (R[k].toNat : Int)] 5)) (wr.alloc (.cells #[.int .u8 (R[k].toNat : Int)] 5)).heap.size 1 (some ⟨wr.heap.size, 0, none⟩) 1 (Lib.byteCells [R[k]]) from (Blk.mk (heap_alloc_new wr _) : Blk _ wr.heap.size 5 [.int .u8 (R[k].toNat : Int)]).sees rfl (List.prefix_refl _))
              have HOA := Lib.hid (HO.out.alloc (.cells #[.int .u8 (R[k].toNat : Int)] 5))
              have HBA := Lib.hid (HB.out.alloc hws (.cells #[.int .u8 (R[k].toNat : Int)] 5))
              have hbv : ∀ g, (Value.slice A acc.length c).ownBlock = some g → w.heap.size ≤ g := fun g hg => (HO.out.lt g hg).1
              have HBV := Lib.hid hbv
              clear HO HB hbv
              go_wp2_with (at_builtin; refine wpList_append_at rfl (.tmp 56) (.tmp 60) 38 rfl w.heap.size 5 i0 (.int .u8 0) 1 1 Try.underlying38 hi0 hz0 hz1 hz2 rfl (by decide) _ acc.length (Lib.byteCells acc) rfl HOA.out _ _ 1 1 (Lib.byteCells [R[k]]) rfl HX.out (byteCells_one' _) (by unfold maxLen; omega) (by omega) (by simp; omega) ?_)
              intro v3 w3 hown3 hgr3 hwh3
              obtain ⟨A3, c3, rfl, hc3, hc4⟩ := own_slice hown3
              rw [← Lib.byteCells_append] at hown3
              have HO3 := Lib.hid hown3
              have HB3 := Lib.hid (HBA.out.grown hgr3 (by simp; omega) HBV.out)
              clear hown3 hgr3 hwh3 HOA HX HBA HBV
              go_wp2_with fail
              go_roundg g
              case measure => omega
              case rel => exact ⟨k + 1, acc ++ [R[k]], A3, c3, by omega, by go_num, by rw [List.length_append, List.length_singleton], by rw [List.length_append, List.length_singleton]; exact HO3.out, HB3.out, by rw [List.length_append, List.length_singleton]; omega, HT2.out⟩
        · have HN : Hid (tot = none) := Lib.hid (by rw [HT.out]; exact unq_long (by omega))
          go_wp2_with fail
          go_ret3
          exact unqAns_no HN.out HB.out rfl
  · have HP := Lib.hid (pre_no 34 s w (fun r h => hq ⟨r, h⟩))
    have HU : Hid (unqText s.data.toList = none) := Lib.hid (by
      cases hl : s.data.toList with
      | nil => rfl
      | cons c r => rw [unqText, if_neg (fun e => hq ⟨r, by rw [hl, e]⟩)])
    clear hq
    go_enter Try.func41, Try.ntmps41
    go_wp2_with fail
    refine HP.out.mono ?_; rintro e w' ⟨rfl, rfl⟩
    go_wp2_with fail
    go_ret3
    exact unqAns_no HU.out (Below.refl _ _) rfl
end Go.Proofs.Ytjpjpcockhmbeaa
