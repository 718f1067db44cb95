/- Texts, merged in one. -/
import Derived.Test.YtlmakdclebbbkaaGreatBase31
import Derived.Lib.ItoaLen
import Derived.Lib.SmallJoins
import Derived.Lib.AppendIntMem
import Derived.Lib.OthersKept
import Derived.Test.YtlmakdclebbbkaaGreatBase10
import Derived.Test.YtlmakdclebbbkaaGreatBase4
import Derived.Test.YtlmakdclebbbkaaGreatBase21
import Derived.Deep.CutBlock
import Derived.Deep.DeepCutAuto
import Derived.Deep.QuietTactic
import Derived.BigQuiet
import Derived.Test.YtlmakdclebbbkaaGreatBase7
import Derived.Test.YtlmakdclebbbkaaGreatBase6
import Derived.Deep.RegionHeld3
import Derived.Test.YtlmakdclebbbkaaGreatBase5
import Derived.Deep.RegionLaw
import Derived.Laws.BytesArg
import Derived.Laws.IdiomStrings
import Derived.StillTail
import Derived.Test.YtlmakdclebbbkaaGreatBase13
import Derived.StillTailTactics
namespace Go.Proofs.YtlmakdclebbbkaaGreat
open Go.ChangeShapes Go.WideShapes Go.ChangeAt Go.RowKit
set_option linter.unusedVariables false
set_option linter.unusedSimpArgs false
set_option maxRecDepth 100000
theorem tcells_get (l : List Tok) (p : Nat) (h : p < l.length) : (tcells l)[p * 4]? = some (.int .i64 l[p].kd) ∧ (tcells l)[p * 4 + 1]? = some (.int .i64 l[p].n) ∧ (tcells l)[p * 4 + 2]? = some (.int .i64 l[p].at_) ∧ (tcells l)[p * 4 + 3]? = some (.string l[p].tx) := by
  have e : tcells l = tcells (l.take p) ++ ([.int .i64 l[p].kd, .int .i64 l[p].n, .int .i64 l[p].at_, .string l[p].tx] ++ tcells (l.drop (p + 1))) := by
    have e1 : l = l.take p ++ (l[p] :: l.drop (p + 1)) := by rw [← List.drop_eq_getElem_cons h, List.take_append_drop]
    conv => lhs; rw [e1]
    rw [tcells_append]; rfl
  have hl : (tcells (l.take p)).length = p * 4 := by rw [tcells_length, List.length_take]; omega
  rw [e]
  refine ⟨?_, ?_, ?_, ?_⟩ <;> rw [List.getElem?_append_right (by omega), hl]
  · rw [Nat.sub_self]; rfl
  · rw [show p * 4 + 1 - p * 4 = 1 by omega]; rfl
  · rw [show p * 4 + 2 - p * 4 = 2 by omega]; rfl
  · rw [show p * 4 + 3 - p * 4 = 3 by omega]; rfl
theorem Sees.tok {w : World} {B : Nat} {A : Option Addr} {n : Nat} {l : List Tok} (h : Sees w B 4 A n (tcells l)) {k : Nat} (hk : k < n) :
    ∃ ad, ∃ hl : k < l.length, A = some ad ∧ w.cell? (ad.add (k * 4)) = some (.int .i64 l[k].kd) ∧ w.cell? ⟨(ad.add (k * 4)).block, (ad.add (k * 4)).off + 1, none⟩ = some (.int .i64 l[k].n) ∧ w.cell? ⟨(ad.add (k * 4)).block, (ad.add (k * 4)).off + 2, none⟩ = some (.int .i64 l[k].at_) ∧ w.cell? ⟨(ad.add (k * 4)).block, (ad.add (k * 4)).off + 3, none⟩ = some (.string l[k].tx) := by
  have hl : k < l.length := by have := h.len; rw [tcells_length] at this; omega
  obtain ⟨ad, e, _, hc⟩ := h.at_ (by omega)
  obtain ⟨h0, h1, h2, h3⟩ := tcells_get l k hl
  exact ⟨ad, hl, e, hc _ _ h0, by rw [add_spelt _ _ _ (by omega)]; exact hc _ _ h1, by rw [add_spelt _ _ _ (by omega)]; exact hc _ _ h2, by rw [add_spelt _ _ _ (by omega)]; exact hc _ _ h3⟩
end Go.Proofs.YtlmakdclebbbkaaGreat

namespace Go.Proofs.YtlmakdclebbbkaaGreat
open Go.ChangeShapes Go.WideShapes Go.ChangeAt Go.RowKit
set_option linter.unusedVariables false
set_option linter.unusedSimpArgs false
set_option maxRecDepth 100000
/-- Where a reader is: the next token, its fault's place, its fault. -/
structure PS where
  p : Nat
  fa : Int
  fe : Int
def Tok.same (t : Tok) (kd : Int) (tx : ByteArray) : Bool := decide (t.kd = kd) && decide (t.tx = tx)
/-- Blocks other than this one are as they were. -/
structure Only (b : Nat) (w w' : World) : Prop where
  size : w.heap.size ≤ w'.heap.size
  os : w'.os = w.os
  tape : w'.tape = w.tape
  output : w'.output = w.output
  block : ∀ k, k < w.heap.size → k ≠ b → w'.heap[k]? = w.heap[k]?
theorem Only.refl (b : Nat) (w : World) : Only b w w := ⟨Nat.le_refl _, rfl, rfl, rfl, fun _ _ _ => rfl⟩
theorem Only.trans {b : Nat} {w w' w2 : World} (h : Only b w w') (k : Only b w' w2) : Only b w w2 :=
  ⟨Nat.le_trans h.size k.size, k.os.trans h.os, k.tape.trans h.tape, k.output.trans h.output, fun q hq hn => (k.block q (Nat.lt_of_lt_of_le hq h.size) hn).trans (h.block q hq hn)⟩
theorem Only.of_below {b : Nat} {w w' : World} (h : Below w.heap.size w w') : Only b w w' := ⟨h.size, h.os, h.tape, h.output, fun q hq _ => h.block q hq⟩
theorem Only.alloc {b : Nat} {w w' : World} (h : Only b w w') (o : Obj) : Only b w (w'.alloc o) := h.trans (Only.of_below ((Below.refl _ _).alloc (Nat.le_refl _) o))
theorem Only.drew {b : Nat} {w w' : World} (h : Only b w w') : Only b w w'.drew := h.trans (Only.of_below (Below.refl _ _).drew)
theorem Only.set {b : Nat} {w w' : World} (h : Only b w w') (i : Nat) (u : Value) : Only b w (w'.setCell ⟨b, i, none⟩ u) := by
  have h1 : w'.grownBy (w'.setCell ⟨b, i, none⟩ u) (some b) := only_setCell (World.grownBy.refl w' (some b)) (p := ⟨b, i, none⟩) (.inl rfl) u
  exact h.trans ⟨h1.size, rfl, rfl, rfl, fun q hq hn => h1.block q hq (fun e => hn (by injection e))⟩
section
variable {b n c : Nat} {A : Option Addr} {ts : List Tok} {en : Int} {s s' : PS} {w w' : World}
end
end Go.Proofs.YtlmakdclebbbkaaGreat

namespace Go.Proofs.YtlmakdclebbbkaaGreat
open Go.ChangeShapes Go.WideShapes Go.ChangeAt Go.RowKit
set_option linter.unusedVariables false
set_option linter.unusedSimpArgs false
set_option maxRecDepth 100000
theorem Only.setNew {b g : Nat} {w w' : World} (h : Only b w w') (hg : w.heap.size ≤ g) (i : Nat) (u : Value) : Only b w (w'.setCell ⟨g, i, none⟩ u) := by
  have h1 : w'.grownBy (w'.setCell ⟨g, i, none⟩ u) (some g) := only_setCell (World.grownBy.refl w' (some g)) (p := ⟨g, i, none⟩) (.inl rfl) u
  exact ⟨Nat.le_trans h.size h1.size, h.os, h.tape, h.output, fun q hq hn => (h1.block q (Nat.lt_of_lt_of_le hq h.size) (fun e => by injection e with e; omega)).trans (h.block q hq hn)⟩
theorem Blk.only {g b : Nat} {t : TypeId} {cs : List Value} {w w' : World} (h : Blk w g t cs) (ho : Only b w w') (hg : g ≠ b) : Blk w' g t cs := (ho.block g h.lt hg).trans h.eq
theorem Only.set4 {b g : Nat} {w w' : World} (h : Only b w w') (hg : w.heap.size ≤ g) (v0 v1 v2 v3 : Value) : Only b w (set4W w' g v0 v1 v2 v3) := (((h.setNew hg 0 v0).setNew hg 1 v1).setNew hg 2 v2).setNew hg 3 v3
end Go.Proofs.YtlmakdclebbbkaaGreat

namespace Go.Proofs.YtlmakdclebbbkaaGreat
open Go.ChangeShapes Go.WideShapes Go.ChangeAt Go.RowKit
set_option linter.unusedVariables false
set_option linter.unusedSimpArgs false
set_option maxRecDepth 100000
/-- What an expression of two has between its kids. -/
def signX (k : Int) : ByteArray := if k = 3 then ⟨#[43]⟩ else if k = 4 then ⟨#[45]⟩ else if k = 5 then ⟨#[42]⟩ else if k = 6 then ⟨#[47]⟩ else if k = 7 then ⟨#[37]⟩ else if k = 8 then ⟨#[61, 61]⟩ else if k = 9 then ⟨#[33, 61]⟩ else if k = 10 then ⟨#[60]⟩ else if k = 11 then ⟨#[60, 61]⟩ else if k = 12 then ⟨#[62]⟩ else if k = 13 then ⟨#[62, 61]⟩ else if k = 14 then ⟨#[97, 110, 100]⟩ else if k = 15 then ⟨#[111, 114]⟩ else if k = 16 then ⟨#[117, 110, 108, 101, 115, 115]⟩ else ⟨#[]⟩
/-- What an expression of one begins with. -/
def wordX (k : Int) : ByteArray := if k = 17 then ⟨#[115, 117, 109]⟩ else if k = 18 then ⟨#[109, 105, 110]⟩ else if k = 19 then ⟨#[109, 97, 120]⟩ else if k = 20 then ⟨#[99, 111, 117, 110, 116]⟩ else ⟨#[]⟩
set_option maxHeartbeats 2000000 in
theorem sign_x (k : Int) (w : World) : Calls Tryz.prog 95 #[.int .i64 k] w fun e w' => e = .returned (.string (signX k)) ∧ w = w' := by
  by_cases h3 : k = 3
  · subst h3; go_enter Tryz.func95, Tryz.ntmps95
    go_wp2_with fail
    go_ret
    exact ⟨rfl, rfl⟩
  by_cases h4 : k = 4
  · subst h4; go_enter Tryz.func95, Tryz.ntmps95
    go_wp2_with fail
    go_ret
    exact ⟨rfl, rfl⟩
  by_cases h5 : k = 5
  · subst h5; go_enter Tryz.func95, Tryz.ntmps95
    go_wp2_with fail
    go_ret
    exact ⟨rfl, rfl⟩
  by_cases h6 : k = 6
  · subst h6; go_enter Tryz.func95, Tryz.ntmps95
    go_wp2_with fail
    go_ret
    exact ⟨rfl, rfl⟩
  by_cases h7 : k = 7
  · subst h7; go_enter Tryz.func95, Tryz.ntmps95
    go_wp2_with fail
    go_ret
    exact ⟨rfl, rfl⟩
  by_cases h8 : k = 8
  · subst h8; go_enter Tryz.func95, Tryz.ntmps95
    go_wp2_with fail
    go_ret
    exact ⟨rfl, rfl⟩
  by_cases h9 : k = 9
  · subst h9; go_enter Tryz.func95, Tryz.ntmps95
    go_wp2_with fail
    go_ret
    exact ⟨rfl, rfl⟩
  by_cases h10 : k = 10
  · subst h10; go_enter Tryz.func95, Tryz.ntmps95
    go_wp2_with fail
    go_ret
    exact ⟨rfl, rfl⟩
  by_cases h11 : k = 11
  · subst h11; go_enter Tryz.func95, Tryz.ntmps95
    go_wp2_with fail
    go_ret
    exact ⟨rfl, rfl⟩
  by_cases h12 : k = 12
  · subst h12; go_enter Tryz.func95, Tryz.ntmps95
    go_wp2_with fail
    go_ret
    exact ⟨rfl, rfl⟩
  by_cases h13 : k = 13
  · subst h13; go_enter Tryz.func95, Tryz.ntmps95
    go_wp2_with fail
    go_ret
    exact ⟨rfl, rfl⟩
  by_cases h14 : k = 14
  · subst h14; go_enter Tryz.func95, Tryz.ntmps95
    go_wp2_with fail
    go_ret
    exact ⟨rfl, rfl⟩
  by_cases h15 : k = 15
  · subst h15; go_enter Tryz.func95, Tryz.ntmps95
    go_wp2_with fail
    go_ret
    exact ⟨rfl, rfl⟩
  by_cases h16 : k = 16
  · subst h16; go_enter Tryz.func95, Tryz.ntmps95
    go_wp2_with fail
    go_ret
    exact ⟨rfl, rfl⟩
  have t3 : (k == 3) = false := by rw [beq_eq_false_iff_ne]; exact h3
  have t4 : (k == 4) = false := by rw [beq_eq_false_iff_ne]; exact h4
  have t5 : (k == 5) = false := by rw [beq_eq_false_iff_ne]; exact h5
  have t6 : (k == 6) = false := by rw [beq_eq_false_iff_ne]; exact h6
  have t7 : (k == 7) = false := by rw [beq_eq_false_iff_ne]; exact h7
  have t8 : (k == 8) = false := by rw [beq_eq_false_iff_ne]; exact h8
  have t9 : (k == 9) = false := by rw [beq_eq_false_iff_ne]; exact h9
  have t10 : (k == 10) = false := by rw [beq_eq_false_iff_ne]; exact h10
  have t11 : (k == 11) = false := by rw [beq_eq_false_iff_ne]; exact h11
  have t12 : (k == 12) = false := by rw [beq_eq_false_iff_ne]; exact h12
  have t13 : (k == 13) = false := by rw [beq_eq_false_iff_ne]; exact h13
  have t14 : (k == 14) = false := by rw [beq_eq_false_iff_ne]; exact h14
  have t15 : (k == 15) = false := by rw [beq_eq_false_iff_ne]; exact h15
  have t16 : (k == 16) = false := by rw [beq_eq_false_iff_ne]; exact h16
  have HE := Lib.hid (show signX k = ⟨#[]⟩ by unfold signX; simp only [h3, h4, h5, h6, h7, h8, h9, h10, h11, h12, h13, h14, h15, h16, if_false])
  clear h3 h4 h5 h6 h7 h8 h9 h10 h11 h12 h13 h14 h15 h16
  go_enter Tryz.func95, Tryz.ntmps95
  go_wp2_with fail
  go_ret
  exact ⟨by rw [HE.out]; rfl, rfl⟩
set_option maxHeartbeats 2000000 in
theorem word_x (k : Int) (w : World) : Calls Tryz.prog 93 #[.int .i64 k] w fun e w' => e = .returned (.string (wordX k)) ∧ w = w' := by
  by_cases h17 : k = 17
  · subst h17; go_enter Tryz.func93, Tryz.ntmps93
    go_wp2_with fail
    go_ret
    exact ⟨rfl, rfl⟩
  by_cases h18 : k = 18
  · subst h18; go_enter Tryz.func93, Tryz.ntmps93
    go_wp2_with fail
    go_ret
    exact ⟨rfl, rfl⟩
  by_cases h19 : k = 19
  · subst h19; go_enter Tryz.func93, Tryz.ntmps93
    go_wp2_with fail
    go_ret
    exact ⟨rfl, rfl⟩
  by_cases h20 : k = 20
  · subst h20; go_enter Tryz.func93, Tryz.ntmps93
    go_wp2_with fail
    go_ret
    exact ⟨rfl, rfl⟩
  have t17 : (k == 17) = false := by rw [beq_eq_false_iff_ne]; exact h17
  have t18 : (k == 18) = false := by rw [beq_eq_false_iff_ne]; exact h18
  have t19 : (k == 19) = false := by rw [beq_eq_false_iff_ne]; exact h19
  have t20 : (k == 20) = false := by rw [beq_eq_false_iff_ne]; exact h20
  have HE := Lib.hid (show wordX k = ⟨#[]⟩ by unfold wordX; simp only [h17, h18, h19, h20, if_false])
  clear h17 h18 h19 h20
  go_enter Tryz.func93, Tryz.ntmps93
  go_wp2_with fail
  go_ret
  exact ⟨by rw [HE.out]; rfl, rfl⟩
end Go.Proofs.YtlmakdclebbbkaaGreat

namespace Go.Proofs.YtlmakdclebbbkaaGreat
open Go.ChangeShapes Go.WideShapes Go.ChangeAt Go.RowKit
set_option linter.unusedVariables false
set_option maxRecDepth 100000
/-- May x be a matcher. -/
def mtcOk (x : Mtc) : Bool := wordF x.1 && (decide (x.2.1.size ≤ 24) && !decide (signF x.2.2 = ⟨#[]⟩))
/-- May these be matchers. -/
def rightM (ms : List Mtc) : Bool := decide (ms.length ≤ 6) && ms.all mtcOk
theorem rightM_bad {ms : List Mtc} {x : Mtc} (hx : x ∈ ms) (h : mtcOk x = false) : rightM ms = false := by
  have : ms.all mtcOk = false := by rw [List.all_eq_false]; exact ⟨x, hx, by rw [h]; simp⟩
  rw [rightM, this, Bool.and_false]
theorem ba_empty {s : ByteArray} (h : ¬ s = ⟨#[]⟩) : s.toList ≠ [] := fun e => h (ba_ext (by rw [e]; exact (ba_list []).symm))
set_option maxHeartbeats 2000000 in
theorem rightM_any (A2 : Option Addr) (n2 c2 B2 : Nat) (ms : List Mtc) (w : World) (h2 : Sees w B2 3 A2 n2 (mtcs ms)) (hB2 : B2 ≤ w.heap.size) (hn2 : n2 ≤ 9223372036854775807) :
    Calls Tryz.prog 92 #[.slice A2 n2 c2] w fun e w' => e = .returned (.bool (rightM ms)) ∧ Below w.heap.size w w' := by
  have H2 := Lib.hid h2
  have HL := Lib.hid h2.mtc_len
  clear h2
  by_cases h6 : n2 ≤ 6
  · have j6 : ¬ (6 : Int) < n2 := by omega
    have H6 := Lib.hid h6
    go_enter Tryz.func92, Tryz.ntmps92
    go_wp2_with fail
    go_loopg [10] n2 (fun g x10 wr => ∃ k : Nat, k + g = n2 ∧ x10 = .int .i64 k ∧ Below w.heap.size w wr ∧ ∀ x ∈ ms.take k, mtcOk x = true)
    case atStart => exact ⟨0, by omega, rfl, Below.refl _ _, (fun x hx => by simp at hx)⟩
    case round =>
      obtain ⟨k, hkg, rfl, hbel, hno⟩ := hrel
      have HB := Lib.hid hbel; have HNO := Lib.hid hno
      have hws := hbel.size
      clear hbel hno
      cases gk with
      | zero =>
        obtain rfl : k = n2 := by omega
        have HE := Lib.hid (show rightM ms = true by
          have h1 : ms.all mtcOk = true := List.all_eq_true.2 (fun x hx => HNO.out x (by rw [List.take_of_length_le (by rw [HL.out]; exact Nat.le_refl _)]; exact hx))
          rw [rightM, h1, HL.out, decide_eq_true H6.out]; rfl)
        go_wp2_with fail
        go_ret
        exact ⟨by rw [HE.out]; rfl, HB.out⟩
      | succ g =>
        have hlt : k < n2 := by omega
        obtain ⟨ad, hkl, rfl, c0, c1, c2⟩ := (H2.out.below (HB.out.mono hB2)).mtc hlt
        have hal := World.block_lt_of_cell? wr _ c0
        have HT := Lib.hid (List.take_succ_eq_append_getElem hkl)
        have HM := Lib.hid (List.getElem_mem hkl)
        generalize ms[k] = p at *
        obtain ⟨a, b, kd⟩ := p
        simp only at c0 c1 c2
        have HBA := Lib.hid (HB.out.alloc hws (.cells #[.string a, .string b, .int .i64 kd] 32))
        have HR : Hid (mtcOk (a, b, kd) = false → rightM ms = false) := Lib.hid (rightM_bad HM.out)
        have HN : Hid (mtcOk (a, b, kd) = true → ∀ x ∈ ms.take (k + 1), mtcOk x = true) := Lib.hid (fun h x hx => by
          rw [HT.out] at hx
          rcases List.mem_append.1 hx with hx | hx
          · exact HNO.out x hx
          · rw [List.mem_singleton] at hx; rw [hx]; exact h)
        have HOK : Hid (mtcOk (a, b, kd) = (wordF a && (decide (b.size ≤ 24) && !decide (signF kd = ⟨#[]⟩)))) := Lib.hid rfl
        have HW := Lib.hid (fun W => word_any a W)
        have HS := Lib.hid (fun W => sign_any kd W)
        clear HT HM
        generalize wordF a = wa at *
        generalize signF kd = s at *
        cases wa with
        | false =>
          have HE := Lib.hid (HR.out (by rw [HOK.out]; rfl))
          clear HR HN HOK
          go_wp2_with fail
          (with_reducible refine (HW.out _).mono ?_); rintro e w1 ⟨rfl, rfl⟩
          go_wp2_with fail
          go_ret
          exact ⟨by rw [HE.out]; rfl, HBA.out⟩
        | true =>
          by_cases hb2 : b.size ≤ 24
          · have y2 : ¬ (24 : Int) < b.size := by omega
            by_cases hs : s = ⟨#[]⟩
            · have HE := Lib.hid (HR.out (by rw [HOK.out, decide_eq_true hs]; simp))
              subst hs
              clear HR HN HOK
              go_wp2_with fail
              (with_reducible refine (HW.out _).mono ?_); rintro e w1 ⟨rfl, rfl⟩
              go_wp2_with fail
              (with_reducible refine (HS.out _).mono ?_); rintro e w1 ⟨rfl, rfl⟩
              go_wp2_with fail
              go_ret
              exact ⟨by rw [HE.out]; rfl, HBA.out⟩
            · have HN1 := Lib.hid (HN.out (by rw [HOK.out, decide_eq_false hs, decide_eq_true hb2]; rfl))
              have t0 := ba_empty hs
              have t1 : (s.toList == []) = false := by rw [beq_eq_false_iff_ne]; exact t0
              have t2 : s.toList.isEmpty = false := by cases hq : s.toList with | nil => exact absurd hq t0 | cons x y => rfl
              clear HR HN HOK hs
              go_wp2_with fail
              (with_reducible refine (HW.out _).mono ?_); rintro e w1 ⟨rfl, rfl⟩
              go_wp2_with fail
              (with_reducible refine (HS.out _).mono ?_); rintro e w1 ⟨rfl, rfl⟩
              go_wp2_with fail
              go_roundg g
              case measure => omega
              case rel => exact ⟨k + 1, by omega, by go_num, HBA.out, HN1.out⟩
          · have y2 : (24 : Int) < b.size := by omega
            have HE := Lib.hid (HR.out (by rw [HOK.out, decide_eq_false hb2]; simp))
            clear HR HN HOK
            go_wp2_with fail
            (with_reducible refine (HW.out _).mono ?_); rintro e w1 ⟨rfl, rfl⟩
            go_wp2_with fail
            go_ret
            exact ⟨by rw [HE.out]; rfl, HBA.out⟩
  · have j6 : (6 : Int) < n2 := by omega
    have HE := Lib.hid (show rightM ms = false by rw [rightM, HL.out, decide_eq_false h6]; rfl)
    go_enter Tryz.func92, Tryz.ntmps92
    go_wp2_with fail
    go_ret
    exact ⟨by rw [HE.out]; rfl, Below.refl _ _⟩
end Go.Proofs.YtlmakdclebbbkaaGreat

namespace Go.Proofs.YtlmakdclebbbkaaGreat
open Go.ChangeShapes Go.WideShapes Go.ChangeAt Go.RowKit
set_option linter.unusedVariables false
set_option maxRecDepth 100000
/-- One matcher's text. -/
def mtcL (x : Mtc) : List UInt8 := x.1.data.toList ++ ((signF x.2.2).data.toList ++ quoteL x.2.1.data.toList)
/-- Matchers' texts, commas between. -/
def joinM : List Mtc → List UInt8
  | [] => []
  | x :: l => mtcL x ++ (if l.isEmpty then [] else 44 :: joinM l)
end Go.Proofs.YtlmakdclebbbkaaGreat

namespace Go.Proofs.YtlmakdclebbbkaaGreat
open Go.ChangeShapes Go.WideShapes Go.ChangeAt Go.RowKit
set_option linter.unusedVariables false
set_option maxRecDepth 100000
/-- Rows of five cells. -/
def quint (l : List (Value × Value × Value × Value × Value)) : List Value := l.flatMap fun x => [x.1, x.2.1, x.2.2.1, x.2.2.2.1, x.2.2.2.2]
theorem quint_length (l : List (Value × Value × Value × Value × Value)) : (quint l).length = l.length * 5 := by
  induction l with
  | nil => rfl
  | cons x l ih => simp only [quint, List.flatMap_cons, List.length_append, List.length_cons, List.length_nil] at ih ⊢; omega
theorem quint_append (l m : List (Value × Value × Value × Value × Value)) : quint (l ++ m) = quint l ++ quint m := by simp [quint]
theorem quint_get (l : List (Value × Value × Value × Value × Value)) (p : Nat) (h : p < l.length) : (quint l)[p * 5]? = some l[p].1 ∧ (quint l)[p * 5 + 1]? = some l[p].2.1 ∧ (quint l)[p * 5 + 2]? = some l[p].2.2.1 ∧ (quint l)[p * 5 + 3]? = some l[p].2.2.2.1 ∧ (quint l)[p * 5 + 4]? = some l[p].2.2.2.2 := by
  have e : quint l = quint (l.take p) ++ (quint [l[p]] ++ quint (l.drop (p + 1))) := by
    rw [← quint_append, ← quint_append, List.singleton_append, ← List.drop_eq_getElem_cons h, List.take_append_drop]
  have hl : (quint (l.take p)).length = p * 5 := by rw [quint_length, List.length_take]; omega
  rw [e]
  refine ⟨?_, ?_, ?_, ?_, ?_⟩
  · rw [List.getElem?_append_right (by omega), hl, Nat.sub_self]; rfl
  · rw [List.getElem?_append_right (by omega), hl, show p * 5 + 1 - p * 5 = 1 by omega]; rfl
  · rw [List.getElem?_append_right (by omega), hl, show p * 5 + 2 - p * 5 = 2 by omega]; rfl
  · rw [List.getElem?_append_right (by omega), hl, show p * 5 + 3 - p * 5 = 3 by omega]; rfl
  · rw [List.getElem?_append_right (by omega), hl, show p * 5 + 4 - p * 5 = 4 by omega]; rfl
theorem Sees.quint {w : World} {B : Nat} {A : Option Addr} {n : Nat} {l : List (Value × Value × Value × Value × Value)} (h : Sees w B 5 A n (quint l)) {k : Nat} (hk : k < n) :
    ∃ ad, ∃ hl : k < l.length, A = some ad ∧ w.cell? (ad.add (k * 5)) = some l[k].1 ∧ w.cell? ⟨(ad.add (k * 5)).block, (ad.add (k * 5)).off + 1, none⟩ = some l[k].2.1 ∧ w.cell? ⟨(ad.add (k * 5)).block, (ad.add (k * 5)).off + 2, none⟩ = some l[k].2.2.1 ∧ w.cell? ⟨(ad.add (k * 5)).block, (ad.add (k * 5)).off + 3, none⟩ = some l[k].2.2.2.1 ∧ w.cell? ⟨(ad.add (k * 5)).block, (ad.add (k * 5)).off + 4, none⟩ = some l[k].2.2.2.2 := by
  have hl : k < l.length := by have := h.len; rw [quint_length] at this; omega
  obtain ⟨ad, e, _, hc⟩ := h.at_ (by omega)
  obtain ⟨h0, h1, h2, h3, h4⟩ := quint_get l k hl
  exact ⟨ad, hl, e, hc _ _ h0, by rw [add_spelt _ _ _ (by omega)]; exact hc _ _ h1, by rw [add_spelt _ _ _ (by omega)]; exact hc _ _ h2, by rw [add_spelt _ _ _ (by omega)]; exact hc _ _ h3, by rw [add_spelt _ _ _ (by omega)]; exact hc _ _ h4⟩
/-- An expression: its kind, its number, the value that its matchers lie under, they, its names', they, its kids', they. -/
inductive XE where
  | mk (kd n : Int) (mv : Value) (ms : List Mtc) (nv : Value) (ns : List ByteArray) (kv : Value) (kids : List XE)
def XE.kd : XE → Int | .mk a _ _ _ _ _ _ _ => a
def XE.n : XE → Int | .mk _ a _ _ _ _ _ _ => a
def XE.mv : XE → Value | .mk _ _ a _ _ _ _ _ => a
def XE.ms : XE → List Mtc | .mk _ _ _ a _ _ _ _ => a
def XE.nv : XE → Value | .mk _ _ _ _ a _ _ _ => a
def XE.ns : XE → List ByteArray | .mk _ _ _ _ _ a _ _ => a
def XE.kv : XE → Value | .mk _ _ _ _ _ _ a _ => a
def XE.kids : XE → List XE | .mk _ _ _ _ _ _ _ a => a
def XE.cells (x : XE) : Value × Value × Value × Value × Value := (.int .i64 x.kd, .int .i64 x.n, x.mv, x.nv, x.kv)
def XE.val (x : XE) : Value := .agg #[.int .i64 x.kd, .int .i64 x.n, x.mv, x.nv, x.kv]
/-- Expressions one behind the other. -/
def kcells (l : List XE) : List Value := quint (l.map XE.cells)
theorem kcells_append (l m : List XE) : kcells (l ++ m) = kcells l ++ kcells m := by unfold kcells; rw [List.map_append, quint_append]
theorem Sees.kid {w : World} {B : Nat} {A : Option Addr} {n : Nat} {l : List XE} (h : Sees w B 5 A n (kcells l)) {k : Nat} (hk : k < n) :
    ∃ ad, ∃ hl : k < l.length, A = some ad ∧ w.cell? (ad.add (k * 5)) = some (.int .i64 l[k].kd) ∧ w.cell? ⟨(ad.add (k * 5)).block, (ad.add (k * 5)).off + 1, none⟩ = some (.int .i64 l[k].n) ∧ w.cell? ⟨(ad.add (k * 5)).block, (ad.add (k * 5)).off + 2, none⟩ = some l[k].mv ∧ w.cell? ⟨(ad.add (k * 5)).block, (ad.add (k * 5)).off + 3, none⟩ = some l[k].nv ∧ w.cell? ⟨(ad.add (k * 5)).block, (ad.add (k * 5)).off + 4, none⟩ = some l[k].kv := by
  obtain ⟨ad, hl, e, h0, h1, h2, h3, h4⟩ := Sees.quint h hk
  have hl2 : k < l.length := by simpa using hl
  rw [List.getElem_map] at h0 h1 h2 h3 h4
  exact ⟨ad, hl2, e, h0, h1, h2, h3, h4⟩
/-- An expression of so many floors lies in memory. -/
def okX : Nat → XE → World → Prop
  | 0, _, _ => False
  | d + 1, x, w => Slc w 3 x.mv x.ms.length (mtcs x.ms) ∧ Slc w 1 x.nv x.ns.length (strs x.ns) ∧ Slc w 5 x.kv x.kids.length (kcells x.kids) ∧ ∀ k ∈ x.kids, okX d k w
theorem okX_below {w w' : World} (hb : Below w.heap.size w w') : ∀ (d : Nat) (x : XE), okX d x w → okX d x w'
  | 0, _, h => h.elim
  | d + 1, x, h => ⟨h.1.below hb, h.2.1.below hb, h.2.2.1.below hb, fun k hk => okX_below hb d k (h.2.2.2 k hk)⟩
theorem okX_forms {d : Nat} {x : XE} {w : World} (h : okX d x w) : ∃ A1 c1 A2 c2 A3 c3, x.mv = .slice A1 x.ms.length c1 ∧ x.nv = .slice A2 x.ns.length c2 ∧ x.kv = .slice A3 x.kids.length c3 := by
  cases d with
  | zero => exact h.elim
  | succ d =>
    obtain ⟨⟨A1, c1, e1, _⟩, ⟨A2, c2, e2, _⟩, ⟨A3, c3, e3, _⟩, _⟩ := h
    exact ⟨A1, c1, A2, c2, A3, c3, e1, e2, e3⟩
end Go.Proofs.YtlmakdclebbbkaaGreat

namespace Go.Proofs.YtlmakdclebbbkaaGreat
open Go.ChangeShapes Go.WideShapes Go.ChangeAt Go.RowKit
set_option linter.unusedVariables false
set_option linter.unusedSimpArgs false
set_option maxRecDepth 100000
theorem Only.grown {b : Nat} {w w' : World} (h : Only b w w') : w.grownBy w' (some b) := ⟨h.os, h.tape, h.output, h.size, fun k hk hn => h.block k hk (fun e => hn (by rw [e]))⟩
section
variable {ts : List Tok} {en : Int} {s : PS} {n : Nat}
end
end Go.Proofs.YtlmakdclebbbkaaGreat

namespace Go.Proofs.YtlmakdclebbbkaaGreat
open Go.ChangeShapes Go.WideShapes Go.ChangeAt Go.RowKit
set_option linter.unusedVariables false
set_option linter.unusedSimpArgs false
set_option maxRecDepth 100000
/-- Five cells of a box written anew. -/
def set5W (w : World) (b : Nat) (v0 v1 v2 v3 v4 : Value) : World := ((((w.setCell ⟨b, 0, none⟩ v0).setCell ⟨b, 1, none⟩ v1).setCell ⟨b, 2, none⟩ v2).setCell ⟨b, 3, none⟩ v3).setCell ⟨b, 4, none⟩ v4
theorem set5W_blk {w : World} {b : Nat} {t : TypeId} {x0 x1 x2 x3 x4 : Value} (h : Blk w b t [x0, x1, x2, x3, x4]) (v0 v1 v2 v3 v4 : Value) : Blk (set5W w b v0 v1 v2 v3 v4) b t [v0, v1, v2, v3, v4] := ((((h.set 0 v0).set 1 v1).set 2 v2).set 3 v3).set 4 v4
theorem set5W_grown (w : World) (b : Nat) (v0 v1 v2 v3 v4 : Value) : w.grownBy (set5W w b v0 v1 v2 v3 v4) (some b) :=
  only_setCell (p := ⟨b, 4, none⟩) (only_setCell (p := ⟨b, 3, none⟩) (only_setCell (p := ⟨b, 2, none⟩) (only_setCell (p := ⟨b, 1, none⟩) (only_setCell (p := ⟨b, 0, none⟩) (World.grownBy.refl w _) (.inl rfl) _) (.inl rfl) _) (.inl rfl) _) (.inl rfl) _) (.inl rfl) _
theorem blk_cells5 {w : World} {b : Nat} {t : TypeId} {x0 x1 x2 x3 x4 : Value} (h : Blk w b t [x0, x1, x2, x3, x4]) : w.cell? ⟨b, 0, none⟩ = some x0 ∧ w.cell? ⟨b, 1, none⟩ = some x1 ∧ w.cell? ⟨b, 2, none⟩ = some x2 ∧ w.cell? ⟨b, 3, none⟩ = some x3 ∧ w.cell? ⟨b, 4, none⟩ = some x4 :=
  ⟨h.cell 0, h.cell 1, h.cell 2, h.cell 3, h.cell 4⟩
theorem KSet.ok.grown {k : KSet} {B : Nat} {w w' : World} {row : Option Nat} (h : k.ok B w) (hg : w.grownBy w' row) (hs : B ≤ w.heap.size) (hr : ∀ g, row = some g → B ≤ g) : k.ok B w' := ⟨h.has_.grown hg hs hr, h.hasI, h.n_, h.vals_.grown hg hs hr, h.valsI, h.n2_⟩
section
variable {k : KSet} {B b : Nat} {w0 w w' : World} {b3 b6 j : Nat}
end
end Go.Proofs.YtlmakdclebbbkaaGreat

namespace Go.Proofs.YtlmakdclebbbkaaGreat
open Go.ChangeShapes Go.WideShapes Go.ChangeAt Go.RowKit
set_option linter.unusedVariables false
set_option linter.unusedSimpArgs false
set_option maxRecDepth 100000
theorem Tryz.infoMtc5 : (Tryz.prog.info? 32).map (fun i => (i.zero, i.size, i.bytes)) = some (some (.agg #[.string ⟨#[]⟩, .string ⟨#[]⟩, .int .i64 0]), 3, 40) := by kernel_rfl
end Go.Proofs.YtlmakdclebbbkaaGreat

namespace Go.Proofs.YtlmakdclebbbkaaGreat
open Go.ChangeShapes Go.WideShapes Go.ChangeAt Go.RowKit
set_option linter.unusedVariables false
set_option linter.unusedSimpArgs false
set_option maxRecDepth 100000
/-- An expression as it is read: with no word of memory. -/
inductive PE where
  | mk (kd n : Int) (ms : List Mtc) (ns : List ByteArray) (kids : List PE)
mutual
def XE.pe : XE → PE
  | .mk k n _ ms _ ns _ ks => .mk k n ms ns (pesX ks)
def pesX : List XE → List PE
  | [] => []
  | x :: l => x.pe :: pesX l
end
end Go.Proofs.YtlmakdclebbbkaaGreat
