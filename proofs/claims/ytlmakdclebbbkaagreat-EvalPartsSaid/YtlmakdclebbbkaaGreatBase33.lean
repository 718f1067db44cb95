/- Texts, merged in one. -/
import Derived.Test.YtlmakdclebbbkaaGreatBase32
import Derived.Lib.ItoaLen
import Derived.Lib.SmallJoins
import Derived.Lib.AppendIntMem
import Derived.Lib.OthersKept
import Derived.Test.YtlmakdclebbbkaaGreatBase10
import Derived.Test.YtlmakdclebbbkaaGreatBase4
import Derived.Test.YtlmakdclebbbkaaGreatBase20
import Derived.Deep.CutBlock
import Derived.Deep.DeepCutAuto
import Derived.Deep.QuietTactic
import Derived.BigQuiet
import Derived.Test.YtlmakdclebbbkaaGreatBase7
import Derived.Deep.RegionHeld3
import Derived.Test.YtlmakdclebbbkaaGreatBase5
namespace Go.Proofs.YtlmakdclebbbkaaGreat
open Go.ChangeShapes Go.WideShapes Go.ChangeAt Go.RowKit
set_option linter.unusedVariables false
set_option linter.unusedSimpArgs false
set_option maxRecDepth 100000
theorem tcells_get (l : List Tok) (p : Nat) (h : p < l.length) : (tcells l)[p * 4]? = some (.int .i64 l[p].kd) ∧ (tcells l)[p * 4 + 1]? = some (.int .i64 l[p].n) ∧ (tcells l)[p * 4 + 2]? = some (.int .i64 l[p].at_) ∧ (tcells l)[p * 4 + 3]? = some (.string l[p].tx) := by
  have e : tcells l = tcells (l.take p) ++ ([.int .i64 l[p].kd, .int .i64 l[p].n, .int .i64 l[p].at_, .string l[p].tx] ++ tcells (l.drop (p + 1))) := by
    have e1 : l = l.take p ++ (l[p] :: l.drop (p + 1)) := by rw [← List.drop_eq_getElem_cons h, List.take_append_drop]
    conv => lhs; rw [e1]
    rw [tcells_append]; rfl
  have hl : (tcells (l.take p)).length = p * 4 := by rw [tcells_length, List.length_take]; omega
  rw [e]
  refine ⟨?_, ?_, ?_, ?_⟩ <;> rw [List.getElem?_append_right (by omega), hl]
  · rw [Nat.sub_self]; rfl
  · rw [show p * 4 + 1 - p * 4 = 1 by omega]; rfl
  · rw [show p * 4 + 2 - p * 4 = 2 by omega]; rfl
  · rw [show p * 4 + 3 - p * 4 = 3 by omega]; rfl
theorem Sees.tok {w : World} {B : Nat} {A : Option Addr} {n : Nat} {l : List Tok} (h : Sees w B 4 A n (tcells l)) {k : Nat} (hk : k < n) :
    ∃ ad, ∃ hl : k < l.length, A = some ad ∧ w.cell? (ad.add (k * 4)) = some (.int .i64 l[k].kd) ∧ w.cell? ⟨(ad.add (k * 4)).block, (ad.add (k * 4)).off + 1, none⟩ = some (.int .i64 l[k].n) ∧ w.cell? ⟨(ad.add (k * 4)).block, (ad.add (k * 4)).off + 2, none⟩ = some (.int .i64 l[k].at_) ∧ w.cell? ⟨(ad.add (k * 4)).block, (ad.add (k * 4)).off + 3, none⟩ = some (.string l[k].tx) := by
  have hl : k < l.length := by have := h.len; rw [tcells_length] at this; omega
  obtain ⟨ad, e, _, hc⟩ := h.at_ (by omega)
  obtain ⟨h0, h1, h2, h3⟩ := tcells_get l k hl
  exact ⟨ad, hl, e, hc _ _ h0, by rw [add_spelt _ _ _ (by omega)]; exact hc _ _ h1, by rw [add_spelt _ _ _ (by omega)]; exact hc _ _ h2, by rw [add_spelt _ _ _ (by omega)]; exact hc _ _ h3⟩
end Go.Proofs.YtlmakdclebbbkaaGreat

namespace Go.Proofs.YtlmakdclebbbkaaGreat
open Go.RowKit
set_option linter.unusedVariables false
def FarS (S : Nat → Prop) (P : World → Prop) (w : World) : Prop := ∀ w', w.heap.size ≤ w'.heap.size → (∀ b, b < w.heap.size → ¬ S b → w'.heap[b]? = w.heap[b]?) → P w'
theorem FarS.now {S : Nat → Prop} {P : World → Prop} {w : World} (h : FarS S P w) : P w := h w (Nat.le_refl _) (fun _ _ _ => rfl)
theorem FarS.next {S S' : Nat → Prop} {P : World → Prop} {w w' : World} (h : FarS S P w) (h1 : w.heap.size ≤ w'.heap.size) (h2 : ∀ b, b < w.heap.size → ¬ S b → w'.heap[b]? = w.heap[b]?) (h3 : ∀ b, b < w.heap.size → S' b → S b) : FarS S' P w' :=
  fun V hs hk => h V (Nat.le_trans h1 hs) fun b hb hn => (hk b (by omega) (fun hS => hn (h3 b hb hS))).trans (h2 b hb hn)
theorem FarS.below {S : Nat → Prop} {P : World → Prop} {w w' : World} (h : FarS S P w) (hb : Below w.heap.size w w') : FarS S P w' :=
  h.next hb.size (fun b hl _ => hb.block b hl) (fun _ _ hS => hS)
theorem FarS.mono {S S' : Nat → Prop} {P : World → Prop} {w : World} (h : FarS S P w) (h3 : ∀ b, b < w.heap.size → S' b → S b) : FarS S' P w :=
  h.next (Nat.le_refl _) (fun _ _ _ => rfl) h3
theorem FarS.grown {S : Nat → Prop} {P : World → Prop} {w w' : World} {row : Option Nat} (h : FarS S P w) (hg : w.grownBy w' row) (hr : ∀ b, row = some b → S b) : FarS S P w' :=
  h.next hg.size (fun b hl hn => hg.block b hl (fun e => hn (hr b e.symm))) (fun _ _ hS => hS)
theorem FarS.and {S : Nat → Prop} {P Q : World → Prop} {w : World} (h : FarS S P w) (k : FarS S Q w) : FarS S (fun W => P W ∧ Q W) w := fun V hs hk => ⟨h V hs hk, k V hs hk⟩
theorem FarS.const {S : Nat → Prop} {P : Prop} {w : World} (h : P) : FarS S (fun _ => P) w := fun _ _ _ => h
theorem slc_nil' (w : World) (size : Nat) : Slc w size (.slice none 0 0) 0 [] := ⟨none, 0, rfl, Sees.nil, Nat.le_refl _, by simp⟩
theorem FarS.nil {S : Nat → Prop} {w : World} (size : Nat) : FarS S (fun W => Slc W size (.slice none 0 0) 0 []) w := fun V _ _ => slc_nil' V size
theorem FarS.blk {S : Nat → Prop} {w : World} {g : Nat} {t : TypeId} {cs : List Value} (h : Blk w g t cs) (hg : ¬ S g) : FarS S (fun W => Blk W g t cs) w := fun V _ hk => (hk g h.lt hg).trans h.eq
theorem FarS.own {S : Nat → Prop} {w : World} {base : Nat} {t : TypeId} {size n : Nat} {v : Value} {xs : List Value} (h : w.ownsRow base t size v n xs) (hg : ∀ g, v.ownBlock = some g → ¬ S g) : FarS S (fun W => Slc W size v n xs) w := fun V hs hk => by
  obtain ⟨A, c, rfl, h1, h2⟩ := own_slice h
  have hS := Sees.of_own h
  refine ⟨A, c, rfl, ⟨hS.len, fun hp => ?_⟩, h1, h2⟩
  obtain ⟨ad, e, hl, hc⟩ := hS.at_ hp
  refine ⟨ad, e, by omega, fun j u hj => ?_⟩
  have hcc := hc j u hj
  have hh := hk ad.block hl (hg ad.block (by subst e; rfl))
  unfold World.cell? at hcc ⊢
  rw [add_block] at hcc ⊢
  rw [hh]; exact hcc
theorem FarS.slc {S : Nat → Prop} {w : World} {g n size : Nat} {t : TypeId} {cs : List Value} (h : Blk w g t cs) (hg : ¬ S g) (hl : cs.length = n * size) (hn : n ≤ 9223372036854775807) : FarS S (fun W => Slc W size (.slice (some ⟨g, 0, none⟩) n n) n cs) w := fun V hs hk =>
  ⟨some ⟨g, 0, none⟩, n, rfl, (show Blk V g t cs from (hk g h.lt hg).trans h.eq).sees hl (List.prefix_refl _), Nat.le_refl _, hn⟩
end Go.Proofs.YtlmakdclebbbkaaGreat

namespace Go.Proofs.YtlmakdclebbbkaaGreat
open Go.ChangeShapes Go.WideShapes Go.ChangeAt Go.RowKit
set_option linter.unusedVariables false
set_option linter.unusedSimpArgs false
set_option maxRecDepth 100000
structure PS where
  p : Nat
  fa : Int
  fe : Int
def Tok.same (t : Tok) (kd : Int) (tx : ByteArray) : Bool := decide (t.kd = kd) && decide (t.tx = tx)
structure Only (b : Nat) (w w' : World) : Prop where
  size : w.heap.size ≤ w'.heap.size
  os : w'.os = w.os
  tape : w'.tape = w.tape
  output : w'.output = w.output
  block : ∀ k, k < w.heap.size → k ≠ b → w'.heap[k]? = w.heap[k]?
theorem Only.refl (b : Nat) (w : World) : Only b w w := ⟨Nat.le_refl _, rfl, rfl, rfl, fun _ _ _ => rfl⟩
theorem Only.trans {b : Nat} {w w' w2 : World} (h : Only b w w') (k : Only b w' w2) : Only b w w2 :=
  ⟨Nat.le_trans h.size k.size, k.os.trans h.os, k.tape.trans h.tape, k.output.trans h.output, fun q hq hn => (k.block q (Nat.lt_of_lt_of_le hq h.size) hn).trans (h.block q hq hn)⟩
theorem Only.of_below {b : Nat} {w w' : World} (h : Below w.heap.size w w') : Only b w w' := ⟨h.size, h.os, h.tape, h.output, fun q hq _ => h.block q hq⟩
theorem Only.alloc {b : Nat} {w w' : World} (h : Only b w w') (o : Obj) : Only b w (w'.alloc o) := h.trans (Only.of_below ((Below.refl _ _).alloc (Nat.le_refl _) o))
theorem Only.drew {b : Nat} {w w' : World} (h : Only b w w') : Only b w w'.drew := h.trans (Only.of_below (Below.refl _ _).drew)
theorem Only.set {b : Nat} {w w' : World} (h : Only b w w') (i : Nat) (u : Value) : Only b w (w'.setCell ⟨b, i, none⟩ u) := by
  have h1 : w'.grownBy (w'.setCell ⟨b, i, none⟩ u) (some b) := only_setCell (World.grownBy.refl w' (some b)) (p := ⟨b, i, none⟩) (.inl rfl) u
  exact h.trans ⟨h1.size, rfl, rfl, rfl, fun q hq hn => h1.block q hq (fun e => hn (by injection e))⟩
theorem FarS.only {S : Nat → Prop} {P : World → Prop} {b : Nat} {w w' : World} (h : FarS S P w) (hb : S b) (ho : Only b w w') : FarS S P w' :=
  h.next ho.size (fun q hq hn => ho.block q hq (fun e => hn (e ▸ hb))) (fun _ _ hS => hS)
section
variable {b n c : Nat} {A : Option Addr} {ts : List Tok} {en : Int} {s s' : PS} {w w' : World}
end
end Go.Proofs.YtlmakdclebbbkaaGreat

namespace Go.Proofs.YtlmakdclebbbkaaGreat
open Go.ChangeShapes Go.WideShapes Go.ChangeAt Go.RowKit
set_option linter.unusedVariables false
set_option linter.unusedSimpArgs false
set_option maxRecDepth 100000
theorem Only.setNew {b g : Nat} {w w' : World} (h : Only b w w') (hg : w.heap.size ≤ g) (i : Nat) (u : Value) : Only b w (w'.setCell ⟨g, i, none⟩ u) := by
  have h1 : w'.grownBy (w'.setCell ⟨g, i, none⟩ u) (some g) := only_setCell (World.grownBy.refl w' (some g)) (p := ⟨g, i, none⟩) (.inl rfl) u
  exact ⟨Nat.le_trans h.size h1.size, h.os, h.tape, h.output, fun q hq hn => (h1.block q (Nat.lt_of_lt_of_le hq h.size) (fun e => by injection e with e; omega)).trans (h.block q hq hn)⟩
theorem Blk.only {g b : Nat} {t : TypeId} {cs : List Value} {w w' : World} (h : Blk w g t cs) (ho : Only b w w') (hg : g ≠ b) : Blk w' g t cs := (ho.block g h.lt hg).trans h.eq
theorem Only.set4 {b g : Nat} {w w' : World} (h : Only b w w') (hg : w.heap.size ≤ g) (v0 v1 v2 v3 : Value) : Only b w (set4W w' g v0 v1 v2 v3) := (((h.setNew hg 0 v0).setNew hg 1 v1).setNew hg 2 v2).setNew hg 3 v3
end Go.Proofs.YtlmakdclebbbkaaGreat

namespace Go.Proofs.YtlmakdclebbbkaaGreat
open Go.ChangeShapes Go.WideShapes Go.ChangeAt Go.RowKit
set_option linter.unusedVariables false
set_option linter.unusedSimpArgs false
set_option maxRecDepth 100000
def signX (k : Int) : ByteArray := if k = 3 then ⟨#[43]⟩ else if k = 4 then ⟨#[45]⟩ else if k = 5 then ⟨#[42]⟩ else if k = 6 then ⟨#[47]⟩ else if k = 7 then ⟨#[37]⟩ else if k = 8 then ⟨#[61, 61]⟩ else if k = 9 then ⟨#[33, 61]⟩ else if k = 10 then ⟨#[60]⟩ else if k = 11 then ⟨#[60, 61]⟩ else if k = 12 then ⟨#[62]⟩ else if k = 13 then ⟨#[62, 61]⟩ else if k = 14 then ⟨#[97, 110, 100]⟩ else if k = 15 then ⟨#[111, 114]⟩ else if k = 16 then ⟨#[117, 110, 108, 101, 115, 115]⟩ else ⟨#[]⟩
def wordX (k : Int) : ByteArray := if k = 17 then ⟨#[115, 117, 109]⟩ else if k = 18 then ⟨#[109, 105, 110]⟩ else if k = 19 then ⟨#[109, 97, 120]⟩ else if k = 20 then ⟨#[99, 111, 117, 110, 116]⟩ else ⟨#[]⟩
set_option maxHeartbeats 2000000 in
theorem sign_x (k : Int) (w : World) : Calls Tryz.prog 95 #[.int .i64 k] w fun e w' => e = .returned (.string (signX k)) ∧ w = w' := by
  by_cases h3 : k = 3
  · subst h3; go_enter Tryz.func95, Tryz.ntmps95
    go_wp2_with fail
    go_ret
    exact ⟨rfl, rfl⟩
  by_cases h4 : k = 4
  · subst h4; go_enter Tryz.func95, Tryz.ntmps95
    go_wp2_with fail
    go_ret
    exact ⟨rfl, rfl⟩
  by_cases h5 : k = 5
  · subst h5; go_enter Tryz.func95, Tryz.ntmps95
    go_wp2_with fail
    go_ret
    exact ⟨rfl, rfl⟩
  by_cases h6 : k = 6
  · subst h6; go_enter Tryz.func95, Tryz.ntmps95
    go_wp2_with fail
    go_ret
    exact ⟨rfl, rfl⟩
  by_cases h7 : k = 7
  · subst h7; go_enter Tryz.func95, Tryz.ntmps95
    go_wp2_with fail
    go_ret
    exact ⟨rfl, rfl⟩
  by_cases h8 : k = 8
  · subst h8; go_enter Tryz.func95, Tryz.ntmps95
    go_wp2_with fail
    go_ret
    exact ⟨rfl, rfl⟩
  by_cases h9 : k = 9
  · subst h9; go_enter Tryz.func95, Tryz.ntmps95
    go_wp2_with fail
    go_ret
    exact ⟨rfl, rfl⟩
  by_cases h10 : k = 10
  · subst h10; go_enter Tryz.func95, Tryz.ntmps95
    go_wp2_with fail
    go_ret
    exact ⟨rfl, rfl⟩
  by_cases h11 : k = 11
  · subst h11; go_enter Tryz.func95, Tryz.ntmps95
    go_wp2_with fail
    go_ret
    exact ⟨rfl, rfl⟩
  by_cases h12 : k = 12
  · subst h12; go_enter Tryz.func95, Tryz.ntmps95
    go_wp2_with fail
    go_ret
    exact ⟨rfl, rfl⟩
  by_cases h13 : k = 13
  · subst h13; go_enter Tryz.func95, Tryz.ntmps95
    go_wp2_with fail
    go_ret
    exact ⟨rfl, rfl⟩
  by_cases h14 : k = 14
  · subst h14; go_enter Tryz.func95, Tryz.ntmps95
    go_wp2_with fail
    go_ret
    exact ⟨rfl, rfl⟩
  by_cases h15 : k = 15
  · subst h15; go_enter Tryz.func95, Tryz.ntmps95
    go_wp2_with fail
    go_ret
    exact ⟨rfl, rfl⟩
  by_cases h16 : k = 16
  · subst h16; go_enter Tryz.func95, Tryz.ntmps95
    go_wp2_with fail
    go_ret
    exact ⟨rfl, rfl⟩
  have t3 : (k == 3) = false := by rw [beq_eq_false_iff_ne]; exact h3
  have t4 : (k == 4) = false := by rw [beq_eq_false_iff_ne]; exact h4
  have t5 : (k == 5) = false := by rw [beq_eq_false_iff_ne]; exact h5
  have t6 : (k == 6) = false := by rw [beq_eq_false_iff_ne]; exact h6
  have t7 : (k == 7) = false := by rw [beq_eq_false_iff_ne]; exact h7
  have t8 : (k == 8) = false := by rw [beq_eq_false_iff_ne]; exact h8
  have t9 : (k == 9) = false := by rw [beq_eq_false_iff_ne]; exact h9
  have t10 : (k == 10) = false := by rw [beq_eq_false_iff_ne]; exact h10
  have t11 : (k == 11) = false := by rw [beq_eq_false_iff_ne]; exact h11
  have t12 : (k == 12) = false := by rw [beq_eq_false_iff_ne]; exact h12
  have t13 : (k == 13) = false := by rw [beq_eq_false_iff_ne]; exact h13
  have t14 : (k == 14) = false := by rw [beq_eq_false_iff_ne]; exact h14
  have t15 : (k == 15) = false := by rw [beq_eq_false_iff_ne]; exact h15
  have t16 : (k == 16) = false := by rw [beq_eq_false_iff_ne]; exact h16
  have HE := Lib.hid (show signX k = ⟨#[]⟩ by unfold signX; simp only [h3, h4, h5, h6, h7, h8, h9, h10, h11, h12, h13, h14, h15, h16, if_false])
  clear h3 h4 h5 h6 h7 h8 h9 h10 h11 h12 h13 h14 h15 h16
  go_enter Tryz.func95, Tryz.ntmps95
  go_wp2_with fail
  go_ret
  exact ⟨by rw [HE.out]; rfl, rfl⟩
set_option maxHeartbeats 2000000 in
theorem word_x (k : Int) (w : World) : Calls Tryz.prog 93 #[.int .i64 k] w fun e w' => e = .returned (.string (wordX k)) ∧ w = w' := by
  by_cases h17 : k = 17
  · subst h17; go_enter Tryz.func93, Tryz.ntmps93
    go_wp2_with fail
    go_ret
    exact ⟨rfl, rfl⟩
  by_cases h18 : k = 18
  · subst h18; go_enter Tryz.func93, Tryz.ntmps93
    go_wp2_with fail
    go_ret
    exact ⟨rfl, rfl⟩
  by_cases h19 : k = 19
  · subst h19; go_enter Tryz.func93, Tryz.ntmps93
    go_wp2_with fail
    go_ret
    exact ⟨rfl, rfl⟩
  by_cases h20 : k = 20
  · subst h20; go_enter Tryz.func93, Tryz.ntmps93
    go_wp2_with fail
    go_ret
    exact ⟨rfl, rfl⟩
  have t17 : (k == 17) = false := by rw [beq_eq_false_iff_ne]; exact h17
  have t18 : (k == 18) = false := by rw [beq_eq_false_iff_ne]; exact h18
  have t19 : (k == 19) = false := by rw [beq_eq_false_iff_ne]; exact h19
  have t20 : (k == 20) = false := by rw [beq_eq_false_iff_ne]; exact h20
  have HE := Lib.hid (show wordX k = ⟨#[]⟩ by unfold wordX; simp only [h17, h18, h19, h20, if_false])
  clear h17 h18 h19 h20
  go_enter Tryz.func93, Tryz.ntmps93
  go_wp2_with fail
  go_ret
  exact ⟨by rw [HE.out]; rfl, rfl⟩
end Go.Proofs.YtlmakdclebbbkaaGreat

namespace Go.Proofs.YtlmakdclebbbkaaGreat
open Go.ChangeShapes Go.WideShapes Go.ChangeAt Go.RowKit
set_option linter.unusedVariables false
set_option maxRecDepth 100000
def mtcOk (x : Mtc) : Bool := wordF x.1 && (decide (x.2.1.size ≤ 24) && !decide (signF x.2.2 = ⟨#[]⟩))
def rightM (ms : List Mtc) : Bool := decide (ms.length ≤ 6) && ms.all mtcOk
theorem rightM_bad {ms : List Mtc} {x : Mtc} (hx : x ∈ ms) (h : mtcOk x = false) : rightM ms = false := by
  have : ms.all mtcOk = false := by rw [List.all_eq_false]; exact ⟨x, hx, by rw [h]; simp⟩
  rw [rightM, this, Bool.and_false]
theorem ba_empty {s : ByteArray} (h : ¬ s = ⟨#[]⟩) : s.toList ≠ [] := fun e => h (ba_ext (by rw [e]; exact (ba_list []).symm))
set_option maxHeartbeats 2000000 in
theorem rightM_any (A2 : Option Addr) (n2 c2 B2 : Nat) (ms : List Mtc) (w : World) (h2 : Sees w B2 3 A2 n2 (mtcs ms)) (hB2 : B2 ≤ w.heap.size) (hn2 : n2 ≤ 9223372036854775807) :
    Calls Tryz.prog 92 #[.slice A2 n2 c2] w fun e w' => e = .returned (.bool (rightM ms)) ∧ Below w.heap.size w w' := by
  have H2 := Lib.hid h2
  have HL := Lib.hid h2.mtc_len
  clear h2
  by_cases h6 : n2 ≤ 6
  · have j6 : ¬ (6 : Int) < n2 := by omega
    have H6 := Lib.hid h6
    go_enter Tryz.func92, Tryz.ntmps92
    go_wp2_with fail
    go_loopg [10] n2 (fun g x10 wr => ∃ k : Nat, k + g = n2 ∧ x10 = .int .i64 k ∧ Below w.heap.size w wr ∧ ∀ x ∈ ms.take k, mtcOk x = true)
    case atStart => exact ⟨0, by omega, rfl, Below.refl _ _, (fun x hx => by simp at hx)⟩
    case round =>
      obtain ⟨k, hkg, rfl, hbel, hno⟩ := hrel
      have HB := Lib.hid hbel; have HNO := Lib.hid hno
      have hws := hbel.size
      clear hbel hno
      cases gk with
      | zero =>
        obtain rfl : k = n2 := by omega
        have HE := Lib.hid (show rightM ms = true by
          have h1 : ms.all mtcOk = true := List.all_eq_true.2 (fun x hx => HNO.out x (by rw [List.take_of_length_le (by rw [HL.out]; exact Nat.le_refl _)]; exact hx))
          rw [rightM, h1, HL.out, decide_eq_true H6.out]; rfl)
        go_wp2_with fail
        go_ret
        exact ⟨by rw [HE.out]; rfl, HB.out⟩
      | succ g =>
        have hlt : k < n2 := by omega
        obtain ⟨ad, hkl, rfl, c0, c1, c2⟩ := (H2.out.below (HB.out.mono hB2)).mtc hlt
        have hal := World.block_lt_of_cell? wr _ c0
        have HT := Lib.hid (List.take_succ_eq_append_getElem hkl)
        have HM := Lib.hid (List.getElem_mem hkl)
        generalize ms[k] = p at *
        obtain ⟨a, b, kd⟩ := p
        simp only at c0 c1 c2
        have HBA := Lib.hid (HB.out.alloc hws (.cells #[.string a, .string b, .int .i64 kd] 32))
        have HR : Hid (mtcOk (a, b, kd) = false → rightM ms = false) := Lib.hid (rightM_bad HM.out)
        have HN : Hid (mtcOk (a, b, kd) = true → ∀ x ∈ ms.take (k + 1), mtcOk x = true) := Lib.hid (fun h x hx => by
          rw [HT.out] at hx
          rcases List.mem_append.1 hx with hx | hx
          · exact HNO.out x hx
          · rw [List.mem_singleton] at hx; rw [hx]; exact h)
        have HOK : Hid (mtcOk (a, b, kd) = (wordF a && (decide (b.size ≤ 24) && !decide (signF kd = ⟨#[]⟩)))) := Lib.hid rfl
        have HW := Lib.hid (fun W => word_any a W)
        have HS := Lib.hid (fun W => sign_any kd W)
        clear HT HM
        generalize wordF a = wa at *
        generalize signF kd = s at *
        cases wa with
        | false =>
          have HE := Lib.hid (HR.out (by rw [HOK.out]; rfl))
          clear HR HN HOK
          go_wp2_with fail
          (with_reducible refine (HW.out _).mono ?_); rintro e w1 ⟨rfl, rfl⟩
          go_wp2_with fail
          go_ret
          exact ⟨by rw [HE.out]; rfl, HBA.out⟩
        | true =>
          by_cases hb2 : b.size ≤ 24
          · have y2 : ¬ (24 : Int) < b.size := by omega
            by_cases hs : s = ⟨#[]⟩
            · have HE := Lib.hid (HR.out (by rw [HOK.out, decide_eq_true hs]; simp))
              subst hs
              clear HR HN HOK
              go_wp2_with fail
              (with_reducible refine (HW.out _).mono ?_); rintro e w1 ⟨rfl, rfl⟩
              go_wp2_with fail
              (with_reducible refine (HS.out _).mono ?_); rintro e w1 ⟨rfl, rfl⟩
              go_wp2_with fail
              go_ret
              exact ⟨by rw [HE.out]; rfl, HBA.out⟩
            · have HN1 := Lib.hid (HN.out (by rw [HOK.out, decide_eq_false hs, decide_eq_true hb2]; rfl))
              have t0 := ba_empty hs
              have t1 : (s.toList == []) = false := by rw [beq_eq_false_iff_ne]; exact t0
              have t2 : s.toList.isEmpty = false := by cases hq : s.toList with | nil => exact absurd hq t0 | cons x y => rfl
              clear HR HN HOK hs
              go_wp2_with fail
              (with_reducible refine (HW.out _).mono ?_); rintro e w1 ⟨rfl, rfl⟩
              go_wp2_with fail
              (with_reducible refine (HS.out _).mono ?_); rintro e w1 ⟨rfl, rfl⟩
              go_wp2_with fail
              go_roundg g
              case measure => omega
              case rel => exact ⟨k + 1, by omega, by go_num, HBA.out, HN1.out⟩
          · have y2 : (24 : Int) < b.size := by omega
            have HE := Lib.hid (HR.out (by rw [HOK.out, decide_eq_false hb2]; simp))
            clear HR HN HOK
            go_wp2_with fail
            (with_reducible refine (HW.out _).mono ?_); rintro e w1 ⟨rfl, rfl⟩
            go_wp2_with fail
            go_ret
            exact ⟨by rw [HE.out]; rfl, HBA.out⟩
  · have j6 : (6 : Int) < n2 := by omega
    have HE := Lib.hid (show rightM ms = false by rw [rightM, HL.out, decide_eq_false h6]; rfl)
    go_enter Tryz.func92, Tryz.ntmps92
    go_wp2_with fail
    go_ret
    exact ⟨by rw [HE.out]; rfl, Below.refl _ _⟩
end Go.Proofs.YtlmakdclebbbkaaGreat

namespace Go.Proofs.YtlmakdclebbbkaaGreat
open Go.ChangeShapes Go.WideShapes Go.ChangeAt Go.RowKit
set_option linter.unusedVariables false
set_option maxRecDepth 100000
def mtcL (x : Mtc) : List UInt8 := x.1.data.toList ++ ((signF x.2.2).data.toList ++ quoteL x.2.1.data.toList)
def joinM : List Mtc → List UInt8
  | [] => []
  | x :: l => mtcL x ++ (if l.isEmpty then [] else 44 :: joinM l)
end Go.Proofs.YtlmakdclebbbkaaGreat

namespace Go.Proofs.YtlmakdclebbbkaaGreat
open Go.ChangeShapes Go.WideShapes Go.ChangeAt Go.RowKit
set_option linter.unusedVariables false
set_option maxRecDepth 100000
def quint (l : List (Value × Value × Value × Value × Value)) : List Value := l.flatMap fun x => [x.1, x.2.1, x.2.2.1, x.2.2.2.1, x.2.2.2.2]
theorem quint_length (l : List (Value × Value × Value × Value × Value)) : (quint l).length = l.length * 5 := by
  induction l with
  | nil => rfl
  | cons x l ih => simp only [quint, List.flatMap_cons, List.length_append, List.length_cons, List.length_nil] at ih ⊢; omega
theorem quint_append (l m : List (Value × Value × Value × Value × Value)) : quint (l ++ m) = quint l ++ quint m := by simp [quint]
theorem quint_get (l : List (Value × Value × Value × Value × Value)) (p : Nat) (h : p < l.length) : (quint l)[p * 5]? = some l[p].1 ∧ (quint l)[p * 5 + 1]? = some l[p].2.1 ∧ (quint l)[p * 5 + 2]? = some l[p].2.2.1 ∧ (quint l)[p * 5 + 3]? = some l[p].2.2.2.1 ∧ (quint l)[p * 5 + 4]? = some l[p].2.2.2.2 := by
  have e : quint l = quint (l.take p) ++ (quint [l[p]] ++ quint (l.drop (p + 1))) := by
    rw [← quint_append, ← quint_append, List.singleton_append, ← List.drop_eq_getElem_cons h, List.take_append_drop]
  have hl : (quint (l.take p)).length = p * 5 := by rw [quint_length, List.length_take]; omega
  rw [e]
  refine ⟨?_, ?_, ?_, ?_, ?_⟩
  · rw [List.getElem?_append_right (by omega), hl, Nat.sub_self]; rfl
  · rw [List.getElem?_append_right (by omega), hl, show p * 5 + 1 - p * 5 = 1 by omega]; rfl
  · rw [List.getElem?_append_right (by omega), hl, show p * 5 + 2 - p * 5 = 2 by omega]; rfl
  · rw [List.getElem?_append_right (by omega), hl, show p * 5 + 3 - p * 5 = 3 by omega]; rfl
  · rw [List.getElem?_append_right (by omega), hl, show p * 5 + 4 - p * 5 = 4 by omega]; rfl
theorem Sees.quint {w : World} {B : Nat} {A : Option Addr} {n : Nat} {l : List (Value × Value × Value × Value × Value)} (h : Sees w B 5 A n (quint l)) {k : Nat} (hk : k < n) :
    ∃ ad, ∃ hl : k < l.length, A = some ad ∧ w.cell? (ad.add (k * 5)) = some l[k].1 ∧ w.cell? ⟨(ad.add (k * 5)).block, (ad.add (k * 5)).off + 1, none⟩ = some l[k].2.1 ∧ w.cell? ⟨(ad.add (k * 5)).block, (ad.add (k * 5)).off + 2, none⟩ = some l[k].2.2.1 ∧ w.cell? ⟨(ad.add (k * 5)).block, (ad.add (k * 5)).off + 3, none⟩ = some l[k].2.2.2.1 ∧ w.cell? ⟨(ad.add (k * 5)).block, (ad.add (k * 5)).off + 4, none⟩ = some l[k].2.2.2.2 := by
  have hl : k < l.length := by have := h.len; rw [quint_length] at this; omega
  obtain ⟨ad, e, _, hc⟩ := h.at_ (by omega)
  obtain ⟨h0, h1, h2, h3, h4⟩ := quint_get l k hl
  exact ⟨ad, hl, e, hc _ _ h0, by rw [add_spelt _ _ _ (by omega)]; exact hc _ _ h1, by rw [add_spelt _ _ _ (by omega)]; exact hc _ _ h2, by rw [add_spelt _ _ _ (by omega)]; exact hc _ _ h3, by rw [add_spelt _ _ _ (by omega)]; exact hc _ _ h4⟩
inductive XE where
  | mk (kd n : Int) (mv : Value) (ms : List Mtc) (nv : Value) (ns : List ByteArray) (kv : Value) (kids : List XE)
def XE.kd : XE → Int | .mk a _ _ _ _ _ _ _ => a
def XE.n : XE → Int | .mk _ a _ _ _ _ _ _ => a
def XE.mv : XE → Value | .mk _ _ a _ _ _ _ _ => a
def XE.ms : XE → List Mtc | .mk _ _ _ a _ _ _ _ => a
def XE.nv : XE → Value | .mk _ _ _ _ a _ _ _ => a
def XE.ns : XE → List ByteArray | .mk _ _ _ _ _ a _ _ => a
def XE.kv : XE → Value | .mk _ _ _ _ _ _ a _ => a
def XE.kids : XE → List XE | .mk _ _ _ _ _ _ _ a => a
def XE.cells (x : XE) : Value × Value × Value × Value × Value := (.int .i64 x.kd, .int .i64 x.n, x.mv, x.nv, x.kv)
def XE.val (x : XE) : Value := .agg #[.int .i64 x.kd, .int .i64 x.n, x.mv, x.nv, x.kv]
def kcells (l : List XE) : List Value := quint (l.map XE.cells)
theorem kcells_append (l m : List XE) : kcells (l ++ m) = kcells l ++ kcells m := by unfold kcells; rw [List.map_append, quint_append]
theorem Sees.kid {w : World} {B : Nat} {A : Option Addr} {n : Nat} {l : List XE} (h : Sees w B 5 A n (kcells l)) {k : Nat} (hk : k < n) :
    ∃ ad, ∃ hl : k < l.length, A = some ad ∧ w.cell? (ad.add (k * 5)) = some (.int .i64 l[k].kd) ∧ w.cell? ⟨(ad.add (k * 5)).block, (ad.add (k * 5)).off + 1, none⟩ = some (.int .i64 l[k].n) ∧ w.cell? ⟨(ad.add (k * 5)).block, (ad.add (k * 5)).off + 2, none⟩ = some l[k].mv ∧ w.cell? ⟨(ad.add (k * 5)).block, (ad.add (k * 5)).off + 3, none⟩ = some l[k].nv ∧ w.cell? ⟨(ad.add (k * 5)).block, (ad.add (k * 5)).off + 4, none⟩ = some l[k].kv := by
  obtain ⟨ad, hl, e, h0, h1, h2, h3, h4⟩ := Sees.quint h hk
  have hl2 : k < l.length := by simpa using hl
  rw [List.getElem_map] at h0 h1 h2 h3 h4
  exact ⟨ad, hl2, e, h0, h1, h2, h3, h4⟩
def okX : Nat → XE → World → Prop
  | 0, _, _ => False
  | d + 1, x, w => Slc w 3 x.mv x.ms.length (mtcs x.ms) ∧ Slc w 1 x.nv x.ns.length (strs x.ns) ∧ Slc w 5 x.kv x.kids.length (kcells x.kids) ∧ ∀ k ∈ x.kids, okX d k w
theorem okX_below {w w' : World} (hb : Below w.heap.size w w') : ∀ (d : Nat) (x : XE), okX d x w → okX d x w'
  | 0, _, h => h.elim
  | d + 1, x, h => ⟨h.1.below hb, h.2.1.below hb, h.2.2.1.below hb, fun k hk => okX_below hb d k (h.2.2.2 k hk)⟩
theorem okX_far {S : Nat → Prop} {w : World} {d : Nat} {kd n : Int} {mv nv kv : Value} {ms : List Mtc} {ns : List ByteArray} {ks : List XE}
    (h1 : FarS S (fun W => Slc W 3 mv ms.length (mtcs ms)) w) (h2 : FarS S (fun W => Slc W 1 nv ns.length (strs ns)) w) (h3 : FarS S (fun W => Slc W 5 kv ks.length (kcells ks)) w) (h4 : ∀ k ∈ ks, FarS S (okX d k) w) :
    FarS S (okX (d + 1) (.mk kd n mv ms nv ns kv ks)) w := fun V hs hk => ⟨h1 V hs hk, h2 V hs hk, h3 V hs hk, fun k hm => h4 k hm V hs hk⟩
theorem okX_forms {d : Nat} {x : XE} {w : World} (h : okX d x w) : ∃ A1 c1 A2 c2 A3 c3, x.mv = .slice A1 x.ms.length c1 ∧ x.nv = .slice A2 x.ns.length c2 ∧ x.kv = .slice A3 x.kids.length c3 := by
  cases d with
  | zero => exact h.elim
  | succ d =>
    obtain ⟨⟨A1, c1, e1, _⟩, ⟨A2, c2, e2, _⟩, ⟨A3, c3, e3, _⟩, _⟩ := h
    exact ⟨A1, c1, A2, c2, A3, c3, e1, e2, e3⟩
def keepN : Nat → XE → Prop
  | 0, _ => False
  | d + 1, x => (x.kd = 1 ∧ -3 ≤ x.n ∧ x.n ≤ 5 ∧ x.ms = [] ∧ x.ns = [] ∧ x.kids = []) ∨ (3 ≤ x.kd ∧ x.kd ≤ 5 ∧ x.n = 0 ∧ x.ms = [] ∧ x.ns = [] ∧ ∃ a b, x.kids = [a, b] ∧ (a.kd = 1 ∧ -3 ≤ a.n ∧ a.n ≤ 5 ∧ a.ms = [] ∧ a.ns = [] ∧ a.kids = []) ∧ keepN d b)
def keepMs (ms : List Mtc) : Prop := ∃ c : UInt8, (c = 109 ∨ c = 110) ∧ (ms = [(⟨#[110, 97, 109, 101]⟩, ⟨#[c]⟩, 1)] ∨ ∃ a q : Nat, ∃ kd : Int, a < 3 ∧ q < 4 ∧ 1 ≤ kd ∧ kd ≤ 4 ∧ ms = [(⟨#[110, 97, 109, 101]⟩, ⟨#[c]⟩, 1), (keepNames.getD a ⟨#[]⟩, keepValues.getD q ⟨#[]⟩, kd)])
def keepNs (ns : List ByteArray) : Prop := List.Sublist ns keepNames
def keepV : Nat → XE → Prop
  | 0, _ => False
  | d + 1, x =>
    (x.kd = 2 ∧ 1 ≤ x.n ∧ x.n ≤ 30 ∧ keepMs x.ms ∧ x.ns = [] ∧ x.kids = []) ∨
    (8 ≤ x.kd ∧ x.kd ≤ 13 ∧ x.n = 0 ∧ x.ms = [] ∧ x.ns = [] ∧ ∃ a b, x.kids = [a, b] ∧ keepV d a ∧ (b.kd = 1 ∧ -3 ≤ b.n ∧ b.n ≤ 9 ∧ b.ms = [] ∧ b.ns = [] ∧ b.kids = [])) ∨
    (3 ≤ x.kd ∧ x.kd ≤ 16 ∧ x.n = 0 ∧ x.ms = [] ∧ x.ns = [] ∧ ∃ a b, x.kids = [a, b] ∧ keepV d a ∧ keepV d b) ∨
    (3 ≤ x.kd ∧ x.kd ≤ 7 ∧ x.n = 0 ∧ x.ms = [] ∧ x.ns = [] ∧ ∃ a b, x.kids = [a, b] ∧ keepV d a ∧ keepN d b) ∨
    (17 ≤ x.kd ∧ x.kd ≤ 20 ∧ x.n = 0 ∧ x.ms = [] ∧ keepNs x.ns ∧ ∃ a, x.kids = [a] ∧ keepV d a)
end Go.Proofs.YtlmakdclebbbkaaGreat
