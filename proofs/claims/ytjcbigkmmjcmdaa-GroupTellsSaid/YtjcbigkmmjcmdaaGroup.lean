/- group.Group: its state, New, Right, Idle, Next, Copy, Tick. -/
import Derived.Test.YtjcbigkmmjcmdaaSameStr
import Derived.Test.YtjcbigkmmjcmdaaGrown
import Derived.Lib.Hide
import Derived.Deep.QuietTactic
import Derived.BigQuiet
import Derived.Deep.DeepCutAuto
import Derived.Deep.RegionHeld3
import Derived.Maps.AppendAt
import Derived.Outline
namespace Go.Proofs.Ytjcbigkmmjcmdaa
open Go.ChangeShapes Go.WideShapes Go.ChangeAt Go.RowKit
set_option linter.unusedVariables false
set_option maxRecDepth 100000
/-- A group's state. -/
structure GS where
  wt : Int
  iv : Int
  rp : Int
  st : Int
  since : Int
  wait : Int
  lastT : Int
  last : List ByteArray
def GS.new (wt iv rp : Int) : GS := ⟨wt, iv, rp, 0, 0, 0, 0, []⟩
def GS.cells (s : GS) (A : Option Addr) (c : Nat) : List Value := [.int .i64 s.wt, .int .i64 s.iv, .int .i64 s.rp, .int .i64 s.st, .int .i64 s.since, .int .i64 s.wait, .int .i64 s.lastT, .slice A s.last.length c]
/-- A slice that isn't empty lies in a block of this element type. -/
def Typed (w : World) (t : TypeId) (A : Option Addr) (n : Nat) : Prop := ∀ ad, A = some ad → 0 < n → ∃ cs f, w.heap[ad.block]? = some (.cells cs t f)
theorem Typed.below {w w' : World} {t : TypeId} {A : Option Addr} {n B : Nat} (h : Typed w t A n) (hb : Below B w w') (hl : ∀ ad, A = some ad → 0 < n → ad.block < B) : Typed w' t A n := fun ad ha hn => by
  obtain ⟨cs, f, e⟩ := h ad ha hn
  exact ⟨cs, f, (hb.block ad.block (hl ad ha hn)).trans e⟩
theorem Typed.set {w : World} {t : TypeId} {A : Option Addr} {n : Nat} (h : Typed w t A n) (p : Addr) (hp : ∀ ad, A = some ad → 0 < n → ad.block ≠ p.block) (u : Value) : Typed (w.setCell p u) t A n := fun ad ha hn => by
  obtain ⟨cs, f, e⟩ := h ad ha hn
  exact ⟨cs, f, (Below.heap_setCell w p u ad.block (hp ad ha hn)).trans e⟩
theorem Typed.ne {w : World} {t t' : TypeId} {A : Option Addr} {n g : Nat} {cs : List Value} (h : Typed w t A n) (hk : Blk w g t' cs) (ht : t' ≠ t) : ∀ ad, A = some ad → 0 < n → ad.block ≠ g := fun ad ha hn e => by
  obtain ⟨cs, f, e2⟩ := h ad ha hn
  rw [e, hk.eq] at e2
  injection e2 with e2; injection e2 with _ e2 _
  exact ht e2
theorem Typed.of_own {w : World} {base : Nat} {t : TypeId} {size n c : Nat} {A : Option Addr} {xs : List Value} (h : w.ownsRow base t size (.slice A n c) n xs) : Typed w t A n := fun ad ha hn => by
  rcases h.2 with ⟨h1, _⟩ | ⟨g, cap, cur, hv, _, hh, _⟩
  · injection h1 with _ h1 _; omega
  · injection hv with hv; rw [ha] at hv; injection hv with hv; rw [hv]; exact ⟨_, _, hh⟩
theorem group_ne_string : (51 : TypeId) ≠ 9 := by decide
/-- A group lies at block g. -/
def GAt (w : World) (g : Nat) (s : GS) : Prop := ∃ A c, Blk w g 51 (s.cells A c) ∧ Sees w w.heap.size 1 A s.last.length (strs s.last) ∧ Typed w 9 A s.last.length ∧ s.last.length ≤ c ∧ c ≤ 9223372036854775807
theorem GAt.lt {w : World} {g : Nat} {s : GS} (h : GAt w g s) : g < w.heap.size := by obtain ⟨A, c, hk, _⟩ := h; exact hk.lt
theorem sees_lt {w : World} {B size n : Nat} {A : Option Addr} {xs : List Value} (h : Sees w B size A n xs) : ∀ ad, A = some ad → 0 < n → ad.block < B := fun ad ha hn => by
  obtain ⟨ad', e, hb, _⟩ := h.at_ hn
  rw [ha] at e; injection e with e; subst e; exact hb
theorem GAt.below {w w' : World} {g : Nat} {s : GS} (h : GAt w g s) (hb : Below w.heap.size w w') : GAt w' g s := by
  obtain ⟨A, c, hk, hs, ha, hc⟩ := h
  exact ⟨A, c, hk.below hb hk.lt, (hs.below hb).more hb.size, ha.below hb (sees_lt hs), hc⟩
theorem GAt.stays {w : World} {g : Nat} {s : GS} (h : GAt w g s) : Stays (fun W => GAt W g s) w := fun _ hb => h.below hb
/-- A group's cells. -/
theorem gcells {w : World} {g : Nat} {s : GS} {A : Option Addr} {c : Nat} (h : Blk w g 51 (s.cells A c)) :
    (w.cell? ⟨g, 0, none⟩ = some (.int .i64 s.wt) ∧ w.cell? ⟨g, 1, none⟩ = some (.int .i64 s.iv) ∧ w.cell? ⟨g, 2, none⟩ = some (.int .i64 s.rp) ∧ w.cell? ⟨g, 3, none⟩ = some (.int .i64 s.st)) ∧
    w.cell? ⟨g, 4, none⟩ = some (.int .i64 s.since) ∧ w.cell? ⟨g, 5, none⟩ = some (.int .i64 s.wait) ∧ w.cell? ⟨g, 6, none⟩ = some (.int .i64 s.lastT) ∧ w.cell? ⟨g, 7, none⟩ = some (.slice A s.last.length c) :=
  ⟨⟨h.cell 0, h.cell 1, h.cell 2, h.cell 3⟩, h.cell 4, h.cell 5, h.cell 6, h.cell 7⟩
def GS.wakes (s : GS) (t : Int) : GS := if s.st = 0 then { s with st := 1, since := t, wait := s.wt } else s
def GS.looks (s : GS) (t : Int) : GS := { s with since := t, wait := s.iv }
/-- One tick: the state behind it, what is told, if something is. -/
def GS.tick (s : GS) (t : Int) (al : List ByteArray) : GS × List ByteArray × Bool :=
  if s.st = 0 ∧ al = [] then (s, [], false)
  else if t - (s.wakes t).since < (s.wakes t).wait then (s.wakes t, [], false)
  else if al = [] then (GS.new s.wt s.iv s.rp, [], decide (s.st = 2))
  else if s.st = 2 ∧ al = s.last ∧ t - s.lastT < s.rp then (s.looks t, [], false)
  else ({ s.looks t with st := 2, lastT := t, last := al }, al, true)
def inB (n lo hi : Int) : Bool := decide (lo ≤ n) && decide (n ≤ hi)
theorem gwithin_any (n lo hi : Int) (w : World) : Calls Try.prog 25 #[.int .i64 n, .int .i64 lo, .int .i64 hi] w fun e w' => e = .returned (.bool (inB n lo hi)) ∧ w = w' := by
  by_cases h1 : lo ≤ n
  · by_cases h2 : n ≤ hi
    · have HE := Lib.hid (show inB n lo hi = true by simp [inB, h1, h2])
      go_enter Try.func25, Try.ntmps25
      go_wp2_with fail
      go_ret
      exact ⟨by rw [HE.out]; rfl, rfl⟩
    · have HE := Lib.hid (show inB n lo hi = false by simp [inB, h2])
      go_enter Try.func25, Try.ntmps25
      go_wp2_with fail
      go_ret
      exact ⟨by rw [HE.out]; rfl, rfl⟩
  · have HE := Lib.hid (show inB n lo hi = false by simp [inB, h1])
    go_enter Try.func25, Try.ntmps25
    go_wp2_with fail
    go_ret
    exact ⟨by rw [HE.out]; rfl, rfl⟩
def timingOk (a b c : Int) : Bool := inB a 0 1048576 && (inB b 1 1048576 && inB c 1 1048576)
theorem gright_any (a b c : Int) (w : World) : Calls Try.prog 15 #[.agg #[.int .i64 a, .int .i64 b, .int .i64 c]] w fun e w' => e = .returned (.bool (timingOk a b c)) ∧ Below w.heap.size w w' := by
  have HB := Lib.hid ((Below.refl w.heap.size w).alloc (Nat.le_refl _) (.cells #[.int .i64 a, .int .i64 b, .int .i64 c] 25))
  have HW := Lib.hid (fun n lo hi W => gwithin_any n lo hi W)
  have HE := Lib.hid (show timingOk a b c = (inB a 0 1048576 && (inB b 1 1048576 && inB c 1 1048576)) from rfl)
  generalize timingOk a b c = r at *
  go_enter Try.func15, Try.ntmps15
  go_wp2_with fail
  (with_reducible refine (HW.out _ _ _ _).mono ?_); rintro e w1 ⟨rfl, rfl⟩
  generalize inB a 0 1048576 = r1 at *
  cases r1 with
  | false =>
    go_wp2_with fail
    go_ret
    exact ⟨by rw [HE.out]; rfl, HB.out⟩
  | true =>
    go_wp2_with fail
    (with_reducible refine (HW.out _ _ _ _).mono ?_); rintro e w1 ⟨rfl, rfl⟩
    generalize inB b 1 1048576 = r2 at *
    cases r2 with
    | false =>
      go_wp2_with fail
      go_ret
      exact ⟨by rw [HE.out]; rfl, HB.out⟩
    | true =>
      go_wp2_with fail
      (with_reducible refine (HW.out _ _ _ _).mono ?_); rintro e w1 ⟨rfl, rfl⟩
      generalize inB c 1 1048576 = r3 at *
      go_wp2_with fail
      go_ret
      exact ⟨by rw [HE.out]; rfl, HB.out⟩
/-- New of a right timing: a group in new memory. -/
theorem gnew_yes (a b c : Int) (w : World) (h : timingOk a b c = true) :
    Calls Try.prog 8 #[.agg #[.int .i64 a, .int .i64 b, .int .i64 c]] w fun e w' => ∃ g, e = .returned (.pointer (some ⟨g, 0, none⟩)) ∧ GAt w' g (GS.new a b c) ∧ w.heap.size ≤ g ∧ Below w.heap.size w w' := by
  have HB := Lib.hid ((Below.refl w.heap.size w).alloc (Nat.le_refl _) (.cells #[.int .i64 a, .int .i64 b, .int .i64 c] 25))
  have HK := Lib.hid (Blk.mk (heap_alloc_new w (.cells #[.int .i64 a, .int .i64 b, .int .i64 c] 25)) : Blk _ _ 25 [.int .i64 a, .int .i64 b, .int .i64 c])
  have HR := Lib.hid (gright_any a b c (w.alloc (.cells #[.int .i64 a, .int .i64 b, .int .i64 c] 25)))
  rw [h] at HR
  go_enter Try.func8, Try.ntmps8
  go_wp2_with fail
  (with_reducible refine HR.out.mono ?_); rintro e w1 ⟨rfl, hb⟩
  have HB1 := Lib.hid (HB.out.trans (hb.mono HB.out.size))
  have HK1 := Lib.hid (HK.out.below hb HK.out.lt)
  have e0 := HK1.out.cell 0; have e1 := HK1.out.cell 1; have e2 := HK1.out.cell 2
  simp only [List.getElem?_cons_zero, List.getElem?_cons_succ] at e0 e1 e2
  clear hb HB HK HR
  go_wp2_with fail
  go_ret
  exact ⟨w1.heap.size, rfl, ⟨none, 0, Blk.mk (heap_alloc_new w1 _), Sees.nil, (fun _ h => by cases h), Nat.le_refl _, by omega⟩, HB1.out.size, HB1.out.alloc HB1.out.size _⟩
theorem gnew_no (a b c : Int) (w : World) (h : timingOk a b c = false) :
    Calls Try.prog 8 #[.agg #[.int .i64 a, .int .i64 b, .int .i64 c]] w fun e w' => e = .returned (.pointer none) ∧ Below w.heap.size w w' := by
  have HB := Lib.hid ((Below.refl w.heap.size w).alloc (Nat.le_refl _) (.cells #[.int .i64 a, .int .i64 b, .int .i64 c] 25))
  have HR := Lib.hid (gright_any a b c (w.alloc (.cells #[.int .i64 a, .int .i64 b, .int .i64 c] 25)))
  rw [h] at HR
  go_enter Try.func8, Try.ntmps8
  go_wp2_with fail
  (with_reducible refine HR.out.mono ?_); rintro e w1 ⟨rfl, hb⟩
  have HB1 := Lib.hid (HB.out.trans (hb.mono HB.out.size))
  clear hb HB HR
  go_wp2_with fail
  go_ret
  exact ⟨rfl, HB1.out⟩
theorem gidle_any (g : Nat) (s : GS) (w : World) (h : GAt w g s) : Calls Try.prog 11 #[.pointer (some ⟨g, 0, none⟩)] w fun e w' => e = .returned (.bool (decide (s.st = 0))) ∧ w = w' := by
  obtain ⟨A, c, hk, _⟩ := h
  have e3 := hk.cell 3
  simp only [GS.cells, List.getElem?_cons_zero, List.getElem?_cons_succ] at e3
  have HD : Hid (decide (s.st = 0) = (s.st == 0)) := Lib.hid (by
    by_cases h : s.st = 0
    · rw [h]; rfl
    · rw [decide_eq_false h, beq_eq_false_iff_ne.2 h])
  clear hk
  generalize s.st = q at *
  go_enter Try.func11, Try.ntmps11
  go_wp2_with fail
  go_ret
  exact ⟨by rw [HD.out]; rfl, rfl⟩
theorem gcopy_any (g : Nat) (s : GS) (w : World) (h : GAt w g s) : Calls Try.prog 22 #[.pointer (some ⟨g, 0, none⟩)] w fun e w' => ∃ h, e = .returned (.pointer (some ⟨h, 0, none⟩)) ∧ GAt w' h s ∧ w.heap.size ≤ h ∧ Below w.heap.size w w' := by
  obtain ⟨wt, iv, rp, st, since, wait, lastT, last⟩ := s
  obtain ⟨A, c, hk, hs, hne, hc1, hc2⟩ := h
  obtain ⟨⟨e0, e1, e2, e3⟩, e4, e5, e6, e7⟩ := gcells hk
  simp only at e0 e1 e2 e3 e4 e5 e6 e7
  have HS := Lib.hid hs; have HN := Lib.hid hne; have HC := Lib.hid (And.intro hc1 hc2)
  clear hk hs hne hc1 hc2
  go_enter Try.func22, Try.ntmps22
  go_wp2_with fail
  go_ret
  exact ⟨w.heap.size, rfl, ⟨A, c, Blk.mk (heap_alloc_new w _), (HS.out.alloc (Nat.le_refl _) _).more (by simp), HN.out.below ((Below.refl _ _).alloc (Nat.le_refl _) _) (sees_lt HS.out), HC.out.1, HC.out.2⟩, Nat.le_refl _, (Below.refl _ _).alloc (Nat.le_refl _) _⟩
end Go.Proofs.Ytjcbigkmmjcmdaa
