/- group.Group: Next, Tick. -/
import Derived.Test.YtjcbigkmmjcmdaaGroup
namespace Go.Proofs.Ytjcbigkmmjcmdaa
open Go.ChangeShapes Go.WideShapes Go.ChangeAt Go.RowKit
set_option linter.unusedVariables false
set_option maxRecDepth 100000
def GS.next (s : GS) : Int := if s.st = 0 then -1 else if s.since > 9223372036854775807 - s.wait then 9223372036854775807 else s.since + s.wait
theorem gnext_any (g : Nat) (s : GS) (w : World) (h : GAt w g s) (hs : 0 ≤ s.since ∧ s.since ≤ 9223372036854775807) (hw : 0 ≤ s.wait ∧ s.wait ≤ 9223372036854775807) :
    Calls Try.prog 12 #[.pointer (some ⟨g, 0, none⟩)] w fun e w' => e = .returned (.int .i64 s.next) ∧ ∃ m, w' = w.drewN m := by
  obtain ⟨wt, iv, rp, st, since, wait, lastT, last⟩ := s
  obtain ⟨A, c, hk, _⟩ := h
  have e3 := hk.cell 3; have e4 := hk.cell 4; have e5 := hk.cell 5
  simp only [GS.cells, List.getElem?_cons_zero, List.getElem?_cons_succ] at e3 e4 e5
  simp only at hs hw
  obtain ⟨hs1, hs2⟩ := hs
  obtain ⟨hw1, hw2⟩ := hw
  clear hk
  by_cases h0 : st = 0
  · subst h0
    go_enter Try.func12, Try.ntmps12
    go_wp2_with fail
    go_ret
    exact ⟨rfl, 0, rfl⟩
  · have t0 : (st == 0) = false := beq_eq_false_iff_ne.2 h0
    have i1 : IntKind.i64.wrap (9223372036854775807 - wait) = 9223372036854775807 - wait := IntWalk.i64_in _ (by omega)
    by_cases h1 : 9223372036854775807 - wait < since
    · have HE := Lib.hid (show (GS.mk wt iv rp st since wait lastT last).next = 9223372036854775807 by unfold GS.next; simp only; rw [if_neg h0, if_pos h1])
      clear h0
      go_enter Try.func12, Try.ntmps12
      go_wp2_with fail
      go_quiet (fail)
      go_wp2_with fail
      go_ret
      exact ⟨by rw [HE.out]; rfl, _, rfl⟩
    · have h2 : decide (9223372036854775807 - wait < since) = false := by simpa using h1
      have HE := Lib.hid (show (GS.mk wt iv rp st since wait lastT last).next = since + wait by unfold GS.next; simp only; rw [if_neg h0, if_neg h1])
      have i2 : IntKind.i64.wrap (since + wait) = since + wait := IntWalk.i64_in _ (by omega)
      clear h0
      go_enter Try.func12, Try.ntmps12
      go_wp2_with fail
      go_quiet (fail)
      go_wp2_with fail
      go_quiet (fail)
      go_wp2_with fail
      go_ret
      exact ⟨by rw [HE.out]; rfl, _, World.drewN_drewN _ _ _⟩
/-- What a tick does. -/
def TickAns (g : Nat) (s' : GS) (told : List ByteArray) (ok : Bool) (w : World) (e : Ending) (w' : World) : Prop :=
  ∃ A c, e = .returned (.tuple #[.slice A told.length c, .bool ok]) ∧ GAt w' g s' ∧ (Slc w' 1 (.slice A told.length c) told.length (strs told) ∧ Typed w' 9 A told.length) ∧ w.grownBy w' (some g)
theorem gat_new {w : World} {g : Nat} {wt iv rp : Int} (h : Blk w g 51 [.int .i64 wt, .int .i64 iv, .int .i64 rp, .int .i64 0, .int .i64 0, .int .i64 0, .int .i64 0, .slice none 0 0]) : GAt w g (GS.new wt iv rp) :=
  ⟨none, 0, h, Sees.nil, (fun _ h => by cases h), Nat.le_refl _, by omega⟩
/-- What writes but one block, of another type than these, leaves a group as it is. -/
theorem GAt.apart {w w' : World} {x : Nat} {s : GS} {row : Option Nat} (h : GAt w x s) (ho : w.grownBy w' row) (hx : row ≠ some x) (hs : ∀ g, row = some g → ∀ cs f, w.heap[g]? ≠ some (.cells cs 9 f)) : GAt w' x s := by
  obtain ⟨A, c, hk, hsee, ha, hc⟩ := h
  have key : ∀ ad, A = some ad → 0 < s.last.length → w'.heap[ad.block]? = w.heap[ad.block]? := fun ad he hn => ho.block ad.block (sees_lt hsee ad he hn) (fun e => by
    obtain ⟨cs, f, e2⟩ := ha ad he hn
    exact hs _ e.symm cs f e2)
  refine ⟨A, c, hk.grown ho (fun e => hx e.symm), ⟨hsee.len, fun hn => ?_⟩, fun ad he hn => by rw [key ad he hn]; exact ha ad he hn, hc⟩
  obtain ⟨ad, e, hb, hcell⟩ := hsee.at_ hn
  have hz := ho.size
  refine ⟨ad, e, by omega, fun j v hv => (World.cell?_of_block (w := w) (a := ad.add j) ?_).trans (hcell j v hv)⟩
  rw [add_block]
  exact key ad e hn
theorem GAt.other {w w' : World} {g x : Nat} {s s0 : GS} (h : GAt w x s) (hg : GAt w g s0) (ho : w.grownBy w' (some g)) (hne : x ≠ g) : GAt w' x s := by
  obtain ⟨A, c, hk, _⟩ := hg
  exact h.apart ho (fun e => hne (by injection e with e; exact e.symm)) fun y hy cs f e => by
    injection hy with hy; subst hy
    rw [hk.eq] at e
    injection e with e; injection e with _ e _
    exact group_ne_string e
/-- An append onto a row of another type. -/
theorem GAt.row {w w' : World} {x base : Nat} {t : TypeId} {size n : Nat} {v : Value} {xs : List Value} {s : GS} (h : GAt w x s) (hown : w.ownsRow base t size v n xs) (ho : w.grownBy w' v.ownBlock) (ht1 : t ≠ 9) (ht2 : t ≠ 51) : GAt w' x s := by
  have key : ∀ y, v.ownBlock = some y → ∃ cs f, w.heap[y]? = some (.cells cs t f) := fun y hy => by
    rcases hown.2 with ⟨rfl, _⟩ | ⟨g, cap, cur, rfl, _, hh, _⟩
    · cases hy
    · simp only [Value.ownBlock, Option.some.injEq] at hy; subst hy; exact ⟨_, _, hh⟩
  refine h.apart ho (fun e => ?_) fun y hy cs f e => ?_
  · obtain ⟨cs, f, e2⟩ := key _ e
    obtain ⟨A, c, hk, _⟩ := h
    rw [hk.eq] at e2
    injection e2 with e2; injection e2 with _ e2 _
    exact ht2 e2.symm
  · obtain ⟨cs2, f2, e2⟩ := key y hy
    rw [e] at e2
    injection e2 with e2; injection e2 with _ e2 _
    exact ht1 e2.symm
theorem only_set {a w : World} {g : Nat} (h : a.grownBy w (some g)) (i : Nat) (u : Value) : a.grownBy (w.setCell ⟨g, i, none⟩ u) (some g) := only_setCell h (.inl rfl) u
theorem slc_nil (w : World) : Slc w 1 (.slice none 0 0) 0 (strs []) ∧ Typed w 9 none 0 := ⟨⟨none, 0, rfl, Sees.nil, Nat.le_refl _, by omega⟩, fun _ h => by cases h⟩
theorem tickAns_mk {g : Nat} {s' : GS} {told : List ByteArray} {ok : Bool} {w w' : World} {e : Ending} {A : Option Addr} {c : Nat} (he : e = .returned (.tuple #[.slice A told.length c, .bool ok])) (hg : GAt w' g s') (hs : Slc w' 1 (.slice A told.length c) told.length (strs told) ∧ Typed w' 9 A told.length) (ho : w.grownBy w' (some g)) : TickAns g s' told ok w e w' := ⟨A, c, he, hg, hs, ho⟩
/-- What a tick does, and all of it: what is told lies in new memory, and the group doesn't. -/
def TickAns2 (g : Nat) (s' : GS) (told : List ByteArray) (ok : Bool) (w : World) (e : Ending) (w' : World) : Prop :=
  ∃ A c, e = .returned (.tuple #[.slice A told.length c, .bool ok]) ∧ GAt w' g s' ∧ w'.ownsRow w.heap.size 9 1 (.slice A told.length c) told.length (strs told) ∧ (∀ w2, w'.grownBy w2 (Value.slice A told.length c).ownBlock → GAt w2 g s') ∧ w.grownBy w' (some g)
theorem TickAns2.ans {g : Nat} {s' : GS} {told : List ByteArray} {ok : Bool} {w w' : World} {e : Ending} (h : TickAns2 g s' told ok w e w') : TickAns g s' told ok w e w' := by
  obtain ⟨A, c, h1, h2, h3, _, h5⟩ := h
  exact ⟨A, c, h1, h2, ⟨Slc.of_own h3, Typed.of_own h3⟩, h5⟩
theorem GAt.none_ {w' : World} {g : Nat} {s' : GS} (h : GAt w' g s') : ∀ w2, w'.grownBy w2 none → GAt w2 g s' := fun w2 ho => h.apart ho (fun e => by cases e) (fun y hy => by cases hy)
theorem tickAns2_nil {g : Nat} {s' : GS} {ok : Bool} {w w' : World} {e : Ending} (he : e = .returned (.tuple #[.slice none 0 0, .bool ok])) (hg : GAt w' g s') (ho : w.grownBy w' (some g)) : TickAns2 g s' [] ok w e w' :=
  ⟨none, 0, he, hg, World.ownsRow_nil _ _ _ _, hg.none_, ho⟩
/-- Idle, without alerts. -/
theorem tick_idle (g : Nat) (s : GS) (t : Int) (AL : Option Addr) (cl : Nat) (w : World) (h : GAt w g s) (h0 : s.st = 0) :
    Calls Try.prog 9 #[.pointer (some ⟨g, 0, none⟩), .int .i64 t, .slice AL 0 cl] w (TickAns2 g s [] false w) := by
  have HG := Lib.hid h
  obtain ⟨A, c, hk, _⟩ := h
  obtain ⟨⟨_, _, _, e3⟩, _⟩ := gcells hk
  rw [h0] at e3
  clear hk h0
  go_enter Try.func9, Try.ntmps9
  go_wp2_with fail
  go_ret2
  exact tickAns2_nil rfl HG.out (World.grownBy.refl _ _)
/-- Behind the waking: the group at block g has the state s1, not idle. -/
structure Awake (w0 : World) (g : Nat) (s1 : GS) (A : Option Addr) (c : Nat) (w : World) : Prop where
  blk : Blk w g 51 (s1.cells A c)
  last : Sees w w.heap.size 1 A s1.last.length (strs s1.last)
  ne : Typed w 9 A s1.last.length
  caps : s1.last.length ≤ c ∧ c ≤ 9223372036854775807
  only : w0.grownBy w (some g)
theorem Awake.at_ {w0 w : World} {g : Nat} {s1 : GS} {A : Option Addr} {c : Nat} (h : Awake w0 g s1 A c w) : GAt w g s1 := ⟨A, c, h.blk, h.last, h.ne, h.caps⟩
theorem sees_set {w : World} {B size n g : Nat} {A : Option Addr} {xs : List Value} (h : Sees w B size A n xs) (hne : ∀ ad, A = some ad → 0 < n → ad.block ≠ g) (i : Nat) (u : Value) : Sees (w.setCell ⟨g, i, none⟩ u) B size A n xs :=
  ⟨h.len, fun hn => by
    obtain ⟨ad, e, hb, hc⟩ := h.at_ hn
    have hb2 : (w.setCell ⟨g, i, none⟩ u).heap.size = w.heap.size := by simp
    refine ⟨ad, e, hb, fun j v hv => (World.cell?_setCell_other w ⟨g, i, none⟩ (ad.add j) u (fun e2 => hne ad e hn ?_)).trans (hc j v hv)⟩
    have := congrArg Addr.block e2
    rw [add_block] at this
    exact this.symm⟩
/-- A slice that is apart from block g stays when block g alone is written. -/
theorem Sees.grownX {w w' : World} {B size n g : Nat} {A : Option Addr} {xs : List Value} (h : Sees w B size A n xs) (hne : ∀ ad, A = some ad → 0 < n → ad.block ≠ g) (hB : B ≤ w.heap.size) (hg : w.grownBy w' (some g)) : Sees w' w'.heap.size size A n xs :=
  ⟨h.len, fun hn => by
    obtain ⟨ad, e, hb, hc⟩ := h.at_ hn
    have hs := hg.size
    refine ⟨ad, e, by omega, fun j v hv => (World.cell?_of_block (w := w) (a := ad.add j) ?_).trans (hc j v hv)⟩
    rw [add_block]
    exact hg.block ad.block (by omega) (fun e2 => hne ad e hn (by injection e2))⟩
theorem Awake.set {w0 w : World} {g : Nat} {s1 s2 : GS} {A : Option Addr} {c : Nat} (h : Awake w0 g s1 A c w) (i : Nat) (u : Value) (hl : s2.last = s1.last) (hc : s2.cells A c = (s1.cells A c).set i u) (hg : g < w0.heap.size) : Awake w0 g s2 A c (w.setCell ⟨g, i, none⟩ u) :=
  ⟨by rw [hc]; exact h.blk.set i u, by rw [hl]; simpa using sees_set h.last (h.ne.ne h.blk group_ne_string) i u, by rw [hl]; exact h.ne.set _ (h.ne.ne h.blk group_ne_string) u, by rw [hl]; exact h.caps, only_setCell h.only (.inl rfl) u⟩
theorem Awake.drewN {w0 w : World} {g : Nat} {s1 : GS} {A : Option Addr} {c : Nat} (h : Awake w0 g s1 A c w) (n : Nat) : Awake w0 g s1 A c (w.drewN n) := ⟨h.blk.drewN n, h.last.drewN n, h.ne, h.caps, only_drewN h.only n⟩
theorem Awake.below {w0 w w' : World} {g : Nat} {s1 : GS} {A : Option Addr} {c : Nat} (h : Awake w0 g s1 A c w) (hb : Below w.heap.size w w') : Awake w0 g s1 A c w' :=
  ⟨h.blk.below hb h.blk.lt, (h.last.below hb).more hb.size, h.ne.below hb (sees_lt h.last), h.caps, World.grownBy.trans h.only (only_of_below hb _)⟩
theorem tick_eq (s : GS) (t : Int) (al : List ByteArray) (h : ¬ (s.st = 0 ∧ al = [])) (hs : s.st ≠ 0 → I64 (t - s.since)) (hT : s.st = 2 → I64 (t - s.lastT)) :
    ∃ st1 si wa : Int, (s.wakes t) = ⟨s.wt, s.iv, s.rp, st1, si, wa, s.lastT, s.last⟩ ∧ st1 ≠ 0 ∧ I64 (t - si) ∧ (st1 = 2 → I64 (t - s.lastT)) ∧
      s.tick t al = if t - si < wa then (⟨s.wt, s.iv, s.rp, st1, si, wa, s.lastT, s.last⟩, [], false) else if al = [] then (GS.new s.wt s.iv s.rp, [], decide (st1 = 2))
        else if st1 = 2 ∧ al = s.last ∧ t - s.lastT < s.rp then (⟨s.wt, s.iv, s.rp, st1, t, s.iv, s.lastT, s.last⟩, [], false) else (⟨s.wt, s.iv, s.rp, 2, t, s.iv, t, al⟩, al, true) := by
  obtain ⟨wt, iv, rp, st, since, wait, lastT, last⟩ := s
  simp only at hs hT h
  by_cases h0 : st = 0
  · subst h0
    refine ⟨1, t, wt, by simp [GS.wakes], by omega, by unfold I64; omega, fun h => absurd h (by omega), ?_⟩
    unfold GS.tick
    rw [if_neg h]
    simp [GS.wakes, GS.looks]
  · refine ⟨st, since, wait, by simp [GS.wakes, h0], h0, hs h0, hT, ?_⟩
    unfold GS.tick
    rw [if_neg h]
    simp [GS.wakes, GS.looks, h0]
set_option maxHeartbeats 4000000 in
theorem tick_any2 (g : Nat) (s : GS) (t : Int) (AL : Option Addr) (nl cl : Nat) (al : List ByteArray) (w : World) (h : GAt w g s) (hal : Sees w w.heap.size 1 AL nl (strs al)) (hne : ∀ ad, AL = some ad → 0 < nl → ad.block ≠ g) (hnl : nl ≤ 1000000) (hcl : nl ≤ cl ∧ cl ≤ 9223372036854775807)
    (hs : s.st ≠ 0 → I64 (t - s.since)) (hT : s.st = 2 → I64 (t - s.lastT)) (hll : s.last.length ≤ 1000000) :
    Calls Try.prog 9 #[.pointer (some ⟨g, 0, none⟩), .int .i64 t, .slice AL nl cl] w (TickAns2 g (s.tick t al).1 (s.tick t al).2.1 (s.tick t al).2.2 w) := by
  have hlal := hal.str_len
  by_cases hidle : s.st = 0 ∧ al = []
  · have e : s.tick t al = (s, [], false) := by unfold GS.tick; rw [if_pos hidle]
    rw [e]
    obtain rfl : nl = 0 := by rw [← hlal, hidle.2]; rfl
    exact tick_idle g s t AL cl w h hidle.1
  · obtain ⟨st1, si, wa, hwk, hst1, hsi, hlt, htk⟩ := tick_eq s t al hidle hs hT
    have HTK := Lib.hid htk
    generalize s.tick t al = ans at *
    have hgs : g < w.heap.size := h.lt
    obtain ⟨wt, iv, rp, st, since, wait, lastT, last⟩ := s
    obtain ⟨A, c, hk, hs1, hs2, hs3⟩ := h
    have HA0 := Lib.hid (show Awake w g _ A c w from ⟨hk, hs1, hs2, hs3, World.grownBy.refl _ _⟩)
    obtain ⟨⟨e0, e1, e2, e3⟩, e4, e5, e6, e7⟩ := gcells hk
    have f3 := hk.frozen 3; have f4 := hk.frozen 4; have f5 := hk.frozen 5
    have HAL := Lib.hid hal; have HNE := Lib.hid hne; have HLAL := Lib.hid hlal
    have HLT := Lib.hid hlt
    simp only at e0 e1 e2 e3 e4 e5 e6 e7 hidle hll
    have HWK := Lib.hid hwk
    have HID := Lib.hid hidle
    unfold I64 at hsi
    clear hk hs1 hs2 hs3 hal hne hlal htk hs hT hwk hlt hidle
    go_enter Try.func9, Try.ntmps9
    go_upto_if 13 with (fail)
    go_cut [6, 7] (fun x6 x7 wx => Awake w g ⟨wt, iv, rp, st1, si, wa, lastT, last⟩ A c wx)
    case first =>
      by_cases h0 : st = 0
      · subst h0
        have hn0 : nl ≠ 0 := fun e => HID.out ⟨rfl, List.eq_nil_of_length_eq_zero (by rw [HLAL.out, e])⟩
        have b1 : ((nl : Int) == 0) = false := beq_eq_false_iff_ne.2 (by omega)
        have hE := HWK.out
        simp [GS.wakes] at hE
        obtain ⟨rfl, rfl, rfl⟩ := hE
        go_wp2_with fail
        go_meet
        exact ((HA0.out.set (s2 := ⟨wt, iv, rp, 1, since, wait, lastT, last⟩) 3 _ rfl rfl hgs).set (s2 := ⟨wt, iv, rp, 1, t, wait, lastT, last⟩) 4 _ rfl rfl hgs).set (s2 := ⟨wt, iv, rp, 1, t, wt, lastT, last⟩) 5 _ rfl rfl hgs
      · have b1 : (st == 0) = false := beq_eq_false_iff_ne.2 h0
        have hE := HWK.out
        simp [GS.wakes, h0] at hE
        obtain ⟨rfl, rfl, rfl⟩ := hE
        clear h0
        go_wp2_with fail
        go_meet
        exact HA0.out
    case rest =>
      have HA := Lib.hid hcut
      clear hcut HA0 HWK HID e0 e1 e2 e3 e4 e5 e6 e7 f3 f4 f5
      obtain ⟨⟨e0, e1, e2, e3⟩, e4, e5, e6, e7⟩ := gcells HA.out.blk
      have f0 := HA.out.blk.frozen 0; have f1 := HA.out.blk.frozen 1; have f2 := HA.out.blk.frozen 2; have f3 := HA.out.blk.frozen 3; have f4 := HA.out.blk.frozen 4; have f5 := HA.out.blk.frozen 5; have f6 := HA.out.blk.frozen 6; have f7 := HA.out.blk.frozen 7
      simp only at e0 e1 e2 e3 e4 e5 e6 e7
      have i1 : IntKind.i64.wrap (t - si) = t - si := IntWalk.i64_in _ (by omega)
      by_cases hw : t - si < wa
      · have HE := Lib.hid (show ans = (⟨wt, iv, rp, st1, si, wa, lastT, last⟩, [], false) by rw [HTK.out, if_pos hw])
        clear HTK HLT
        go_wp2_with fail
        go_quiet (fail)
        go_wp2_with fail
        go_ret2
        rw [HE.out]
        exact tickAns2_nil rfl (HA.out.drewN _).at_ (only_drewN HA.out.only _)
      · have hw2 : decide (t - si < wa) = false := by simpa using hw
        have HE := Lib.hid (HTK.out.trans (if_neg hw))
        clear HTK hw
        by_cases hn0 : nl = 0
        · subst hn0
          have h0 : al = [] := List.eq_nil_of_length_eq_zero HLAL.out
          have HE2 := Lib.hid (HE.out.trans (if_pos h0))
          clear HE h0 HNE HLT
          go_wp2_with fail
          go_quiet (fail)
          go_wp2_with fail
          go_ret2
          rw [HE2.out]
          have HB := Lib.hid ((((((((((HA.out.blk.drewN nq).set 4 (.int .i64 t)).set 5 (.int .i64 iv)).set 0 (.int .i64 wt)).set 1 (.int .i64 iv)).set 2 (.int .i64 rp)).set 3 (.int .i64 0)).set 4 (.int .i64 0)).set 5 (.int .i64 0)).set 6 (.int .i64 0))
          have HB2 := Lib.hid (HB.out.set 7 (.slice none 0 0))
          have HD : Hid (decide (st1 = 2) = (st1 == 2)) := Lib.hid (by
            by_cases h : st1 = 2
            · rw [h]; rfl
            · rw [decide_eq_false h, beq_eq_false_iff_ne.2 h])
          refine tickAns2_nil ?_ ?_ ?_
          · simp only [HD.out]; rfl
          · have hb := HB2.out
            simp only [GS.cells, List.set_cons_zero, List.set_cons_succ] at hb
            exact gat_new hb
          · have h1 := only_drewN HA.out.only nq
            exact only_set (only_set (only_set (only_set (only_set (only_set (only_set (only_set (only_set (only_set h1 4 _) 5 _) 0 _) 1 _) 2 _) 3 _) 4 _) 5 _) 6 _) 7 _
        · have hal0 : al ≠ [] := fun e => hn0 (by rw [← HLAL.out, e]; rfl)
          have HE2 := Lib.hid (HE.out.trans (if_neg hal0))
          have b1 : ((nl : Int) == 0) = false := beq_eq_false_iff_ne.2 (by omega)
          clear HE hal0
          go_wp2_with fail
          go_quiet (fail)
          go_upto_region 12 with fail
          have HA2 := Lib.hid (((HA.out.drewN nq).set (s2 := ⟨wt, iv, rp, st1, t, wa, lastT, last⟩) 4 (.int .i64 t) rfl rfl hgs).set (s2 := ⟨wt, iv, rp, st1, t, iv, lastT, last⟩) 5 (.int .i64 iv) rfl rfl hgs)
          have hal2 := HAL.out.below (Below.refl w.heap.size w)
          obtain ⟨W, hW⟩ : ∃ W, ((wc.drewN nq).setCell ⟨g, 4, none⟩ (.int .i64 t)).setCell ⟨g, 5, none⟩ (.int .i64 iv) = W := ⟨_, rfl⟩
          rw [hW] at HA2
          rw [hW]
          clear hW HA e0 e1 e2 e3 e4 e5 e6 e7 f0 f1 f2 f3 f4 f5 f6 f7 hw2 i1 hal2
          have HSA := Lib.hid (HAL.out.grownX HNE.out (Nat.le_refl _) HA2.out.only)
          obtain ⟨⟨e0, e1, e2, e3⟩, e4, e5, e6, e7⟩ := gcells HA2.out.blk
          simp only at e0 e1 e2 e3 e4 e5 e6 e7
          have HSL := Lib.hid HA2.out.last
          obtain ⟨stay, hstay⟩ : ∃ b, decide (st1 = 2 ∧ al = last ∧ t - lastT < rp) = b := ⟨_, rfl⟩
          have HST := Lib.hid hstay
          clear hstay
          go_cut [97] (fun x97 wx => x97 = .bool stay ∧ Awake w g ⟨wt, iv, rp, st1, t, iv, lastT, last⟩ A c wx)
          case first =>
            by_cases h2 : st1 = 2
            · have hlT := HLT.out h2
              unfold I64 at hlT
              subst h2
              have HEQ := Lib.hid (fun V (h1 : Sees V W.heap.size 1 AL nl (strs al)) (h2 : Sees V W.heap.size 1 A last.length (strs last)) => equal_str AL A nl cl last.length c _ _ al last V h1 h2 (by omega) (by omega))
              by_cases hq : al = last
              · have HR := Lib.hid (show stay = decide (t - lastT < rp) by rw [← HST.out]; simp [hq])
                rw [decide_eq_true hq] at HEQ
                have i2 : IntKind.i64.wrap (t - lastT) = t - lastT := IntWalk.i64_in _ (by omega)
                clear HST hq
                go_quiet ((refine ((HEQ.out _ (HSA.out.drewN _) (HSL.out.drewN _)).mono fun e w'' hh => ⟨hh.1, ?_⟩); obtain ⟨m, rfl⟩ := hh.2; exact ⟨_, World.drewN_drewN _ _ _⟩))
                go_wp2_with fail
                go_meet
                exact ⟨by rw [HR.out], HA2.out.drewN _⟩
              · have HR := Lib.hid (show stay = false by rw [← HST.out]; simp [hq])
                rw [decide_eq_false hq] at HEQ
                clear HST hq
                go_quiet ((refine ((HEQ.out _ (HSA.out.drewN _) (HSL.out.drewN _)).mono fun e w'' hh => ⟨hh.1, ?_⟩); obtain ⟨m, rfl⟩ := hh.2; exact ⟨_, World.drewN_drewN _ _ _⟩))
                go_wp2_with fail
                go_meet
                exact ⟨by rw [HR.out], HA2.out.drewN _⟩
            · have b2 : (st1 == 2) = false := beq_eq_false_iff_ne.2 h2
              have HR := Lib.hid (show stay = false by rw [← HST.out]; simp [h2])
              clear HST h2
              go_quiet (fail)
              go_wp2_with fail
              go_meet
              exact ⟨by rw [HR.out], HA2.out.drewN _⟩
          case rest =>
            obtain ⟨rfl, hAw⟩ := hcut
            have HA := Lib.hid hAw
            clear hAw HA2 HSA HSL e0 e1 e2 e3 e4 e5 e6 e7
            cases stay with
            | true =>
              have HE3 := Lib.hid (HE2.out.trans (if_pos (of_decide_eq_true HST.out)))
              clear HE2 HST
              go_wp2_with fail
              go_ret2
              rw [HE3.out]
              exact tickAns2_nil rfl HA.out.at_ HA.out.only
            | false =>
              have HE3 := Lib.hid (HE2.out.trans (if_neg (of_decide_eq_false HST.out)))
              clear HE2 HST
              have hlen := HLAL.out
              subst hlen
              have HSA := Lib.hid (HAL.out.grownX HNE.out (Nat.le_refl _) HA.out.only)
              have hgc : g < wc.heap.size := HA.out.blk.lt
              go_wp2_with fail
              (with_reducible refine (clone_str AL al.length cl _ al _ HSA.out (Nat.le_refl _) hnl).mono ?_); rintro e w3 ⟨A3, c3, rfl, ho3, hb3, hc3, hd3⟩
              have HA3 := Lib.hid (HA.out.below hb3)
              obtain ⟨⟨e0, e1, e2, e3⟩, e4, e5, e6, e7⟩ := gcells HA3.out.blk
              simp only at e0 e1 e2 e3 e4 e5 e6 e7
              have f3 := HA3.out.blk.frozen 3; have f6 := HA3.out.blk.frozen 6; have f7 := HA3.out.blk.frozen 7
              have HAL3 := Lib.hid (HSA.out.below hb3)
              have HS3 := Lib.hid (Sees.of_own ho3)
              have hs3 := hb3.size
              have HT3 := Lib.hid (Typed.of_own ho3)
              have HF3 := Lib.hid (HT3.out.ne HA3.out.blk group_ne_string)
              clear HA ho3 hb3
              have hBK := ((HA3.out.blk.set 3 (.int .i64 2)).set 6 (.int .i64 t)).set 7 (.slice A3 al.length c3)
              have HBK := Lib.hid (show Blk (((w3.setCell ⟨g, 3, none⟩ (.int .i64 2)).setCell ⟨g, 6, none⟩ (.int .i64 t)).setCell ⟨g, 7, none⟩ (.slice A3 al.length c3)) g 51 ((GS.mk wt iv rp 2 t iv t al).cells A3 c3) from hBK)
              have HON := Lib.hid (only_set (only_set (only_set HA3.out.only 3 (.int .i64 2)) 6 (.int .i64 t)) 7 (.slice A3 al.length c3))
              have HS6 := Lib.hid (sees_set (sees_set (sees_set HS3.out HF3.out 3 (.int .i64 2)) HF3.out 6 (.int .i64 t)) HF3.out 7 (.slice A3 al.length c3))
              have HAL6 := Lib.hid (sees_set (sees_set (sees_set HAL3.out HNE.out 3 (.int .i64 2)) HNE.out 6 (.int .i64 t)) HNE.out 7 (.slice A3 al.length c3))
              have HT6 := Lib.hid (((HT3.out.set ⟨g, 3, none⟩ HF3.out (.int .i64 2)).set ⟨g, 6, none⟩ HF3.out (.int .i64 t)).set ⟨g, 7, none⟩ HF3.out (.slice A3 al.length c3))
              clear hBK HA3 HS3 HAL3
              go_wp2_with fail
              (with_reducible refine (clone_str AL al.length cl wc.heap.size al _ HAL6.out (by simpa using hs3) hnl).mono ?_); rintro e w4 ⟨A4, c4, rfl, ho4, hb4, hc4, hd4⟩
              have HBK4 := Lib.hid (HBK.out.below hb4 HBK.out.lt)
              have HON4 := Lib.hid (World.grownBy.trans HON.out (only_of_below hb4 _))
              have HS4 := Lib.hid ((HS6.out.more (B' := (((w3.setCell ⟨g, 3, none⟩ (.int .i64 2)).setCell ⟨g, 6, none⟩ (.int .i64 t)).setCell ⟨g, 7, none⟩ (.slice A3 al.length c3)).heap.size) (by simp)).below hb4)
              have HT4 := Lib.hid (HT6.out.below hb4 (by simpa using sees_lt HS6.out))
              have hz4 := hb4.size
              have HBKL := Lib.hid HBK.out.lt
              have HWS := Lib.hid (show w.heap.size ≤ w3.heap.size from HON.out.size |> (by simpa using ·))
              clear HBK HON HS6 HAL6 hb4
              have HO4 := Lib.hid ho4
              clear ho4
              go_wp2_with fail
              go_ret2
              rw [HE3.out]
              have hbw : w.heap.size ≤ (((w3.setCell ⟨g, 3, none⟩ (.int .i64 2)).setCell ⟨g, 6, none⟩ (.int .i64 t)).setCell ⟨g, 7, none⟩ (.slice A3 al.length c3)).heap.size := by have := HWS.out; simpa using this
              refine ⟨A4, c4, rfl, ⟨A3, c3, HBK4.out, HS4.out.more hz4, HT4.out, hc3, hd3⟩, own_mono HO4.out hbw, fun w2 ho2 => ?_, HON4.out⟩
              have hlt4 : ∀ y, (Value.slice A4 al.length c4).ownBlock = some y → (((w3.setCell ⟨g, 3, none⟩ (.int .i64 2)).setCell ⟨g, 6, none⟩ (.int .i64 t)).setCell ⟨g, 7, none⟩ (.slice A3 al.length c3)).heap.size ≤ y := fun y hy => (HO4.out.lt y hy).1
              have hb2 : Below (((w3.setCell ⟨g, 3, none⟩ (.int .i64 2)).setCell ⟨g, 6, none⟩ (.int .i64 t)).setCell ⟨g, 7, none⟩ (.slice A3 al.length c3)).heap.size w4 w2 := (Below.refl _ _).grown ho2 hz4 hlt4
              exact ⟨A3, c3, HBK4.out.below hb2 HBKL.out, (HS4.out.below hb2).more (Nat.le_trans hz4 ho2.size), HT4.out.below hb2 (sees_lt HS4.out), hc3, hd3⟩
theorem tick_any (g : Nat) (s : GS) (t : Int) (AL : Option Addr) (nl cl : Nat) (al : List ByteArray) (w : World) (h : GAt w g s) (hal : Sees w w.heap.size 1 AL nl (strs al)) (hne : ∀ ad, AL = some ad → 0 < nl → ad.block ≠ g) (hnl : nl ≤ 1000000) (hcl : nl ≤ cl ∧ cl ≤ 9223372036854775807)
    (hs : s.st ≠ 0 → I64 (t - s.since)) (hT : s.st = 2 → I64 (t - s.lastT)) (hll : s.last.length ≤ 1000000) :
    Calls Try.prog 9 #[.pointer (some ⟨g, 0, none⟩), .int .i64 t, .slice AL nl cl] w (TickAns g (s.tick t al).1 (s.tick t al).2.1 (s.tick t al).2.2 w) :=
  (tick_any2 g s t AL nl cl al w h hal hne hnl hcl hs hT hll).mono fun _ _ h => h.ans
end Go.Proofs.Ytjcbigkmmjcmdaa
