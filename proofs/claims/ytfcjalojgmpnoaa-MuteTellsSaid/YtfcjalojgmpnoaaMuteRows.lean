/- Own rows of own lists of labels; mute.Heard, mute.Right. -/
import Derived.Test.YtfcjalojgmpnoaaMute2
import Derived.Test.YtfcjalojgmpnoaaOwnNe
namespace Go.Proofs.Ytfcjalojgmpnoaa
open Go.ChangeShapes Go.WideShapes Go.ChangeAt Go.RowKit
set_option linter.unusedVariables false
set_option maxRecDepth 100000
theorem Try.infoLbls : (Try.prog.info? 24).map (fun i => (i.zero, i.size, i.bytes)) = some (some (.slice none 0 0), 1, 24) := by kernel_rfl
/-- A list of labels in a block of labels. -/
def OwnL (w : World) (v : Value) (l : List Lbl) : Prop := ∃ A c, v = .slice A l.length c ∧ w.ownsRow 0 23 2 (.slice A l.length c) l.length (lbls l)
theorem OwnL.hasL {w : World} {v : Value} {l : List Lbl} (h : OwnL w v l) : HasL w v l := by
  obtain ⟨A, c, rfl, h2⟩ := h
  obtain ⟨A', c', h3, h4, h5⟩ := own_slice h2
  injection h3 with h3 _ h6; subst h3; subst h6
  exact ⟨A, c, rfl, Sees.of_own h2, h4, h5⟩
theorem OwnL.below {w w' : World} {v : Value} {l : List Lbl} (h : OwnL w v l) (hb : Below w.heap.size w w') : OwnL w' v l := by
  obtain ⟨A, c, rfl, h2⟩ := h
  exact ⟨A, c, rfl, own_below h2 hb (Nat.le_refl _)⟩
theorem OwnL.stays {w : World} {v : Value} {l : List Lbl} (h : OwnL w v l) : Stays (fun W => OwnL W v l) w := fun _ hb => h.below hb
theorem ownL_of {l : List Lbl} {w w' : World} {e : Ending} (h : OwnAns 23 2 l.length (lbls l) w e w') : ∃ A c, e = .returned (.slice A l.length c) ∧ OwnL w' (.slice A l.length c) l ∧ Below w.heap.size w w' := by
  obtain ⟨A, c, h1, h2, h3, _⟩ := h
  exact ⟨A, c, h1, ⟨A, c, rfl, own_mono h2 (Nat.zero_le _)⟩, h3⟩
structure OwnRows (base : Nat) (v : Value) (rows : List (Value × List Lbl)) (w : World) : Prop where
  own : w.ownsRow base 24 1 v rows.length (rows.map Prod.fst)
  each : ∀ x ∈ rows, OwnL w x.1 x.2
theorem OwnRows.below {base : Nat} {v : Value} {rows : List (Value × List Lbl)} {w w' : World} (h : OwnRows base v rows w) (hb : Below w.heap.size w w') : OwnRows base v rows w' := ⟨own_below h.own hb (Nat.le_refl _), fun x hx => (h.each x hx).below hb⟩
theorem OwnRows.stays {base : Nat} {v : Value} {rows : List (Value × List Lbl)} {w : World} (h : OwnRows base v rows w) : Stays (fun W => OwnRows base v rows W) w := fun _ hb => h.below hb
theorem OwnRows.nil (base : Nat) (w : World) : OwnRows base (.slice none 0 0) [] w := ⟨by simpa using World.ownsRow_nil w base 24 1, (fun x hx => absurd hx List.not_mem_nil)⟩
theorem OwnRows.push {base : Nat} {v v' x : Value} {l : List Lbl} {rows : List (Value × List Lbl)} {w w' : World} (h : OwnRows base v rows w) (hx : OwnL w x l) (hown : w'.ownsRow base 24 1 v' (rows.length + 1) (rows.map Prod.fst ++ [x])) (hg : w.grownBy w' v.ownBlock) : OwnRows base v' (rows ++ [(x, l)]) w' := by
  have key : ∀ y m, OwnL w y m → OwnL w' y m := by
    rintro y m ⟨A, c, rfl, h2⟩
    exact ⟨A, c, rfl, own_grown h2 hg (own_ne h2 h.own (by decide))⟩
  refine ⟨by simpa using hown, fun y hy => ?_⟩
  rcases List.mem_append.1 hy with hy | hy
  · exact key _ _ (h.each y hy)
  · rw [List.mem_singleton] at hy; subst hy; exact key _ _ hx
theorem OwnRows.sets {base n c : Nat} {A : Option Addr} {rows : List (Value × List Lbl)} {w : World} (h : OwnRows base (.slice A n c) rows w) : SetsAt w A rows.length rows := by
  have h1 := h.own
  obtain ⟨A', c', h3, h4, h5⟩ := own_slice h1
  injection h3 with h3 h6 h7; subst h6
  exact ⟨Sees.of_own h1, fun x hx => (h.each x hx).hasL⟩
theorem OwnRows.mono {base base' : Nat} {v : Value} {rows : List (Value × List Lbl)} {w : World} (h : OwnRows base v rows w) (hb : base' ≤ base) : OwnRows base' v rows w := ⟨own_mono h.own hb, h.each⟩
/-- The sets of rows. -/
def setsOf (rows : List (Value × List Lbl)) : List (List Lbl) := rows.map Prod.snd
theorem setsOf_push (rows : List (Value × List Lbl)) (v : Value) (l : List Lbl) : setsOf (rows ++ [(v, l)]) = setsOf rows ++ [l] := by simp [setsOf]
/-- A call answers new rows of these sets. -/
def RowsAns (sets : List (List Lbl)) (w : World) (e : Ending) (w' : World) : Prop := ∃ A c rows, setsOf rows = sets ∧ e = .returned (.slice A rows.length c) ∧ OwnRows w.heap.size (.slice A rows.length c) rows w' ∧ Below w.heap.size w w' ∧ rows.length ≤ c ∧ c ≤ 9223372036854775807
theorem filter_more {α : Type} {l : List α} {k : Nat} (hk : k < l.length) (p : α → Bool) : (l.take (k + 1)).filter p = (l.take k).filter p ++ (if p l[k] = true then [l[k]] else []) := by
  rw [List.take_succ_eq_append_getElem hk, List.filter_append]
  congr 1
  by_cases h : p l[k] = true
  · rw [if_pos h]; simp [h]
  · rw [if_neg h]; simp at h; simp [h]
set_option maxHeartbeats 4000000 in
theorem heard_any (A : Option Addr) (n c : Nat) (all : List (Value × List Lbl)) (t : Int) (A2 : Option Addr) (n2 c2 : Nat) (ss : List Sil) (A3 : Option Addr) (n3 c3 : Nat) (hs : List Inh) (w : World) (hA : SetsAt w A n all) (hS : SilsAt w A2 n2 ss) (hH : InhsAt w A3 n3 hs) (hn : n ≤ 1000) (hn2 : n2 ≤ 9223372036854775807) (hn3 : n3 ≤ 9223372036854775807) (hsz : ∀ x ∈ all, x.2.length ≤ 1000) :
    Calls Try.prog 10 #[.slice A n c, .int .i64 t, .slice A2 n2 c2, .slice A3 n3 c3] w (RowsAns (heardF (setsOf all) t ss hs) w) := by
  obtain ⟨i0, hi0, hz0, hz1, hz2⟩ := info_parts Try.infoLbls
  have HLA := Lib.hid hA.len
  have HT := Lib.hid ((((Kept.start w).add hH.stays).add hS.stays).add hA.stays)
  clear hA hS hH
  go_enter Try.func10, Try.ntmps10
  go_wp2_with fail
  go_loopg [9, 14] n (fun g x9 x14 wr => ∃ (k : Nat) (X : Option Addr) (cx : Nat) (rows : List (Value × List Lbl)), k + g = n ∧ x14 = .int .i64 k ∧ x9 = .slice X rows.length cx ∧ OwnRows w.heap.size (.slice X rows.length cx) rows wr ∧ Below w.heap.size w wr ∧ rows.length ≤ k ∧ setsOf rows = ((setsOf all).take k).filter (hearOne (setsOf all) t ss hs))
  case atStart => exact ⟨0, none, 0, [], by omega, rfl, rfl, OwnRows.nil _ _, Below.refl _ _, by simp, by simp [setsOf]⟩
  case round =>
    obtain ⟨k, X, cx, rows, hkg, rfl, rfl, hrow, hbel, hrl, hrs⟩ := hrel
    have HR := Lib.hid hrow; have HB := Lib.hid hbel; have HS := Lib.hid hrs
    have hws := hbel.size
    clear hrow hbel hrs
    cases gk with
    | zero =>
      obtain rfl : k = n := by omega
      have HE := Lib.hid (show setsOf rows = heardF (setsOf all) t ss hs by
        rw [HS.out, List.take_of_length_le (by rw [setsOf, List.length_map, HLA.out]; exact Nat.le_refl _)]; rfl)
      obtain ⟨X', cx', h1, h2, h3⟩ := own_slice HR.out.own
      injection h1 with h1 _ h4; subst h1; subst h4
      go_wp2_with fail
      go_ret
      exact ⟨X, cx, rows, HE.out, rfl, HR.out, HB.out, h2, h3⟩
    | succ g =>
      have hlt : k < n := by omega
      have hkl : k < all.length := by rw [HLA.out]; exact hlt
      have HTR := Lib.hid (HT.out.below HB.out)
      obtain ⟨ad, _, hAe, e0⟩ := HTR.out.p0.get hlt
      subst hAe
      have hm := HTR.out.p0.each all[k] (List.getElem_mem _)
      have hsl := hsz all[k] (List.getElem_mem _)
      have HF := Lib.hid (show ((setsOf all).take (k + 1)).filter (hearOne (setsOf all) t ss hs) = ((setsOf all).take k).filter (hearOne (setsOf all) t ss hs) ++ (if hearOne (setsOf all) t ss hs all[k].2 = true then [all[k].2] else []) by
        have h := filter_more (l := setsOf all) (k := k) (by rw [setsOf, List.length_map]; exact hkl) (hearOne (setsOf all) t ss hs)
        rw [show (setsOf all)[k]'(by rw [setsOf, List.length_map]; exact hkl) = all[k].2 by simp [setsOf]] at h
        exact h)
      have HI := Lib.hid (fun V (h1 : SetsAt V (some ad) n all) (h2 : InhsAt V A3 n3 hs) => inhibited_any (some ad) n c all k A3 n3 c3 hs V h1 h2 (by omega) hn3 hkl)
      generalize all[k] = p at *
      obtain ⟨v, l⟩ := p
      simp only at e0 hm hsl HF
      obtain ⟨A0, c0, rfl⟩ := hm.form
      have HSI := Lib.hid (fun V (h1 : HasL V (.slice A0 l.length c0) l) (h2 : SilsAt V A2 n2 ss) => silenced_any (.slice A0 l.length c0) l t A2 n2 c2 ss V h1 h2 hn2)
      have HTR_n := Lib.hid (((HT.out.below HB.out).add hm.stay).add HR.out.stays); clear HTR; have HTR := HTR_n; clear HTR_n
      have HH : Hid (hearOne (setsOf all) t ss hs l = (!silF l t ss && !inhF (all.map Prod.snd) l hs)) := Lib.hid rfl
      have HI2 : Hid (∀ V, SetsAt V (some ad) n all → InhsAt V A3 n3 hs → Calls Try.prog 8 #[.slice (some ad) n c, .int .i64 k, .slice A3 n3 c3] V fun e w' => e = .returned (.bool (inhF (all.map Prod.snd) l hs)) ∧ Below V.heap.size V w') := Lib.hid HI.out
      clear hm HI HR
      generalize silF l t ss = sl at *
      generalize inhF (all.map Prod.snd) l hs = nh at *
      have HW := Lib.hid (HTR.out.bel)
      cases sl with
      | true =>
        have HN := Lib.hid (show setsOf rows = ((setsOf all).take (k + 1)).filter (hearOne (setsOf all) t ss hs) by rw [HF.out, HH.out]; simpa using HS.out)
        clear HF HH HS
        go_wp2_with fail
        (with_reducible refine (HSI.out _ HTR.out.p1 HTR.out.p3).mono ?_); rintro e wq ⟨rfl, hbq⟩
        have HTR_n := Lib.hid (HTR.out.below hbq); clear HTR hbq; have HTR := HTR_n; clear HTR_n
        go_wp2_with fail
        go_roundg g
        case measure => omega
        case rel => exact ⟨k + 1, X, cx, rows, by omega, by go_num, rfl, HTR.out.p0, HTR.out.bel, by omega, HN.out⟩
      | false =>
        cases nh with
        | true =>
          have HN := Lib.hid (show setsOf rows = ((setsOf all).take (k + 1)).filter (hearOne (setsOf all) t ss hs) by rw [HF.out, HH.out]; simpa using HS.out)
          clear HF HH HS
          go_wp2_with fail
          (with_reducible refine (HSI.out _ HTR.out.p1 HTR.out.p3).mono ?_); rintro e wq ⟨rfl, hbq⟩
          have HTR_n := Lib.hid (HTR.out.below hbq); clear HTR hbq; have HTR := HTR_n; clear HTR_n
          go_wp2_with fail
          (with_reducible refine (HI2.out _ HTR.out.p2 HTR.out.p4).mono ?_); rintro e wq ⟨rfl, hbq⟩
          have HTR_n := Lib.hid (HTR.out.below hbq); clear HTR hbq; have HTR := HTR_n; clear HTR_n
          go_wp2_with fail
          go_roundg g
          case measure => omega
          case rel => exact ⟨k + 1, X, cx, rows, by omega, by go_num, rfl, HTR.out.p0, HTR.out.bel, by omega, HN.out⟩
        | false =>
          have HN := Lib.hid (show setsOf rows ++ [l] = ((setsOf all).take (k + 1)).filter (hearOne (setsOf all) t ss hs) by rw [HF.out, HH.out, HS.out]; simp)
          clear HF HH HS
          go_wp2_with fail
          (with_reducible refine (HSI.out _ HTR.out.p1 HTR.out.p3).mono ?_); rintro e wq ⟨rfl, hbq⟩
          have HTR_n := Lib.hid (HTR.out.below hbq); clear HTR hbq; have HTR := HTR_n; clear HTR_n
          go_wp2_with fail
          (with_reducible refine (HI2.out _ HTR.out.p2 HTR.out.p4).mono ?_); rintro e wq ⟨rfl, hbq⟩
          have HTR_n := Lib.hid (HTR.out.below hbq); clear HTR hbq; have HTR := HTR_n; clear HTR_n
          go_wp2_with fail
          (with_reducible refine (clone_lbl A0 l.length c0 _ l _ HTR.out.p1.sees (Nat.le_refl _) (by omega)).mono ?_); rintro e wq hcl
          obtain ⟨A5, c5, rfl, hol, hbq⟩ := ownL_of hcl
          have HTR_n := Lib.hid (HTR.out.below hbq); clear HTR; have HTR := HTR_n; clear HTR_n
          clear hcl hbq
          have HRW := Lib.hid (HTR.out.p0.below ((Below.refl _ wq).alloc (Nat.le_refl _) (.cells #[.slice A5 l.length c5] 24)))
          have HOL := Lib.hid (hol.below ((Below.refl _ wq).alloc (Nat.le_refl _) (.cells #[.slice A5 l.length c5] 24)))
          have HX := Lib.hid (show Sees (wq.alloc (.cells #[.slice A5 l.length c5] 24)) (wq.alloc (.cells #[.slice A5 l.length c5] 24)).heap.size 1 (some ⟨wq.heap.size, 0, none⟩) 1 [.slice A5 l.length c5] from (Blk.mk (heap_alloc_new wq _) : Blk _ wq.heap.size 24 [.slice A5 l.length c5]).sees rfl (List.prefix_refl _))
          have HBA := Lib.hid (HTR.out.bel.alloc HTR.out.bel.size (.cells #[.slice A5 l.length c5] 24))
          have hsq := HTR.out.bel.size
          have hbx : ∀ g, (Value.slice X rows.length cx).ownBlock = some g → w.heap.size ≤ g := fun g hg => (HRW.out.own.lt g hg).1
          have HBX := Lib.hid hbx
          clear hbx hol HTR
          go_wp2_with (at_builtin; refine wpList_append_at rfl (.tmp 31) (.tmp 34) 32 rfl w.heap.size 24 i0 (.slice none 0 0) 1 24 Try.underlying32 hi0 hz0 hz1 hz2 rfl (by decide) (.slice X rows.length cx) rows.length (rows.map Prod.fst) rfl HRW.out.own _ _ 1 1 [.slice A5 l.length c5] rfl HX.out (by intro u hu; rw [List.mem_singleton] at hu; subst hu; rfl) (by unfold maxLen; omega) (by omega) (by simp; omega) ?_)
          intro v3 w3 hown3 hgr3 hwh3
          obtain ⟨A6, c6, rfl, hc3, hc4⟩ := own_slice hown3
          have HRN := Lib.hid (HRW.out.push HOL.out hown3 hgr3)
          have HB3 := Lib.hid (HBA.out.grown hgr3 (by simp; omega) HBX.out)
          clear hown3 hgr3 hwh3 HX HBA HBX
          have HLN := Lib.hid (show (rows ++ [(Value.slice A5 l.length c5, l)]).length = rows.length + 1 by simp)
          go_wp2_with fail
          go_roundg g
          case measure => omega
          case rel => exact ⟨k + 1, A6, c6, rows ++ [(.slice A5 l.length c5, l)], by omega, by go_num, by rw [HLN.out], by rw [HLN.out]; exact HRN.out, HB3.out, by rw [HLN.out]; omega, by rw [setsOf_push]; exact HN.out⟩
end Go.Proofs.Ytfcjalojgmpnoaa
