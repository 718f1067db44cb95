/- store.Sets once more: each set handed out lies in a block of its own. -/
import Derived.Test.YthbinnbnmckmfaaStoreRd
namespace Go.Proofs.Ythbinnbnmckmfaa
open Go.ChangeShapes Go.WideShapes Go.ChangeAt Go.RowKit
set_option linter.unusedVariables false
set_option maxRecDepth 100000
structure SetRows (base : Nat) (v : Value) (rows : List (Value × List Lbl)) (w : World) : Prop where
  own : w.ownsRow base 26 1 v rows.length (rows.map Prod.fst)
  each : ∀ x ∈ rows, w.ownsRow base 25 2 x.1 x.2.length (lbls x.2)
  apart : rows.Pairwise fun x y => ∀ k, x.1.ownBlock = some k → y.1.ownBlock ≠ some k
theorem SetRows.below {base : Nat} {v : Value} {rows : List (Value × List Lbl)} {w w' : World} (h : SetRows base v rows w) (hb : Below w.heap.size w w') : SetRows base v rows w' := ⟨own_below h.own hb (Nat.le_refl _), fun x hx => own_below (h.each x hx) hb (Nat.le_refl _), h.apart⟩
theorem SetRows.nil (base : Nat) (w : World) : SetRows base (.slice none 0 0) [] w := ⟨by simpa using World.ownsRow_nil w base 26 1, (fun x hx => absurd hx List.not_mem_nil), List.Pairwise.nil⟩
theorem SetRows.push {base : Nat} {v v' x : Value} {l : List Lbl} {rows : List (Value × List Lbl)} {w w' : World} (h : SetRows base v rows w) (hx : w.ownsRow base 25 2 x l.length (lbls l)) (ha : ∀ y ∈ rows, ∀ k, y.1.ownBlock = some k → x.ownBlock ≠ some k) (hown : w'.ownsRow base 26 1 v' (rows.length + 1) (rows.map Prod.fst ++ [x])) (hg : w.grownBy w' v.ownBlock) : SetRows base v' (rows ++ [(x, l)]) w' := by
  have key : ∀ (y : Value) (m : List Lbl), w.ownsRow base 25 2 y m.length (lbls m) → w'.ownsRow base 25 2 y m.length (lbls m) := fun y m h2 => own_grown h2 hg (own_ne h2 h.own (by decide))
  refine ⟨by simpa using hown, fun y hy => ?_, ?_⟩
  · rcases List.mem_append.1 hy with hy | hy
    · exact key _ _ (h.each y hy)
    · rw [List.mem_singleton] at hy; subst hy; exact key _ _ hx
  · rw [List.pairwise_append]
    exact ⟨h.apart, List.pairwise_singleton _ _, fun y hy z hz => by rw [List.mem_singleton] at hz; subst hz; exact ha y hy⟩
def SetsAns (sets : List (List Lbl)) (w : World) (e : Ending) (w' : World) : Prop := ∃ A c rows, setsOf rows = sets ∧ e = .returned (.slice A rows.length c) ∧ SetRows w.heap.size (.slice A rows.length c) rows w' ∧ Below w.heap.size w w' ∧ rows.length ≤ c ∧ c ≤ 9223372036854775807
set_option maxHeartbeats 2000000 in
theorem sets_any2 (g : Nat) (v : Value) (L : List SR) (w : World) (h : StAt g v L w) (hn : L.length ≤ 1000) (hsl : ∀ x ∈ L, x.set.length ≤ 1000) :
    Calls Try.prog 13 #[.pointer (some ⟨g, 0, none⟩)] w (SetsAns ((keys L).map Prod.fst) w) := by
  obtain ⟨i0, hi0, hz0, hz1, hz2⟩ := info_parts Try.infoLbls
  obtain ⟨A, c, rfl, hc1, hc2⟩ := own_slice h.rows
  have hc0 : w.cell? ⟨g, 0, none⟩ = some (.slice A L.length c) := h.box.cell 0
  have hg := h.box.lt
  have HT : Hid (∀ V, Below w.heap.size w V → StAt g _ L V) := Lib.hid fun V hV => h.below hV; clear h
  obtain ⟨m, hm⟩ : ∃ m, L.length = m := ⟨_, rfl⟩
  have HM := Lib.hid hm
  rw [hm] at hc0 hc1 hn HT
  clear hm
  have HC0 : Hid (∀ V, Below w.heap.size w V → V.cell? ⟨g, 0, none⟩ = some (.slice A m c)) := Lib.hid fun V hV => (HT.out V hV).box.cell 0
  go_enter Try.func13, Try.ntmps13
  go_wp2_with fail
  go_loopg [3, 10] m (fun gg x3 x10 wr => ∃ (k : Nat) (X : Option Addr) (cx : Nat) (rows : List (Value × List Lbl)), k + gg = m ∧ x10 = .int .i64 k ∧ x3 = .slice X rows.length cx ∧ SetRows w.heap.size (.slice X rows.length cx) rows wr ∧ Below w.heap.size w wr ∧ rows.length = k ∧ setsOf rows = ((keys L).map Prod.fst).take k)
  case atStart => exact ⟨0, none, 0, [], by omega, rfl, rfl, SetRows.nil _ _, Below.refl _ _, by simp, by simp [setsOf]⟩
  case round =>
    obtain ⟨k, X, cx, rows, hkg, rfl, rfl, hrow, hbel, hrl, hrs⟩ := hrel
    have HR := Lib.hid hrow; have HB := Lib.hid hbel; have HS := Lib.hid hrs; have HRL := Lib.hid hrl
    have hws := hbel.size
    have hd0 := HC0.out _ hbel
    have hgw : g < wr.heap.size := by omega
    clear hrow hbel hrs hrl
    cases gk with
    | zero =>
      obtain rfl : k = m := by omega
      have HE := Lib.hid (show setsOf rows = (keys L).map Prod.fst by rw [HS.out, List.take_of_length_le (by rw [List.length_map, keys_length, HM.out]; exact Nat.le_refl _)])
      obtain ⟨X', cx', h1, h2, h3⟩ := own_slice HR.out.own
      injection h1 with h1 _ h4; subst h1; subst h4
      go_wp2_with fail
      go_ret
      exact ⟨X, cx, rows, HE.out, rfl, HR.out, HB.out, h2, h3⟩
    | succ gg =>
      have hlt : k < m := by omega
      have hkl : k < L.length := by rw [HM.out]; exact hlt
      have hrk : rows.length ≤ 1000 := by have := HRL.out; omega
      obtain ⟨ad, hA, hal, c0, c1, _, hl⟩ := (HT.out _ HB.out).row hkl
      subst hA
      have hlen := hsl L[k] (List.getElem_mem _)
      have HF := Lib.hid (show ((keys L).map Prod.fst).take (k + 1) = ((keys L).map Prod.fst).take k ++ [L[k].set] by
        rw [List.take_succ_eq_append_getElem (by rw [List.length_map, keys_length]; exact hkl)]
        congr 2
        rw [List.getElem_map, keys_get hkl])
      clear c0
      generalize L[k].set = l at *
      generalize L[k].sv = sv at *
      obtain ⟨A0, c0, rfl⟩ := hl.form
      have HL := Lib.hid hl; clear hl
      have HN := Lib.hid (show setsOf rows ++ [l] = ((keys L).map Prod.fst).take (k + 1) by rw [HF.out, HS.out])
      clear HF HS
      go_wp2_with fail
      (with_reducible refine (clone_lbl A0 l.length c0 _ l _ HL.out.slice.1 (Nat.le_refl _) (by omega)).mono ?_); rintro e wq ⟨A5, c5, rfl, hown5, hbq, _, _⟩
      have hol := own_mono hown5 hws
      have HAP : Hid (∀ y ∈ rows, ∀ k, y.1.ownBlock = some k → (Value.slice A5 l.length c5).ownBlock ≠ some k) := Lib.hid fun y hy k h1 h2 => by have := (HR.out.each y hy).lt k h1; have := hown5.lt k h2; omega
      have hsq := hbq.size
      have HBQ := Lib.hid (HB.out.trans (hbq.mono hws))
      have HRW := Lib.hid ((HR.out.below hbq).below ((Below.refl _ wq).alloc (Nat.le_refl _) (.cells #[.slice A5 l.length c5] 26)))
      have HOL := Lib.hid (own_below hol ((Below.refl _ wq).alloc (Nat.le_refl _) (.cells #[.slice A5 l.length c5] 26)) (Nat.le_refl _))
      have HX := Lib.hid (show Sees (wq.alloc (.cells #[.slice A5 l.length c5] 26)) (wq.alloc (.cells #[.slice A5 l.length c5] 26)).heap.size 1 (some ⟨wq.heap.size, 0, none⟩) 1 [.slice A5 l.length c5] from (Blk.mk (heap_alloc_new wq _) : Blk _ wq.heap.size 26 [.slice A5 l.length c5]).sees rfl (List.prefix_refl _))
      have HBA := Lib.hid (HBQ.out.alloc (by omega) (.cells #[.slice A5 l.length c5] 26))
      have HBX : Hid (∀ g, (Value.slice X rows.length cx).ownBlock = some g → w.heap.size ≤ g) := Lib.hid fun g hg => (HRW.out.own.lt g hg).1
      clear hol hown5 hbq HR HB
      go_wp2_with (at_builtin; refine wpList_append_at rfl (.tmp 13) (.tmp 23) 39 rfl w.heap.size 26 i0 (.slice none 0 0) 1 24 Try.underlying39 hi0 hz0 hz1 hz2 rfl (by decide) (.slice X rows.length cx) rows.length (rows.map Prod.fst) rfl HRW.out.own _ _ 1 1 [.slice A5 l.length c5] rfl HX.out (by intro u hu; rw [List.mem_singleton] at hu; subst hu; rfl) (by unfold maxLen; omega) (by omega) (by simp; omega) ?_)
      intro v3 w3 hown3 hgr3 hwh3
      obtain ⟨A6, c6, rfl, hc3, hc4⟩ := own_slice hown3
      have HRN := Lib.hid (HRW.out.push HOL.out HAP.out hown3 hgr3)
      have HB3 := Lib.hid (HBA.out.grown hgr3 (by simp; omega) HBX.out)
      clear hown3 hgr3 hwh3 HX HBA HBX
      have HLN := Lib.hid (show (rows ++ [(Value.slice A5 l.length c5, l)]).length = rows.length + 1 by simp)
      go_wp2_with fail
      go_roundg gg
      case measure => omega
      case rel => exact ⟨k + 1, A6, c6, rows ++ [(.slice A5 l.length c5, l)], by omega, by go_num, by rw [HLN.out], by rw [HLN.out]; exact HRN.out, HB3.out, by rw [HLN.out, HRL.out], by rw [setsOf_push]; exact HN.out⟩
end Go.Proofs.Ythbinnbnmckmfaa
