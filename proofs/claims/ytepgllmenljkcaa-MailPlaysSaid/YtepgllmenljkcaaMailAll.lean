/- mail.Box: All; klaxonlaw19.notes. -/
import Derived.Test.YtepgllmenljkcaaMailPut
namespace Go.Proofs.Ytepgllmenljkcaa
open Go.ChangeShapes Go.WideShapes Go.ChangeAt Go.RowKit
set_option linter.unusedVariables false
set_option linter.unusedSimpArgs false
set_option maxRecDepth 100000
theorem Try.infoNote : (Try.prog.info? 27).map (fun i => (i.zero, i.size, i.bytes)) = some (some (.agg #[.string ⟨#[]⟩, .string ⟨#[]⟩, .slice none 0 0]), 3, 56) := by kernel_rfl
theorem own_mwr {w w' : World} {base b c size n : Nat} {t : TypeId} {v : Value} {xs : List Value} (h : w.ownsRow base t size v n xs) (hn : NotBC w b c) (ht : t ≠ 46) (hm : MWr b c w w') : w'.ownsRow base t size v n xs := by
  rcases h with ⟨h1, ⟨h2, h3⟩ | ⟨g, cap, cur, hv, hb, hh, hr⟩⟩
  · exact ⟨h1, .inl ⟨h2, h3⟩⟩
  · have hk : Blk w g t cur.toList := Blk.mk (by simpa using hh)
    have hk2 := hk.mwr hn ht hm
    exact ⟨h1, .inr ⟨g, cap, cur, hv, hb, by have := hk2.eq; simpa using this, hr⟩⟩
theorem own_note {w w' : World} {base g size n : Nat} {t t' : TypeId} {v : Value} {xs cs : List Value} (h : w.ownsRow base t size v n xs) (hk : Blk w g t' cs) (ht : t' ≠ t) (ho : w.grownBy w' (some g)) : w'.ownsRow base t size v n xs := by
  rcases h with ⟨h1, ⟨h2, h3⟩ | ⟨q, cap, cur, hv, hb, hh, hr⟩⟩
  · exact ⟨h1, .inl ⟨h2, h3⟩⟩
  · refine ⟨h1, .inr ⟨q, cap, cur, hv, hb, (ho.block q (Array.getElem?_eq_some_iff.1 hh).1 (fun e => ?_)).trans hh, hr⟩⟩
    injection e with e; subst e
    have := hk.eq.symm.trans hh
    injection this with this; injection this with _ this _
    exact ht this
/-- Notes whose alerts are all there, in new memory. -/
structure NsOk (B : Nat) (l : List NV) (w : World) : Prop where
  ok : ∀ x ∈ l, NOk w x
  own : ∀ x ∈ l, NOwn B x w
theorem NsOk.below {B : Nat} {l : List NV} {w w' : World} (h : NsOk B l w) (hb : Below w.heap.size w w') : NsOk B l w' := ⟨fun x hx => (h.ok x hx).below hb, fun x hx => own_below (h.own x hx) hb (Nat.le_refl _)⟩
theorem NsOk.mwr {B b c : Nat} {l : List NV} {w w' : World} (h : NsOk B l w) (hn : NotBC w b c) (hm : MWr b c w w') : NsOk B l w' := ⟨fun x hx => (h.ok x hx).mwr hn hm, fun x hx => own_mwr (h.own x hx) hn (Ne.symm box_ne_string) hm⟩
theorem below_of_grown {w w' : World} (h : w.grownBy w' none) : Below w.heap.size w w' := ⟨h.os, h.tape, h.output, h.size, fun i hi => h.block i hi (fun e => by cases e)⟩
theorem row_cases {w w' : World} {base size n : Nat} {t : TypeId} {v : Value} {xs : List Value} (h : w.ownsRow base t size v n xs) (ho : w.grownBy w' v.ownBlock) : Below w.heap.size w w' ∨ ∃ g cs, Blk w g t cs ∧ base ≤ g ∧ v.ownBlock = some g ∧ w.grownBy w' (some g) := by
  rcases h with ⟨h1, ⟨rfl, h3⟩ | ⟨g, cap, cur, rfl, hb, hh, hr⟩⟩
  · exact .inl (below_of_grown ho)
  · exact .inr ⟨g, cur.toList, Blk.mk (by simpa using hh), hb, rfl, ho⟩
section
variable {w w' : World} {base size n : Nat} {t : TypeId} {v : Value} {xs : List Value} {b c cap : Nat} {d : Int} {l : List NV}
theorem BAt.row (h : BAt b c cap d l w) (hown : w.ownsRow base t size v n xs) (ho : w.grownBy w' v.ownBlock) (ht : t ≠ 9) (ht2 : t ≠ 46) : BAt b c cap d l w' := by
  rcases row_cases hown ho with hb | ⟨g, cs, hk, _, _, ho2⟩
  · exact h.below hb
  · exact h.note hk ht ht2 ho2
theorem NOk.row {x : NV} (h : NOk w x) (hown : w.ownsRow base t size v n xs) (ho : w.grownBy w' v.ownBlock) (ht : t ≠ 9) : NOk w' x := by
  rcases row_cases hown ho with hb | ⟨g, cs, hk, _, _, ho2⟩
  · exact h.below hb
  · exact h.note hk ht ho2
theorem NsOk.row {B : Nat} {ys : List NV} (h : NsOk B ys w) (hown : w.ownsRow base t size v n xs) (ho : w.grownBy w' v.ownBlock) (ht : t ≠ 9) : NsOk B ys w' := ⟨fun x hx => (h.ok x hx).row hown ho ht, fun x hx => by
  rcases row_cases hown ho with hb | ⟨g, cs, hk, _, _, ho2⟩
  · exact own_below (h.own x hx) hb (Nat.le_refl _)
  · exact own_note (h.own x hx) hk ht ho2⟩
theorem MWr.row {w0 : World} (h : MWr b c w0 w) (hown : w.ownsRow base t size v n xs) (ho : w.grownBy w' v.ownBlock) (hb : w0.heap.size ≤ base) : MWr b c w0 w' := by
  rcases row_cases hown ho with hb | ⟨g, cs, hk, hg, _, ho2⟩
  · exact h.trans (MWr.of_below hb)
  · exact h.fresh ho2 (by omega)
end
theorem NsOk.snoc {B : Nat} {ys : List NV} {y : NV} {w : World} (h : NsOk B ys w) (hy : NOk w y) (hf : NOwn B y w) : NsOk B (ys ++ [y]) w :=
  ⟨fun x hx => by rcases List.mem_append.1 hx with hx | hx; exact h.ok x hx; rw [List.mem_singleton.1 hx]; exact hy, fun x hx => by rcases List.mem_append.1 hx with hx | hx; exact h.own x hx; rw [List.mem_singleton.1 hx]; exact hf⟩
theorem one_note2 (w : World) (y : NV) : Sees (w.alloc (.cells #[.string y.dst, .string y.group, .slice y.A y.al.length y.c] 27)) (w.alloc (.cells #[.string y.dst, .string y.group, .slice y.A y.al.length y.c] 27)).heap.size 3 (some ⟨w.heap.size, 0, none⟩) 1 (ncells [y]) :=
  (Blk.mk (heap_alloc_new w (.cells #[.string y.dst, .string y.group, .slice y.A y.al.length y.c] 27)) : Blk _ _ 27 [.string y.dst, .string y.group, .slice y.A y.al.length y.c]).sees rfl (List.prefix_refl _)
set_option maxHeartbeats 4000000 in
theorem All_any (b c cap : Nat) (d : Int) (l : List NV) (w : World) (h : BAt b c cap d l w) (hcap : cap ≤ 8) (hal : ∀ x ∈ l, x.al.length ≤ 1000000) :
    Calls Try.prog 15 #[.pointer (some ⟨b, 0, none⟩)] w fun e w' => ∃ (A : Option Addr) (cA : Nat) (ys : List NV), e = .returned (.slice A l.length cA) ∧ w'.ownsRow w.heap.size 27 3 (.slice A l.length cA) l.length (ncells ys) ∧ ys.map NV.key = l.map NV.key ∧ NsOk w.heap.size ys w' ∧ BAt b c cap d l w' ∧ MWr b c w w' ∧ (l.length ≤ cA ∧ cA ≤ 9223372036854775807) := by
  obtain ⟨i0, hi, hz0, hz1, hz2⟩ := info_parts Try.infoNote
  have hlc := h.few
  have HB := Lib.hid h
  have HAL := Lib.hid hal
  clear h hal
  go_enter Try.func15, Try.ntmps15
  go_wp2_with fail
  (with_reducible refine (blen_any b c cap d l _ HB.out).mono ?_); rintro e wq ⟨rfl, rfl⟩
  go_wp2_with fail
  go_loopg [3, 8] l.length (fun g x3 x8 wr => ∃ (k : Nat) (ys : List NV), k + g = l.length ∧ x8 = .int .i64 k ∧ BAt b c cap d (l.drop k ++ l.take k) wr ∧ wr.ownsRow w.heap.size 27 3 x3 k (ncells ys) ∧ ys.map NV.key = (l.take k).map NV.key ∧ NsOk w.heap.size ys wr ∧ MWr b c w wr)
  case atStart => exact ⟨0, [], by omega, rfl, by simpa using HB.out, by simpa [ncells] using World.ownsRow_nil w w.heap.size 27 3, rfl, ⟨(fun x hx => by cases hx), (fun x hx => by cases hx)⟩, MWr.refl _⟩
  case round =>
    obtain ⟨k, ys, hkg, rfl, hb, hown, hkey, hns, hm⟩ := hrel
    obtain ⟨A3, c3, rfl, hc1, hc2⟩ := own_slice hown
    have HBR := Lib.hid hb; have HO := Lib.hid hown; have HKY := Lib.hid hkey; have HNS := Lib.hid hns; have HM := Lib.hid hm
    clear hb hown hkey hns hm HB
    cases gk with
    | zero =>
      obtain rfl : k = l.length := by omega
      go_wp2_with fail
      go_ret
      exact ⟨A3, c3, ys, rfl, HO.out, by rw [HKY.out, List.take_length], HNS.out, by have h := HBR.out; rwa [List.drop_length, List.nil_append, List.take_length] at h, HM.out, hc1, hc2⟩
    | succ gout =>
      have hkl : k < l.length := by omega
      have hdk : l.drop k ++ l.take k = l[k] :: (l.drop (k + 1) ++ l.take k) := by rw [List.drop_eq_getElem_cons hkl, List.cons_append]
      rw [hdk] at HBR
      have halk := HAL.out l[k] (List.getElem_mem _)
      have HTK := Lib.hid (List.take_succ_eq_append_getElem hkl)
      clear hdk
      generalize l[k] = x at *
      have HC := Lib.hid (take_yes b c cap d x _ _ HBR.out)
      go_wp2_with fail
      (with_reducible refine HC.out.mono ?_); rintro e w4 ⟨rfl, hb4, hx4, hm4⟩
      have HB4 := Lib.hid (hb4.alloc (.cells #[.string x.dst, .string x.group, .slice x.A x.al.length x.c] 27))
      have HX4 := Lib.hid (hx4.below ((Below.refl _ _).alloc (Nat.le_refl _) (.cells #[.string x.dst, .string x.group, .slice x.A x.al.length x.c] 27)))
      have HM4 := Lib.hid ((HM.out.trans hm4).trans (MWr.of_below ((Below.refl _ _).alloc (Nat.le_refl _) (.cells #[.string x.dst, .string x.group, .slice x.A x.al.length x.c] 27))))
      have HO4 := Lib.hid (own_below (own_mwr HO.out HBR.out.bc note_ne_box hm4) ((Below.refl _ _).alloc (Nat.le_refl _) (.cells #[.string x.dst, .string x.group, .slice x.A x.al.length x.c] 27)) (Nat.le_refl _))
      have HNS4 := Lib.hid ((HNS.out.mwr HBR.out.bc hm4).below ((Below.refl _ _).alloc (Nat.le_refl _) (.cells #[.string x.dst, .string x.group, .slice x.A x.al.length x.c] 27)))
      have HK4 := Lib.hid (Blk.mk (heap_alloc_new w4 (.cells #[.string x.dst, .string x.group, .slice x.A x.al.length x.c] 27)) : Blk _ _ 27 [.string x.dst, .string x.group, .slice x.A x.al.length x.c])
      have HOL := Lib.hid (fun q hq => ((own_mwr HO.out HBR.out.bc note_ne_box hm4).lt q hq).2)
      clear hb4 hx4 hm4 HC HBR HM HO HNS
      unfold NV.val
      go_wp2_with fail
      (with_reducible refine (cnote_any x _ HX4.out halk).mono ?_); rintro e w5 ⟨y, rfl, hyk, hyn, hyf, hb5⟩
      have HYK := Lib.hid hyk
      have HB6 := Lib.hid ((HB4.out.below hb5).alloc (.cells #[.string y.dst, .string y.group, .slice y.A y.al.length y.c] 27))
      have HBL := Lib.hid ((Below.refl w5.heap.size w5).alloc (Nat.le_refl _) (.cells #[.string y.dst, .string y.group, .slice y.A y.al.length y.c] 27))
      have HX6 := Lib.hid ((HX4.out.below hb5).below HBL.out)
      have HM6 := Lib.hid ((HM4.out.trans (MWr.of_below hb5)).trans (MWr.of_below HBL.out))
      have HO6 := Lib.hid (own_below (own_below HO4.out hb5 (Nat.le_refl _)) HBL.out (Nat.le_refl _))
      have HNS6 := Lib.hid ((HNS4.out.below hb5).below HBL.out)
      have HK6 := Lib.hid ((HK4.out.below hb5 HK4.out.lt).alloc (.cells #[.string y.dst, .string y.group, .slice y.A y.al.length y.c] 27))
      have HY6 := Lib.hid (hyn.below HBL.out)
      have HYF := Lib.hid (own_mono (own_below hyf HBL.out (Nat.le_refl _)) HM4.out.size)
      have HWB := Lib.hid HM6.out.size
      have HS6 := Lib.hid (one_note2 w5 y)
      clear hyk hyn hyf hb5 HB4 HX4 HM4 HO4 HNS4 HK4
      unfold NV.val
      go_wp2_with (at_builtin; refine wpList_append_sees rfl (.tmp 16) (.tmp 19) 34 rfl w.heap.size 27 i0 (.agg #[.string ⟨#[]⟩, .string ⟨#[]⟩, .slice none 0 0]) 3 56 Try.underlying34 hi hz0 hz1 hz2 rfl (by decide) _ k (ncells ys) rfl HO6.out _ _ 1 _ (ncells [y]) rfl HS6.out (ncells_one _) (by unfold maxLen; omega) (by omega) HWB.out ?_)
      intro v7 w7 hown7 hg7
      have HB7 := Lib.hid (HB6.out.row HO6.out hg7 note_ne_string note_ne_box)
      have HX7 := Lib.hid (HX6.out.row HO6.out hg7 note_ne_string)
      have HM7 := Lib.hid (HM6.out.row HO6.out hg7 (Nat.le_refl _))
      have HNS7 := Lib.hid ((HNS6.out.snoc HY6.out HYF.out).row HO6.out hg7 note_ne_string)
      have HK7 := Lib.hid (HK6.out.grown hg7 (fun e => absurd (HOL.out _ e.symm) (Nat.lt_irrefl _)))
      rw [← ncells_append] at hown7
      have HO7 := Lib.hid hown7
      obtain ⟨A7, c7, rfl, hc7, hd7⟩ := own_slice hown7
      clear hown7 hg7 HB6 HX6 HM6 HNS6 HK6 HO6 HS6 HBL HY6 HYF HOL HWB
      have z0 := HK7.out.cell 0; have z1 := HK7.out.cell 1; have z2 := HK7.out.cell 2
      simp only [List.getElem?_cons_zero, List.getElem?_cons_succ] at z0 z1 z2
      have HC := Lib.hid (put_yes b c cap _ _ x _ HB7.out HX7.out (by rw [List.length_append, List.length_drop, List.length_take]; omega))
      go_wp2_with fail
      (with_reducible refine HC.out.mono ?_); rintro e w8 ⟨rfl, hb8, hm8⟩
      have HB8 := Lib.hid hb8; have HM8 := Lib.hid (HM7.out.trans hm8); have HO8 := Lib.hid (own_mwr HO7.out HB7.out.bc note_ne_box hm8); have HNS8 := Lib.hid (HNS7.out.mwr HB7.out.bc hm8)
      clear hb8 hm8 HC HB7 HX7 HM7 HNS7 HK7 HO7 z0 z1 z2
      go_wp2_with fail
      go_roundg gout
      case measure => omega
      case rel => exact ⟨k + 1, ys ++ [y], by omega, by go_num, by rw [HTK.out, ← List.append_assoc]; exact HB8.out, HO8.out, by rw [List.map_append, HKY.out, HTK.out, List.map_append, List.map_singleton, List.map_singleton, HYK.out], HNS8.out, HM8.out⟩
end Go.Proofs.Ytepgllmenljkcaa
