/- mail.Box: Take, Put. -/
import Derived.Test.YtepgllmenljkcaaMailNew
namespace Go.Proofs.Ytepgllmenljkcaa
open Go.ChangeShapes Go.WideShapes Go.ChangeAt Go.RowKit
set_option linter.unusedVariables false
set_option linter.unusedSimpArgs false
set_option maxRecDepth 100000
/-- Notes as cells. -/
def ncells (l : List NV) : List Value := l.flatMap NV.cells
theorem ncells_length (l : List NV) : (ncells l).length = l.length * 3 := by
  induction l with
  | nil => rfl
  | cons x l ih => simp only [ncells, NV.cells, List.flatMap_cons, List.length_append, List.length_cons, List.length_nil] at ih ⊢; omega
theorem ncells_append (l m : List NV) : ncells (l ++ m) = ncells l ++ ncells m := by simp [ncells]
theorem ncells_one (l : List NV) : ∀ u ∈ ncells l, u.oneCell' = true := by
  intro u hu
  simp only [ncells, List.mem_flatMap] at hu
  obtain ⟨x, _, hu⟩ := hu
  simp [NV.cells] at hu
  rcases hu with rfl | rfl | rfl <;> rfl
theorem ncells_get (l : List NV) (p : Nat) (h : p < l.length) : (ncells l)[p * 3]? = some (.string l[p].dst) ∧ (ncells l)[p * 3 + 1]? = some (.string l[p].group) ∧ (ncells l)[p * 3 + 2]? = some (.slice l[p].A l[p].al.length l[p].c) := by
  have e : ncells l = ncells (l.take p) ++ (ncells [l[p]] ++ ncells (l.drop (p + 1))) := by
    rw [← ncells_append, ← ncells_append, List.singleton_append, ← List.drop_eq_getElem_cons h, List.take_append_drop]
  have hl : (ncells (l.take p)).length = p * 3 := by rw [ncells_length, List.length_take]; omega
  rw [e]
  refine ⟨?_, ?_, ?_⟩
  · rw [List.getElem?_append_right (by omega), hl, Nat.sub_self]; rfl
  · rw [List.getElem?_append_right (by omega), hl, show p * 3 + 1 - p * 3 = 1 by omega]; rfl
  · rw [List.getElem?_append_right (by omega), hl, show p * 3 + 2 - p * 3 = 2 by omega]; rfl
theorem ncells_drop (l : List NV) (k : Nat) : (ncells l).drop (k * 3) = ncells (l.drop k) := by
  by_cases h : k ≤ l.length
  · have hl : (ncells (l.take k)).length = k * 3 := by rw [ncells_length, List.length_take]; omega
    conv => lhs; rw [← List.take_append_drop k l, ncells_append]
    rw [← hl, List.drop_left]
  · rw [List.drop_of_length_le (by rw [ncells_length]; omega), List.drop_of_length_le (by omega)]; rfl
theorem ncells_take (l : List NV) (k : Nat) : (ncells l).take (k * 3) = ncells (l.take k) := by
  by_cases h : k ≤ l.length
  · conv => lhs; rw [← List.take_append_drop k l, ncells_append]
    rw [List.take_append_of_le_length (by rw [ncells_length, List.length_take]; omega), List.take_of_length_le (by rw [ncells_length, List.length_take]; omega)]
  · rw [List.take_of_length_le (by rw [ncells_length]; omega), List.take_of_length_le (by omega)]
theorem Sees.note {w : World} {B : Nat} {A : Option Addr} {n : Nat} {l : List NV} (h : Sees w B 3 A n (ncells l)) {k : Nat} (hk : k < n) :
    ∃ ad, ∃ hl : k < l.length, A = some ad ∧ w.cell? (ad.add (k * 3)) = some (.string l[k].dst) ∧ w.cell? ⟨(ad.add (k * 3)).block, (ad.add (k * 3)).off + 1, none⟩ = some (.string l[k].group) ∧ w.cell? ⟨(ad.add (k * 3)).block, (ad.add (k * 3)).off + 2, none⟩ = some (.slice l[k].A l[k].al.length l[k].c) := by
  have hl : k < l.length := by have := h.len; rw [ncells_length] at this; omega
  obtain ⟨ad, e, _, hc⟩ := h.at_ (by omega)
  obtain ⟨h0, h1, h2⟩ := ncells_get l k hl
  exact ⟨ad, hl, e, hc _ _ h0, by rw [add_spelt _ _ _ (by omega)]; exact hc _ _ h1, by rw [add_spelt _ _ _ (by omega)]; exact hc _ _ h2⟩
theorem Sees.note_len {w : World} {B : Nat} {A : Option Addr} {n : Nat} {l : List NV} (h : Sees w B 3 A n (ncells l)) : l.length = n := by
  have := h.len; rw [ncells_length] at this; omega
/-- The last so many. -/
def lastN {α : Type} (cap : Nat) (l : List α) : List α := l.drop (l.length - cap)
theorem lastN_length {α : Type} (cap : Nat) (l : List α) : (lastN cap l).length = min l.length cap := by unfold lastN; rw [List.length_drop]; omega
theorem lastN_few {α : Type} {cap : Nat} {l : List α} (h : l.length ≤ cap) : lastN cap l = l := by unfold lastN; rw [show l.length - cap = 0 by omega]; rfl
theorem lastN_snoc {α : Type} {cap : Nat} (l : List α) (y : α) (h : 1 ≤ cap) : (lastN cap l).drop ((lastN cap l).length + 1 - cap) ++ [y] = lastN cap (l ++ [y]) := by
  rw [lastN_length]
  unfold lastN
  rw [List.drop_drop, List.length_append, List.length_singleton, List.drop_append_of_le_length (by omega)]
  congr 2
  omega
theorem lastN_map {α β : Type} (f : α → β) (cap : Nat) (l : List α) : (lastN cap l).map f = lastN cap (l.map f) := by unfold lastN; rw [List.map_drop, List.length_map]
theorem Blk.mwr {w w' : World} {b c g : Nat} {t : TypeId} {cs : List Value} (h : Blk w g t cs) (hn : NotBC w b c) (ht : t ≠ 46) (hm : MWr b c w w') : Blk w' g t cs := by
  obtain ⟨⟨cs2, hb⟩, cap, buf, s, r, hc⟩ := hn
  refine (hm.block g h.lt (fun e => ?_) (fun e => ?_)).trans h
  · subst e
    have := h.eq.symm.trans hb.eq
    injection this with this; injection this with _ this _
    exact ht this
  · subst e
    have := h.eq.symm.trans hc
    cases this
theorem note_ne_box : (27 : TypeId) ≠ 46 := by decide
theorem note_ne_string : (27 : TypeId) ≠ 9 := by decide
theorem MWr.fresh {b c g : Nat} {w w3 w' : World} (h : MWr b c w w3) (ho : w3.grownBy w' (some g)) (hg : w.heap.size ≤ g) : MWr b c w w' :=
  ⟨ho.os.trans h.os, ho.tape.trans h.tape, ho.output.trans h.output, Nat.le_trans h.size ho.size, fun i hi h1 h2 => (ho.block i (Nat.lt_of_lt_of_le hi h.size) (fun e => by injection e with e; omega)).trans (h.block i hi h1 h2)⟩
theorem NOk.note {w w' : World} {g : Nat} {cs : List Value} {t : TypeId} {x : NV} (h : NOk w x) (hk : Blk w g t cs) (ht : t ≠ 9) (ho : w.grownBy w' (some g)) : NOk w' x := by
  have hne : ∀ ad, x.A = some ad → 0 < x.al.length → ad.block ≠ g := h.typed.ne hk ht
  refine ⟨⟨h.sees.len, fun hn => ?_⟩, fun ad ha hn => ?_, h.caps⟩
  · obtain ⟨ad, e, hlt, hcell⟩ := h.sees.at_ hn
    have hz := ho.size
    refine ⟨ad, e, by omega, fun j v hv => (World.cell?_of_block (w := w) (a := ad.add j) ?_).trans (hcell j v hv)⟩
    rw [add_block]
    exact ho.block ad.block hlt (fun e2 => hne ad e hn (by injection e2))
  · obtain ⟨cs, f, e⟩ := h.typed ad ha hn
    exact ⟨cs, f, (ho.block ad.block (sees_lt h.sees ad ha hn) (fun e2 => hne ad ha hn (by injection e2))).trans e⟩
/-- A block of another type is written. -/
theorem BAt.note {b c cap g : Nat} {d : Int} {l : List NV} {w w' : World} {t : TypeId} {cs : List Value} (h : BAt b c cap d l w) (hk : Blk w g t cs) (ht : t ≠ 9) (ht2 : t ≠ 46) (ho : w.grownBy w' (some g)) : BAt b c cap d l w' := by
  obtain ⟨s, r, hc⟩ := h.ch
  refine ⟨h.box.grown ho (fun e => ?_), ⟨s, r, (ho.block c h.clt (fun e => ?_)).trans hc⟩, h.few, fun x hx => (h.notes x hx).note hk ht ho⟩
  · injection e with e; subst e
    have := hk.eq.symm.trans h.box.eq
    injection this with this; injection this with _ this _
    exact ht2 this
  · injection e with e; subst e
    have := hk.eq.symm.trans hc
    cases this
theorem only3 {g : Nat} (w : World) (x y z : Value) : w.grownBy (((w.setCell ⟨g, 0, none⟩ x).setCell ⟨g, 1, none⟩ y).setCell ⟨g, 2, none⟩ z) (some g) := by
  have h : ∀ (w : World) (i : Nat) (u : Value), w.grownBy (w.setCell ⟨g, i, none⟩ u) (some g) := fun w i u => ⟨rfl, rfl, rfl, by simp, fun j _ hj => Below.heap_setCell w _ u j (fun e => hj (by rw [e]))⟩
  exact World.grownBy.trans (World.grownBy.trans (h w 0 x) (h _ 1 y)) (h _ 2 z)
theorem Take_yes (b c cap : Nat) (d : Int) (x : NV) (l : List NV) (w : World) (h : BAt b c cap d (x :: l) w) :
    Calls Try.prog 9 #[.pointer (some ⟨b, 0, none⟩)] w fun e w' => e = .returned (.tuple #[x.val, .bool true]) ∧ BAt b c cap d l w' ∧ NOk w' x ∧ MWr b c w w' := by
  have HB := Lib.hid (h.alloc (.cells #[.string ⟨#[]⟩, .string ⟨#[]⟩, .slice none 0 0] 27))
  have HK := Lib.hid (Blk.mk (heap_alloc_new w (.cells #[.string ⟨#[]⟩, .string ⟨#[]⟩, .slice none 0 0] 27)) : Blk _ _ 27 [.string ⟨#[]⟩, .string ⟨#[]⟩, .slice none 0 0])
  have HW := Lib.hid (show MWr b c w (w.alloc (.cells #[.string ⟨#[]⟩, .string ⟨#[]⟩, .slice none 0 0] 27)) from MWr.of_below ((Below.refl _ _).alloc (Nat.le_refl _) _))
  have hsz := h.box.lt
  clear h
  go_enter Try.func9, Try.ntmps9
  go_wp2_with fail
  (with_reducible refine (take_yes b c cap d x l _ HB.out).mono ?_); rintro e w3 ⟨rfl, hb3, hx3, hm3⟩
  have HK3 := Lib.hid (HK.out.mwr HB.out.bc note_ne_box hm3)
  have HB3 := Lib.hid hb3; have HX3 := Lib.hid hx3
  have HW3 := Lib.hid (HW.out.trans hm3)
  clear hb3 hx3 hm3 HB HK HW
  have g0 := HK3.out.cell 0; have g1 := HK3.out.cell 1; have g2 := HK3.out.cell 2
  have k0 := HK3.out.frozen 0; have k1 := HK3.out.frozen 1; have k2 := HK3.out.frozen 2
  simp only [List.getElem?_cons_zero, List.getElem?_cons_succ] at g0 g1 g2
  unfold NV.val
  go_wp2_with fail
  refine bodyPost_ret (v := .tuple #[.agg #[.string x.dst, .string x.group, .slice x.A x.al.length x.c], .bool true]) (by simp [results, Try.results9, go_sem, g0, g1, g2]) rfl ?_
  have ho := only3 (g := w.heap.size) w3 (.string x.dst) (.string x.group) (.slice x.A x.al.length x.c)
  exact ⟨rfl, HB3.out.note HK3.out note_ne_string note_ne_box ho, HX3.out.note HK3.out note_ne_string ho, HW3.out.fresh ho (Nat.le_refl _)⟩
theorem Take_no (b c cap : Nat) (d : Int) (w : World) (h : BAt b c cap d [] w) :
    Calls Try.prog 9 #[.pointer (some ⟨b, 0, none⟩)] w fun e w' => e = .returned (.tuple #[NV.zero.val, .bool false]) ∧ BAt b c cap d [] w' ∧ Below w.heap.size w w' := by
  have HB := Lib.hid (h.alloc (.cells #[.string ⟨#[]⟩, .string ⟨#[]⟩, .slice none 0 0] 27))
  have HK := Lib.hid (Blk.mk (heap_alloc_new w (.cells #[.string ⟨#[]⟩, .string ⟨#[]⟩, .slice none 0 0] 27)) : Blk _ _ 27 [.string ⟨#[]⟩, .string ⟨#[]⟩, .slice none 0 0])
  have HW := Lib.hid ((Below.refl w.heap.size w).alloc (Nat.le_refl _) (.cells #[.string ⟨#[]⟩, .string ⟨#[]⟩, .slice none 0 0] 27))
  have hsz := h.box.lt
  clear h
  go_enter Try.func9, Try.ntmps9
  go_wp2_with fail
  (with_reducible refine (take_no b c cap d _ HB.out).mono ?_); rintro e w3 ⟨rfl, hb3, hm3⟩
  have HK3 := Lib.hid (HK.out.below hm3 HK.out.lt)
  have HB3 := Lib.hid hb3
  have HW3 := Lib.hid (HW.out.trans (hm3.mono HW.out.size))
  clear hb3 hm3 HB HK HW
  have g0 := HK3.out.cell 0; have g1 := HK3.out.cell 1; have g2 := HK3.out.cell 2
  have k0 := HK3.out.frozen 0; have k1 := HK3.out.frozen 1; have k2 := HK3.out.frozen 2
  simp only [List.getElem?_cons_zero, List.getElem?_cons_succ] at g0 g1 g2
  unfold NV.val NV.zero
  simp only [List.length_nil]
  go_wp2_with fail
  refine bodyPost_ret (v := .tuple #[.agg #[.string ⟨#[]⟩, .string ⟨#[]⟩, .slice none 0 0], .bool false]) (by simp [results, Try.results9, go_sem, g0, g1, g2]) rfl ?_
  have ho := only3 (g := w.heap.size) w3 (.string ⟨#[]⟩) (.string ⟨#[]⟩) (.slice none 0 0)
  exact ⟨rfl, HB3.out.note HK3.out note_ne_string note_ne_box ho, HW3.out.grown ho HW3.out.size (fun k hk => by injection hk with hk; omega)⟩
set_option maxHeartbeats 4000000 in
theorem Put_any (b c cap : Nat) (d : Int) (l : List NV) (A : Option Addr) (n cA : Nat) (xs : List NV) (w : World) (h : BAt b c cap d l w) (hcap : 1 ≤ cap ∧ cap ≤ 8)
    (hs : Sees w w.heap.size 3 A n (ncells xs)) (ht : Typed w 27 A n) (hx : ∀ x ∈ xs, NOk w x) (hal : ∀ x ∈ xs, x.al.length ≤ 1000000) (hn : n ≤ 1000000) (hd : 0 ≤ d ∧ d ≤ 1000000000) :
    Calls Try.prog 8 #[.pointer (some ⟨b, 0, none⟩), .slice A n cA] w fun e w' => ∃ l2 : List NV, e = .returned (.int .i64 ((l.length + n - cap : Nat) : Int)) ∧ BAt b c cap (d + ((l.length + n - cap : Nat) : Int)) l2 w' ∧ l2.map NV.key = lastN cap ((l ++ xs).map NV.key) ∧ MWr b c w w' ∧ ∀ x ∈ l2, x ∈ l ∨ FreshN w.heap.size x := by
  have hlc := h.few
  have HN := Lib.hid hs.note_len
  obtain ⟨e0, e1, f1⟩ := bcells h
  have HB := Lib.hid h
  have HS := Lib.hid (fun W (hm : MWr b c w W) => hs.mwr (ht.bc h.bc box_ne_note) hm)
  have HX := Lib.hid (fun W (hm : MWr b c w W) x hx' => (hx x hx').mwr h.bc hm)
  have HAL := Lib.hid hal
  obtain ⟨hcap1, hcap8⟩ := hcap
  obtain ⟨hd0, hd1⟩ := hd
  clear h hs ht hx hal e0
  go_enter Try.func8, Try.ntmps8
  go_wp2_with fail
  go_loopg [15] n (fun g x15 wr => ∃ (k : Nat) (lk : List NV), k + g = n ∧ x15 = .int .i64 k ∧ BAt b c cap (d + ((l.length + k - cap : Nat) : Int)) lk wr ∧ lk.length = min (l.length + k) cap ∧ lk.map NV.key = lastN cap ((l ++ xs.take k).map NV.key) ∧ MWr b c w wr ∧ ∀ x ∈ lk, x ∈ l ∨ FreshN w.heap.size x)
  case atStart => exact ⟨0, l, by omega, rfl, by rw [show ((l.length + 0 - cap : Nat) : Int) = 0 by omega, Int.add_zero]; exact HB.out, by omega, by rw [List.take_zero, List.append_nil, lastN_few (by simpa using hlc)], MWr.refl _, fun x hx => .inl hx⟩
  case round =>
    obtain ⟨k, lk, hkg, rfl, hb, hlen, hkey, hm, hfr⟩ := hrel
    have HBR := Lib.hid hb; have HKY := Lib.hid hkey; have HM := Lib.hid hm; have HF := Lib.hid hfr
    clear hb hkey hm hfr HB e1 f1
    obtain ⟨e0, e1, f1⟩ := bcells HBR.out
    clear e0
    cases gk with
    | zero =>
      obtain rfl : k = n := by omega
      obtain ⟨G, hG⟩ : ∃ G, l.length + k - cap = G := ⟨_, rfl⟩
      rw [hG] at HBR e1
      have i1 : IntKind.i64.wrap (d + (G : Int) - d) = G := by rw [show d + (G : Int) - d = G by omega]; exact IntWalk.i64_in _ (by omega)
      have i2 : d + (G : Int) - d = G := by omega
      go_wp2_with fail
      go_ret
      refine ⟨lk, by rw [hG]; rfl, by rw [hG]; exact HBR.out, ?_, HM.out, HF.out⟩
      rw [HKY.out, List.take_of_length_le (by rw [HN.out]; omega)]
    | succ gout =>
      have hkn : k < n := by omega
      obtain ⟨ad, hkl, rfl, c0, c1, c2⟩ := (HS.out _ HM.out).note hkn
      have HXK := Lib.hid (HX.out _ HM.out xs[k] (List.getElem_mem _))
      have halk := HAL.out xs[k] (List.getElem_mem _)
      have HTK := Lib.hid (List.take_succ_eq_append_getElem hkl)
      generalize xs[k] = x at *
      have HBA := Lib.hid (HBR.out.alloc (.cells #[.string x.dst, .string x.group, .slice x.A x.al.length x.c] 27))
      have HXA := Lib.hid (HXK.out.below ((Below.refl _ _).alloc (Nat.le_refl _) (.cells #[.string x.dst, .string x.group, .slice x.A x.al.length x.c] 27)))
      have HMA := Lib.hid (HM.out.trans (MWr.of_below ((Below.refl _ _).alloc (Nat.le_refl _) (.cells #[.string x.dst, .string x.group, .slice x.A x.al.length x.c] 27))))
      clear HBR HXK HM e1 f1
      go_wp2_with fail
      (with_reducible refine (cnote_any x _ HXA.out halk).mono ?_); rintro e w3 ⟨y, rfl, hyk, hyn, hyf, hb3⟩
      have HB3 := Lib.hid ((HBA.out.below hb3).alloc (.cells #[.string y.dst, .string y.group, .slice y.A y.al.length y.c] 27))
      have HM3 := Lib.hid ((HMA.out.trans (MWr.of_below hb3)).trans (MWr.of_below ((Below.refl _ _).alloc (Nat.le_refl _) (.cells #[.string y.dst, .string y.group, .slice y.A y.al.length y.c] 27))))
      have HY3 := Lib.hid (hyn.below ((Below.refl _ _).alloc (Nat.le_refl _) (.cells #[.string y.dst, .string y.group, .slice y.A y.al.length y.c] 27)))
      have HK3 := Lib.hid (Blk.mk (heap_alloc_new w3 (.cells #[.string y.dst, .string y.group, .slice y.A y.al.length y.c] 27)) : Blk _ _ 27 [.string y.dst, .string y.group, .slice y.A y.al.length y.c])
      have HYF := Lib.hid (show FreshN w.heap.size y from fun ad ha hp => Nat.le_trans (Nat.le_trans HMA.out.size (Nat.le_refl _)) (hyf.fresh ad ha hp))
      have HYK := Lib.hid hyk
      clear hyk hyn hyf hb3 HBA HXA HMA
      unfold NV.val
      go_wp2_with fail
      obtain ⟨G, hG⟩ : ∃ G, lk.length + 1 - cap = G := ⟨_, rfl⟩
      have hG1 : G ≤ 1 := by omega
      have hGd : ((l.length + (k + 1) - cap : Nat) : Int) = ((l.length + k - cap : Nat) : Int) + G := by omega
      have HGD := Lib.hid hGd
      obtain ⟨d0, hd0'⟩ : ∃ d0, d + ((l.length + k - cap : Nat) : Int) = d0 := ⟨_, rfl⟩
      have hd2 : 0 ≤ d0 ∧ d0 ≤ 2000000000 := by omega
      have HD0 := Lib.hid hd0'
      rw [hd0'] at HB3
      clear hGd hd0'
      obtain ⟨hd2, hd3⟩ := hd2
      go_loopg [] G (fun g wr2 => ∃ j, j + g = G ∧ BAt b c cap (d0 + (j : Nat)) (lk.drop j) wr2 ∧ MWr b c w wr2 ∧ NOk wr2 y ∧ Blk wr2 w3.heap.size 27 [.string y.dst, .string y.group, .slice y.A y.al.length y.c])
      case atStart => exact ⟨0, by omega, by simpa using HB3.out, HM3.out, HY3.out, HK3.out⟩
      case round =>
        obtain ⟨j, hjg, hb, hm, hy, hk⟩ := hrel
        have HB := Lib.hid hb; have HM := Lib.hid hm; have HY := Lib.hid hy; have HK := Lib.hid hk
        clear hb hm hy hk HB3 HM3 HY3 HK3
        have z0 := HK.out.cell 0; have z1 := HK.out.cell 1; have z2 := HK.out.cell 2
        simp only [List.getElem?_cons_zero, List.getElem?_cons_succ] at z0 z1 z2
        cases gk with
        | zero =>
          obtain rfl : j = G := by omega
          have hlt : (lk.drop j).length < cap := by rw [List.length_drop]; omega
          have HC := Lib.hid (put_yes b c cap _ _ y _ HB.out HY.out hlt)
          go_wp2_with fail
          (with_reducible refine HC.out.mono ?_); rintro e w4 ⟨rfl, hb4, hm4⟩
          have HB4 := Lib.hid hb4; have HM4 := Lib.hid (HM.out.trans hm4)
          clear hb4 hm4 HC
          go_wp2_with fail
          go_roundg gout
          case measure => omega
          case rel =>
            refine ⟨k + 1, lk.drop j ++ [y], by omega, by go_num, ?_, ?_, ?_, HM4.out, ?_⟩
            · rw [HGD.out, ← Int.add_assoc, HD0.out]; exact HB4.out
            · rw [List.length_append, List.length_drop, List.length_singleton]; omega
            · rw [List.map_append, List.map_drop, List.map_singleton, HYK.out, HTK.out, ← List.append_assoc, List.map_append, List.map_singleton, ← lastN_snoc _ _ hcap1, HKY.out, lastN_length, List.length_map, List.length_append, List.length_take]
              congr 2
              have := HN.out
              omega
            · intro z hz
              rcases List.mem_append.1 hz with hz | hz
              · exact HF.out z (List.mem_of_mem_drop hz)
              · rw [List.mem_singleton.1 hz]; exact .inr HYF.out
        | succ g2 =>
          obtain ⟨rfl, rfl, rfl⟩ : j = 0 ∧ G = 1 ∧ g2 = 0 := by omega
          rw [List.drop_zero] at HB
          rw [show d0 + ((0 : Nat) : Int) = d0 by omega] at HB
          cases hlk : lk with
          | nil => rw [hlk] at hG; simp only [List.length_nil] at hG; omega
          | cons x0 rest =>
            subst hlk
            have HC := Lib.hid (put_no b c cap d0 (x0 :: rest) y _ HB.out (by omega))
            go_wp2_with fail
            (with_reducible refine HC.out.mono ?_); rintro e w4 ⟨rfl, hb4, hm4⟩
            have HB4 := Lib.hid hb4; have HM4 := Lib.hid (HM.out.trans (MWr.of_below hm4)); have HY4 := Lib.hid (HY.out.below hm4); have HK4 := Lib.hid (HK.out.below hm4 HK.out.lt)
            clear hb4 hm4 HC HB HM HY HK z0 z1 z2
            have HC := Lib.hid (take_yes b c cap d0 x0 rest _ HB4.out)
            go_wp2_with fail
            (with_reducible refine HC.out.mono ?_); rintro e w5 ⟨rfl, hb5, _, hm5⟩
            have HB5 := Lib.hid hb5; have HM5 := Lib.hid (HM4.out.trans hm5); have HY5 := Lib.hid (HY4.out.mwr HB4.out.bc hm5); have HK5 := Lib.hid (HK4.out.mwr HB4.out.bc note_ne_box hm5)
            clear hb5 hm5 HC HB4 HM4 HY4 HK4
            obtain ⟨_, e1, f1⟩ := bcells HB5.out
            have i1 : IntKind.i64.wrap (d0 + 1) = d0 + 1 := IntWalk.i64_in _ (by omega)
            have HB6 := Lib.hid (HB5.out.count (d0 + 1)); have HM6 := Lib.hid (HM5.out.trans (MWr.set w5 1 (.int .i64 (d0 + 1)))); have HY6 := Lib.hid (HY5.out.mwr HB5.out.bc (MWr.set w5 1 (.int .i64 (d0 + 1)))); have HK6 := Lib.hid (HK5.out.mwr HB5.out.bc note_ne_box (MWr.set w5 1 (.int .i64 (d0 + 1))))
            clear HB5 HM5 HY5 HK5
            go_wp2_with fail
            go_roundg 0
            case measure => omega
            case rel => exact ⟨1, by omega, HB6.out, HM6.out, HY6.out, HK6.out⟩
end Go.Proofs.Ytepgllmenljkcaa