/- Points as cells; store.Pick, store.Changes. -/
import Derived.Test.YthbinnbnmckmfaaStoreRd
namespace Go.Proofs.Ythbinnbnmckmfaa
open Go.ChangeShapes Go.WideShapes Go.ChangeAt Go.RowKit Go.Lib
set_option linter.unusedVariables false
set_option maxRecDepth 100000
theorem Try.infoPt : (Try.prog.info? 34).map (fun i => (i.zero, i.size, i.bytes)) = some (some (.agg #[.slice none 0 0, .int .i64 0]), 2, 32) := by kernel_rfl
/-- A point: where its set lies, its set, its value. -/
structure PtR where
  sv : Value
  set : List Lbl
  val : Int
def PtR.cells (x : PtR) : List Value := [x.sv, .int .i64 x.val]
def pts (l : List PtR) : List Value := l.flatMap PtR.cells
theorem pts_length (l : List PtR) : (pts l).length = l.length * 2 := by
  induction l with
  | nil => rfl
  | cons x l ih => simp only [pts, List.flatMap_cons, List.length_append, List.length_cons, List.length_nil, PtR.cells] at ih ⊢; omega
theorem pts_append (l m : List PtR) : pts (l ++ m) = pts l ++ pts m := by simp [pts]
theorem pts_get (l : List PtR) (p : Nat) (h : p < l.length) : (pts l)[p * 2]? = some l[p].sv ∧ (pts l)[p * 2 + 1]? = some (.int .i64 l[p].val) := by
  have e : pts l = pts (l.take p) ++ (pts [l[p]] ++ pts (l.drop (p + 1))) := by
    rw [← pts_append, ← pts_append, List.singleton_append, ← List.drop_eq_getElem_cons h, List.take_append_drop]
  have hl : (pts (l.take p)).length = p * 2 := by rw [pts_length, List.length_take]; omega
  rw [e]
  refine ⟨?_, ?_⟩
  · rw [List.getElem?_append_right (by omega), hl, Nat.sub_self]; rfl
  · rw [List.getElem?_append_right (by omega), hl, show p * 2 + 1 - p * 2 = 1 by omega]; rfl
/-- An own row of points, each set in a block of labels. -/
structure PtsAt (base : Nat) (v : Value) (rows : List PtR) (w : World) : Prop where
  own : w.ownsRow base 34 2 v rows.length (pts rows)
  each : ∀ x ∈ rows, OwnL w x.sv x.set
theorem PtsAt.below {base : Nat} {v : Value} {rows : List PtR} {w w' : World} (h : PtsAt base v rows w) (hb : Below w.heap.size w w') : PtsAt base v rows w' := ⟨own_below h.own hb (Nat.le_refl _), fun x hx => (h.each x hx).below hb⟩
theorem PtsAt.nil (base : Nat) (w : World) : PtsAt base (.slice none 0 0) [] w := ⟨by simpa [pts] using World.ownsRow_nil w base 34 2, (fun x hx => absurd hx List.not_mem_nil)⟩
theorem PtsAt.mono {base base' : Nat} {v : Value} {rows : List PtR} {w : World} (h : PtsAt base v rows w) (hb : base' ≤ base) : PtsAt base' v rows w := ⟨own_mono h.own hb, h.each⟩
theorem PtsAt.push {base : Nat} {v v' x : Value} {l : List Lbl} {z : Int} {rows : List PtR} {w w' : World} (h : PtsAt base v rows w) (hx : OwnL w x l) (hown : w'.ownsRow base 34 2 v' (rows.length + 1) (pts rows ++ [x, .int .i64 z])) (hg : w.grownBy w' v.ownBlock) : PtsAt base v' (rows ++ [⟨x, l, z⟩]) w' := by
  have key : ∀ y m, OwnL w y m → OwnL w' y m := by
    rintro y m ⟨A, c, rfl, h2⟩
    exact ⟨A, c, rfl, own_grown h2 hg (own_ne h2 h.own (by decide))⟩
  refine ⟨by rw [pts_append]; simpa [pts, PtR.cells] using hown, fun y hy => ?_⟩
  rcases List.mem_append.1 hy with hy | hy
  · exact key _ _ (h.each y hy)
  · rw [List.mem_singleton] at hy; subst hy; exact key _ _ hx
/-- What points tell. -/
def ptsOf (rows : List PtR) : List (List Lbl × Int) := rows.map fun x => (x.set, x.val)
theorem ptsOf_push (rows : List PtR) (v : Value) (l : List Lbl) (z : Int) : ptsOf (rows ++ [⟨v, l, z⟩]) = ptsOf rows ++ [(l, z)] := by simp [ptsOf]
/-- A call answers new points. -/
def PtsAns (ps : List (List Lbl × Int)) (w : World) (e : Ending) (w' : World) : Prop := ∃ A c rows, ptsOf rows = ps ∧ e = .returned (.slice A rows.length c) ∧ PtsAt w.heap.size (.slice A rows.length c) rows w' ∧ Below w.heap.size w w' ∧ rows.length ≤ c ∧ c ≤ 9223372036854775807
/-- One series' point. -/
def pickOne (t look : Int) (ms : List Mtc) (x : SK) : List (List Lbl × Int) := if allF x.1 ms then (if (atF x.2 t look).2 then [(x.1, (atF x.2 t look).1)] else []) else []
def pickS (D : List SK) (t look : Int) (ms : List Mtc) : List (List Lbl × Int) := D.flatMap (pickOne t look ms)
theorem flatMap_more {α β : Type} {l : List α} {k : Nat} (f : α → List β) (h : k < l.length) : (l.take (k + 1)).flatMap f = (l.take k).flatMap f ++ f l[k] := by
  rw [List.take_succ_eq_append_getElem h, List.flatMap_append]; simp
set_option maxHeartbeats 4000000 in
theorem spick_any (g : Nat) (v : Value) (L : List SR) (t look : Int) (A2 : Option Addr) (n2 c2 : Nat) (ms : List Mtc) (w : World) (h : StAt g v L w) (hn : L.length ≤ 1000) (hsl : ∀ x ∈ L, x.set.length ≤ 1000 ∧ x.ss.length ≤ 1000000) (h2 : Sees w w.heap.size 3 A2 n2 (mtcs ms)) (hn2 : n2 ≤ 9223372036854775807) (ht : -4611686018427387904 ≤ t ∧ t ≤ 4611686018427387903) (hlk : -4611686018427387904 ≤ look ∧ look ≤ 4611686018427387903) :
    Calls Try.prog 9 #[.pointer (some ⟨g, 0, none⟩), .int .i64 t, .int .i64 look, .slice A2 n2 c2] w (PtsAns (pickS (keys L) t look ms) w) := by
  obtain ⟨i0, hi0, hz0, hz1, hz2⟩ := info_parts Try.infoPt
  obtain ⟨A, c, rfl, hc1, hc2⟩ := own_slice h.rows
  have hc0 : w.cell? ⟨g, 0, none⟩ = some (.slice A L.length c) := h.box.cell 0
  have hg := h.box.lt
  have HT : Hid (∀ V, Below w.heap.size w V → StAt g (.slice A L.length c) L V) := Lib.hid fun V hV => h.below hV
  have HM2 : Hid (∀ V, Below w.heap.size w V → Sees V V.heap.size 3 A2 n2 (mtcs ms)) := Lib.hid fun V hV => (h2.below hV).more hV.size
  clear h h2
  obtain ⟨m, hm⟩ : ∃ m, L.length = m := ⟨_, rfl⟩
  have HM := Lib.hid hm
  rw [hm] at hc0 hc1 hn HT
  clear hm
  have HC0 : Hid (∀ V, Below w.heap.size w V → V.cell? ⟨g, 0, none⟩ = some (.slice A m c)) := Lib.hid fun V hV => (HT.out V hV).box.cell 0
  have HTL := Lib.hid ht; have HLK := Lib.hid hlk
  clear ht hlk
  go_enter Try.func9, Try.ntmps9
  go_wp2_with fail
  go_loopg [9, 18] m (fun gg x9 x18 wr => ∃ (k : Nat) (X : Option Addr) (cx : Nat) (rows : List PtR), k + gg = m ∧ x18 = .int .i64 k ∧ x9 = .slice X rows.length cx ∧ PtsAt w.heap.size (.slice X rows.length cx) rows wr ∧ Below w.heap.size w wr ∧ rows.length ≤ k ∧ ptsOf rows = ((keys L).take k).flatMap (pickOne t look ms))
  case atStart => exact ⟨0, none, 0, [], by omega, rfl, rfl, PtsAt.nil _ _, Below.refl _ _, by simp, by simp [ptsOf]⟩
  case round =>
    obtain ⟨k, X, cx, rows, hkg, rfl, rfl, hrow, hbel, hrl, hrs⟩ := hrel
    have HR := Lib.hid hrow; have HB := Lib.hid hbel; have HS := Lib.hid hrs
    have hws := hbel.size
    have hd0 := HC0.out _ hbel
    have hgw : g < wr.heap.size := by omega
    clear hrow hbel hrs
    cases gk with
    | zero =>
      obtain rfl : k = m := by omega
      have HE := Lib.hid (show ptsOf rows = pickS (keys L) t look ms by rw [HS.out, List.take_of_length_le (by rw [keys_length, HM.out]; exact Nat.le_refl _)]; rfl)
      obtain ⟨X', cx', h1, h2, h3⟩ := own_slice HR.out.own
      injection h1 with h1 _ h4; subst h1; subst h4
      go_wp2_with fail
      go_ret
      exact ⟨X, cx, rows, HE.out, rfl, HR.out, HB.out, h2, h3⟩
    | succ gg =>
      have hlt : k < m := by omega
      have hkl : k < L.length := by rw [HM.out]; exact hlt
      have hrk : rows.length ≤ 1000 := by omega
      obtain ⟨ad, hA, hal, c0, c1, hser, hl⟩ := (HT.out _ HB.out).row hkl
      subst hA
      have hlen := hsl L[k] (List.getElem_mem _)
      have HF := Lib.hid (flatMap_more (pickOne t look ms) (show k < (keys L).length by rw [keys_length]; exact hkl))
      rw [keys_get hkl] at HF
      clear c0
      have HLT : Hid (∀ V, Below w.heap.size w V → Below wr.heap.size wr V → V.cell? ⟨g, 0, none⟩ = some (.slice (some ad) m c) ∧ V.cell? ⟨(ad.add (k * 3)).block, (ad.add (k * 3)).off + 1, none⟩ = some L[k].sv ∧ HasL V L[k].sv L[k].set) := Lib.hid fun V hV hV2 => ⟨HC0.out V hV, (hV2.cell (p := ⟨(ad.add (k * 3)).block, _, none⟩) hal).trans c1, hl.below hV2⟩
      have HSR : Hid (∀ V, Below wr.heap.size wr V → SerP L[k].ss V (ad.add (k * 3)).block ((ad.add (k * 3)).off + 2) L[k].xv) := Lib.hid fun V hV => hser.below hV
      clear hser
      generalize L[k].set = l at *
      generalize L[k].sv = sv at *
      generalize L[k].ss = ss at *
      generalize L[k].xv = xv at *
      obtain ⟨A0, c0, rfl⟩ := hl.form
      have HL := Lib.hid hl; clear hl
      have HAL := Lib.hid (all_any A0 l.length c0 _ l A2 n2 c2 _ ms wr HL.out.slice.1 (Nat.le_refl _) (by omega) (HM2.out _ HB.out) (Nat.le_refl _) hn2)
      cases hal2 : allF l ms with
      | false =>
        rw [hal2] at HAL
        have HN := Lib.hid (show ptsOf rows = ((keys L).take (k + 1)).flatMap (pickOne t look ms) by rw [HF.out, HS.out]; simp [pickOne, hal2])
        clear HF HS hal2
        go_wp2_with fail
        (with_reducible refine HAL.out.mono ?_); rintro e w1 ⟨rfl, hb1⟩
        have HB1 := Lib.hid (hb1.mono (Nat.le_refl _))
        have HBW := Lib.hid (HB.out.trans (hb1.mono hws))
        have HR1 := Lib.hid (HR.out.below hb1)
        clear hb1
        go_wp2_with fail
        go_roundg gg
        case measure => omega
        case rel => exact ⟨k + 1, X, cx, rows, by omega, by go_num, rfl, HR1.out, HBW.out, by omega, HN.out⟩
      | true =>
        rw [hal2] at HAL
        go_wp2_with fail
        (with_reducible refine HAL.out.mono ?_); rintro e w1 ⟨rfl, hb1⟩
        have HB1 := Lib.hid hb1
        have HBW := Lib.hid (HB.out.trans (hb1.mono hws))
        have HR1 := Lib.hid (HR.out.below hb1)
        have hs1 := hb1.size
        obtain ⟨hd1, hd2, hl1⟩ := HLT.out w1 HBW.out HB1.out
        have hal1 : (ad.add (k * 3)).block < w1.heap.size := by omega
        have hgw1 : g < w1.heap.size := by omega
        have HAT := Lib.hid (at_p ss (ad.add (k * 3)).block ((ad.add (k * 3)).off + 2) xv t look w1 (HSR.out w1 HB1.out) hlen.2 HTL.out HLK.out)
        have HL1 := Lib.hid hl1
        clear hb1 hl1 HAL HR HB hd0 hal hgw
        have HPO : Hid (pickOne t look ms (l, ss) = if (atF ss t look).2 then [(l, (atF ss t look).1)] else []) := Lib.hid (by simp [pickOne, hal2])
        clear hal2
        generalize atF ss t look = q at *
        obtain ⟨an, ab⟩ := q
        try simp only at HAT HPO
        cases ab with
        | false =>
          have HN := Lib.hid (show ptsOf rows = ((keys L).take (k + 1)).flatMap (pickOne t look ms) by rw [HF.out, HS.out, HPO.out]; simp)
          clear HF HS HPO
          go_wp2_with fail
          (with_reducible refine HAT.out.mono ?_); rintro e w2 ⟨rfl, rfl⟩
          go_wp2_with fail
          go_roundg gg
          case measure => omega
          case rel => exact ⟨k + 1, X, cx, rows, by omega, by go_num, rfl, HR1.out, HBW.out, by omega, HN.out⟩
        | true =>
          have HN := Lib.hid (show ptsOf rows ++ [(l, an)] = ((keys L).take (k + 1)).flatMap (pickOne t look ms) by rw [HF.out, HS.out, HPO.out]; simp)
          clear HF HS HPO
          go_wp2_with fail
          (with_reducible refine HAT.out.mono ?_); rintro e w2 ⟨rfl, rfl⟩
          clear HAT
          go_wp2_with fail
          (with_reducible refine (clone_lbl A0 l.length c0 _ l _ HL1.out.slice.1 (Nat.le_refl _) (by omega)).mono ?_); rintro e wq hcl
          obtain ⟨A5, c5, rfl, hol, hbq⟩ := ownL_of hcl
          have hsq := hbq.size
          have HBQ := Lib.hid (HBW.out.trans (hbq.mono (by omega)))
          have HRW := Lib.hid ((HR1.out.below hbq).below ((Below.refl _ wq).alloc (Nat.le_refl _) (.cells #[.slice A5 l.length c5, .int .i64 an] 34)))
          have HOL := Lib.hid (hol.below ((Below.refl _ wq).alloc (Nat.le_refl _) (.cells #[.slice A5 l.length c5, .int .i64 an] 34)))
          have HX := Lib.hid (show Sees (wq.alloc (.cells #[.slice A5 l.length c5, .int .i64 an] 34)) (wq.alloc (.cells #[.slice A5 l.length c5, .int .i64 an] 34)).heap.size 2 (some ⟨wq.heap.size, 0, none⟩) 1 [.slice A5 l.length c5, .int .i64 an] from (Blk.mk (heap_alloc_new wq _) : Blk _ wq.heap.size 34 [.slice A5 l.length c5, .int .i64 an]).sees rfl (List.prefix_refl _))
          have HBA := Lib.hid (HBQ.out.alloc (by omega) (.cells #[.slice A5 l.length c5, .int .i64 an] 34))
          have HBX : Hid (∀ g, (Value.slice X rows.length cx).ownBlock = some g → w.heap.size ≤ g) := Lib.hid fun g hg => (HRW.out.own.lt g hg).1
          clear hol hcl hbq HR1 HB1
          go_wp2_with (at_builtin; refine wpList_append_at rfl (.tmp 46) (.tmp 58) 31 rfl w.heap.size 34 i0 (.agg #[.slice none 0 0, .int .i64 0]) 2 32 Try.underlying31 hi0 hz0 hz1 hz2 rfl (by decide) (.slice X rows.length cx) rows.length (pts rows) rfl HRW.out.own _ _ 1 1 [.slice A5 l.length c5, .int .i64 an] rfl HX.out (by intro u hu; simp at hu; rcases hu with rfl | rfl <;> rfl) (by unfold maxLen; omega) (by omega) (by simp; omega) ?_)
          intro v3 w3 hown3 hgr3 hwh3
          obtain ⟨A6, c6, rfl, hc3, hc4⟩ := own_slice hown3
          have HRN := Lib.hid (HRW.out.push (l := l) (z := an) HOL.out hown3 hgr3)
          have HB3 := Lib.hid (HBA.out.grown hgr3 (by simp; omega) HBX.out)
          clear hown3 hgr3 hwh3 HX HBA HBX
          have HLN := Lib.hid (show (rows ++ [(⟨Value.slice A5 l.length c5, l, an⟩ : PtR)]).length = rows.length + 1 by simp)
          go_wp2_with fail
          go_roundg gg
          case measure => omega
          case rel => exact ⟨k + 1, A6, c6, rows ++ [⟨.slice A5 l.length c5, l, an⟩], by omega, by go_num, by rw [HLN.out], by rw [HLN.out]; exact HRN.out, HB3.out, by rw [HLN.out]; omega, by rw [ptsOf_push]; exact HN.out⟩
end Go.Proofs.Ythbinnbnmckmfaa
