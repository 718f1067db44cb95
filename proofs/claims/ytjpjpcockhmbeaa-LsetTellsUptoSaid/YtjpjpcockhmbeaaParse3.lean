/- lset.Parse: the whole. -/
import Derived.Test.YtjpjpcockhmbeaaParse2
namespace Go.Proofs.Ytjpjpcockhmbeaa
open Go.ChangeShapes Go.WideShapes Go.ChangeAt Go.RowKit
set_option linter.unusedVariables false
set_option maxRecDepth 100000
theorem Try.infoLabel : (Try.prog.info? 25).map (fun i => (i.zero, i.size, i.bytes)) = some (some (.agg #[.string ⟨#[]⟩, .string ⟨#[]⟩]), 2, 32) := by kernel_rfl
theorem own_other {w : World} {base : Nat} {e : TypeId} {s n : Nat} {v : Value} {xs : List Value} (h : w.ownsRow base e s v n xs) {p : Addr} (hp : v.ownBlock ≠ some p.block) (u : Value) : (w.setCell p u).ownsRow base e s v n xs := by
  refine ⟨h.1, ?_⟩
  rcases h.2 with h2 | ⟨g, cap, cur, hv, hg, hh, rest⟩
  · exact .inl h2
  · refine .inr ⟨g, cap, cur, hv, hg, ?_, rest⟩
    exact (Below.heap_setCell w p u g (fun e => hp (by rw [hv, e]; rfl))).trans hh
theorem parseLoop_stop (f : Nat) (l : List (ByteArray × ByteArray)) : parseLoop (f + 1) [125] l = some l := by rw [parseLoop, if_pos rfl]
theorem parseLoop_first {f : Nat} {rest : List UInt8} {l : List (ByteArray × ByteArray)} (h : ¬ rest = [125]) (h0 : l.length = 0) : parseLoop (f + 1) rest l = match labelF rest with | none => none | some (x, r') => if l.length + 1 ≤ 6 then parseLoop f r' (l ++ [x]) else none := by
  conv => lhs; unfold parseLoop
  rw [if_neg h, if_pos h0]
  try rfl
theorem parseLoop_next {f : Nat} {r : List UInt8} {l : List (ByteArray × ByteArray)} (h : ¬ 44 :: r = [125]) (h0 : ¬ l.length = 0) : parseLoop (f + 1) (44 :: r) l = match labelF r with | none => none | some (x, r') => if l.length + 1 ≤ 6 then parseLoop f r' (l ++ [x]) else none := by
  conv => lhs; unfold parseLoop
  rw [if_neg h, if_neg h0]
  simp only [if_true]
  try rfl
theorem parseLoop_bad {f : Nat} {rest : List UInt8} {l : List (ByteArray × ByteArray)} (h : ¬ rest = [125]) (h0 : ¬ l.length = 0) (hc : ¬ ∃ r, rest = 44 :: r) : parseLoop (f + 1) rest l = none := by
  unfold parseLoop
  rw [if_neg h, if_neg h0]
  cases rest with
  | nil => rfl
  | cons x r => simp only; rw [if_neg (fun e => hc ⟨r, by rw [e]⟩)]
/-- What is told of a text that may be a set's. -/
def ParseAns (r : Option (List (ByteArray × ByteArray))) (w : World) (e : Ending) (w' : World) : Prop :=
  Below w.heap.size w w' ∧ match r with
    | none => e = .returned (.tuple #[.slice none 0 0, .bool false])
    | some l => ∃ A c, e = .returned (.tuple #[.slice A l.length c, .bool true]) ∧ w'.ownsRow w.heap.size 25 2 (.slice A l.length c) l.length (lbls l) ∧ l.length ≤ c ∧ c ≤ 9223372036854775807
theorem parseAns_no {w w' : World} {e : Ending} {r : Option (List (ByteArray × ByteArray))} (hr : r = none) (hb : Below w.heap.size w w') (he : e = .returned (.tuple #[.slice none 0 0, .bool false])) : ParseAns r w e w' := by subst hr; exact ⟨hb, he⟩
theorem parseAns_yes {w w' : World} {e : Ending} {r : Option (List (ByteArray × ByteArray))} {l : List (ByteArray × ByteArray)} {A : Option Addr} {c : Nat} (hr : r = some l) (hb : Below w.heap.size w w') (ho : w'.ownsRow w.heap.size 25 2 (.slice A l.length c) l.length (lbls l)) (he : e = .returned (.tuple #[.slice A l.length c, .bool true])) : ParseAns r w e w' := by
  subst hr
  obtain ⟨A', c', h1, h2, h3⟩ := own_slice ho
  injection h1 with h1 h4 h5; subst h1; subst h5
  exact ⟨hb, A, c, he, ho, h2, h3⟩
/-- What the loop leaves. -/
def ParseCut (Q : Option (List (ByteArray × ByteArray))) (w : World) (x5 x6 : Value) (wx : World) : Prop :=
  Below w.heap.size w wx ∧ match Q with
    | none => x5 = .bool false
    | some l => x5 = .bool true ∧ ∃ A c, x6 = .slice A l.length c ∧ wx.ownsRow w.heap.size 25 2 (.slice A l.length c) l.length (lbls l)
theorem parseCut_no {Q : Option (List (ByteArray × ByteArray))} {w wx : World} {x5 x6 : Value} (hQ : Q = none) (hb : Below w.heap.size w wx) (h5 : x5 = .bool false) : ParseCut Q w x5 x6 wx := by subst hQ; exact ⟨hb, h5⟩
theorem parseCut_yes {Q : Option (List (ByteArray × ByteArray))} {w wx : World} {x5 x6 : Value} {l : List (ByteArray × ByteArray)} {A : Option Addr} {c : Nat} (hQ : Q = some l) (hb : Below w.heap.size w wx) (h5 : x5 = .bool true) (h6 : x6 = .slice A l.length c) (ho : wx.ownsRow w.heap.size 25 2 (.slice A l.length c) l.length (lbls l)) : ParseCut Q w x5 x6 wx := by subst hQ; exact ⟨hb, h5, A, c, h6, ho⟩
/-- What holds at each round's head. -/
def ParseRel (Q : Option (List (ByteArray × ByteArray))) (s : ByteArray) (w : World) (g : Nat) (x4 x5 x6 : Value) (wr : World) : Prop :=
  Below w.heap.size w wr ∧ ((x5 = .bool false ∧ Q = none ∧ ∃ R, x4 = .string R) ∨
    (x5 = .bool true ∧ ∃ (rest : List UInt8) (l : List (ByteArray × ByteArray)) (A : Option Addr) (c : Nat), x4 = .string ⟨rest.toArray⟩ ∧ rest.length ≤ s.size ∧ l.length + g = 8 ∧ l.length ≤ 6 ∧ Q = parseLoop g rest l ∧ x6 = .slice A l.length c ∧ wr.ownsRow w.heap.size 25 2 (.slice A l.length c) l.length (lbls l)))
/-- The set's text behind the brace. -/
def behindL (s : List UInt8) : Option (List (ByteArray × ByteArray)) := match s with | [] => none | c :: r => if c = 123 then parseLoop 8 r [] else none
theorem parseF_behind (s : List UInt8) : parseF s = match behindL s with | none => none | some l => if rightS l then some l else none := by
  unfold parseF behindL
  cases s with
  | nil => rfl
  | cons c r =>
    simp only
    by_cases h : c = 123
    · simp only [h, if_true]; try rfl
    · simp [h]
set_option maxHeartbeats 4000000 in
theorem parse_any (s : ByteArray) (w : World) (hs : s.size ≤ 9223372036854775807) :
    Calls Try.prog 27 #[.string s] w (ParseAns (parseF s.data.toList) w) := by
  obtain ⟨i0, hi0, hz0, hz1, hz2⟩ := info_parts Try.infoLabel
  have HF := Lib.hid (parseF_behind s.data.toList)
  obtain ⟨Q, hQ⟩ : ∃ Q, behindL s.data.toList = Q := ⟨_, rfl⟩
  rw [hQ] at HF
  have HQ := Lib.hid hQ
  generalize parseF s.data.toList = tot at *
  clear hQ
  have HPRE : Hid (∃ (R : ByteArray) (b : Bool), (∀ W, Calls Try.prog 34 #[.string s, .string ⟨#[123]⟩] W fun e w' => e = .returned (.tuple #[.string R, .bool b]) ∧ W = w') ∧ ParseRel Q s w 8 (.string R) (.bool b) (.slice none 0 0) w) := Lib.hid (by
    by_cases h : ∃ r, s.data.toList = 123 :: r
    · obtain ⟨r, hr⟩ := h
      refine ⟨⟨r.toArray⟩, true, fun W => pre_yes 123 r s W hr, Below.refl _ _, .inr ⟨rfl, r, [], none, 0, rfl, ?_, rfl, by simp, ?_, rfl, own_nil _ _ _ _⟩⟩
      · have := congrArg List.length hr; simp at this; omega
      · rw [← HQ.out, hr, behindL, if_pos rfl]
    · refine ⟨s, false, fun W => pre_no 123 s W (fun r e => h ⟨r, e⟩), Below.refl _ _, .inl ⟨rfl, ?_, s, rfl⟩⟩
      rw [← HQ.out]
      cases hl : s.data.toList with
      | nil => rfl
      | cons c r => rw [behindL, if_neg (fun e => h ⟨r, by rw [hl, e]⟩)])
  obtain ⟨R, b, hp, hrel0⟩ := HPRE.out
  have HP := Lib.hid hp; have HR0 := Lib.hid hrel0
  clear hp hrel0 HPRE HQ
  go_enter Try.func27, Try.ntmps27
  go_wp2_with fail
  refine (HP.out _).mono ?_; rintro e w' ⟨rfl, rfl⟩
  clear HP
  go_upto_block 0 with fail
  go_cut [5, 6] from 13 to 43 (fun x5 x6 wx => ParseCut Q w x5 x6 wx)
  case first =>
    go_wp2_with fail
    go_loopg [4, 5, 6] 8 (fun g x4 x5 x6 wr => ParseRel Q s w g x4 x5 x6 wr)
    case atStart => exact HR0.out
    case round =>
      clear HR0
      obtain ⟨hbel, ⟨rfl, hQn, R, rfl⟩ | ⟨rfl, rest, l, A, c, rfl, hrl, hlg, hl6, hQp, rfl, hown⟩⟩ := hrel
      · have HB := Lib.hid hbel; have HN := Lib.hid hQn
        clear hbel hQn
        go_wp2_with fail
        go_meet
        exact parseCut_no HN.out HB.out rfl
      · have HB := Lib.hid hbel; have HO := Lib.hid hown; have HT := Lib.hid hQp
        have hws := hbel.size
        clear hbel hown hQp
        cases gk with
        | zero => omega
        | succ g =>
        by_cases hend : rest = [125]
        · subst hend
          have HN := Lib.hid (show Q = some l by rw [HT.out]; exact parseLoop_stop _ _)
          go_wp2_with fail
          go_meet
          exact parseCut_yes HN.out HB.out rfl rfl HO.out
        · have hne : (rest == [125]) = false := by simpa using hend
          have hne2 : (!rest == [125]) = true := by rw [hne]; rfl
          have HNE := Lib.hid hend
          clear hend
          by_cases h0 : l.length = 0
          · have z1 : ¬ 0 < l.length := by omega
            have HSTEP : Hid (Q = match labelF rest with | none => none | some (x, r') => if l.length + 1 ≤ 6 then parseLoop g r' (l ++ [x]) else none) := Lib.hid (by rw [HT.out]; exact parseLoop_first HNE.out h0)
            have HLAB := Lib.hid (fun W => label_any ⟨rest.toArray⟩ W (by show rest.toArray.size ≤ _; simp; omega))
            clear HT HNE h0
            go_wp2_with fail
            refine (HLAB.out _).mono ?_; rintro e w1 ⟨hb, he⟩
            cases hlab : labelF rest with
            | none =>
              rw [hlab] at he
              obtain ⟨a, b, t, rfl⟩ := he
              have HN : Hid (Q = none) := Lib.hid (by rw [HSTEP.out, hlab])
              clear hlab HSTEP HLAB
              have hbx : ∀ g, (Value.slice A l.length c).ownBlock = some g → w.heap.size ≤ g := fun g hg => (HO.out.lt g hg).1
              have HBX := Lib.hid hbx
              have hnx : (Value.slice A l.length c).ownBlock ≠ some wr.heap.size := fun e => by have := (HO.out.lt _ e).2; omega
              have hba : Below wr.heap.size wr w1 := ((Below.refl _ _).alloc (Nat.le_refl _) (.cells #[.string ⟨#[]⟩, .string ⟨#[]⟩] 25)).trans (hb.mono (by simp))
              have hs1 := hba.size
              have HK : Blk w1 wr.heap.size 25 [.string ⟨#[]⟩, .string ⟨#[]⟩] := Blk.below (Blk.mk (heap_alloc_new wr _)) hb (by simp)
              have hlt := HK.lt
              have hK2 : Blk ((w1.setCell ⟨wr.heap.size, 0, none⟩ (.string a)).setCell ⟨wr.heap.size, 1, none⟩ (.string b)) wr.heap.size 25 [.string a, .string b] := (HK.set 0 (.string a)).set 1 (.string b)
              have hO2 : ((w1.setCell ⟨wr.heap.size, 0, none⟩ (.string a)).setCell ⟨wr.heap.size, 1, none⟩ (.string b)).ownsRow w.heap.size 25 2 (.slice A l.length c) l.length (lbls l) := own_other (own_other (own_below HO.out hba (Nat.le_refl _)) (p := ⟨wr.heap.size, 0, none⟩) hnx _) (p := ⟨wr.heap.size, 1, none⟩) hnx _
              have hB2 : Below w.heap.size w ((w1.setCell ⟨wr.heap.size, 0, none⟩ (.string a)).setCell ⟨wr.heap.size, 1, none⟩ (.string b)) := ((HB.out.trans (hba.mono hws)).setCell (p := ⟨wr.heap.size, 0, none⟩) hws _).setCell (p := ⟨wr.heap.size, 1, none⟩) hws _
              have f0 := HK.frozen 0
              have f1 := (HK.set 0 (.string a)).frozen 1
              have c0 := HK.cell 0
              have c1 := (HK.set 0 (.string a)).cell 1
              simp only [List.getElem?_cons_zero, List.getElem?_cons_succ, List.set_cons_zero] at c0 c1
              have HK2 := Lib.hid hK2; have HO2 := Lib.hid hO2; have HB2 := Lib.hid hB2
              clear HK hK2 hO2 hB2 hnx hbx hb hba HO HB
              go_upto_region 9 with fail
              clear c0 c1 f0 f1
              generalize (w1.setCell ⟨wr.heap.size, 0, none⟩ (.string a)).setCell ⟨wr.heap.size, 1, none⟩ (.string b) = W at *
              have c0 := HK2.out.cell 0
              have c1 := HK2.out.cell 1
              simp only [List.getElem?_cons_zero, List.getElem?_cons_succ] at c0 c1
              have hWs := HB2.out.size
              have HX := Lib.hid (show Sees (W.alloc (.cells #[.string a, .string b] 25)) (W.alloc (.cells #[.string a, .string b] 25)).heap.size 2 (some ⟨W.heap.size, 0, none⟩) 1 (lbls [(a, b)]) from (Blk.mk (heap_alloc_new W _) : Blk _ W.heap.size 25 [.string a, .string b]).sees rfl (List.prefix_refl _))
              have HOA := Lib.hid (HO2.out.alloc (.cells #[.string a, .string b] 25))
              have HBA := Lib.hid (HB2.out.alloc hWs (.cells #[.string a, .string b] 25))
              clear HO2 HB2 HK2
              go_wp2_with (at_builtin; refine wpList_append_at rfl (.tmp 34) (.tmp 36) 22 rfl w.heap.size 25 i0 (.agg #[.string ⟨#[]⟩, .string ⟨#[]⟩]) 2 32 Try.underlying22 hi0 hz0 hz1 hz2 rfl (by decide) _ l.length (lbls l) rfl HOA.out _ _ 1 1 (lbls [(a, b)]) rfl HX.out (lbls_one _) (by unfold maxLen; omega) (by omega) (by simp; omega) ?_)
              intro v3 w3 hown3 hgr3 hwh3
              obtain ⟨A3, c3, rfl, hc3, hc4⟩ := own_slice hown3
              rw [← lbls_append] at hown3
              have HO3 := Lib.hid hown3
              have HB3 := Lib.hid (HBA.out.grown hgr3 (by simp; omega) HBX.out)
              clear hown3 hgr3 hwh3 HOA HX HBA HBX
              go_wp2_with fail
              go_roundg g
              case measure => omega
              case rel => exact ⟨HB3.out, .inl ⟨rfl, HN.out, _, rfl⟩⟩
            | some p =>
              obtain ⟨⟨a, b⟩, t⟩ := p
              rw [hlab] at he
              simp only at he
              subst he
              have HS2 : Hid (Q = if l.length + 1 ≤ 6 then parseLoop g t (l ++ [(a, b)]) else none) := Lib.hid (by rw [HSTEP.out, hlab])
              have htl : t.length ≤ s.size := by
                have := congrArg List.length (labelF_some hlab)
                rw [List.length_append] at this
                omega
              clear hlab HSTEP HLAB
              have hbx : ∀ g, (Value.slice A l.length c).ownBlock = some g → w.heap.size ≤ g := fun g hg => (HO.out.lt g hg).1
              have HBX := Lib.hid hbx
              have hnx : (Value.slice A l.length c).ownBlock ≠ some wr.heap.size := fun e => by have := (HO.out.lt _ e).2; omega
              have hba : Below wr.heap.size wr w1 := ((Below.refl _ _).alloc (Nat.le_refl _) (.cells #[.string ⟨#[]⟩, .string ⟨#[]⟩] 25)).trans (hb.mono (by simp))
              have hs1 := hba.size
              have HK : Blk w1 wr.heap.size 25 [.string ⟨#[]⟩, .string ⟨#[]⟩] := Blk.below (Blk.mk (heap_alloc_new wr _)) hb (by simp)
              have hlt := HK.lt
              have hK2 : Blk ((w1.setCell ⟨wr.heap.size, 0, none⟩ (.string a)).setCell ⟨wr.heap.size, 1, none⟩ (.string b)) wr.heap.size 25 [.string a, .string b] := (HK.set 0 (.string a)).set 1 (.string b)
              have hO2 : ((w1.setCell ⟨wr.heap.size, 0, none⟩ (.string a)).setCell ⟨wr.heap.size, 1, none⟩ (.string b)).ownsRow w.heap.size 25 2 (.slice A l.length c) l.length (lbls l) := own_other (own_other (own_below HO.out hba (Nat.le_refl _)) (p := ⟨wr.heap.size, 0, none⟩) hnx _) (p := ⟨wr.heap.size, 1, none⟩) hnx _
              have hB2 : Below w.heap.size w ((w1.setCell ⟨wr.heap.size, 0, none⟩ (.string a)).setCell ⟨wr.heap.size, 1, none⟩ (.string b)) := ((HB.out.trans (hba.mono hws)).setCell (p := ⟨wr.heap.size, 0, none⟩) hws _).setCell (p := ⟨wr.heap.size, 1, none⟩) hws _
              have f0 := HK.frozen 0
              have f1 := (HK.set 0 (.string a)).frozen 1
              have c0 := HK.cell 0
              have c1 := (HK.set 0 (.string a)).cell 1
              simp only [List.getElem?_cons_zero, List.getElem?_cons_succ, List.set_cons_zero] at c0 c1
              have HK2 := Lib.hid hK2; have HO2 := Lib.hid hO2; have HB2 := Lib.hid hB2
              clear HK hK2 hO2 hB2 hnx hbx hb hba HO HB
              go_upto_region 9 with fail
              clear c0 c1 f0 f1
              generalize (w1.setCell ⟨wr.heap.size, 0, none⟩ (.string a)).setCell ⟨wr.heap.size, 1, none⟩ (.string b) = W at *
              have c0 := HK2.out.cell 0
              have c1 := HK2.out.cell 1
              simp only [List.getElem?_cons_zero, List.getElem?_cons_succ] at c0 c1
              have hWs := HB2.out.size
              have HX := Lib.hid (show Sees (W.alloc (.cells #[.string a, .string b] 25)) (W.alloc (.cells #[.string a, .string b] 25)).heap.size 2 (some ⟨W.heap.size, 0, none⟩) 1 (lbls [(a, b)]) from (Blk.mk (heap_alloc_new W _) : Blk _ W.heap.size 25 [.string a, .string b]).sees rfl (List.prefix_refl _))
              have HOA := Lib.hid (HO2.out.alloc (.cells #[.string a, .string b] 25))
              have HBA := Lib.hid (HB2.out.alloc hWs (.cells #[.string a, .string b] 25))
              clear HO2 HB2 HK2
              go_wp2_with (at_builtin; refine wpList_append_at rfl (.tmp 34) (.tmp 36) 22 rfl w.heap.size 25 i0 (.agg #[.string ⟨#[]⟩, .string ⟨#[]⟩]) 2 32 Try.underlying22 hi0 hz0 hz1 hz2 rfl (by decide) _ l.length (lbls l) rfl HOA.out _ _ 1 1 (lbls [(a, b)]) rfl HX.out (lbls_one _) (by unfold maxLen; omega) (by omega) (by simp; omega) ?_)
              intro v3 w3 hown3 hgr3 hwh3
              obtain ⟨A3, c3, rfl, hc3, hc4⟩ := own_slice hown3
              rw [← lbls_append] at hown3
              have HO3 := Lib.hid hown3
              have HB3 := Lib.hid (HBA.out.grown hgr3 (by simp; omega) HBX.out)
              clear hown3 hgr3 hwh3 HOA HX HBA HBX
              by_cases h6 : l.length + 1 ≤ 6
              · have HN : Hid (Q = parseLoop g t (l ++ [(a, b)])) := Lib.hid (by rw [HS2.out, if_pos h6])
                clear HS2
                go_wp2_with fail
                go_roundg g
                case measure => omega
                case rel => exact ⟨HB3.out, .inr ⟨by simp; omega, t, l ++ [(a, b)], A3, c3, rfl, htl, by rw [List.length_append, List.length_singleton]; omega, by rw [List.length_append, List.length_singleton]; omega, HN.out, by rw [List.length_append, List.length_singleton], by rw [List.length_append, List.length_singleton]; exact HO3.out⟩⟩
              · have HN : Hid (Q = none) := Lib.hid (by rw [HS2.out, if_neg h6])
                clear HS2
                go_wp2_with fail
                go_roundg g
                case measure => omega
                case rel => exact ⟨HB3.out, .inl ⟨by simp; omega, HN.out, _, rfl⟩⟩
          · have z1 : 0 < l.length := by omega
            by_cases hc : ∃ r, rest = 44 :: r
            · obtain ⟨r, hr⟩ := hc
              have HPC := Lib.hid (fun W => pre_yes 44 r ⟨rest.toArray⟩ W (by simpa using hr))
              have HSTEP : Hid (Q = match labelF r with | none => none | some (x, r') => if l.length + 1 ≤ 6 then parseLoop g r' (l ++ [x]) else none) := Lib.hid (by have h := HNE.out; rw [hr] at h; rw [HT.out, hr]; exact parseLoop_next h h0)
              have hrr : r.length ≤ s.size := by have := congrArg List.length hr; simp at this; omega
              have HLAB := Lib.hid (fun W => label_any ⟨r.toArray⟩ W (by show r.toArray.size ≤ _; simp; omega))
              clear HT HNE hr h0
              go_wp2_with fail
              refine (HPC.out _).mono ?_; rintro e w' ⟨rfl, rfl⟩
              clear HPC
              go_wp2_with fail
              refine (HLAB.out _).mono ?_; rintro e w1 ⟨hb, he⟩
              cases hlab : labelF r with
              | none =>
                rw [hlab] at he
                obtain ⟨a, b, t, rfl⟩ := he
                have HN : Hid (Q = none) := Lib.hid (by rw [HSTEP.out, hlab])
                clear hlab HSTEP HLAB
                have hbx : ∀ g, (Value.slice A l.length c).ownBlock = some g → w.heap.size ≤ g := fun g hg => (HO.out.lt g hg).1
                have HBX := Lib.hid hbx
                have hnx : (Value.slice A l.length c).ownBlock ≠ some wr.heap.size := fun e => by have := (HO.out.lt _ e).2; omega
                have hba : Below wr.heap.size wr w1 := ((Below.refl _ _).alloc (Nat.le_refl _) (.cells #[.string ⟨#[]⟩, .string ⟨#[]⟩] 25)).trans (hb.mono (by simp))
                have hs1 := hba.size
                have HK : Blk w1 wr.heap.size 25 [.string ⟨#[]⟩, .string ⟨#[]⟩] := Blk.below (Blk.mk (heap_alloc_new wr _)) hb (by simp)
                have hlt := HK.lt
                have hK2 : Blk ((w1.setCell ⟨wr.heap.size, 0, none⟩ (.string a)).setCell ⟨wr.heap.size, 1, none⟩ (.string b)) wr.heap.size 25 [.string a, .string b] := (HK.set 0 (.string a)).set 1 (.string b)
                have hO2 : ((w1.setCell ⟨wr.heap.size, 0, none⟩ (.string a)).setCell ⟨wr.heap.size, 1, none⟩ (.string b)).ownsRow w.heap.size 25 2 (.slice A l.length c) l.length (lbls l) := own_other (own_other (own_below HO.out hba (Nat.le_refl _)) (p := ⟨wr.heap.size, 0, none⟩) hnx _) (p := ⟨wr.heap.size, 1, none⟩) hnx _
                have hB2 : Below w.heap.size w ((w1.setCell ⟨wr.heap.size, 0, none⟩ (.string a)).setCell ⟨wr.heap.size, 1, none⟩ (.string b)) := ((HB.out.trans (hba.mono hws)).setCell (p := ⟨wr.heap.size, 0, none⟩) hws _).setCell (p := ⟨wr.heap.size, 1, none⟩) hws _
                have f0 := HK.frozen 0
                have f1 := (HK.set 0 (.string a)).frozen 1
                have c0 := HK.cell 0
                have c1 := (HK.set 0 (.string a)).cell 1
                simp only [List.getElem?_cons_zero, List.getElem?_cons_succ, List.set_cons_zero] at c0 c1
                have HK2 := Lib.hid hK2; have HO2 := Lib.hid hO2; have HB2 := Lib.hid hB2
                clear HK hK2 hO2 hB2 hnx hbx hb hba HO HB
                go_upto_region 9 with fail
                clear c0 c1 f0 f1
                generalize (w1.setCell ⟨wr.heap.size, 0, none⟩ (.string a)).setCell ⟨wr.heap.size, 1, none⟩ (.string b) = W at *
                have c0 := HK2.out.cell 0
                have c1 := HK2.out.cell 1
                simp only [List.getElem?_cons_zero, List.getElem?_cons_succ] at c0 c1
                have hWs := HB2.out.size
                have HX := Lib.hid (show Sees (W.alloc (.cells #[.string a, .string b] 25)) (W.alloc (.cells #[.string a, .string b] 25)).heap.size 2 (some ⟨W.heap.size, 0, none⟩) 1 (lbls [(a, b)]) from (Blk.mk (heap_alloc_new W _) : Blk _ W.heap.size 25 [.string a, .string b]).sees rfl (List.prefix_refl _))
                have HOA := Lib.hid (HO2.out.alloc (.cells #[.string a, .string b] 25))
                have HBA := Lib.hid (HB2.out.alloc hWs (.cells #[.string a, .string b] 25))
                clear HO2 HB2 HK2
                go_wp2_with (at_builtin; refine wpList_append_at rfl (.tmp 34) (.tmp 36) 22 rfl w.heap.size 25 i0 (.agg #[.string ⟨#[]⟩, .string ⟨#[]⟩]) 2 32 Try.underlying22 hi0 hz0 hz1 hz2 rfl (by decide) _ l.length (lbls l) rfl HOA.out _ _ 1 1 (lbls [(a, b)]) rfl HX.out (lbls_one _) (by unfold maxLen; omega) (by omega) (by simp; omega) ?_)
                intro v3 w3 hown3 hgr3 hwh3
                obtain ⟨A3, c3, rfl, hc3, hc4⟩ := own_slice hown3
                rw [← lbls_append] at hown3
                have HO3 := Lib.hid hown3
                have HB3 := Lib.hid (HBA.out.grown hgr3 (by simp; omega) HBX.out)
                clear hown3 hgr3 hwh3 HOA HX HBA HBX
                go_wp2_with fail
                go_roundg g
                case measure => omega
                case rel => exact ⟨HB3.out, .inl ⟨rfl, HN.out, _, rfl⟩⟩
              | some p =>
                obtain ⟨⟨a, b⟩, t⟩ := p
                rw [hlab] at he
                simp only at he
                subst he
                have HS2 : Hid (Q = if l.length + 1 ≤ 6 then parseLoop g t (l ++ [(a, b)]) else none) := Lib.hid (by rw [HSTEP.out, hlab])
                have htl : t.length ≤ s.size := by
                  have := congrArg List.length (labelF_some hlab)
                  rw [List.length_append] at this
                  omega
                clear hlab HSTEP HLAB
                have hbx : ∀ g, (Value.slice A l.length c).ownBlock = some g → w.heap.size ≤ g := fun g hg => (HO.out.lt g hg).1
                have HBX := Lib.hid hbx
                have hnx : (Value.slice A l.length c).ownBlock ≠ some wr.heap.size := fun e => by have := (HO.out.lt _ e).2; omega
                have hba : Below wr.heap.size wr w1 := ((Below.refl _ _).alloc (Nat.le_refl _) (.cells #[.string ⟨#[]⟩, .string ⟨#[]⟩] 25)).trans (hb.mono (by simp))
                have hs1 := hba.size
                have HK : Blk w1 wr.heap.size 25 [.string ⟨#[]⟩, .string ⟨#[]⟩] := Blk.below (Blk.mk (heap_alloc_new wr _)) hb (by simp)
                have hlt := HK.lt
                have hK2 : Blk ((w1.setCell ⟨wr.heap.size, 0, none⟩ (.string a)).setCell ⟨wr.heap.size, 1, none⟩ (.string b)) wr.heap.size 25 [.string a, .string b] := (HK.set 0 (.string a)).set 1 (.string b)
                have hO2 : ((w1.setCell ⟨wr.heap.size, 0, none⟩ (.string a)).setCell ⟨wr.heap.size, 1, none⟩ (.string b)).ownsRow w.heap.size 25 2 (.slice A l.length c) l.length (lbls l) := own_other (own_other (own_below HO.out hba (Nat.le_refl _)) (p := ⟨wr.heap.size, 0, none⟩) hnx _) (p := ⟨wr.heap.size, 1, none⟩) hnx _
                have hB2 : Below w.heap.size w ((w1.setCell ⟨wr.heap.size, 0, none⟩ (.string a)).setCell ⟨wr.heap.size, 1, none⟩ (.string b)) := ((HB.out.trans (hba.mono hws)).setCell (p := ⟨wr.heap.size, 0, none⟩) hws _).setCell (p := ⟨wr.heap.size, 1, none⟩) hws _
                have f0 := HK.frozen 0
                have f1 := (HK.set 0 (.string a)).frozen 1
                have c0 := HK.cell 0
                have c1 := (HK.set 0 (.string a)).cell 1
                simp only [List.getElem?_cons_zero, List.getElem?_cons_succ, List.set_cons_zero] at c0 c1
                have HK2 := Lib.hid hK2; have HO2 := Lib.hid hO2; have HB2 := Lib.hid hB2
                clear HK hK2 hO2 hB2 hnx hbx hb hba HO HB
                go_upto_region 9 with fail
                clear c0 c1 f0 f1
                generalize (w1.setCell ⟨wr.heap.size, 0, none⟩ (.string a)).setCell ⟨wr.heap.size, 1, none⟩ (.string b) = W at *
                have c0 := HK2.out.cell 0
                have c1 := HK2.out.cell 1
                simp only [List.getElem?_cons_zero, List.getElem?_cons_succ] at c0 c1
                have hWs := HB2.out.size
                have HX := Lib.hid (show Sees (W.alloc (.cells #[.string a, .string b] 25)) (W.alloc (.cells #[.string a, .string b] 25)).heap.size 2 (some ⟨W.heap.size, 0, none⟩) 1 (lbls [(a, b)]) from (Blk.mk (heap_alloc_new W _) : Blk _ W.heap.size 25 [.string a, .string b]).sees rfl (List.prefix_refl _))
                have HOA := Lib.hid (HO2.out.alloc (.cells #[.string a, .string b] 25))
                have HBA := Lib.hid (HB2.out.alloc hWs (.cells #[.string a, .string b] 25))
                clear HO2 HB2 HK2
                go_wp2_with (at_builtin; refine wpList_append_at rfl (.tmp 34) (.tmp 36) 22 rfl w.heap.size 25 i0 (.agg #[.string ⟨#[]⟩, .string ⟨#[]⟩]) 2 32 Try.underlying22 hi0 hz0 hz1 hz2 rfl (by decide) _ l.length (lbls l) rfl HOA.out _ _ 1 1 (lbls [(a, b)]) rfl HX.out (lbls_one _) (by unfold maxLen; omega) (by omega) (by simp; omega) ?_)
                intro v3 w3 hown3 hgr3 hwh3
                obtain ⟨A3, c3, rfl, hc3, hc4⟩ := own_slice hown3
                rw [← lbls_append] at hown3
                have HO3 := Lib.hid hown3
                have HB3 := Lib.hid (HBA.out.grown hgr3 (by simp; omega) HBX.out)
                clear hown3 hgr3 hwh3 HOA HX HBA HBX
                by_cases h6 : l.length + 1 ≤ 6
                · have HN : Hid (Q = parseLoop g t (l ++ [(a, b)])) := Lib.hid (by rw [HS2.out, if_pos h6])
                  clear HS2
                  go_wp2_with fail
                  go_roundg g
                  case measure => omega
                  case rel => exact ⟨HB3.out, .inr ⟨by simp; omega, t, l ++ [(a, b)], A3, c3, rfl, htl, by rw [List.length_append, List.length_singleton]; omega, by rw [List.length_append, List.length_singleton]; omega, HN.out, by rw [List.length_append, List.length_singleton], by rw [List.length_append, List.length_singleton]; exact HO3.out⟩⟩
                · have HN : Hid (Q = none) := Lib.hid (by rw [HS2.out, if_neg h6])
                  clear HS2
                  go_wp2_with fail
                  go_roundg g
                  case measure => omega
                  case rel => exact ⟨HB3.out, .inl ⟨by simp; omega, HN.out, _, rfl⟩⟩
            · have HPC := Lib.hid (fun W => pre_no 44 ⟨rest.toArray⟩ W (fun r e => hc ⟨r, by simpa using e⟩))
              have HN : Hid (Q = none) := Lib.hid (by rw [HT.out]; exact parseLoop_bad HNE.out h0 hc)
              clear HT HNE h0 hc
              go_wp2_with fail
              refine (HPC.out _).mono ?_; rintro e w' ⟨rfl, rfl⟩
              clear HPC
              go_wp2_with fail
              go_meet
              exact parseCut_no HN.out HB.out rfl
  case rest =>
    clear HR0
    obtain ⟨hbel, hcut⟩ := hcut
    have HB := Lib.hid hbel
    have hws := hbel.size
    clear hbel
    cases Q with
    | none =>
      simp only at hcut
      subst hcut
      have HN : Hid (tot = none) := Lib.hid (by rw [HF.out])
      clear HF
      go_wp2_with fail
      go_ret2
      exact parseAns_no HN.out HB.out rfl
    | some l =>
      obtain ⟨rfl, A, c, rfl, hown⟩ := hcut
      have HO := Lib.hid hown
      obtain ⟨A', c', h1, h2, h3⟩ := own_slice hown
      injection h1 with h1 h4 h5; subst h1; subst h5
      clear hown h4
      have HR := Lib.hid (fun W (hW : Sees W W.heap.size 2 A l.length (lbls l)) => rightSet_any A l.length c l W.heap.size W hW (Nat.le_refl _) (by omega))
      obtain ⟨q, hq⟩ : ∃ q, rightS l = q := ⟨_, rfl⟩
      rw [hq] at HR
      have HF2 : Hid (tot = if q then some l else none) := Lib.hid (by rw [HF.out, ← hq])
      clear HF hq
      cases q with
      | true =>
        have HN : Hid (tot = some l) := Lib.hid (by rw [HF2.out]; rfl)
        clear HF2
        go_wp2_with fail
        refine (HR.out _ (Sees.of_own HO.out)).mono ?_; rintro e w1 ⟨rfl, hb⟩
        have HB1 := Lib.hid (HB.out.trans (hb.mono hws)); have HO1 := Lib.hid (own_below HO.out hb (Nat.le_refl _))
        clear hb HB HO HR
        go_wp2_with fail
        go_ret2
        exact parseAns_yes HN.out HB1.out HO1.out rfl
      | false =>
        have HN : Hid (tot = none) := Lib.hid (by rw [HF2.out]; rfl)
        clear HF2
        go_wp2_with fail
        refine (HR.out _ (Sees.of_own HO.out)).mono ?_; rintro e w1 ⟨rfl, hb⟩
        have HB1 := Lib.hid (HB.out.trans (hb.mono hws))
        clear hb HB HO HR
        go_wp2_with fail
        go_ret2
        exact parseAns_no HN.out HB1.out rfl
end Go.Proofs.Ytjpjpcockhmbeaa
