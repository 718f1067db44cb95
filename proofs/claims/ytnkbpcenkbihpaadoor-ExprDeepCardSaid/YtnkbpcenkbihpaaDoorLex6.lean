/- lex.Tokens. -/
import Derived.Test.YtnkbpcenkbihpaaDoorLex5
import Derived.Test.YtnkbpcenkbihpaaDoorBase
import Derived.Lib.PathFns
namespace Go.Proofs.YtnkbpcenkbihpaaDoor
open Go.ChangeShapes Go.WideShapes Go.ChangeAt Go.RowKit
set_option linter.unusedVariables false
set_option linter.unusedSimpArgs false
set_option maxRecDepth 100000
theorem Tryd.infoTok : (Tryd.prog.info? 43).map (fun i => (i.zero, i.size, i.bytes)) = some (some (.agg #[.int .i64 0, .int .i64 0, .int .i64 0, .string ⟨#[]⟩]), 4, 40) := by kernel_rfl
/-- Tokens as cells. -/
def tcells (l : List Tok) : List Value := l.flatMap fun t => [.int .i64 t.kd, .int .i64 t.n, .int .i64 t.at_, .string t.tx]
theorem tcells_append (l m : List Tok) : tcells (l ++ m) = tcells l ++ tcells m := by simp [tcells]
theorem tcells_length (l : List Tok) : (tcells l).length = l.length * 4 := by
  induction l with
  | nil => rfl
  | cons x l ih => simp only [tcells, List.flatMap_cons, List.length_append, List.length_cons, List.length_nil] at ih ⊢; omega
/-- Tokens cut off a text. -/
def tokGo : Nat → List UInt8 → Nat → List Tok → List Tok × Nat
  | 0, _, a, acc => (acc, a)
  | f + 1, l, a, acc => match l with
    | [] => (acc, a)
    | c :: r => if (c.toNat == 32 || c.toNat == 10) = true then tokGo f r (a + 1) acc else if acc.length = 400 then (acc, a) else
      match firstT ⟨(c :: r).toArray⟩ with
      | none => (acc, a)
      | some (t, u) => if u = 0 then (acc, a) else tokGo f ((c :: r).drop u) (a + u) (acc ++ [⟨t.kd, t.n, a, t.tx⟩])
theorem tokGo_fuel : ∀ (f f' : Nat) (l : List UInt8) (a : Nat) (acc : List Tok), l.length < f → l.length < f' → tokGo f l a acc = tokGo f' l a acc
  | 0, _, _, _, _, h, _ => by omega
  | _, 0, _, _, _, _, h => by omega
  | f + 1, f' + 1, [], a, acc, _, _ => rfl
  | f + 1, f' + 1, c :: r, a, acc, h, h' => by
    rw [List.length_cons] at h h'
    unfold tokGo
    simp only
    split
    · exact tokGo_fuel f f' r _ _ (by omega) (by omega)
    · split
      · rfl
      · split
        · rfl
        · next t u _ =>
          split
          · rfl
          · exact tokGo_fuel f f' _ _ _ (by rw [List.length_drop, List.length_cons]; omega) (by rw [List.length_drop, List.length_cons]; omega)
def tokF (l : List UInt8) : List Tok × Nat := tokGo (l.length + 1) l 0 []
/-- The state at a byte. -/
def tokAt (l : List UInt8) (a : Nat) (acc : List Tok) : List Tok × Nat := tokGo (l.length - a + 1) (l.drop a) a acc
theorem tokAt_end {l : List UInt8} {a : Nat} {acc : List Tok} (h : l.length ≤ a) : tokAt l a acc = (acc, a) := by
  unfold tokAt; rw [List.drop_eq_nil_of_le h]; rfl
theorem tokAt_blank {l : List UInt8} {a : Nat} {acc : List Tok} (h : a < l.length) (hb : ((l[a]).toNat == 32 || (l[a]).toNat == 10) = true) : tokAt l a acc = tokAt l (a + 1) acc := by
  unfold tokAt
  rw [List.drop_eq_getElem_cons h]
  conv => lhs; unfold tokGo
  simp only
  rw [if_pos hb]
  exact tokGo_fuel _ _ _ _ _ (by rw [List.length_drop]; omega) (by rw [List.length_drop]; omega)
theorem tokAt_full {l : List UInt8} {a : Nat} {acc : List Tok} (h : a < l.length) (hb : ((l[a]).toNat == 32 || (l[a]).toNat == 10) = false) (h4 : acc.length = 400) : tokAt l a acc = (acc, a) := by
  unfold tokAt
  rw [List.drop_eq_getElem_cons h]
  unfold tokGo
  simp only
  rw [if_neg (by rw [hb]; simp), if_pos h4]
theorem tokAt_none {l : List UInt8} {a : Nat} {acc : List Tok} (h : a < l.length) (hb : ((l[a]).toNat == 32 || (l[a]).toNat == 10) = false) (h4 : acc.length ≠ 400) (hf : ∀ t u, firstT ⟨(l.drop a).toArray⟩ = some (t, u) → u = 0) : tokAt l a acc = (acc, a) := by
  unfold tokAt
  rw [List.drop_eq_getElem_cons h] at hf ⊢
  unfold tokGo
  simp only
  rw [if_neg (by rw [hb]; simp), if_neg h4]
  split
  · rfl
  · next t u e => rw [if_pos (hf t u e)]
theorem tokAt_some {l : List UInt8} {a : Nat} {acc : List Tok} {t : Tok} {u : Nat} (h : a < l.length) (hb : ((l[a]).toNat == 32 || (l[a]).toNat == 10) = false) (h4 : acc.length ≠ 400) (hf : firstT ⟨(l.drop a).toArray⟩ = some (t, u)) (hu : u ≠ 0) : tokAt l a acc = tokAt l (a + u) (acc ++ [⟨t.kd, t.n, a, t.tx⟩]) := by
  unfold tokAt
  rw [List.drop_eq_getElem_cons h] at hf ⊢
  conv => lhs; unfold tokGo
  simp only
  rw [if_neg (by rw [hb]; simp), if_neg h4, hf]
  simp only
  rw [if_neg hu]
  have e : (l[a] :: l.drop (a + 1)).drop u = l.drop (a + u) := by rw [← List.drop_eq_getElem_cons h, List.drop_drop]
  rw [e]
  exact tokGo_fuel _ _ _ _ _ (by rw [List.length_drop]; omega) (by rw [List.length_drop]; omega)
theorem numAt_le : ∀ (l : List UInt8) (k : Nat) (n m : Int) (j : Nat), numAt k n l = some (m, j) → j ≤ k + l.length
  | [], k, n, m, j, h => by rw [numAt_end] at h; injection h with h; injection h with _ h; rw [← h]; exact Nat.le_refl _
  | c :: r, k, n, m, j, h => by
    rw [List.length_cons]
    by_cases hd : digitN c.toNat = true
    · by_cases ho : n < (-9223372036854775808 + ((c.toNat : Int) - 48)).tdiv 10
      · rw [numAt_over hd ho] at h; cases h
      · rw [numAt_next hd ho] at h
        have := numAt_le r (k + 1) _ m j h
        omega
    · rw [numAt_stop (by simpa using hd)] at h; injection h with h; injection h with _ h; omega
theorem hasPrefix_le {l p : List UInt8} (h : Lib.hasPrefix l p = true) : p.length ≤ l.length := (List.isPrefixOf_iff_prefix.1 h).length_le
theorem spanW_le (l : List UInt8) : spanW l ≤ l.length := by unfold spanW; exact (List.takeWhile_sublist _).length_le
theorem signIn_le {l : List UInt8} : ∀ {L : List ByteArray} {t : Tok} {u : Nat}, signIn l L = some (t, u) → u ≤ l.length
  | [], _, _, h => by cases h
  | x :: r, t, u, h => by
    unfold signIn at h
    split at h
    · next hp =>
      injection h with h; injection h with _ h
      have h2 := hasPrefix_le hp
      rw [← h]
      simpa using h2
    · exact signIn_le h
theorem firstT_le {s : ByteArray} {t : Tok} {u : Nat} (h0 : 0 < s.size) (h : firstT s = some (t, u)) : u ≤ s.size := by
  have hl : s.data.toList.length = s.size := by simp
  unfold firstT at h
  split at h
  · unfold numT at h
    rw [Option.map_eq_some_iff] at h
    obtain ⟨⟨n, j⟩, hn, he⟩ := h
    injection he with _ he
    rw [← he]
    unfold numF at hn
    split at hn
    · have := numAt_le _ _ _ _ _ hn
      rw [List.length_drop, hl] at this
      show j ≤ s.size
      omega
    · split at hn
      · cases hn
      · next n2 u2 h2 =>
        split at hn
        · cases hn
        · injection hn with hn; injection hn with _ hn
          have := numAt_le _ _ _ _ _ h2
          show j ≤ s.size
          omega
  · split at h
    · unfold wordT at h
      split at h
      · cases h
      · injection h with h; injection h with _ h
        have := spanW_le (s.data.toList.drop 1)
        rw [List.length_drop, hl] at this
        omega
    · split at h
      · unfold quotedT at h
        rw [Option.map_eq_some_iff] at h
        obtain ⟨p, _, he⟩ := h
        injection he with _ he
        omega
      · have := signIn_le h
        omega
/-- What Tokens answers. -/
def TokAns (r : List Tok × Nat) (n : Nat) (w : World) (e : Ending) (w' : World) : Prop :=
  if r.2 < n then e = .returned (.tuple #[.slice none 0 0, .int .i64 r.2, .int .i64 1]) ∧ Below w.heap.size w w'
  else ∃ A c, e = .returned (.tuple #[.slice A r.1.length c, .int .i64 0, .int .i64 0]) ∧ w'.ownsRow w.heap.size 43 4 (.slice A r.1.length c) r.1.length (tcells r.1) ∧ Below w.heap.size w w' ∧ r.1.length ≤ c ∧ c ≤ 9223372036854775807
set_option maxHeartbeats 8000000 in
theorem tokens_any (s : ByteArray) (w : World) (hs : s.size ≤ 35184372088832) :
    Calls Tryd.prog 17 #[.string s] w (TokAns (tokF s.data.toList) s.size w) := by
  obtain ⟨i0, hi0, hz0, hz1, hz2⟩ := info_parts Tryd.infoTok
  have HRS := Lib.hid (show s.data.toList.length = s.size by simp)
  obtain ⟨r, hr⟩ : ∃ r, s.data.toList = r := ⟨_, rfl⟩
  rw [hr] at HRS
  rw [hr]
  have HR := Lib.hid hr
  obtain ⟨tot, htot⟩ : ∃ tot, tokF r = tot := ⟨_, rfl⟩
  rw [htot]
  have HT0 := Lib.hid (show tot = tokAt r 0 [] from htot.symm)
  clear hr htot
  go_enter Tryd.func17, Tryd.ntmps17
  go_wp2_with fail
  go_step3
  go_wp2_with fail
  go_step3
  go_upto_block 0 with fail
  go_cut [5, 6] from 9 to 47 (fun x5 x6 wx => ∃ (a : Nat) (toks : List Tok) (A : Option Addr) (c : Nat), x6 = .int .i64 a ∧ x5 = .slice A toks.length c ∧ tot = (toks, a) ∧ a ≤ s.size ∧ wx.ownsRow w.heap.size 43 4 (.slice A toks.length c) toks.length (tcells toks) ∧ Below w.heap.size w wx)
  case first =>
    go_wp2_with fail
    go_loopg [5, 6] s.size (fun g x5 x6 wr => ∃ (a : Nat) (toks : List Tok) (A : Option Addr) (c : Nat), a + g = s.size ∧ x6 = .int .i64 a ∧ x5 = .slice A toks.length c ∧ tot = tokAt r a toks ∧ toks.length ≤ 400 ∧ wr.ownsRow w.heap.size 43 4 (.slice A toks.length c) toks.length (tcells toks) ∧ Below w.heap.size w wr)
    case atStart => exact ⟨0, [], none, 0, by omega, rfl, rfl, HT0.out, by simp, own_nil _ _ _ _, Below.refl _ _⟩
    case round =>
      obtain ⟨a, toks, A, c, hag, rfl, rfl, htk, htl, hown, hbel⟩ := hrel
      have HT := Lib.hid htk; have HO := Lib.hid hown; have HB := Lib.hid hbel
      have hws := hbel.size
      clear htk hown hbel HT0
      cases gk with
      | zero =>
        have has : a = s.size := by omega
        have HE := Lib.hid (show tot = (toks, a) by rw [HT.out]; exact tokAt_end (by rw [HRS.out]; omega))
        have has2 : (s.size : Int) ≤ a := by omega
        have hale : a ≤ s.size := by omega
        clear has
        go_wp2_with fail
        go_meet
        exact ⟨a, toks, A, c, rfl, rfl, HE.out, hale, HO.out, HB.out⟩
      | succ g =>
        have hlt : a < s.size := by omega
        have hlr : a < r.length := by rw [HRS.out]; exact hlt
        have hale : a ≤ s.size := by omega
        have HG : Hid (s[a] = r[a]) := Lib.hid (by have := HR.out; subst this; rfl)
        by_cases h32 : (s[a]).toNat = 32
        · have t1 : (((s[a]).toNat : Int) == 32) = true := by rw [h32]; rfl
          have HN := Lib.hid (show tot = tokAt r (a + 1) toks by rw [HT.out]; exact tokAt_blank hlr (by rw [← HG.out, h32]; rfl))
          clear h32 HT
          go_wp2_with fail
          go_roundg g
          case measure => omega
          case rel => exact ⟨a + 1, toks, A, c, by omega, by go_num, rfl, HN.out, htl, HO.out, HB.out⟩
        · have t1 : (((s[a]).toNat : Int) == 32) = false := by rw [beq_eq_false_iff_ne]; omega
          by_cases h10 : (s[a]).toNat = 10
          · have t2 : (((s[a]).toNat : Int) == 10) = true := by rw [h10]; rfl
            have HN := Lib.hid (show tot = tokAt r (a + 1) toks by rw [HT.out]; exact tokAt_blank hlr (by rw [← HG.out, h10]; rfl))
            clear h10 h32 HT
            go_wp2_with fail
            go_roundg g
            case measure => omega
            case rel => exact ⟨a + 1, toks, A, c, by omega, by go_num, rfl, HN.out, htl, HO.out, HB.out⟩
          · have t2 : (((s[a]).toNat : Int) == 10) = false := by rw [beq_eq_false_iff_ne]; omega
            have HNB := Lib.hid (show ((r[a]).toNat == 32 || (r[a]).toNat == 10) = false by rw [← HG.out, beq_eq_false_iff_ne.2 h32, beq_eq_false_iff_ne.2 h10]; rfl)
            clear h10 h32
            by_cases h4 : toks.length = 400
            · have HE := Lib.hid (show tot = (toks, a) by rw [HT.out]; exact tokAt_full hlr HNB.out h4)
              have t3 : ((toks.length : Int) == 400) = true := by rw [h4]; rfl
              clear h4 HT
              go_wp2_with fail
              go_meet
              exact ⟨a, toks, A, c, rfl, rfl, HE.out, hale, HO.out, HB.out⟩
            · have t3 : ((toks.length : Int) == 400) = false := by rw [beq_eq_false_iff_ne]; omega
              have htl2 : toks.length < 400 := by omega
              have HNF := Lib.hid h4
              clear h4
              obtain ⟨S, hS⟩ : ∃ S, s.extract a s.size = S := ⟨_, rfl⟩
              have hSx : S = ⟨(r.drop a).toArray⟩ := by rw [← hS, Lib.Pa.extract_from]; congr 1; have := HR.out; rw [← this]
              have hSs : S.size = s.size - a := by rw [hSx]; show (r.drop a).toArray.size = _; rw [List.size_toArray, List.length_drop, HRS.out]
              have HFA := Lib.hid (lfirst_any S wr (by omega) (by omega))
              have HSX := Lib.hid hSx
              have hSs2 : (⟨(r.drop a).toArray⟩ : ByteArray).size = s.size - a := by rw [← hSx]; exact hSs
              have HS2 := Lib.hid hSs2
              have z1 : (0 : Int) ≤ a := by omega
              clear hSx hSs hSs2
              clear hale z1
              have z1 : (0 : Int) ≤ a := by omega
              have hale : a ≤ s.size := by omega
              go_wp2_with fail
              (with_reducible refine HFA.out.mono ?_); rintro e wq hfa
              obtain ⟨ft, hft⟩ : ∃ f, firstT S = f := ⟨_, rfl⟩
              rw [hft] at hfa
              rw [HSX.out] at hft
              clear HFA hS HSX
              cases ft with
              | none =>
                obtain ⟨hbq, rfl⟩ := hfa
                have HO2 := Lib.hid ((own_below HO.out hbq (Nat.le_refl _)).alloc (.cells #[.int .i64 0, .int .i64 0, .int .i64 0, .string ⟨#[]⟩] 43))
                have HB2 := Lib.hid ((HB.out.trans (hbq.mono hws)).alloc (Nat.le_trans hws hbq.size) (.cells #[.int .i64 0, .int .i64 0, .int .i64 0, .string ⟨#[]⟩] 43))
                have HE := Lib.hid (show tot = (toks, a) by rw [HT.out]; exact tokAt_none hlr HNB.out HNF.out (fun t u e => by rw [hft] at e; cases e))
                clear HO HB HT hbq hft
                go_wp2_with fail
                go_meet
                exact ⟨a, toks, A, c, rfl, rfl, HE.out, hale, HO2.out, HB2.out⟩
              | some p =>
                obtain ⟨⟨tk, tn, ta, tt⟩, u⟩ := p
                obtain ⟨hbq, rfl⟩ := hfa
                by_cases hu : u = 0
                · have tu : ((u : Int) == 0) = true := by rw [hu]; rfl
                  have HU := Lib.hid hu
                  clear hu
                  have HO2 := Lib.hid ((own_below HO.out hbq (Nat.le_refl _)).alloc (.cells #[.int .i64 tk, .int .i64 tn, .int .i64 ta, .string tt] 43))
                  have HB2 := Lib.hid ((HB.out.trans (hbq.mono hws)).alloc (Nat.le_trans hws hbq.size) (.cells #[.int .i64 tk, .int .i64 tn, .int .i64 ta, .string tt] 43))
                  have HE := Lib.hid (show tot = (toks, a) by rw [HT.out]; exact tokAt_none hlr HNB.out HNF.out (fun t u2 e => by rw [hft] at e; injection e with e; injection e with _ e; rw [← e]; exact HU.out))
                  clear HO HB HT hbq hft
                  go_wp2_with fail
                  go_meet
                  exact ⟨a, toks, A, c, rfl, rfl, HE.out, hale, HO2.out, HB2.out⟩
                · have tu : ((u : Int) == 0) = false := by rw [beq_eq_false_iff_ne]; omega
                  have HN := Lib.hid (show tot = tokAt r (a + u) (toks ++ [⟨tk, tn, a, tt⟩]) by rw [HT.out]; exact tokAt_some hlr HNB.out HNF.out hft hu)
                  have HO2 := Lib.hid (own_below (own_below HO.out hbq (Nat.le_refl _)) ((Below.refl wq.heap.size wq).alloc (Nat.le_refl _) (.cells #[.int .i64 tk, .int .i64 tn, .int .i64 ta, .string tt] 43)) (Nat.le_refl _))
                  have HB2 := Lib.hid ((HB.out.trans (hbq.mono hws)).alloc (Nat.le_trans hws hbq.size) (.cells #[.int .i64 tk, .int .i64 tn, .int .i64 ta, .string tt] 43))
                  have HK2 := Lib.hid (Blk.mk (heap_alloc_new wq (.cells #[.int .i64 tk, .int .i64 tn, .int .i64 ta, .string tt] 43)) : Blk _ wq.heap.size 43 [.int .i64 tk, .int .i64 tn, .int .i64 ta, .string tt])
                  have hbt : w.heap.size ≤ wq.heap.size := Nat.le_trans hws hbq.size
                  have HOL := Lib.hid (fun g hg => ((own_below HO.out hbq (Nat.le_refl _)).lt g hg).2)
                  have HU0 := Lib.hid (show 0 < u by omega)
                  have hua := firstT_le (by rw [HS2.out]; omega) hft
                  rw [HS2.out] at hua
                  clear HO HB HT hbq hft hu
                  obtain ⟨bt, hbtE⟩ : ∃ b, wq.heap.size = b := ⟨_, rfl⟩
                  obtain ⟨W2, hW2⟩ : ∃ W, wq.alloc (.cells #[.int .i64 tk, .int .i64 tn, .int .i64 ta, .string tt] 43) = W := ⟨_, rfl⟩
                  rw [hW2] at HO2 HB2 HK2
                  rw [hbtE] at HK2 HOL hbt
                  have HW2 := Lib.hid hW2; have HBT := Lib.hid hbtE
                  clear hW2 hbtE
                  have k2 := HK2.out.cell 2
                  simp only [List.getElem?_cons_zero, List.getElem?_cons_succ] at k2
                  have f2 := HK2.out.frozen 2
                  have HK3 := Lib.hid (HK2.out.set 2 (.int .i64 a))
                  have HO3 := Lib.hid (own_grown HO2.out (only_setCell (World.grownBy.refl W2 (some bt)) (p := ⟨bt, 2, none⟩) (.inl rfl) (.int .i64 a)) (fun g hg e => by injection e with e; have := HOL.out g hg; omega))
                  have HB3 := Lib.hid (HB2.out.setCell (p := ⟨bt, 2, none⟩) hbt (.int .i64 a))
                  go_upto_region 9 with fail
                  rw [HW2.out, HBT.out]
                  clear HW2 HBT HO2 HB2
                  go_upto_region 10 with fail
                  generalize W2.setCell ⟨bt, 2, none⟩ (.int .i64 a) = W3 at *
                  clear k2 f2 HK2 HOL
                  obtain ⟨q0, q1, q2, q3⟩ : W3.cell? ⟨bt, 0, none⟩ = some (.int .i64 tk) ∧ W3.cell? ⟨bt, 1, none⟩ = some (.int .i64 tn) ∧ W3.cell? ⟨bt, 2, none⟩ = some (.int .i64 a) ∧ W3.cell? ⟨bt, 3, none⟩ = some (.string tt) := ⟨HK3.out.cell 0, HK3.out.cell 1, HK3.out.cell 2, HK3.out.cell 3⟩
                  have HX := Lib.hid (show Sees (W3.alloc (.cells #[.int .i64 tk, .int .i64 tn, .int .i64 a, .string tt] 43)) (W3.alloc (.cells #[.int .i64 tk, .int .i64 tn, .int .i64 a, .string tt] 43)).heap.size 4 (some ⟨W3.heap.size, 0, none⟩) 1 [.int .i64 tk, .int .i64 tn, .int .i64 a, .string tt] from (Blk.mk (heap_alloc_new W3 _) : Blk _ W3.heap.size 43 [.int .i64 tk, .int .i64 tn, .int .i64 a, .string tt]).sees rfl (List.prefix_refl _))
                  have HOA := Lib.hid (HO3.out.alloc (.cells #[.int .i64 tk, .int .i64 tn, .int .i64 a, .string tt] 43))
                  have HBA := Lib.hid (HB3.out.alloc HB3.out.size (.cells #[.int .i64 tk, .int .i64 tn, .int .i64 a, .string tt] 43))
                  have hbv : ∀ g, (Value.slice A toks.length c).ownBlock = some g → w.heap.size ≤ g := fun g hg => (HO3.out.lt g hg).1
                  have HBV := Lib.hid hbv
                  have hba := HBA.out.size
                  clear hbv HO3 HB3 HK3
                  go_wp2_with (at_builtin; refine wpList_append_at rfl (.tmp 41) (.tmp 43) 39 rfl w.heap.size 43 i0 (.agg #[.int .i64 0, .int .i64 0, .int .i64 0, .string ⟨#[]⟩]) 4 40 Tryd.underlying39 hi0 hz0 hz1 hz2 rfl (by decide) (.slice A toks.length c) toks.length (tcells toks) rfl HOA.out _ _ 1 1 [.int .i64 tk, .int .i64 tn, .int .i64 a, .string tt] rfl HX.out (by simp [Value.oneCell']) (by unfold maxLen; omega) (by omega) hba ?_)
                  intro v3 w3 hown3 hgr3 hwh3
                  obtain ⟨A3, c3, rfl, hc3, hc4⟩ := own_slice hown3
                  have HO4 := Lib.hid (show w3.ownsRow w.heap.size 43 4 (.slice A3 (toks ++ [(⟨tk, tn, a, tt⟩ : Tok)]).length c3) (toks ++ [(⟨tk, tn, a, tt⟩ : Tok)]).length (tcells (toks ++ [(⟨tk, tn, a, tt⟩ : Tok)])) by rw [tcells_append, List.length_append]; exact hown3)
                  have HB4 := Lib.hid (HBA.out.grown hgr3 hba HBV.out)
                  have HLN := Lib.hid (show (toks ++ [(⟨tk, tn, a, tt⟩ : Tok)]).length = toks.length + 1 by simp)
                  have hln : (toks ++ [(⟨tk, tn, a, tt⟩ : Tok)]).length ≤ 400 := by rw [HLN.out]; omega
                  clear hown3 hgr3 hwh3 HOA HX HBA HBV q0 q1 q2 q3 hc3
                  generalize toks ++ [(⟨tk, tn, a, tt⟩ : Tok)] = toks2 at *
                  have hu0 : 0 < u := HU0.out
                  go_wp2_with fail
                  go_roundg (g + 1 - u)
                  case measure => omega
                  case rel => exact ⟨a + u, toks2, A3, c3, by omega, by go_num, by rw [HLN.out], HN.out, hln, HO4.out, HB4.out⟩
  case rest =>
    obtain ⟨a, toks, A, c, rfl, rfl, htot, hale, hown, hbel⟩ := hcut
    have HT := Lib.hid htot; have HO := Lib.hid hown; have HB := Lib.hid hbel
    clear htot hown hbel HT0
    by_cases hlt : a < s.size
    · have hlt2 : (a : Int) < s.size := by omega
      go_wp2_with fail
      try rw [Exit.noGoto_ret]
      go_ret3
      rw [HT.out]
      unfold TokAns
      rw [if_pos hlt]
      exact ⟨rfl, HB.out⟩
    · have hlt2 : (s.size : Int) ≤ a := by omega
      go_wp2_with fail
      try rw [Exit.noGoto_ret]
      go_ret3
      rw [HT.out]
      unfold TokAns
      rw [if_neg hlt]
      obtain ⟨A', c', j1, j2, j3⟩ := own_slice HO.out
      injection j1 with j1 _ j4; subst j1; subst j4
      exact ⟨A, c, rfl, HO.out, HB.out, j2, j3⟩
end Go.Proofs.YtnkbpcenkbihpaaDoor
