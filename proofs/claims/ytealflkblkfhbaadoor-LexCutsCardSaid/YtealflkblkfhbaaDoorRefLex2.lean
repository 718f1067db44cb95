/- klaxonref7.Tokens, over a contract for One. -/
import Derived.Test.YtealflkblkfhbaaDoorRefLex1
namespace Go.Proofs.YtealflkblkfhbaaDoor
open Go.ChangeShapes Go.WideShapes Go.ChangeAt Go.RowKit
set_option linter.unusedVariables false
set_option linter.unusedSimpArgs false
set_option maxRecDepth 100000
theorem unq_short : ∀ (n : Nat) (l acc x r : List UInt8), l.length ≤ n → unq l acc = some (x, r) → r.length < l.length
  | _, [], acc, x, r, _, h => by unfold unq at h; cases h
  | 0, c :: t, _, _, _, hn, _ => by rw [List.length_cons] at hn; omega
  | n + 1, c :: t, acc, x, r, hn, h => by
    rw [List.length_cons] at hn ⊢
    unfold unq at h
    split at h
    · cases h
    · split at h
      · injection h with h; injection h with _ h; rw [← h]; omega
      · split at h
        · cases t with
          | nil => cases h
          | cons d t2 =>
            simp only at h
            rw [List.length_cons] at hn ⊢
            split at h
            · have := unq_short n t2 _ x r (by omega) h; omega
            · cases h
        · have := unq_short n t _ x r (by omega) h; omega
theorem numAt_ge : ∀ (l : List UInt8) (k : Nat) (n m : Int) (j : Nat), numAt k n l = some (m, j) → k ≤ j
  | [], k, n, m, j, h => by rw [numAt_end] at h; injection h with h; injection h with _ h; omega
  | c :: r, k, n, m, j, h => by
    by_cases hd : digitN c.toNat = true
    · by_cases ho : n < (-9223372036854775808 + ((c.toNat : Int) - 48)).tdiv 10
      · rw [numAt_over hd ho] at h; cases h
      · rw [numAt_next hd ho] at h
        have := numAt_ge r (k + 1) _ m j h
        omega
    · rw [numAt_stop (by simpa using hd)] at h; injection h with h; injection h with _ h; omega
theorem numAt_gt {l : List UInt8} {k : Nat} {n m : Int} {j : Nat} (hd : digitN (l.headD 0).toNat = true) (h : numAt k n l = some (m, j)) : k < j := by
  cases l with
  | nil => exact absurd hd (by decide)
  | cons c r =>
    have hd' : digitN c.toNat = true := hd
    by_cases ho : n < (-9223372036854775808 + ((c.toNat : Int) - 48)).tdiv 10
    · rw [numAt_over hd' ho] at h; cases h
    · rw [numAt_next hd' ho] at h
      have := numAt_ge r (k + 1) _ m j h
      omega
theorem signIn_pos {l : List UInt8} : ∀ {L : List ByteArray} {t : Tok} {u : Nat}, (∀ x ∈ L, 0 < x.size) → signIn l L = some (t, u) → 0 < u
  | [], _, _, _, h => by cases h
  | x :: r, t, u, hL, h => by
    unfold signIn at h
    split at h
    · injection h with h; injection h with _ h
      rw [← h]; exact hL x List.mem_cons_self
    · exact signIn_pos (fun y hy => hL y (List.mem_cons_of_mem _ hy)) h
theorem firstT_pos {s : ByteArray} {t : Tok} {u : Nat} (h0 : 0 < s.size) (h : firstT s = some (t, u)) : 0 < u := by
  have hl : s.data.toList.length = s.size := by simp
  unfold firstT at h
  split at h
  · next hn0 =>
    unfold numT at h
    rw [Option.map_eq_some_iff] at h
    obtain ⟨⟨n, j⟩, hn, he⟩ := h
    injection he with _ he
    rw [← he]
    unfold numF at hn
    split at hn
    · have := numAt_ge _ _ _ _ _ hn
      show 0 < j
      omega
    · next hneg =>
      split at hn
      · cases hn
      · next n2 u2 h2 =>
        split at hn
        · cases hn
        · injection hn with hn; injection hn with _ hn
          show 0 < j
          rw [← hn]
          refine numAt_gt ?_ h2
          unfold isNum at hn0
          rw [Bool.or_eq_true] at hn0
          rcases hn0 with h | h
          · exact h
          · exfalso
            rw [Bool.and_eq_true] at h
            have h45 : (s.data.toList.headD 0).toNat = 45 := by simpa using h.1
            apply hneg
            cases hd : s.data.toList with
            | nil => rw [hd] at h45; cases h45
            | cons c r =>
              rw [hd] at h45
              show some c = some 45
              congr 1
              exact UInt8.toNat_inj.1 h45
  · split at h
    · unfold wordT at h
      split at h
      · cases h
      · injection h with h; injection h with _ h; omega
    · split at h
      · unfold quotedT at h
        rw [Option.map_eq_some_iff] at h
        obtain ⟨⟨x, r⟩, hu, he⟩ := h
        injection he with _ he
        have := unq_short _ _ _ _ _ (Nat.le_refl _) hu
        rw [List.length_drop, hl] at this
        rw [← he, hl]
        show 0 < s.size - r.length
        omega
      · exact signIn_pos (by decide) h
/-- What ref's One answers. -/
def OneAns (r : Option (Tok × Nat)) (a : Nat) (w : World) (e : Ending) (w' : World) : Prop :=
  Below w.heap.size w w' ∧ match r with
    | none => ∃ (t : Tok) (v : Int), e = .returned (.tuple #[.agg #[.int .i64 t.kd, .int .i64 t.n, .int .i64 t.at_, .string t.tx], .int .i64 v, .bool false])
    | some (t, u) => e = .returned (.tuple #[.agg #[.int .i64 t.kd, .int .i64 t.n, .int .i64 a, .string t.tx], .int .i64 ((a + u : Nat) : Int), .bool true])
/-- What ref's Tokens answers. -/
def RTokAns (r : List Tok × Nat) (n : Nat) (w : World) (e : Ending) (w' : World) : Prop :=
  if r.2 < n then e = .returned (.tuple #[.slice none 0 0, .int .i64 r.2, .bool false]) ∧ Below w.heap.size w w'
  else ∃ A c, e = .returned (.tuple #[.slice A r.1.length c, .int .i64 0, .bool true]) ∧ w'.ownsRow w.heap.size 27 4 (.slice A r.1.length c) r.1.length (tcells r.1) ∧ Below w.heap.size w w' ∧ r.1.length ≤ c ∧ c ≤ 9223372036854775807
/-- One's contract. -/
def OneSaid : Prop := ∀ (s : ByteArray) (a : Nat) (w : World), s.size ≤ 35184372088832 → a < s.size → Calls Tryd.prog 25 #[.string s, .int .i64 a] w (OneAns (firstT ⟨(s.data.toList.drop a).toArray⟩) a w)
set_option maxHeartbeats 8000000 in
theorem rtokens_any (hone : OneSaid) (s : ByteArray) (w : World) (hs : s.size ≤ 35184372088832) :
    Calls Tryd.prog 12 #[.string s] w (RTokAns (tokF s.data.toList) s.size w) := by
  obtain ⟨i0, hi0, hz0, hz1, hz2⟩ := info_parts Tryd.infoTok
  have HONE := Lib.hid hone
  clear hone
  have HRS := Lib.hid (show s.data.toList.length = s.size by simp)
  obtain ⟨r, hr⟩ : ∃ r, s.data.toList = r := ⟨_, rfl⟩
  rw [hr] at HRS
  rw [hr]
  have HR := Lib.hid hr
  obtain ⟨tot, htot⟩ : ∃ tot, tokF r = tot := ⟨_, rfl⟩
  rw [htot]
  have HT0 := Lib.hid (show tot = tokAt r 0 [] from htot.symm)
  clear hr htot
  go_enter Tryd.func12, Tryd.ntmps12
  go_wp2_with fail
  go_loopg [5, 6] s.size (fun g x5 x6 wr => ∃ (a : Nat) (toks : List Tok) (A : Option Addr) (c : Nat), a + g = s.size ∧ x6 = .int .i64 a ∧ x5 = .slice A toks.length c ∧ tot = tokAt r a toks ∧ toks.length ≤ 400 ∧ wr.ownsRow w.heap.size 27 4 (.slice A toks.length c) toks.length (tcells toks) ∧ Below w.heap.size w wr)
  case atStart => exact ⟨0, [], none, 0, by omega, rfl, rfl, HT0.out, by simp, own_nil _ _ _ _, Below.refl _ _⟩
  case round =>
    obtain ⟨a, toks, A, c, hag, rfl, rfl, htk, htl, hown, hbel⟩ := hrel
    have HT := Lib.hid htk; have HO := Lib.hid hown; have HB := Lib.hid hbel
    have hws := hbel.size
    clear htk hown hbel HT0
    cases gk with
    | zero =>
      have has : a = s.size := by omega
      have HE := Lib.hid (show tot = (toks, a) by rw [HT.out]; exact tokAt_end (by rw [HRS.out]; omega))
      have has2 : (s.size : Int) ≤ a := by omega
      have HNL := Lib.hid (show ¬ a < s.size by omega)
      clear has
      go_wp2_with fail
      go_ret3
      rw [HE.out]
      unfold RTokAns
      rw [if_neg HNL.out]
      obtain ⟨A', c', j1, j2, j3⟩ := own_slice HO.out
      injection j1 with j1 _ j4; subst j1; subst j4
      exact ⟨A, c, rfl, HO.out, HB.out, j2, j3⟩
    | succ g =>
      have hlt : a < s.size := by omega
      have hlr : a < r.length := by rw [HRS.out]; exact hlt
      have hale : a ≤ s.size := by omega
      have HG : Hid (s[a] = r[a]) := Lib.hid (by have := HR.out; subst this; rfl)
      by_cases h32 : (s[a]).toNat = 32
      · have t1 : (((s[a]).toNat : Int) == 32) = true := by rw [h32]; rfl
        have HN := Lib.hid (show tot = tokAt r (a + 1) toks by rw [HT.out]; exact tokAt_blank hlr (by rw [← HG.out, h32]; rfl))
        clear h32 HT
        go_wp2_with fail
        go_roundg g
        case measure => omega
        case rel => exact ⟨a + 1, toks, A, c, by omega, by go_num, rfl, HN.out, htl, HO.out, HB.out⟩
      · have t1 : (((s[a]).toNat : Int) == 32) = false := by rw [beq_eq_false_iff_ne]; omega
        by_cases h10 : (s[a]).toNat = 10
        · have t2 : (((s[a]).toNat : Int) == 10) = true := by rw [h10]; rfl
          have HN := Lib.hid (show tot = tokAt r (a + 1) toks by rw [HT.out]; exact tokAt_blank hlr (by rw [← HG.out, h10]; rfl))
          clear h10 h32 HT
          go_wp2_with fail
          go_roundg g
          case measure => omega
          case rel => exact ⟨a + 1, toks, A, c, by omega, by go_num, rfl, HN.out, htl, HO.out, HB.out⟩
        · have t2 : (((s[a]).toNat : Int) == 10) = false := by rw [beq_eq_false_iff_ne]; omega
          have HNB := Lib.hid (show ((r[a]).toNat == 32 || (r[a]).toNat == 10) = false by rw [← HG.out, beq_eq_false_iff_ne.2 h32, beq_eq_false_iff_ne.2 h10]; rfl)
          clear h10 h32
          have HFA := Lib.hid (HONE.out s a wr hs hlt)
          rw [HR.out] at HFA
          have HSZ := Lib.hid (show (⟨(r.drop a).toArray⟩ : ByteArray).size = s.size - a by show (r.drop a).toArray.size = _; rw [List.size_toArray, List.length_drop, HRS.out])
          obtain ⟨ft, hft⟩ : ∃ f, firstT ⟨(r.drop a).toArray⟩ = f := ⟨_, rfl⟩
          rw [hft] at HFA
          have HFT := Lib.hid hft
          clear hft
          go_wp2_with fail
          (with_reducible refine HFA.out.mono ?_); rintro e wq hfa
          clear HFA
          cases ft with
          | none =>
            obtain ⟨hbq, ⟨tk, tn, ta, tt⟩, v, rfl⟩ := hfa
            have HB2 := Lib.hid ((HB.out.trans (hbq.mono hws)).alloc (Nat.le_trans hws hbq.size) (.cells #[.int .i64 tk, .int .i64 tn, .int .i64 ta, .string tt] 27))
            have HE := Lib.hid (show tot = (toks, a) by
              rw [HT.out]
              by_cases h4 : toks.length = 400
              · exact tokAt_full hlr HNB.out h4
              · exact tokAt_none hlr HNB.out h4 (fun t u e => by rw [HFT.out] at e; cases e))
            clear HO HB HT hbq HFT
            go_wp2_with fail
            go_ret3
            rw [HE.out]
            unfold RTokAns
            rw [if_pos hlt]
            exact ⟨rfl, HB2.out⟩
          | some p =>
            obtain ⟨⟨tk, tn, ta, tt⟩, u⟩ := p
            obtain ⟨hbq, rfl⟩ := hfa
            have HU0 := Lib.hid (firstT_pos (by rw [HSZ.out]; omega) HFT.out)
            have hua := firstT_le (by rw [HSZ.out]; omega) HFT.out
            rw [HSZ.out] at hua
            by_cases h4 : toks.length = 400
            · have HE := Lib.hid (show tot = (toks, a) by rw [HT.out]; exact tokAt_full hlr HNB.out h4)
              have t3 : ((toks.length : Int) == 400) = true := by rw [h4]; rfl
              have HB2 := Lib.hid ((HB.out.trans (hbq.mono hws)).alloc (Nat.le_trans hws hbq.size) (.cells #[.int .i64 tk, .int .i64 tn, .int .i64 a, .string tt] 27))
              clear h4 HT HO HB hbq HFT
              go_wp2_with fail
              go_ret3
              rw [HE.out]
              unfold RTokAns
              rw [if_pos hlt]
              exact ⟨rfl, HB2.out⟩
            · have t3 : ((toks.length : Int) == 400) = false := by rw [beq_eq_false_iff_ne]; omega
              have htl2 : toks.length < 400 := by omega
              have HN := Lib.hid (show tot = tokAt r (a + u) (toks ++ [⟨tk, tn, a, tt⟩]) by rw [HT.out]; exact tokAt_some hlr HNB.out h4 HFT.out (by have := HU0.out; omega))
              clear h4
              have HO3 := Lib.hid (own_below (own_below HO.out hbq (Nat.le_refl _)) ((Below.refl wq.heap.size wq).alloc (Nat.le_refl _) (.cells #[.int .i64 tk, .int .i64 tn, .int .i64 a, .string tt] 27)) (Nat.le_refl _))
              have HB3 := Lib.hid ((HB.out.trans (hbq.mono hws)).alloc (Nat.le_trans hws hbq.size) (.cells #[.int .i64 tk, .int .i64 tn, .int .i64 a, .string tt] 27))
              have HK3 := Lib.hid (Blk.mk (heap_alloc_new wq (.cells #[.int .i64 tk, .int .i64 tn, .int .i64 a, .string tt] 27)) : Blk _ wq.heap.size 27 [.int .i64 tk, .int .i64 tn, .int .i64 a, .string tt])
              clear HO HB HT hbq HFT
              obtain ⟨bt, hbtE⟩ : ∃ b, wq.heap.size = b := ⟨_, rfl⟩
              obtain ⟨W3, hW3⟩ : ∃ W, wq.alloc (.cells #[.int .i64 tk, .int .i64 tn, .int .i64 a, .string tt] 27) = W := ⟨_, rfl⟩
              rw [hW3] at HO3 HB3 HK3
              rw [hbtE] at HK3
              have HW3 := Lib.hid hW3; have HBT := Lib.hid hbtE
              clear hW3 hbtE
              go_upto_region 9 with fail
              rw [HW3.out, HBT.out]
              clear HW3 HBT
              obtain ⟨q0, q1, q2, q3⟩ : W3.cell? ⟨bt, 0, none⟩ = some (.int .i64 tk) ∧ W3.cell? ⟨bt, 1, none⟩ = some (.int .i64 tn) ∧ W3.cell? ⟨bt, 2, none⟩ = some (.int .i64 a) ∧ W3.cell? ⟨bt, 3, none⟩ = some (.string tt) := ⟨HK3.out.cell 0, HK3.out.cell 1, HK3.out.cell 2, HK3.out.cell 3⟩
              have HX := Lib.hid (show Sees (W3.alloc (.cells #[.int .i64 tk, .int .i64 tn, .int .i64 a, .string tt] 27)) (W3.alloc (.cells #[.int .i64 tk, .int .i64 tn, .int .i64 a, .string tt] 27)).heap.size 4 (some ⟨W3.heap.size, 0, none⟩) 1 [.int .i64 tk, .int .i64 tn, .int .i64 a, .string tt] from (Blk.mk (heap_alloc_new W3 _) : Blk _ W3.heap.size 27 [.int .i64 tk, .int .i64 tn, .int .i64 a, .string tt]).sees rfl (List.prefix_refl _))
              have HOA := Lib.hid (HO3.out.alloc (.cells #[.int .i64 tk, .int .i64 tn, .int .i64 a, .string tt] 27))
              have HBA := Lib.hid (HB3.out.alloc HB3.out.size (.cells #[.int .i64 tk, .int .i64 tn, .int .i64 a, .string tt] 27))
              have hbv : ∀ g, (Value.slice A toks.length c).ownBlock = some g → w.heap.size ≤ g := fun g hg => (HO3.out.lt g hg).1
              have HBV := Lib.hid hbv
              have hba := HBA.out.size
              clear hbv HO3 HB3 HK3
              go_wp2_with (at_builtin; refine wpList_append_at rfl (.tmp 41) (.tmp 43) 22 rfl w.heap.size 27 i0 (.agg #[.int .i64 0, .int .i64 0, .int .i64 0, .string ⟨#[]⟩]) 4 40 Tryd.underlying22 hi0 hz0 hz1 hz2 rfl (by decide) (.slice A toks.length c) toks.length (tcells toks) rfl HOA.out _ _ 1 1 [.int .i64 tk, .int .i64 tn, .int .i64 a, .string tt] rfl HX.out (by simp [Value.oneCell']) (by unfold maxLen; omega) (by omega) hba ?_)
              intro v3 w3 hown3 hgr3 hwh3
              obtain ⟨A3, c3, rfl, hc3, hc4⟩ := own_slice hown3
              have HO4 := Lib.hid (show w3.ownsRow w.heap.size 27 4 (.slice A3 (toks ++ [(⟨tk, tn, a, tt⟩ : Tok)]).length c3) (toks ++ [(⟨tk, tn, a, tt⟩ : Tok)]).length (tcells (toks ++ [(⟨tk, tn, a, tt⟩ : Tok)])) by rw [tcells_append, List.length_append]; exact hown3)
              have HB4 := Lib.hid (HBA.out.grown hgr3 hba HBV.out)
              have HLN := Lib.hid (show (toks ++ [(⟨tk, tn, a, tt⟩ : Tok)]).length = toks.length + 1 by simp)
              have hln : (toks ++ [(⟨tk, tn, a, tt⟩ : Tok)]).length ≤ 400 := by rw [HLN.out]; omega
              clear hown3 hgr3 hwh3 HOA HX HBA HBV q0 q1 q2 q3 hc3
              generalize toks ++ [(⟨tk, tn, a, tt⟩ : Tok)] = toks2 at *
              have hu0 : 0 < u := HU0.out
              go_wp2_with fail
              go_roundg (g + 1 - u)
              case measure => omega
              case rel => exact ⟨a + u, toks2, A3, c3, by omega, by go_num, by rw [HLN.out], HN.out, hln, HO4.out, HB4.out⟩
end Go.Proofs.YtealflkblkfhbaaDoor
