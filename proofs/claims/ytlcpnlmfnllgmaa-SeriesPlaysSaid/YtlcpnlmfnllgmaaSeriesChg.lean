/- Package series: Changes, its closure first. -/
import Derived.Test.YtlcpnlmfnllgmaaSeriesAdd
import Derived.Test.YtlcpnlmfnllgmaaBookInt
namespace Go.Proofs.Ytlcpnlmfnllgmaa
open Go.ChangeShapes Go.WideShapes Go.ChangeAt Go.RowKit
set_option linter.unusedVariables false
set_option maxRecDepth 100000
/-- But for block g and the row v all is as it was. -/
structure TurnS (g : Nat) (v : Value) (w w' : World) : Prop where
  os : w'.os = w.os
  tape : w'.tape = w.tape
  output : w'.output = w.output
  size : w.heap.size ≤ w'.heap.size
  block : ∀ k, k < w.heap.size → k ≠ g → some k ≠ v.ownBlock → w'.heap[k]? = w.heap[k]?
theorem TurnS.below {g B : Nat} {v : Value} {w w' : World} (h : TurnS g v w w') (hB : B ≤ g) (hv : ∀ k, v.ownBlock = some k → B ≤ k) (hs : B ≤ w.heap.size) : Below B w w' :=
  ⟨h.os, h.tape, h.output, h.size, fun k hk => h.block k (by omega) (by omega) (fun e => by have := hv k e.symm; omega)⟩
theorem TurnS.blk {g k : Nat} {v : Value} {w w' : World} {t : TypeId} {cs : List Value} (h : TurnS g v w w') (ho : Blk w k t cs) (hg : k ≠ g) (hv : v.ownBlock ≠ some k) : Blk w' k t cs :=
  (h.block k ho.lt hg (fun e => hv e.symm)).trans ho
theorem Try.infoI : (Try.prog.info? 3).map (fun i => (i.zero, i.size, i.bytes)) = some (some (.int .i64 0), 1, 8) := by kernel_rfl
/-- A time that is within, as a row. -/
def inR (f t x : Int) : List Int := if f ≤ x ∧ x ≤ t then [x] else []
def chg (look f t : Int) : List (Int × Int) → List Int
  | [] => []
  | [x] => inR f t x.1 ++ inR f t (x.1 + look)
  | x :: y :: r => inR f t x.1 ++ (if x.1 + look < y.1 then inR f t (x.1 + look) else []) ++ chg look f t (y :: r)
def NoteAns (b : Nat) (v : Value) (ts : List Int) (w : World) (e : Ending) (w' : World) : Prop :=
  ∃ v', e = .returned (.tuple #[]) ∧ Blk w' b 50 [v'] ∧ w'.ownsRow (b + 1) 3 1 v' ts.length (ints ts) ∧ TurnS b v w w'
theorem noteAns {b : Nat} {v v' : Value} {ts : List Int} {w w' : World} (h1 : Blk w' b 50 [v']) (h2 : w'.ownsRow (b + 1) 3 1 v' ts.length (ints ts)) (h3 : TurnS b v w w') : NoteAns b v ts w (.returned (.tuple #[])) w' := ⟨v', rfl, h1, h2, h3⟩
theorem note_any (x f t : Int) (b1 b2 b : Nat) (v : Value) (ts : List Int) (w : World) (h1 : w.cell? ⟨b1, 0, none⟩ = some (.int .i64 f)) (h2 : w.cell? ⟨b2, 0, none⟩ = some (.int .i64 t)) (h3 : Blk w b 50 [v])
    (h4 : w.ownsRow (b + 1) 3 1 v ts.length (ints ts)) (hn : ts.length ≤ 1000000) :
    Calls Try.prog 23 #[.int .i64 x, .pointer (some ⟨b1, 0, none⟩), .pointer (some ⟨b2, 0, none⟩), .pointer (some ⟨b, 0, none⟩)] w (NoteAns b v (ts ++ inR f t x) w) := by
  obtain ⟨i0, hi, hz0, hz1, hz2⟩ := info_parts Try.infoI
  obtain ⟨A, c, rfl, hc1, hc2⟩ := own_slice h4
  have c0 : w.cell? ⟨b, 0, none⟩ = some (.slice A ts.length c) := h3.cell 0
  have f0 : ∀ y, w.frozen? ⟨b, y, none⟩ = false := fun y => h3.frozen y
  have hb := h3.lt
  have H3 := Lib.hid h3; have H4 := Lib.hid h4; clear h3 h4
  by_cases hx : f ≤ x ∧ x ≤ t
  · have e : inR f t x = [x] := by unfold inR; rw [if_pos hx]
    rw [e]; clear e
    obtain ⟨hx1, hx2⟩ := hx
    have HAL := Lib.hid (H4.out.alloc (.cells #[.int .i64 x] 3))
    go_enter Try.func23, Try.ntmps23
    go_wp2_with (at_builtin; refine wpList_append_own _ rfl _ _ 50 rfl (b + 1) 3 i0 (.int .i64 0) 1 8 Try.underlying50 hi hz0 hz1 hz2 rfl (by decide) _ _ _ rfl HAL.out ⟨w.heap.size, 0, none⟩ 1 1 [.int .i64 x] rfl rfl ?c1 ?c2 ?c3 ?c4 ?c5 ?_)
    case c1 =>
      intro j u hj
      match j, hj with
      | 0, hj => simp at hj; subst hj; simp [Addr.add]
    case c2 => intro u hu; simp at hu; subst hu; rfl
    case c3 => unfold maxLen; omega
    case c4 => omega
    case c5 => simp; omega
    intro v' w1 hown' hg _
    obtain ⟨A2, c2, rfl, hc3, hc4⟩ := own_slice hown'
    have hk := (H3.out.alloc (.cells #[.int .i64 x] 3)).grown hg (fun e => by have := (H4.out.lt b e.symm).1; omega)
    have hown2 : w1.ownsRow (b + 1) 3 1 (.slice A2 (ts.length + 1) c2) (ts ++ [x]).length (ints (ts ++ [x])) := by rw [List.length_append, ints_append]; exact hown'
    have hB : Blk (w1.setCell ⟨b, 0, none⟩ (.slice A2 (ts.length + 1) c2)) b 50 [.slice A2 (ts.length + 1) c2] := hk.set 0 _
    have hO := own_far (p := ⟨b, 0, none⟩) hown2 (Nat.lt_succ_self _) (.slice A2 (ts.length + 1) c2)
    have hT : TurnS b (.slice A ts.length c) w (w1.setCell ⟨b, 0, none⟩ (.slice A2 (ts.length + 1) c2)) :=
      ⟨hg.os, hg.tape, hg.output, by have := hg.size; simp at this ⊢; omega, fun k hk1 hk2 hk3 => (Below.heap_setCell w1 ⟨b, 0, none⟩ _ k hk2).trans ((hg.block k (by simp; omega) hk3).trans (Below.heap_alloc w _ k hk1))⟩
    have d0 : w1.cell? ⟨b, 0, none⟩ = some (.slice A ts.length c) := hk.cell 0
    have df : ∀ y, w1.frozen? ⟨b, y, none⟩ = false := fun y => hk.frozen y
    have dg := hk.lt
    have HB := Lib.hid hB; have HO := Lib.hid hO; have HT := Lib.hid hT
    clear hk hown' hown2 hB hO hT hg
    go_wp2_with fail
    go_end0
    exact noteAns HB.out HO.out HT.out
  · have e : inR f t x = [] := by unfold inR; rw [if_neg hx]
    rw [e, List.append_nil]; clear e
    have HT : Hid (TurnS b (.slice A ts.length c) w w) := ⟨rfl, rfl, rfl, Nat.le_refl _, fun _ _ _ _ => rfl⟩
    by_cases hx1 : f ≤ x
    · have hx2 : ¬ x ≤ t := fun h => hx ⟨hx1, h⟩
      clear hx
      go_enter Try.func23, Try.ntmps23
      go_wp2_with fail
      go_end0
      exact noteAns H3.out H4.out HT.out
    · clear hx
      go_enter Try.func23, Try.ntmps23
      go_wp2_with fail
      go_end0
      exact noteAns H3.out H4.out HT.out

theorem inR_len (f t x : Int) : (inR f t x).length ≤ 1 := by unfold inR; split <;> simp
theorem chg_len (look f t : Int) (ss : List (Int × Int)) : (chg look f t ss).length ≤ 2 * ss.length := by
  induction ss with
  | nil => simp [chg]
  | cons x r ih =>
    have h1 := inR_len f t x.1
    have h2 := inR_len f t (x.1 + look)
    cases r with
    | nil => simp only [chg, List.length_append, List.length_cons, List.length_nil]; omega
    | cons y r =>
      simp only [chg, List.length_append, List.length_cons] at ih ⊢
      split
      · omega
      · simp only [List.length_nil]; omega
set_option maxHeartbeats 2000000 in
theorem changes_any (ss : List (Int × Int)) (g : Nat) (v : Value) (look f t : Int) (w : World) (h : SerAt ss w g v) (hn : ss.length ≤ 1000) (hlk : -1099511627776 ≤ look ∧ look ≤ 1099511627776) (hss : ∀ x ∈ ss, 0 ≤ x.1 ∧ x.1 ≤ 1099511627776) :
    Calls Try.prog 21 #[.pointer (some ⟨g, 0, none⟩), .int .i64 look, .int .i64 f, .int .i64 t] w (OwnAns 3 1 (chg look f t ss).length (ints (chg look f t ss)) w) := by
  obtain ⟨A, c, rfl, hca, hcb⟩ := own_slice h.2
  have hg := h.1.lt
  have HSS := Lib.hid hss; clear hss
  obtain ⟨w3, hw3⟩ : ∃ w3, w3 = ((w.alloc (.cells #[.int .i64 f] 3)).alloc (.cells #[.int .i64 t] 3)).alloc (.cells #[.slice none 0 0] 50) := ⟨_, rfl⟩
  obtain ⟨b, hb⟩ : ∃ b, b = w.heap.size := ⟨_, rfl⟩
  have hb3 : Below w.heap.size w w3 := by rw [hw3]; exact (((Below.refl _ _).alloc (Nat.le_refl _) _).alloc (by simp) _).alloc (by simp; omega) _
  have k1 : Blk w3 b 3 [.int .i64 f] := by
    rw [hw3, hb]
    exact ((Blk.mk (heap_alloc_new w (.cells #[.int .i64 f] 3)) : Blk _ w.heap.size 3 [.int .i64 f]).alloc _).alloc _
  have k2 : Blk w3 (b + 1) 3 [.int .i64 t] := by
    rw [hw3, hb]
    exact Blk.alloc (Blk.mk (by simpa using heap_alloc_new (w.alloc (.cells #[.int .i64 f] 3)) (.cells #[.int .i64 t] 3))) _
  have k3 : Blk w3 (b + 1 + 1) 50 [.slice none 0 0] := by
    rw [hw3, hb]
    exact Blk.mk (by simpa using heap_alloc_new ((w.alloc (.cells #[.int .i64 f] 3)).alloc (.cells #[.int .i64 t] 3)) (.cells #[.slice none 0 0] 50))
  have hS3 := h.below hb3
  have hgb : g < b := by omega
  have HF : Hid (∀ W, Below (b + 1 + 1) w3 W → W.cell? ⟨b, 0, none⟩ = some (.int .i64 f) ∧ W.cell? ⟨b + 1, 0, none⟩ = some (.int .i64 t) ∧ W.cell? ⟨g, 0, none⟩ = some (.slice A ss.length c) ∧ Sees W w.heap.size 2 A ss.length (smps ss)) := fun W hW =>
    ⟨(hW.cell (p := ⟨b, 0, none⟩) (show b < b + 1 + 1 by omega)).trans (k1.cell 0), (hW.cell (p := ⟨b + 1, 0, none⟩) (show b + 1 < b + 1 + 1 by omega)).trans (k2.cell 0), (hW.cell (p := ⟨g, 0, none⟩) (show g < b + 1 + 1 by omega)).trans (hS3.1.cell 0),
      ((Sees.of_own h.2).below hb3).keep fun p hp => hW.cell (by omega)⟩
  have HB3 := Lib.hid hb3; have HK3 := Lib.hid k3
  have hs3 : b + 1 + 1 < w3.heap.size := k3.lt
  have HBW := Lib.hid hb
  generalize hm : ss.length = m at *
  have HM := Lib.hid hm
  clear hm k1 k2 k3 hb3 hS3 h
  go_enter Try.func21, Try.ntmps21
  have c30 := (HF.out w3 (Below.refl _ _)).2.2.1
  rw [hw3] at c30
  go_wp2_with fail
  rw [← hb, ← hw3]
  clear hw3 c30 hb
  go_loopw [20] (fun i wr => ∃ (j : Nat) (v : Value) (ts : List Int), j ≤ m ∧ i = .int .i64 j ∧ Blk wr (b + 1 + 1) 50 [v] ∧ wr.ownsRow (b + 1 + 1 + 1) 3 1 v ts.length (ints ts) ∧ chg look f t ss = ts ++ chg look f t (ss.drop j) ∧ ts.length ≤ 2 * j ∧ Below (b + 1 + 1) w3 wr) (fun i _ => m - (intOf i).toNat)
  case atStart => exact ⟨0, _, [], Nat.zero_le _, rfl, HK3.out, by simpa [ints] using World.ownsRow_nil w3 (b + 1 + 1 + 1) 3 1, rfl, by simp, Below.refl _ _⟩
  case round =>
    obtain ⟨j, v, ts, hj, rfl, hk, ho, he, htl, hbel⟩ := hrel
    have HK := Lib.hid hk; have HO := Lib.hid ho; have HE := Lib.hid he; have HB := Lib.hid hbel
    have hsz := hk.lt
    clear hk ho he hbel
    obtain ⟨hc1, hc2, hc3, hs⟩ := HF.out wr HB.out
    by_cases hlt : j < m
    · obtain ⟨ad, hjl, rfl, c0, c1⟩ := hs.smp hlt
      have hyb := HSS.out ss[j] (List.getElem_mem _)
      have HDJ := Lib.hid (List.drop_eq_getElem_cons hjl)
      have hal : (ad.add (j * 2)).block < wr.heap.size := World.block_lt_of_cell? wr _ c0
      generalize ss[j] = p at *
      obtain ⟨y, z⟩ := p
      simp only at c0 c1 hyb
      obtain ⟨hy0, hy1⟩ := hyb
      have hl1 := inR_len f t y
      have hl2 := inR_len f t (y + look)
      have kx : Blk (wr.alloc (.cells #[.int .i64 y, .int .i64 z] 30)) wr.heap.size 30 [.int .i64 y, .int .i64 z] := Blk.mk (heap_alloc_new wr _)
      have HKX := Lib.hid kx
      have HK1 := Lib.hid (HK.out.alloc (.cells #[.int .i64 y, .int .i64 z] 30))
      have HO1 := Lib.hid (HO.out.alloc (.cells #[.int .i64 y, .int .i64 z] 30))
      have HB1 := Lib.hid (HB.out.alloc (by omega) (.cells #[.int .i64 y, .int .i64 z] 30))
      have HVX : Hid (v.ownBlock ≠ some wr.heap.size) := fun e => by have := (HO.out.lt _ e).2; omega
      obtain ⟨hd1, hd2, hd3, hds⟩ := HF.out _ HB1.out
      clear kx hs hds
      go_wp2_with fail
      refine (note_any y f t _ _ (b + 1 + 1) v ts _ hd1 hd2 HK1.out HO1.out (by omega)).mono ?_; rintro e w2 ⟨v2, rfl, hk2, ho2, ht2⟩
      have hx2 := ht2.blk HKX.out (by omega) HVX.out
      have HB2 := Lib.hid (HB1.out.trans (ht2.below (Nat.le_refl _) (fun k hk => by have := (HO1.out.lt k hk).1; omega) (by simp; omega)))
      have HK2 := Lib.hid hk2; have HO2 := Lib.hid ho2
      have hx0 : w2.cell? ⟨wr.heap.size, 0, none⟩ = some (.int .i64 y) := hx2.cell 0
      have hsz2 : b + 1 + 1 < w2.heap.size := hk2.lt
      clear hk2 ho2 ht2 hx2 hd1 hd2 hd3 hc1 hc2 hc3 c0 c1 hal
      obtain ⟨hc1, hc2, hc3, hs2⟩ := HF.out w2 HB2.out
      by_cases hlast : j + 1 = m
      · have hlb : ((j : Int) + 1 == m) = true := by simp; omega
        have HD1 := Lib.hid (show ss.drop (j + 1) = [] from List.drop_of_length_le (by rw [HM.out]; omega))
        clear hs2 hlast
        have HSTEP := Lib.hid (show chg look f t (ss.drop j) = inR f t y ++ inR f t (y + look) ++ chg look f t (ss.drop (j + 1)) from by rw [HDJ.out, HD1.out]; simp [chg])
        go_wp2_with fail
        refine (note_any (y + look) f t _ _ (b + 1 + 1) v2 (ts ++ inR f t y) w2 hc1 hc2 HK2.out HO2.out (by rw [List.length_append]; omega)).mono ?_; rintro e w4 ⟨v4, rfl, hk4, ho4, ht4⟩
        have HB4 := Lib.hid (HB2.out.trans (ht4.below (Nat.le_refl _) (fun k hk => by have := (HO2.out.lt k hk).1; omega) (by have := HK2.out.lt; omega)))
        have HK4 := Lib.hid hk4; have HO4 := Lib.hid ho4
        clear hk4 ho4 ht4
        go_wp2_with fail
        go_roundw
        case rel => exact ⟨j + 1, v4, ts ++ inR f t y ++ inR f t (y + look), by omega, by go_num, HK4.out, HO4.out, by rw [HE.out, HSTEP.out]; simp only [List.append_assoc], by rw [List.length_append, List.length_append]; omega, HB4.out⟩
        case measure => simp [intOf]; omega
      · have hlb : ((j : Int) + 1 == m) = false := by simp; omega
        obtain ⟨ad2, hjl2, hA2, c2, c3⟩ := hs2.smp (show j + 1 < m by omega)
        injection hA2 with hA2; subst hA2
        have HDJ2 := Lib.hid (List.drop_eq_getElem_cons hjl2)
        have hal2 := World.block_lt_of_cell? w2 _ c2
        have hjm : j + 1 < m := by omega
        generalize ss[j + 1] = p2 at *
        obtain ⟨y2, z2⟩ := p2
        simp only at c2 c3
        clear hs2 hlast
        by_cases hgt : y + look < y2
        · have hgt2 : y2 > y + look := hgt
          have HSTEP := Lib.hid (show chg look f t (ss.drop j) = inR f t y ++ inR f t (y + look) ++ chg look f t (ss.drop (j + 1)) from by rw [HDJ.out, HDJ2.out]; simp only [chg, if_pos hgt, List.append_assoc])
          go_wp2_with fail
          refine (note_any (y + look) f t _ _ (b + 1 + 1) v2 (ts ++ inR f t y) w2 hc1 hc2 HK2.out HO2.out (by rw [List.length_append]; omega)).mono ?_; rintro e w4 ⟨v4, rfl, hk4, ho4, ht4⟩
          have HB4 := Lib.hid (HB2.out.trans (ht4.below (Nat.le_refl _) (fun k hk => by have := (HO2.out.lt k hk).1; omega) (by have := HK2.out.lt; omega)))
          have HK4 := Lib.hid hk4; have HO4 := Lib.hid ho4
          clear hk4 ho4 ht4
          go_wp2_with fail
          go_roundw
          case rel => exact ⟨j + 1, v4, ts ++ inR f t y ++ inR f t (y + look), by omega, by go_num, HK4.out, HO4.out, by rw [HE.out, HSTEP.out]; simp only [List.append_assoc], by rw [List.length_append, List.length_append]; omega, HB4.out⟩
          case measure => simp [intOf]; omega
        · have HSTEP := Lib.hid (show chg look f t (ss.drop j) = inR f t y ++ chg look f t (ss.drop (j + 1)) from by rw [HDJ.out, HDJ2.out]; simp only [chg, if_neg hgt, List.append_nil])
          have hgt2 : ¬ y2 > y + look := hgt
          go_wp2_with fail
          go_roundw
          case rel => exact ⟨j + 1, v2, ts ++ inR f t y, by omega, by go_num, HK2.out, HO2.out, by rw [HE.out, HSTEP.out]; simp only [List.append_assoc], by rw [List.length_append]; omega, HB2.out⟩
          case measure => simp [intOf]; omega
    · obtain rfl : j = m := by omega
      have hall : chg look f t ss = ts := by rw [HE.out, List.drop_of_length_le (by rw [HM.out]; exact Nat.le_refl _)]; simp [chg]
      obtain ⟨A2, c2, rfl, hc4, hc5⟩ := own_slice HO.out
      have hv : wr.cell? ⟨b + 1 + 1, 0, none⟩ = some (.slice A2 ts.length c2) := HK.out.cell 0
      have HALL := Lib.hid hall
      clear hall hs
      go_wp2_with fail
      go_ret
      refine ownAns (A := A2) (c := c2) (by rw [HALL.out]; exact own_mono HO.out (by have := HBW.out; omega)) (HB3.out.trans (HB.out.mono (by have := HBW.out; omega))) (by rw [HALL.out]; rfl) (by rw [HALL.out]; exact hc4) hc5
end Go.Proofs.Ytlcpnlmfnllgmaa
