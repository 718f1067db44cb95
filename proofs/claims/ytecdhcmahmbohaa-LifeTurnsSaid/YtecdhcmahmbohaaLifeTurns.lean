/- The walk of LifeTurns, out of the contracts. -/
import Derived.Test.YtecdhcmahmbohaaLifeRuns
import Derived.Test.YtecdhcmahmbohaaBook
namespace Go.Proofs.Ytecdhcmahmbohaa
open Go.ChangeShapes Go.WideShapes Go.ChangeAt Go.RowKit
set_option linter.unusedVariables false
set_option maxRecDepth 100000

/-- The states that are asked of. -/
def sts3 (l : List Int) : List Int := l.map fun z => nWithin z 0 2
theorem sts3_length (l : List Int) : (sts3 l).length = l.length := by simp [sts3]
theorem sts3_snoc (l : List Int) (z : Int) : sts3 (l ++ [z]) = sts3 l ++ [nWithin z 0 2] := by simp [sts3]
theorem sts3_row {w w1 wr : World} {base k : Nat} {zs : List Int} {v v' : Value} {ob : Obj} (hb : base ≤ wr.heap.size) (hk : k < zs.length)
    (hbel : Below base w wr) (hlt : ∀ g, v.ownBlock = some g → base ≤ g)
    (hown : w1.ownsRow base 3 1 v' (k + 1) (ints (sts3 (zs.take k)) ++ [.int .i64 (nWithin zs[k] 0 2)]))
    (hg : (wr.alloc ob).grownBy w1 v.ownBlock) :
    w1.ownsRow base 3 1 v' (k + 1) (ints (sts3 (zs.take (k + 1)))) ∧ Below base w w1 := by
  refine ⟨?_, (hbel.alloc hb ob).grown hg (by simp; omega) hlt⟩
  rw [List.take_succ_eq_append_getElem hk, sts3_snoc, ints_append]
  exact hown

theorem turn_mem {α : Type} {T ts rest : List α} {q : Nat} (h : q < T.length) (hT : T = ts ++ rest) (hq : ts.length = q) : T[q] ∈ rest := by
  subst hT; subst hq
  rw [List.getElem_append_right (Nat.le_refl _)]
  exact List.getElem_mem _
theorem turn_head {α : Type} {T ts rest : List α} {x : α} {q : Nat} (h : q < T.length) (hT : T = ts ++ x :: rest) (hq : ts.length = q) : T[q] = x := by
  subst hT; subst hq
  simp
set_option maxHeartbeats 2000000 in
theorem life_turns (A : Option Addr) (n c : Nat) (zs : List Int) (w : World) (hl : Sees w w.heap.size 1 A n (ints zs)) (hz : ∀ z ∈ zs, I64 z) (hn : n ≤ 9223372036854775807) :
    Calls Try.prog 6 #[.slice A n c] w fun e w' => e = .returned (.bool true) ∧ Below w.heap.size w w' := by
  have H := Lib.hid hl; clear hl
  have HZ := Lib.hid hz; clear hz
  have HL := Lib.hid H.out.int_len
  obtain ⟨i0, hi, hz0, hz1, hz2⟩ := info_parts Try.infoI
  go_enter Try.func6, Try.ntmps6
  go_wp2
  go_loopw [3, 4] (fun v j wr => ∃ k : Nat, k ≤ n ∧ k ≤ 40 ∧ j = .int .i64 k ∧ wr.ownsRow w.heap.size 3 1 v k (ints (sts3 (zs.take k))) ∧ Below w.heap.size w wr) (fun _ j _ => n - (intOf j).toNat)
  case atStart => exact ⟨0, Nat.zero_le _, Nat.zero_le _, rfl, by simpa [sts3, ints] using World.ownsRow_nil _ _ _ _, Below.refl _ _⟩
  case round =>
    obtain ⟨k, hk, hk40, rfl, hown, hbel⟩ := hrel
    have hsz := hbel.size
    have HB := Lib.hid hbel; clear hbel
    by_cases hlt : k < n ∧ k < 40
    · obtain ⟨hlt, hlt40⟩ := hlt
      obtain ⟨ad, hkl, rfl, hc⟩ := (H.out.below HB.out).int hlt
      have hI := Lib.hid (HZ.out zs[k] (List.getElem_mem _))
      generalize hzk : zs[k] = z at *
      have HZK := Lib.hid hzk; clear hzk
      have HLO := Lib.hid hown.lt
      have HO := Lib.hid hown; clear hown
      go_wp2_with (first
        | (go_at_call 12; refine (within_any _ 0 2 _ hI.out (by omega) (by omega) (by omega)).mono ?_; rintro e w' ⟨rfl, rfl⟩)
        | (at_builtin; refine wpList_append_own _ rfl _ _ 22 rfl w.heap.size 3 i0 (.int .i64 0) 1 8 Try.underlying22 hi hz0 hz1 hz2 rfl (by decide) _ _ _ rfl (HO.out.alloc _) ⟨wr.heap.size, 0, none⟩ 1 1 [.int .i64 (nWithin z 0 2)] rfl rfl ?c1 ?c2 ?c3 ?c4 ?c5 ?_))
      case c1 =>
        intro j u hj
        match j, hj with
        | 0, hj => simp at hj; subst hj; simp [Addr.add]
      case c2 => intro u hu; simp at hu; subst hu; rfl
      case c3 => unfold maxLen; omega
      case c4 => omega
      case c5 => simp; omega
      intro v' w1 hown' hgrow _
      have R := sts3_row (by omega) hkl HB.out (fun g hg => (HLO.out g hg).1) (by rw [HZK.out]; exact hown') hgrow
      have HR := Lib.hid R; clear R hown' hgrow
      go_wp2
      go_roundw
      case rel => exact ⟨k + 1, by omega, by omega, by go_num, HR.out.1, HR.out.2⟩
      case measure => simp [intOf]; omega
    · obtain ⟨A1, c1, rfl, hc1, hc2⟩ := own_slice hown
      have hsees := Sees.of_own hown
      have hLL : (sts3 (zs.take k)).length = k := hsees.int_len
      clear hown
      generalize sts3 (zs.take k) = L at *
      have HS := Lib.hid hsees; have HLL := Lib.hid hLL; clear hsees hLL
      have hge : ¬ ((k : Int) < n ∧ (k : Int) < 40) := by omega
      clear H HZ HL
      by_cases hlt : k < n
      all_goals
        go_wp2_with (go_at_call 11; refine (turns_any A1 k c1 L _ wr HS.out (Nat.le_refl _) (by omega)).mono ?_; rintro e w2 ⟨v, rfl, hown, hbel⟩; obtain ⟨A2, c2, rfl, hc3, hc4⟩ := own_slice hown)
        have hT := Sees.of_own hown
        have hTL := hT.turn_len
        have htl := lifeTurns_length 0 0 L
        have HS2 := Lib.hid (HS.out.below hbel); have hs2 := hbel.size
        have HB2 := Lib.hid (HB.out.trans (hbel.mono (by omega))); clear hbel hown
        have HINV : Hid (lifeTurns 0 0 L = [] ++ lifeTurns 0 (0 : Nat) (L.drop 0)) := rfl
        have hgl : lifeTurns 0 0 L = lifeTurns 0 0 L := rfl
        generalize lifeTurns 0 0 L = T at *
        generalize hm : T.length = m at *
        have HT := Lib.hid hT; have HM := Lib.hid hm; clear hT hm hTL hgl
        have hmb : m ≤ 40 := by rw [HLL.out] at htl; omega
        clear htl
        go_loop [6, 7, 31] (fun x p i => ∃ (j q : Nat) (st : Int) (ts : List (Int × Int)), j ≤ k ∧ i = .int .i64 j ∧ x = .int .i64 st ∧ p = .int .i64 q ∧ q ≤ m ∧ ts.length = q ∧ T = ts ++ lifeTurns st j (L.drop j)) (fun _ _ i => k - (intOf i).toNat)
        case atStart => exact ⟨0, 0, 0, [], Nat.zero_le _, rfl, rfl, rfl, Nat.zero_le _, rfl, HINV.out⟩
        case round =>
          obtain ⟨j, q, st, ts, hj, rfl, rfl, rfl, hq, htq, hT⟩ := hrel
          have HTQ := Lib.hid htq; have HTT := Lib.hid hT; clear htq hT
          by_cases hlt2 : j < k
          · obtain ⟨ad, hjl, rfl, hc⟩ := HS2.out.int hlt2
            have hst := lifeTurns_step (a := st) (t := (j : Int)) hjl
            generalize L[j] = y at *
            by_cases hy : y = st
            · subst hy
              rw [if_pos rfl] at hst
              have HST := Lib.hid hst; clear hst
              have hyy : (y != y) = false := by simp
              by_cases hqm : q < m
              · obtain ⟨ad2, hql, rfl, ht0, ht1, ht2⟩ := HT.out.turn hqm
                have hne : (T[q].1 == (j : Int)) = false := by
                  rw [beq_eq_false_iff_ne]
                  have hmem := turn_mem hql (HTT.out.trans (congrArg (ts ++ ·) HST.out)) HTQ.out
                  have := lifeTurns_ge _ _ _ _ hmem
                  omega
                generalize T[q].1 = t0 at *
                generalize T[q].2 = t1 at *
                go_wp2
                go_round
                case rel => exact ⟨j + 1, q, y, ts, by omega, by go_num, rfl, rfl, hq, HTQ.out, by rw [HTT.out, HST.out]; rfl⟩
                case measure => simp [intOf]; omega
              · go_wp2
                go_round
                case rel => exact ⟨j + 1, q, y, ts, by omega, by go_num, rfl, rfl, hq, HTQ.out, by rw [HTT.out, HST.out]; rfl⟩
                case measure => simp [intOf]; omega
            · rw [if_neg hy] at hst
              have hqm : q < m := by
                have := congrArg List.length (HTT.out.trans (congrArg (ts ++ ·) hst))
                simp only [List.length_append, List.length_cons] at this
                rw [HM.out, HTQ.out] at this; omega
              obtain ⟨ad2, hql, rfl, ht0, ht1, ht2⟩ := HT.out.turn hqm
              have hTq : T[q] = ((j : Int), y) := turn_head hql (HTT.out.trans (congrArg (ts ++ ·) hst)) HTQ.out
              rw [hTq] at ht0 ht1
              have HST := Lib.hid hst; clear hst hTq
              have hy1 : (y == st) = false := by simpa using hy
              have hy2 : (y != y) = false := by simp
              have hjj : ((j : Int) == (j : Int)) = true := by simp
              clear hy
              go_wp2
              go_round
              case rel => exact ⟨j + 1, q + 1, y, ts ++ [((j : Int), y)], by omega, by go_num, rfl, by go_num, by omega, by simp [HTQ.out], by rw [HTT.out, HST.out, List.append_assoc]; rfl⟩
              case measure => simp [intOf]; omega
          · obtain rfl : j = k := by omega
            have he : q = m := by
              rw [← HM.out, HTT.out, List.drop_of_length_le (by rw [HLL.out]; exact Nat.le_refl _), ← HTQ.out]; simp [lifeTurns]
            subst he
            have hqq : ((q : Int) == (q : Int)) = true := by simp
            go_wp2_with fail
            refine (turns_any none 0 0 [] _ w2 Sees.nil (Nat.zero_le _) (by omega)).mono ?_; rintro e w3 ⟨v, rfl, hown, hbel⟩
            obtain ⟨A3, c3, rfl, hc5, hc6⟩ := own_slice hown
            have HB3 := Lib.hid (HB2.out.trans (hbel.mono (by omega))); have hs3 := hbel.size; clear hbel hown
            go_wp2_with fail
            refine (life_runs _).mono ?_; rintro e w4 ⟨rfl, hbel⟩
            have HB4 := Lib.hid (HB3.out.trans (hbel.mono (by omega))); clear hbel
            go_wp2_with fail
            go_ret
            exact ⟨rfl, HB4.out⟩
end Go.Proofs.Ytecdhcmahmbohaa
