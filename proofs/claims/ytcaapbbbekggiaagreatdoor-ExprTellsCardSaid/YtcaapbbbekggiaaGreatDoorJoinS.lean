/- strings.Join of a few short texts, a comma between. -/
import Derived.Test.YtcaapbbbekggiaaGreatDoorBase2
import Derived.Test.YtcaapbbbekggiaaGreatDoorBld
import Derived.Test.YtcaapbbbekggiaaGreatDoorBase3
import Derived.Test.YtcaapbbbekggiaaGreatDoorBase
namespace Go.Proofs.YtcaapbbbekggiaaGreatDoor
open Go.ChangeShapes Go.WideShapes Go.ChangeAt Go.RowKit
set_option linter.unusedVariables false
set_option linter.unusedSimpArgs false
set_option maxRecDepth 100000
theorem joinN_len24 : ∀ {l : List ByteArray}, (∀ s ∈ l, s.size ≤ 24) → (joinN l).length ≤ 25 * l.length
  | [], _ => by simp [joinN]
  | x :: l, h => by
    have h1 := h x List.mem_cons_self
    have h2 := joinN_len24 (l := l) fun s hs => h s (List.mem_cons_of_mem _ hs)
    have h3 : x.data.toList.length = x.size := by simp
    rw [joinN, List.length_append, List.length_cons]
    split
    · simp; omega
    · rw [List.length_cons]; omega
set_option maxHeartbeats 2000000 in
theorem joinS_any (A : Option Addr) (n c B : Nat) (ns : List ByteArray) (w : World) (h : Sees w B 1 A n (strs ns)) (hB : B ≤ w.heap.size) (hc : n ≤ c) (hc2 : c ≤ 9223372036854775807) (hn6 : n ≤ 6) (hs : ∀ s ∈ ns, s.size ≤ 24) :
    Calls Tryz.prog 49 #[.slice A n c, .string ⟨#[44]⟩] w fun e w' => e = .returned (.string ⟨(joinN ns).toArray⟩) ∧ Below w.heap.size w w' := by
  have H := Lib.hid h
  have HL := Lib.hid h.str_len
  have HS := Lib.hid hs
  clear h hs
  obtain ⟨out, hout⟩ : ∃ out, joinN ns = out := ⟨_, rfl⟩
  have HO := Lib.hid hout
  rw [hout]
  clear hout
  go_enter Tryz.func49, Tryz.ntmps49
  by_cases h0 : n = 0
  · have HE := Lib.hid (show out = [] by
      rw [← HO.out]
      obtain rfl : ns = [] := List.eq_nil_of_length_eq_zero (by rw [HL.out]; exact h0)
      rfl)
    subst h0
    go_wp2_with fail
    go_ret
    exact ⟨by rw [HE.out]; rfl, Below.refl _ _⟩
  · have t0 : ((n : Int) == 0) = false := by rw [beq_eq_false_iff_ne]; omega
    obtain ⟨ad, hkl, rfl, hc0⟩ := H.out.str (show 0 < n by omega)
    rw [add_zero'] at hc0
    by_cases h1 : n = 1
    · have HE := Lib.hid (show out = (ns[0]).data.toList by
        rw [← HO.out]
        match ns, HL.out, h1 with
        | [x], _, _ => simp [joinN]
        | [], e, h1 => simp at e; omega
        | a :: b :: l, e, h1 => simp at e; omega)
      generalize ns[0] = x at *
      subst h1
      go_wp2_with fail
      go_ret
      exact ⟨by rw [HE.out]; rfl, Below.refl _ _⟩
    · have t1 : ((n : Int) == 1) = false := by rw [beq_eq_false_iff_ne]; omega
      obtain ⟨m, hm⟩ : ∃ m, n = m + 2 := ⟨n - 2, by omega⟩
      have hm1 : (n : Int) - 1 = ((m + 1 : Nat) : Int) := by omega
      obtain ⟨m1, hm1'⟩ : ∃ m1, m + 1 = m1 := ⟨_, rfl⟩
      rw [hm1'] at hm1
      obtain ⟨Q, hQ⟩ : ∃ Q : Int, (9223372036854775807 : Int).tdiv (m1 : Int) = Q := ⟨_, rfl⟩
      have hQ2 : 1 < Q ∧ Q ≤ 9223372036854775807 := by
        have hmm : m1 = 1 ∨ m1 = 2 ∨ m1 = 3 ∨ m1 = 4 ∨ m1 = 5 := by omega
        rw [← hQ]
        rcases hmm with e | e | e | e | e <;> (rw [e]; decide)
      obtain ⟨hQa, hQb⟩ := hQ2
      have hm10 : ¬ (m1 : Int) = 0 := by omega
      have hm1b : ((m1 : Int) == 0) = false := by rw [beq_eq_false_iff_ne]; exact hm10
      have hmle : m1 ≤ 5 := by omega
      have HM := Lib.hid (show n = m1 + 1 by omega)
      have hnn : (n : Int) ≤ 6 := by omega
      clear h0 h1 hm hm1' 
      go_wp2_with fail
      go_loopg [5, 7, 41] n (fun g x5 x7 x41 wr => ∃ k S : Nat, k + g = n ∧ x41 = .int .i64 k ∧ x5 = .int .i64 S ∧ S ≤ 10 + 24 * k ∧ wr = w)
      case atStart => exact ⟨0, m1, by omega, rfl, rfl, by omega, rfl⟩
      case round =>
        obtain ⟨k, S, hkg, rfl, rfl, hS, rfl⟩ := hrel
        cases gk with
        | succ g =>
          have hlt : k < n := by omega
          obtain ⟨ad', hkl', had, hck⟩ := H.out.str hlt
          injection had with had
          subst had
          have hsz := HS.out ns[k] (List.getElem_mem _)
          generalize ns[k] = x at *
          have hb1 : ¬ (9223372036854775807 - (S : Int) < x.size) := by omega
          go_wp2_with fail
          go_roundg g
          case measure => omega
          case rel => exact ⟨k + 1, S + x.size, by omega, by go_num, by go_num, by omega, rfl⟩
        | zero =>
          obtain rfl : k = n := by omega
          have hS2 : S ≤ 200 := by omega
          have HNB := Lib.hid (show (wr.alloc (.cells #[.pointer none, .slice none 0 0] 52)).heap[wr.heap.size]? = some (.cells #[.pointer none, .slice none 0 0] 52 (0, 0)) from heap_alloc_new wr _)
          have HB := Lib.hid ((Below.refl wr.heap.size wr).alloc (Nat.le_refl _) (.cells #[.pointer none, .slice none 0 0] 52))
          clear hS
          go_upto_region 19 with fail
          obtain ⟨W1, hW1⟩ : ∃ W, wr.alloc (.cells #[.pointer none, .slice none 0 0] 52) = W := ⟨_, rfl⟩
          have hsz1 : W1.heap.size = wr.heap.size + 1 := by rw [← hW1]; simp
          rw [hW1] at HNB HB ⊢
          clear hW1
          go_wp2_with fail
          refine (bGrow wr.heap.size wr.heap.size S W1 (Nat.le_refl _) HNB.out (by omega) (by omega)).mono ?_
          rintro e w2 ⟨rfl, hbl, hb2⟩
          have HBL := Lib.hid hbl
          have hbig : wr.heap.size + 1 ≤ w2.heap.size := by have := hb2.size; omega
          have HB2 := Lib.hid (HB.out.trans hb2)
          clear hbl hb2 HNB HB hsz1
          obtain ⟨bb, hbb⟩ : ∃ bb, wr.heap.size = bb := ⟨_, rfl⟩
          have hc0' : w2.cell? ad = some (.string (ns[0]'hkl)) := by
            rw [HB2.out.cell (by have := H.out.at_ (show 0 < k by omega); obtain ⟨ad2, e, hlt2, _⟩ := this; injection e with e; subst e; omega)]; exact hc0
          have HW := Lib.hid (show Sees w2 bb 1 (some ad) k (strs ns) from by rw [← hbb]; exact (H.out.more hB).below HB2.out)
          have hs0 := HS.out ns[0] (List.getElem_mem _)
          have HJ0 := Lib.hid (show joinN (ns.take 1) = (ns[0]).data.toList by
            match ns, hkl with
            | x :: l, _ => simp [joinN])
          have HWR := Lib.hid hbb
          rw [hbb] at HBL HB2 hbig ⊢
          have HBL0 : Hid (BldAt w2 bb bb (Lib.byteCells [])) := HBL
          have HFR := Lib.hid (fun (V : World) (hV : Below bb w2 V) => HW.out.keep (fun p hp => hV.cell hp))
          have HNS := Lib.hid (fun (j : Nat) (hj : j + 1 < ns.length) => show joinN (ns.take (j + 2)) = joinN (ns.take (j + 1)) ++ 44 :: (ns[j + 1]).data.toList by
            rw [List.take_succ_eq_append_getElem hj, joinN_snoc, if_neg (by cases ns with | nil => simp at hkl | cons => simp)])
          have HLJ := Lib.hid (fun (j : Nat) => show (joinN (ns.take j)).length ≤ 25 * j by
            have h1 := joinN_len24 (l := ns.take j) (fun s hs => HS.out s (List.mem_of_mem_take hs))
            have h2 : (ns.take j).length ≤ j := List.length_take_le _ _
            omega)
          clear HBL hc0 hbb
          generalize ns[0] = x0 at *
          go_wp2_with fail
          refine (bStringU bb bb [] x0 _ HBL0.out.is (by simp; omega) (by omega)).mono ?_
          rintro e w3 ⟨rfl, hbl, hk⟩
          have HBL3 : Hid (BldAt w3 bb bb (Lib.byteCells (joinN (ns.take 1)))) := Lib.hid (by rw [HJ0.out]; simpa using hbl)
          have HK3 := Lib.hid hk.1
          have hbig3 : bb + 1 ≤ w3.heap.size := by have := hk.1.size; omega
          clear hbl hk HBL0 hc0' hs0 HJ0
          have hkn : k - 1 = m1 := by have := HM.out; omega
          obtain ⟨cm, hcn⟩ : ∃ cm, c - 1 = cm := ⟨_, rfl⟩
          have hc11 : ¬ c = 1 := by have := HM.out; omega
          have hk1le : 1 ≤ k := by omega
          have hc1le : 1 ≤ c := by omega
          have hc1 : (c : Int) - 1 = (cm : Int) := by omega
          have hmc : m1 ≤ cm := by omega
          have hcm9 : cm ≤ 9223372036854775807 := by omega
          go_wp2_with fail
          go_loopg [10, 65] m1 (fun g x10 x65 wr => ∃ j : Nat, j + g = m1 ∧ x65 = .int .i64 j ∧ BldAt wr bb bb (Lib.byteCells (joinN (ns.take (j + 1)))) ∧ Below bb w2 wr ∧ bb + 1 ≤ wr.heap.size)
          case atStart => exact ⟨0, by omega, rfl, HBL3.out, HK3.out, hbig3⟩
          case round =>
            obtain ⟨j, hjg, rfl, hbl, hbel, hbg⟩ := hrel
            have HBL := Lib.hid hbl; have HBE := Lib.hid hbel
            have HJL := HLJ.out (j + 1)
            clear hbl hbel HBL3 HK3
            cases gk with
            | zero =>
              obtain rfl : j = m1 := by omega
              have HE := Lib.hid (show joinN (ns.take (j + 1)) = out by rw [← HO.out, List.take_of_length_le (by rw [HL.out]; omega)])
              rw [HE.out] at HBL
              go_wp2_with fail
              refine (bTold bb bb _ _ HBL.out (by omega)).mono ?_
              rintro e w4 ⟨rfl, hb4⟩
              have HB4 := Lib.hid (HB2.out.trans (HBE.out.trans hb4))
              clear hb4
              go_wp2_with fail
              go_ret
              exact ⟨rfl, by rw [HWR.out]; exact HB4.out⟩
            | succ g =>
              have hlt : j < m1 := by omega
              obtain ⟨ad3, hkl3, had3, hck⟩ := (HW.out.keep (fun p hp => HBE.out.cell hp)).str (show j + 1 < k by have := HM.out; omega)
              injection had3 with had3
              subst had3
              have hnx := HNS.out j hkl3
              have hj1 := hkl3
              rw [show ad.add (j + 1) = ⟨ad.block, ad.off + 1 + j, none⟩ by
                have e := add_spelt ad 0 (j + 1) (by omega)
                rw [add_zero', Nat.zero_add] at e
                rw [← e]; congr 1; omega] at hck
              have hsx := HS.out ns[j + 1] (List.getElem_mem _)
              have HNX := Lib.hid hnx
              clear hnx
              generalize ns[j + 1] = x at *
              obtain ⟨old, hold⟩ : ∃ old, joinN (ns.take (j + 1)) = old := ⟨_, rfl⟩
              rw [hold] at HBL HJL HNX
              clear hold
              go_wp2_with fail
              refine (bStringU bb bb old ⟨#[44]⟩ _ HBL.out.is (by simp [ByteArray.size]; omega) (by omega)).mono ?_
              rintro e w4 ⟨rfl, hbl, hk⟩
              have HBL4 := Lib.hid hbl
              have HBE4 := Lib.hid (HBE.out.trans hk.1)
              have hbg4 : bb + 1 ≤ w4.heap.size := by have := hk.1.size; omega
              clear hbl hk HBL HBE hck
              go_wp2_with fail
              refine (bStringU bb bb _ x _ HBL4.out.is (by rw [List.length_append]; show old.length + 1 + x.size ≤ _; omega) (by omega)).mono ?_
              rintro e w5 ⟨rfl, hbl, hk⟩
              have HBL5 : Hid (BldAt w5 bb bb (Lib.byteCells (joinN (ns.take (j + 2))))) := Lib.hid (by rw [HNX.out]; simpa using hbl)
              have HBE5 := Lib.hid (HBE4.out.trans hk.1)
              have hbg5 : bb + 1 ≤ w5.heap.size := by have := hk.1.size; omega
              clear hbl hk HBL4 HBE4
              go_wp2_with fail
              go_roundg g
              case measure => omega
              case rel => exact ⟨j + 1, by omega, by go_num, HBL5.out, HBE5.out, hbg5⟩
end Go.Proofs.YtcaapbbbekggiaaGreatDoor
