/- The walk of MatchTells. -/
import Derived.Test.YtpeakblpmcfdnaaExactMath
import Derived.Test.YtpeakblpmcfdnaaRefMatch
import Derived.Test.YtpeakblpmcfdnaaRefRightM
import Derived.Test.YtpeakblpmcfdnaaRoomyMtc
import Derived.Deep.RegionLaw
import Derived.Deep.DeepCutAuto
import Derived.Deep.CutBlock
namespace Go.Proofs.Ytpeakblpmcfdnaa
open Go.ChangeShapes Go.WideShapes Go.ChangeAt Go.RowKit
set_option linter.unusedVariables false
set_option maxRecDepth 100000
/-- An append, as one step of a region that draws. -/
theorem step_append_mtc {P : Program} {w : World} {ops : Array Oper} {o : Oper} {a : Act} {K : Act → World → Prop} {Q : Exit → Act → World → Prop} {E : Prop} (hgd : o.guard = none) (s x : Operand) (t : TypeId)
    (ho : o.op = .call { callee := .builtin .append, args := #[s, x], argTypes := #[t, t] })
    (base : Nat) (e : TypeId) (i : TypeInfo) (z : Value) (size bytes : Nat) (ht : P.underlying t = some (.slice e)) (hi : P.info? e = some i) (hz : i.zero = some z)
    (hsize : i.size = size) (hby : i.bytes = bytes) (hzs : z.cells.size = size) (hsz : 0 < size)
    (v : Value) (n : Nat) (xs : List Value) (hv : a.eval s = v) (hown : w.ownsRow base e size v n xs)
    (B : Nat) (A : Option Addr) (m c : Nat) (news : List Value) (hx : a.eval x = .slice A m c) (hs : Sees w B size A m news) (h1 : ∀ u ∈ news, u.oneCell' = true)
    (h63 : n + m ≤ maxLen) (hbytes : (n + m) * bytes ≤ 140737488355328) (hbase : base ≤ w.heap.size)
    (h : ∀ A' c' w', w'.ownsRow base e size (.slice A' (n + m) c') (n + m) (xs ++ news) → w.grownBy w' v.ownBlock → K (a.put o.dst (.slice A' (n + m) c')) w') :
    if Region.wanted o (yielded ops a.tmps) = true then Oper.wp P o a w K Q else E := by
  have hw : Region.wanted o (yielded ops a.tmps) = true := by simp [Region.wanted, hgd]
  rw [if_pos hw]
  obtain ⟨v', w', hr, h2, h3⟩ := append_run (P := P) w base t o.type e i z size bytes ht hi hz hsize hby hzs hsz v n xs hown B A m c news hs h1 h63 hbytes hbase
  obtain ⟨A', c', rfl, _, _⟩ := own_slice h2
  unfold Oper.wp execOp
  simp only [ho, resolve, invoke, builtin, Sem.run_bind, Sem.run_pure, Result.andThen_ok, List.map_toArray, List.map_cons, List.map_nil, hv, hx, hr]
  exact h A' c' w' h2 h3

theorem hasM_own {w : World} {base : Nat} {A : Option Addr} {n c : Nat} {l : List Mtc} (h : w.ownsRow base 23 3 (.slice A n c) n (mtcs l)) : HasM w (.slice A n c) l := by
  have hl : l.length = n := by have := h.1; rw [mtcs_length] at this; omega
  obtain ⟨A', c', h1, h2, h3⟩ := own_slice h
  injection h1 with h1 h4 h5; subst h1; subst h5; subst hl
  exact ⟨A, c, rfl, Sees.of_own h, h2, h3⟩
theorem hasM_blk {w : World} {g n : Nat} {l : List Mtc} (h : Blk w g 23 (mtcs l)) (hl : l.length = n) (hn : n ≤ 9223372036854775807) : HasM w (.slice (some ⟨g, 0, none⟩) n n) l := by
  subst hl
  exact ⟨_, _, rfl, h.sees (mtcs_length l) (List.prefix_refl _), Nat.le_refl _, hn⟩
theorem mtAt_none {w0 w : World} {v : Value} {l : List Mtc} (hb : Below w0.heap.size w0 w) (h : HasM w v l) : MtAt w0 [] [(v, l)] w := ⟨⟨fun p hp => absurd hp List.not_mem_nil, hb⟩, fun p hp => by
  rw [List.mem_singleton] at hp; subst hp; exact h⟩
theorem printM_some {l : List Mtc} (h : rightM l = true) : (printM l).isEmpty = false := by rw [printM, h]; rfl
theorem printM_none {l : List Mtc} (h : rightM l = false) : printM l = [] := by rw [printM, h]; rfl
set_option maxHeartbeats 8000000 in
theorem match_tells (AM : Option Addr) (nm cm : Nat) (ms : List Mtc) (AL : Option Addr) (nl cl : Nat) (ls : List Lbl) (w : World) (hM : Sees w w.heap.size 3 AM nm (mtcs ms)) (hmc : nm ≤ cm) (hcm : cm ≤ 9223372036854775807) (hmz : ∀ z ∈ ms, z.1.size ≤ maxLen ∧ z.2.1.size ≤ maxLen)
    (hL : Sees w w.heap.size 2 AL nl (lbls ls)) (hlc : nl ≤ cl) (hcl : cl ≤ 9223372036854775807) :
    Calls Try.prog 4 #[.slice AM nm cm, .slice AL nl cl] w fun e w' => e = .returned (.bool true) ∧ Below w.heap.size w w' := by
  obtain ⟨i0, hi0, hz0, hz1, hz2⟩ := info_parts Try.infoMatcher
  have hml := hM.mtc_len
  obtain ⟨k, hk⟩ : ∃ k, min nm 8 = k := ⟨_, rfl⟩
  obtain ⟨k2, hk2⟩ : ∃ k, min nl 8 = k := ⟨_, rfl⟩
  have hkn : k ≤ nm := by omega
  have hk8 : k ≤ 8 := by omega
  have hkn2 : k2 ≤ nl := by omega
  have hk28 : k2 ≤ 8 := by omega
  have HSM := Lib.hid (show Sees w w.heap.size 3 AM k (mtcs (ms.take k)) by have h := hM.take hkn; rwa [mtcs_take] at h)
  have HSL := Lib.hid (show Sees w w.heap.size 2 AL k2 (lbls (ls.take k2)) by have h := hL.take hkn2; rwa [lbls_take] at h)
  have HOL := Lib.hid (show (ms.take k).length = k by rw [List.length_take]; omega)
  have HMZ : Hid (∀ z ∈ ms.take k, z.1.size ≤ 9223372036854775807 ∧ z.2.1.size ≤ 9223372036854775807) := Lib.hid (fun z hz => by have h := hmz z (List.mem_of_mem_take hz); unfold maxLen at h; omega)
  clear hM hL hmz hml
  generalize ms.take k = own at *
  generalize ls.take k2 = set at *
  go_enter Try.func4, Try.ntmps4
  go_upto_region 1 with fail
  go_cut [5, 6] (fun x5 x6 wx => ∃ (X : Option Addr) (cx : Nat), x5 = .slice X k cx ∧ x6 = .slice AL k2 cl ∧ HasM wx (.slice X k cx) own ∧ Below w.heap.size w wx)
  case first =>
    have tok : True := trivial
    obtain ⟨D, hD⟩ : ∃ D, w.drew = D := ⟨_, rfl⟩
    have hDs : D.heap.size = w.heap.size := by rw [← hD]; rfl
    have HBD : Hid (Below w.heap.size w D) := Lib.hid (by rw [← hD]; exact (Below.refl _ _).drew)
    have HE := Lib.hid (World.ownsRow_made (base := w.heap.size) (e := 23) (size := 3) D #[] 0 (by omega) (by unfold maxLen; omega) rfl)
    have HBE := Lib.hid (HBD.out.alloc (by omega) (.cells #[] 23))
    have y1 : (k : Int) ≤ cm := by omega
    have y2 : (k2 : Int) ≤ cl := by omega
    have m1 : min (nm : Int) 8 = (k : Int) := by omega
    have m2 : min (nl : Int) 8 = (k2 : Int) := by omega
    have y3 : (0 : Int) ≤ k := by omega
    have y4 : (0 : Int) ≤ k2 := by omega
    clear hk hk2
    · go_region_law (first
        | (have tk := tok; refine step_append_mtc rfl (.tmp 11) (.tmp 16) 24 rfl w.heap.size 23 i0 (.agg #[.string ⟨#[]⟩, .string ⟨#[]⟩, .int .i64 0]) 3 40 Try.underlying24 hi0 hz0 hz1 hz2 rfl (by decide) (.slice (some ⟨D.heap.size, 0, none⟩) 0 0) 0 [] (by first | rfl | (rw [hDs]; rfl)) HE.out _ AM k cm (mtcs own) (by first | rfl | (rw [hDs]; rfl)) (HSM.out.below HBE.out) (mtcs_one _) (by unfold maxLen; omega) (by omega) (by simp; omega) ?_; intro A7 c7 w7 hown7 hgr7; have HO7 := Lib.hid hown7; have HB7 := Lib.hid (HBE.out.grown hgr7 (by simp; omega) (by simp [Value.ownBlock]; omega)); clear tok tk hown7 hgr7)
        | fail)
      all_goals
        go_wp2_with fail
        go_meet
        have h7 := HO7.out
        rw [Nat.zero_add] at h7
        exact ⟨A7, c7, by simp, rfl, hasM_own h7, HB7.out⟩
  case rest =>
    obtain ⟨X, cx, rfl, rfl, hm, hbel⟩ := hcut
    have HT0 := Lib.hid (mtAt_none hbel hm)
    clear hm hbel HSM hk hk2
    go_wp2_with fail
    (with_reducible refine (roomy_mtc X k cx _ own ⟨#[]⟩ ⟨#[]⟩ 7 _ (HT0.out.getM (v := .slice X k cx) (l := own) (by simp)).sees (Nat.le_refl _) (by omega)).mono ?_); rintro e w1 ⟨g, rfl, hg, hbk, hb⟩
    have HT1 := Lib.hid ((HT0.out.below hb).add (hasM_blk hbk (by rw [List.length_append, List.length_replicate, HOL.out]) (by omega)))
    clear hg hbk hb HT0
    obtain ⟨b6, hb6⟩ : ∃ b, decide ((k : Int) ≤ 6) = b := ⟨_, rfl⟩
    have H6 : Hid (decide (own.length ≤ 6) = b6) := Lib.hid (by rw [← hb6, HOL.out]; exact decide_eq_decide.2 (by omega))
    go_wp2_with fail
    have HB6 := Lib.hid hb6
    clear hb6
    go_loopg [8, 31] k (fun g2 x8 x31 wr => ∃ j : Nat, j + g2 = k ∧ x31 = .int .i64 j ∧ x8 = .bool (b6 && (own.take j).all mtcOk) ∧ MtAt w [] [(.slice (some ⟨g, 0, none⟩) (k + 80) (k + 80), own ++ List.replicate 80 ((⟨#[]⟩ : ByteArray), (⟨#[]⟩ : ByteArray), (7 : Int))), (.slice X k cx, own)] wr)
    case atStart => exact ⟨0, by omega, rfl, by simp, HT1.out⟩
    case round =>
      obtain ⟨j, hjg, rfl, rfl, hmt⟩ := hrel
      have HTR := Lib.hid hmt
      clear hmt HT1
      cases gk with
      | succ g2 =>
        have hj : j < k := by omega
        obtain ⟨ad, hkl, rfl, c0, c1, c2⟩ := (HTR.out.getM (v := .slice X k cx) (l := own) (by simp)).sees.mtc hj
        have hal := World.block_lt_of_cell? wr _ c0
        have HTK : Hid ((b6 && (own.take (j + 1)).all mtcOk) = ((b6 && (own.take j).all mtcOk) && mtcOk own[j])) := Lib.hid (by
          rw [List.take_succ_eq_append_getElem hkl, List.all_append, List.all_cons, List.all_nil, Bool.and_true, Bool.and_assoc])
        have hz := HMZ.out own[j] (List.getElem_mem _)
        generalize own[j] = p at *
        obtain ⟨a, b, kd⟩ := p
        simp only at c0 c1 c2 hz
        obtain ⟨r0, hr0⟩ : ∃ q, (b6 && (own.take j).all mtcOk) = q := ⟨_, rfl⟩
        rw [hr0] at HTK
        rw [hr0]
        clear hr0
        have HA := Lib.hid (HTR.out.alloc (.cells #[.string a, .string b, .int .i64 kd] 23))
        cases r0 with
        | false =>
          have HN := Lib.hid (HTK.out.trans (Bool.false_and _))
          clear HTK
          go_wp2_with fail
          go_roundg g2
          case measure => omega
          case rel => exact ⟨j + 1, by omega, by go_num, by rw [HN.out], HA.out⟩
        | true =>
          have HN := Lib.hid (HTK.out.trans (Bool.true_and _))
          clear HTK
          go_wp2_with fail
          (with_reducible refine (refRightM_any a b kd _ hz.1 hz.2).mono ?_); rintro e w2 ⟨rfl, hb⟩
          have HA2 := Lib.hid (HA.out.below hb)
          clear hb HA
          go_wp2_with fail
          go_roundg g2
          case measure => omega
          case rel => exact ⟨j + 1, by omega, by go_num, by rw [HN.out], HA2.out⟩
      | zero =>
        obtain rfl : j = k := by omega
        have HRR : Hid ((b6 && (own.take j).all mtcOk) = rightM own) := Lib.hid (by rw [List.take_of_length_le (by rw [HOL.out]; exact Nat.le_refl _), rightM, H6.out])
        rw [HRR.out]
        have HFT := Lib.hid (fun V (h : MtAt w [] [(.slice (some ⟨g, 0, none⟩) (j + 80) (j + 80), own ++ List.replicate 80 ((⟨#[]⟩ : ByteArray), (⟨#[]⟩ : ByteArray), (7 : Int))), (.slice X j cx, own)] V) => show Sees V V.heap.size 3 (some ⟨g, 0, none⟩) j (mtcs own) by
          have h1 := (h.getM (v := .slice (some ⟨g, 0, none⟩) (j + 80) (j + 80)) (l := own ++ List.replicate 80 ((⟨#[]⟩ : ByteArray), (⟨#[]⟩ : ByteArray), (7 : Int))) (by simp)).sees.take (k := j) (by omega)
          rwa [mtcs_take, List.take_append_of_le_length (by rw [HOL.out]; exact Nat.le_refl _), List.take_of_length_le (by rw [HOL.out]; exact Nat.le_refl _)] at h1)
        have y5 : (j : Int) ≤ (j : Int) + 80 := by omega
        have y6 : (0 : Int) ≤ j := by omega
        have HT3 := HTR
        clear HTR HRR
        obtain ⟨r, hr⟩ : ∃ r, rightM own = r := ⟨_, rfl⟩
        rw [hr]
        have HR := Lib.hid hr
        clear hr
        cases r with
        | false =>
          have HPN := Lib.hid (printM_none HR.out)
          go_wp2_with fail
          (with_reducible refine (rightM_any _ j (j + 80) _ own _ (HFT.out _ HT3.out) (Nat.le_refl _) (by omega)).mono ?_); rintro e w4 ⟨rfl, hb⟩
          rw [HR.out]
          have HT4 := Lib.hid (HT3.out.below hb)
          clear hb HT3
          go_wp2_with fail
          (with_reducible refine (all_any AL k2 cl _ set X j cx _ own _ (HSL.out.below HT4.out.bel) HT4.out.bel.size (by omega) (HT4.out.getM (v := .slice X j cx) (l := own) (by simp)).sees (Nat.le_refl _) (by omega)).mono ?_); rintro e w5 ⟨rfl, hb⟩
          have HT5 := Lib.hid (HT4.out.below hb)
          clear hb HT4
          go_wp2_with fail
          (with_reducible refine (refAll_any AL k2 cl _ set X j cx _ own _ (HSL.out.below HT5.out.bel) HT5.out.bel.size (by omega) (HT5.out.getM (v := .slice X j cx) (l := own) (by simp)).sees (Nat.le_refl _) (by omega) (fun x hx => (HMZ.out x hx).2)).mono ?_); rintro e w6 ⟨rfl, hb⟩
          have HT6 := Lib.hid (HT5.out.below hb)
          clear hb HT5
          go_wp2_with fail
          (with_reducible refine (printM_any X j cx own _ _ (HT6.out.getM (v := .slice X j cx) (l := own) (by simp)).sees (Nat.le_refl _) (by omega)).mono ?_); rintro e w7 ⟨rfl, hb⟩
          rw [HPN.out]
          have HT7 := Lib.hid (HT6.out.below hb)
          clear hb HT6
          go_wp2_with fail
          (with_reducible refine (intact_mtc _ X j (j + 80) cx own _ _ _ _ (HT7.out.getM (v := .slice (some ⟨g, 0, none⟩) (j + 80) (j + 80)) (l := own ++ List.replicate 80 ((⟨#[]⟩ : ByteArray), (⟨#[]⟩ : ByteArray), (7 : Int))) (by simp)).sees (HT7.out.getM (v := .slice X j cx) (l := own) (by simp)).sees (Nat.le_refl _) (by omega)).mono ?_); rintro e w8 ⟨rfl, hb⟩
          have HT8 := Lib.hid (HT7.out.below hb)
          clear hb HT7
          go_wp2_with fail
          (with_reducible refine (match_runs _).mono ?_); rintro e w9 ⟨rfl, hb⟩
          have HT9 := Lib.hid (HT8.out.below hb)
          clear hb HT8
          go_wp2_with fail
          go_ret
          exact ⟨rfl, HT9.out.bel⟩
        | true =>
          have HPS := Lib.hid (printM_some HR.out)
          obtain ⟨pm, hpm⟩ : ∃ pm, printM own = pm := ⟨_, rfl⟩
          rw [hpm] at HPS
          have HPM := Lib.hid hpm
          clear hpm
          have t1 : pm.isEmpty = false := HPS.out
          have t2 : (pm == []) = false := by cases pm with | nil => exact absurd t1 (by simp) | cons x y => rfl
          have t3 : (pm != []) = true := by rw [bne, t2]; rfl
          go_wp2_with fail
          (with_reducible refine (rightM_any _ j (j + 80) _ own _ (HFT.out _ HT3.out) (Nat.le_refl _) (by omega)).mono ?_); rintro e w4 ⟨rfl, hb⟩
          rw [HR.out]
          have HT4 := Lib.hid (HT3.out.below hb)
          clear hb HT3
          go_wp2_with fail
          (with_reducible refine (all_any AL k2 cl _ set X j cx _ own _ (HSL.out.below HT4.out.bel) HT4.out.bel.size (by omega) (HT4.out.getM (v := .slice X j cx) (l := own) (by simp)).sees (Nat.le_refl _) (by omega)).mono ?_); rintro e w5 ⟨rfl, hb⟩
          have HT5 := Lib.hid (HT4.out.below hb)
          clear hb HT4
          go_wp2_with fail
          (with_reducible refine (refAll_any AL k2 cl _ set X j cx _ own _ (HSL.out.below HT5.out.bel) HT5.out.bel.size (by omega) (HT5.out.getM (v := .slice X j cx) (l := own) (by simp)).sees (Nat.le_refl _) (by omega) (fun x hx => (HMZ.out x hx).2)).mono ?_); rintro e w6 ⟨rfl, hb⟩
          have HT6 := Lib.hid (HT5.out.below hb)
          clear hb HT5
          go_wp2_with fail
          (with_reducible refine (printM_any X j cx own _ _ (HT6.out.getM (v := .slice X j cx) (l := own) (by simp)).sees (Nat.le_refl _) (by omega)).mono ?_); rintro e w7 ⟨rfl, hb⟩
          rw [HPM.out]
          have HT7 := Lib.hid (HT6.out.below hb)
          clear hb HT6
          go_wp2_with fail
          (with_reducible refine (intact_mtc _ X j (j + 80) cx own _ _ _ _ (HT7.out.getM (v := .slice (some ⟨g, 0, none⟩) (j + 80) (j + 80)) (l := own ++ List.replicate 80 ((⟨#[]⟩ : ByteArray), (⟨#[]⟩ : ByteArray), (7 : Int))) (by simp)).sees (HT7.out.getM (v := .slice X j cx) (l := own) (by simp)).sees (Nat.le_refl _) (by omega)).mono ?_); rintro e w8 ⟨rfl, hb⟩
          have HT8 := Lib.hid (HT7.out.below hb)
          clear hb HT7
          go_wp2_with fail
          (with_reducible refine (match_runs _).mono ?_); rintro e w9 ⟨rfl, hb⟩
          have HT9 := Lib.hid (HT8.out.below hb)
          clear hb HT8
          go_wp2_with fail
          go_ret
          exact ⟨rfl, HT9.out.bel⟩
end Go.Proofs.Ytpeakblpmcfdnaa
