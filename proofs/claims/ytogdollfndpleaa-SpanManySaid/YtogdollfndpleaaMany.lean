/- klaxonlaw14.SpanMany: the walk. -/
import Derived.Test.YtogdollfndpleaaManyCon
import Derived.Deep.LoopGhost
import Derived.Deep.DeepCutAuto
import Derived.Deep.RegionHeld3
namespace Go.Proofs.Ytogdollfndpleaa
open Go.ChangeShapes Go.WideShapes Go.ChangeAt Go.RowKit
set_option linter.unusedVariables false
set_option maxRecDepth 100000
theorem step_append_at2 {P : Program} {w : World} {ops : Array Oper} {o : Oper} {a : Act} {K : Act → World → Prop} {Q : Exit → Act → World → Prop} {E : Prop} (hgd : o.guard = none) (s x : Operand) (t : TypeId)
    (ho : o.op = .call { callee := .builtin .append, args := #[s, x], argTypes := #[t, t] })
    (base : Nat) (e : TypeId) (i : TypeInfo) (z : Value) (size bytes : Nat) (ht : P.underlying t = some (.slice e)) (hi : P.info? e = some i) (hz : i.zero = some z)
    (hsize : i.size = size) (hby : i.bytes = bytes) (hzs : z.cells.size = size) (hsz : 0 < size)
    (v : Value) (n : Nat) (xs : List Value) (hv : a.eval s = v) (hown : w.ownsRow base e size v n xs)
    (B : Nat) (A : Option Addr) (m c : Nat) (news : List Value) (hx : a.eval x = .slice A m c) (hs : Sees w B size A m news) (h1 : ∀ u ∈ news, u.oneCell' = true)
    (h63 : n + m ≤ maxLen) (hbytes : (n + m) * bytes ≤ 140737488355328) (hbase : base ≤ w.heap.size)
    (h : ∀ v' w', w'.ownsRow base e size v' (n + m) (xs ++ news) → w.grownBy w' v.ownBlock → K (a.put o.dst v') w') :
    if Region.wanted o (yielded ops a.tmps) = true then Oper.wp P o a w K Q else E := by
  have hw : Region.wanted o (yielded ops a.tmps) = true := by simp [Region.wanted, hgd]
  rw [if_pos hw]
  obtain ⟨v', w', hr, h2, h3⟩ := append_run (P := P) w base t o.type e i z size bytes ht hi hz hsize hby hzs hsz v n xs hown B A m c news hs h1 h63 hbytes hbase
  unfold Oper.wp execOp
  simp only [ho, resolve, invoke, builtin, Sem.run_bind, Sem.run_pure, Result.andThen_ok, List.map_toArray, List.map_cons, List.map_nil, hv, hx, hr]
  exact h v' w' h2 h3
set_option maxHeartbeats 8000000 in
theorem span_many (A A2 : Option Addr) (n c n2 c2 : Nat) (zs ys : List Int) (cut : Int) (w : World) (hl : Sees w w.heap.size 1 A n (ints zs)) (hl2 : Sees w w.heap.size 1 A2 n2 (ints ys)) (hz : ∀ z ∈ zs, I64 z) (hy : ∀ z ∈ ys, I64 z)
    (hn : n ≤ 9223372036854775807) (hn2 : n2 ≤ 9223372036854775807) (wc : I64 cut) :
    Calls Try.prog 3 #[.slice A n c, .slice A2 n2 c2, .int .i64 cut] w fun e w' => e = .returned (.bool true) ∧ Below w.heap.size w w' := by
  have H := Lib.hid hl; clear hl
  have H2 := Lib.hid hl2; clear hl2
  have HZ := Lib.hid hz; clear hz
  have HY := Lib.hid hy; clear hy
  have HL := Lib.hid H.out.int_len
  have WC := Lib.hid wc; clear wc
  obtain ⟨i0, hi, hz0, hz1, hz2⟩ := info_parts Try.infoInt3
  go_enter Try.func3, Try.ntmps3
  go_wp2
  go_loopw [7, 8] (fun v j wr => ∃ k : Nat, k ≤ n ∧ k ≤ 40 ∧ j = .int .i64 k ∧ wr.ownsRow w.heap.size 3 1 v k (ints (mOwn (zs.take k))) ∧ Below w.heap.size w wr) (fun _ j _ => n - (intOf j).toNat)
  case atStart => exact ⟨0, Nat.zero_le _, Nat.zero_le _, rfl, by simpa [mOwn, ints] using World.ownsRow_nil _ _ _ _, Below.refl _ _⟩
  case round =>
    obtain ⟨k, hk, hk40, rfl, hown, hbel⟩ := hrel
    have hsz := hbel.size
    have HB := Lib.hid hbel; clear hbel
    by_cases hlt : k < n ∧ k < 40
    · obtain ⟨hlt, hlt40⟩ := hlt
      obtain ⟨ad, hkl, rfl, hc⟩ := (H.out.below HB.out).int hlt
      have hI := Lib.hid (HZ.out zs[k] (List.getElem_mem _))
      generalize hzk : zs[k] = z at *
      have HZK := Lib.hid hzk; clear hzk
      have HLO := Lib.hid hown.lt
      have HO := Lib.hid hown; clear hown
      go_wp2_with (first
        | (go_at_call 4; refine (within_any _ 0 199 _ hI.out (by omega) (by omega) (by omega)).mono ?_; rintro e w' ⟨rfl, rfl⟩)
        | (at_builtin; refine wpList_append_own _ rfl _ _ 22 rfl w.heap.size 3 i0 (.int .i64 0) 1 8 Try.underlying22 hi hz0 hz1 hz2 rfl (by decide) _ _ _ rfl (HO.out.alloc _) ⟨wr.heap.size, 0, none⟩ 1 1 [.int .i64 (nWithin z 0 199)] rfl rfl ?c1 ?c2 ?c3 ?c4 ?c5 ?_))
      case c1 =>
        intro j u hj
        match j, hj with
        | 0, hj => simp at hj; subst hj; simp [Addr.add]
      case c2 => intro u hu; simp at hu; subst hu; rfl
      case c3 => unfold maxLen; omega
      case c4 => omega
      case c5 => simp; omega
      intro v' w1 hown' hgrow _
      have R := mOwn_row (by omega) hkl HB.out (fun g hg => (HLO.out g hg).1) (by rw [HZK.out]; exact hown') hgrow
      have HR := Lib.hid R; clear R hown' hgrow
      go_wp2
      go_roundw
      case rel => exact ⟨k + 1, by omega, by omega, by go_num, HR.out.1, HR.out.2⟩
      case measure => simp [intOf]; omega
    · obtain ⟨A1, c1, rfl, hc1, hc2⟩ := own_slice hown
      have hsees := Sees.of_own hown
      have hLL : (mOwn (zs.take k)).length = k := hsees.int_len
      have HTK := Lib.hid (mOwn_tick (zs.take k))
      clear hown
      generalize mOwn (zs.take k) = L at *
      have HS := Lib.hid hsees; have HLL := Lib.hid hLL; clear hsees hLL
      have hge : ¬ ((k : Int) < n ∧ (k : Int) < 40) := by omega
      clear H HZ HL
      obtain ⟨q, hq⟩ : ∃ q : Nat, nWithin cut 0 k = q := ⟨(nWithin cut 0 k).toNat, by have := nWithin_in cut (lo := 0) (hi := k) (by omega); omega⟩
      have hqk : q ≤ k := by have := nWithin_in cut (lo := 0) (hi := k) (by omega); omega
      have HW := Lib.hid (within_any cut 0 k wr WC.out (by omega) (by omega) (by omega))
      rw [hq] at HW
      clear hq WC
      obtain ⟨F, hF⟩ : ∃ F, ofF L = F := ⟨_, rfl⟩
      obtain ⟨nf, hnf⟩ : ∃ nf, F.length = nf := ⟨_, rfl⟩
      have hnfl : nf ≤ 1000 := by rw [← hnf, ← hF]; exact (ofF_spec L).1.len
      have HFO := Lib.hid hF; have HNF := Lib.hid hnf
      clear hF hnf
      have HOF := Lib.hid (of_ans A1 k c1 L F nf _ wr HFO.out HNF.out HS.out (Nat.le_refl _) (by omega))
      have hmm := @run_makeMap Try.prog
      have hqc : q ≤ c1 := Nat.le_trans hqk hc1
      have hqi : (q : Int) ≤ c1 := by omega
      have hq0 : (0 : Int) ≤ q := by omega
      have hqki : (q : Int) ≤ k := by omega
      by_cases hlt : k < n
      all_goals
        go_wp2_with fail
        refine HW.out.mono ?_; rintro e w' ⟨rfl, rfl⟩
        go_wp2_with fail
        refine HOF.out.mono ?_; rintro e w2 ⟨A3, c3, rfl, hs3, hb3, hc31, hc32⟩
        have HF3 := Lib.hid hs3; have HB3 := Lib.hid hb3
        have hs2 := hb3.size
        have HS2 := Lib.hid (HS.out.below hb3)
        clear hs3 hb3 HOF HW
        obtain ⟨X, hX⟩ : ∃ X, (if c1 = q then A1 else Option.map (fun x => x.add q) A1) = X := ⟨_, rfl⟩
        have hd0 := HS2.out.drop hqk hc1
        have ht0 := HS2.out.take hqk
        rw [Nat.mul_one, hX, ints_drop] at hd0
        rw [Nat.mul_one, ints_take] at ht0
        have HSD := Lib.hid hd0; have HSP := Lib.hid ht0
        clear hd0 ht0
        obtain ⟨FP, hFP⟩ : ∃ FP, ofF (L.take q) = FP := ⟨_, rfl⟩
        obtain ⟨FQ, hFQ⟩ : ∃ FQ, ofF (L.drop q) = FQ := ⟨_, rfl⟩
        obtain ⟨np, hnp⟩ : ∃ np, FP.length = np := ⟨_, rfl⟩
        obtain ⟨nq, hnq⟩ : ∃ nq, FQ.length = nq := ⟨_, rfl⟩
        have HFP0 := Lib.hid hFP; have HFQ0 := Lib.hid hFQ; have HNP := Lib.hid hnp; have HNQ := Lib.hid hnq
        clear hFP hFQ hnp hnq
        obtain ⟨TL, hTL⟩ : ∃ TL, L.drop q ++ L.take q = TL := ⟨_, rfl⟩
        have HTL : Hid (ints (L.drop q) ++ ints (L.take q) = ints TL) := Lib.hid (by rw [← ints_append, hTL])
        have HOT : Hid (ofF TL = F) := Lib.hid (by rw [← hTL, of_turned, HFO.out])
        clear hTL
        go_upto_region 8 with fail
        go_cut [68] (fun x wx => x = .bool false ∧ Below w2.heap.size w2 wx)
        case first =>
          have hown0 : (w2.drew.alloc (.cells #[] 3)).ownsRow w2.heap.size 3 1 (.slice (some ⟨w2.heap.size, 0, none⟩) 0 0) 0 [] := World.ownsRow_made w2.drew #[] 0 (Nat.le_refl _) (by unfold maxLen; omega) rfl
          have HO0 := Lib.hid hown0; clear hown0
          have HBZ := Lib.hid (((Below.refl w2.heap.size w2).drew.alloc (Nat.le_refl _) (.cells #[] 3)) : Below w2.heap.size w2 (w2.drew.alloc (.cells #[] 3)))
          have tokP : True := trivial
          have tokQ : True := trivial
          have tokR : True := trivial
          have tokS : True := trivial
          have tokU : True := trivial
          have tokV : True := trivial
          have tokJ : True := trivial
          have tokT : True := trivial
          clear H2 HY HB
          go_region_held3 (fun _ => True) (exact trivial) (first
            | (have tk := tokP; refine step_append_at2 rfl (.tmp 42) (.tmp 45) 22 rfl w2.heap.size 3 i0 (.int .i64 0) 1 8 Try.underlying22 hi hz0 hz1 hz2 rfl (by decide) (.slice (some ⟨w2.heap.size, 0, none⟩) 0 0) 0 [] (by simp [Act.eval]) HO0.out _ X (k - q) (c1 - q) (ints (L.drop q)) (by simp [Act.eval]) (HSD.out.below (HBZ.out.mono hs2)) (ints_one _) (by unfold maxLen; omega) (by omega) HBZ.out.size ?_; intro v7 w7 hown7 hgr7; have HO7 : Hid (w7.ownsRow w2.heap.size 3 1 v7 (k - q) (ints (L.drop q))) := Lib.hid (by simpa using hown7); have hb7 := HBZ.out.grown hgr7 HBZ.out.size (fun g hg => (HO0.out.lt g hg).1); replace HBZ := Lib.hid hb7; clear tokP tk hown7 hgr7 hb7 HO0)
            | (have tk := tokQ; refine step_append_at2 rfl (.tmp 46) (.tmp 49) 22 rfl w2.heap.size 3 i0 (.int .i64 0) 1 8 Try.underlying22 hi hz0 hz1 hz2 rfl (by decide) v7 (k - q) (ints (L.drop q)) (by simp [Act.eval]) HO7.out _ A1 q c1 (ints (L.take q)) (by simp [Act.eval]) (HSP.out.below (HBZ.out.mono hs2)) (ints_one _) (by unfold maxLen; omega) (by omega) HBZ.out.size ?_; intro v8 w8 hown8 hgr8; have hb8 := HBZ.out.grown hgr8 HBZ.out.size (fun g hg => (HO7.out.lt g hg).1); rw [HTL.out, show k - q + q = k by omega] at hown8; obtain ⟨A8, c8, rfl, h81, h82⟩ := own_slice hown8; have HS8 := Lib.hid (Sees.of_own hown8); replace HBZ := Lib.hid hb8; clear tokQ tk hown8 hgr8 hb8 HO7 h81 h82)
            | (have tk := tokR; (with_reducible refine (of_ans A8 k c8 TL F nf _ _ HOT.out HNF.out HS8.out (Nat.le_refl _) (by omega)).mono ?_); rintro e w9 ⟨A9, c9, rfl, hs9, hb9, h91, h92⟩; have HF9 := Lib.hid hs9; replace HBZ := Lib.hid (HBZ.out.trans (hb9.mono HBZ.out.size)); clear tokR tk hs9 hb9 h91 h92 HS8)
            | (have tk := tokS; (with_reducible refine (same_true A3 A9 nf c3 c9 _ _ F _ (HF3.out.below HBZ.out) HF9.out (by omega)).mono ?_); rintro e w10 ⟨rfl, m10, rfl⟩; replace HBZ := Lib.hid (below_drewN3 HBZ.out m10); clear tokS tk HF9)
            | (have tk := tokU; (with_reducible refine (of_ans A1 q c1 (L.take q) FP np _ _ HFP0.out HNP.out (HSP.out.below (HBZ.out.mono hs2)) (Nat.le_trans hs2 HBZ.out.size) (by omega)).mono ?_); rintro e wU ⟨AU, cU, rfl, hsU, hbU, hU1, hU2⟩; have HFP := Lib.hid hsU; (try replace HFQ := Lib.hid ((HFQ.out.below hbU).more hbU.size)); replace HBZ := Lib.hid (HBZ.out.trans (hbU.mono HBZ.out.size)); clear tokU tk hsU hbU)
            | (have tk := tokV; (with_reducible refine (of_ans X (k - q) (c1 - q) (L.drop q) FQ nq _ _ HFQ0.out HNQ.out (HSD.out.below (HBZ.out.mono hs2)) (Nat.le_trans hs2 HBZ.out.size) (by omega)).mono ?_); rintro e wV ⟨AV, cV, rfl, hsV, hbV, hV1, hV2⟩; have HFQ := Lib.hid hsV; (try replace HFP := Lib.hid ((HFP.out.below hbV).more hbV.size)); replace HBZ := Lib.hid (HBZ.out.trans (hbV.mono HBZ.out.size)); clear tokV tk hsV hbV)
            | (have tk := tokJ; (with_reducible refine (join_parts AU AV np cU nq cV nf L q F FP FQ _ HFO.out HNF.out HFP0.out HFQ0.out HFP.out HFQ.out hU1 hU2 hV1 hV2).mono ?_); rintro e wJ ⟨AJ, cJ, rfl, hsJ, hbJ, hJ1, hJ2⟩; have HFJ := Lib.hid hsJ; replace HBZ := Lib.hid (HBZ.out.trans (hbJ.mono HBZ.out.size)); clear tokJ tk hsJ hbJ hJ1 hJ2 HFP HFQ)
            | (have tk := tokT; (with_reducible refine (same_true A3 AJ nf c3 cJ _ _ F _ (HF3.out.below HBZ.out) HFJ.out (by omega)).mono ?_); rintro e w11 ⟨rfl, m11, rfl⟩; replace HBZ := Lib.hid (below_drewN3 HBZ.out m11); clear tokT tk HFJ)
            | fail)
          all_goals
            go_wp2_with fail
            go_meet
            exact ⟨rfl, HBZ.out⟩
        case rest =>
          obtain ⟨rfl, hbx⟩ := hcut
          have HBX := Lib.hid hbx
          clear hbx hX HSD HSP HTL HOT HFP0 HFQ0 HNP HNQ
          have hsx := HBX.out.size
          have HLX := Lib.hid (HS2.out.below (HBX.out.mono hs2))
          have HFX := Lib.hid ((HF3.out.below HBX.out).more hsx)
          have HBW := Lib.hid (HB.out.trans ((HB3.out.trans (HBX.out.mono hs2)).mono hsz))
          obtain ⟨bm, hbm⟩ : ∃ bm, wc.heap.size = bm := ⟨_, rfl⟩
          have HM0 := Lib.hid (show BSet (wc.alloc (.map #[] 0)) bm 0 (fun x => decide (x ∈ L.take 0)) (manyN (L.take 0)) by
            have := bset_made wc L
            rw [hbm] at this
            exact this)
          have HBA := Lib.hid ((Below.refl wc.heap.size wc).alloc (Nat.le_refl _) (.map #[] 0))
          have hbml : wr.heap.size ≤ bm := by omega
          clear HS2 HF3 HB3 HBX
          go_wp2_with fail
          go_loopg [72] k (fun g x72 wo => ∃ j : Nat, j + g = k ∧ x72 = .int .i64 j ∧ BSet wo bm j (fun x => decide (x ∈ L.take j)) (manyN (L.take j)) ∧ Below wc.heap.size wc wo)
          case atStart => exact ⟨0, by omega, rfl, HM0.out, HBA.out⟩
          case round =>
            clear HM0 HBA
            obtain ⟨j, hjg, rfl, hmap, hbel⟩ := hrel
            have HM := Lib.hid hmap; have HBO := Lib.hid hbel
            have hszo := hbel.size
            clear hmap hbel
            cases gk with
            | zero =>
              obtain rfl : j = k := by omega
              have HM1 := Lib.hid (show BSet wr bm j (fun x => decide (x ∈ L)) (manyN L) by have := HM.out; rw [List.take_of_length_le (by rw [HLL.out]; exact Nat.le_refl _)] at this; exact this)
              have HSF : Hid (SpL F) := Lib.hid (HFO.out ▸ (ofF_spec L).1)
              have HCF := Lib.hid (show countF F = manyN L from HFO.out ▸ many_count HTK.out)
              have HHF := Lib.hid (show ∀ t, hasF F t = decide (t ∈ L) from HFO.out ▸ many_has HTK.out)
              have hmn := manyN_le L
              generalize manyN L = mn at *
              have HFW := Lib.hid ((HFX.out.below HBO.out).more hszo)
              have HBW2 := Lib.hid (HBW.out.trans (HBO.out.mono (by have := HBW.out.size; omega)))
              have HCT := Lib.hid (count_spl A3 nf c3 F mn _ wr HSF.out HCF.out HFW.out (Nat.le_refl _))
              clear HM HLX HFX HS HTK HLL HBO hbm hbml hge
              go_wp2_with fail
              refine HCT.out.mono ?_; rintro e w5 ⟨rfl, hb5⟩
              have HM5 := Lib.hid (HM1.out.below hb5)
              have HF5 := Lib.hid ((HFW.out.below hb5).more hb5.size)
              have HB5 := Lib.hid (HBW2.out.trans (hb5.mono HBW2.out.size))
              have hs5 := HB5.out.size
              have hbm5 := HM5.out.lt
              clear hb5 HM1 HFW HBW2 HCT
              go_wp2_with (at_len; refine wpList_len_bset rfl (.tmp 81) rfl bm j mn _ rfl HM5.out ?_)
              have hnn : ((mn : Int) != mn) = false := by simp
              go_wp2_with fail
              go_loopg [14] 202 (fun g x14 wo => ∃ t : Int, t + g = 201 ∧ -1 ≤ t ∧ x14 = .int .i64 t ∧ Below w5.heap.size w5 wo)
              case atStart => exact ⟨-1, by omega, by omega, rfl, Below.refl _ _⟩
              case round =>
                obtain ⟨t, htg, ht1, rfl, hbel⟩ := hrel
                have HBT := Lib.hid hbel
                have hszt := hbel.size
                clear hbel
                cases gk with
                | zero =>
                  have htb : ¬ t ≤ 200 := by omega
                  have HF6 := Lib.hid ((HF5.out.below HBT.out).more hszt)
                  have HB6 := Lib.hid (HB5.out.trans (HBT.out.mono hs5))
                  have HFL := Lib.hid (flags_any A2 n2 c2 ys _ wr (H2.out.below HB6.out) HY.out HB6.out.size hn2)
                  have hns : (0 : Nat) ≤ nf := Nat.zero_le _
                  clear HM5 HF5 HB5 HBT HHF H2 HY hmm
                  go_wp2_with fail
                  refine HFL.out.mono ?_; rintro e w7 ⟨Ab, Ay, cy, rfl, hsb, hsy, hb7, hcy1, hcy2⟩
                  have HSY := Lib.hid (spK_spl (flagsL ys))
                  generalize spK (flagsL ys) 60 = Y at *
                  have HF7 := Lib.hid ((HF6.out.below hb7).more hb7.size)
                  have HB7 := Lib.hid (HB6.out.trans (hb7.mono HB6.out.size))
                  have HY7 := Lib.hid hsy
                  obtain ⟨ny, hny⟩ : ∃ ny, Y.length = ny := ⟨_, rfl⟩
                  rw [hny] at hcy1 HY7 ⊢
                  clear hsb hsy hb7 hny HFL HF6 HB6
                  obtain ⟨m1, m2, ⟨m3, m4⟩, ⟨m5, m6⟩, m7, m8⟩ := sums_meet HSF.out HSY.out
                  have hy0 := HSY.out.count_in
                  obtain ⟨u, hu⟩ : ∃ u, unionN F Y = u := ⟨_, rfl⟩
                  obtain ⟨m, hm⟩ : ∃ m, meetN F Y = m := ⟨_, rfl⟩
                  obtain ⟨p, hp⟩ : ∃ p, apartN F Y = p := ⟨_, rfl⟩
                  obtain ⟨y, hy⟩ : ∃ y, countF Y = y := ⟨_, rfl⟩
                  rw [HCF.out, hu, hm, hy] at m1
                  rw [HCF.out, hp, hm] at m2
                  rw [hu] at m3 m4
                  rw [hm] at m5 m6
                  rw [hp] at m7 m8
                  rw [hy] at hy0
                  have HU := Lib.hid hu; have HME := Lib.hid hm; have HP := Lib.hid hp; have HYC := Lib.hid hy
                  obtain ⟨f, hf⟩ : ∃ f : Int, (mn : Int) = f := ⟨_, rfl⟩
                  rw [hf] at m1 m2 HCF
                  have hf0 : 0 ≤ f ∧ f ≤ 200 := by omega
                  have hE1 : (u + m == f + y) = true := by simpa using m1
                  have hE2 : (p == f - m) = true := by simpa using m2
                  have hw1 : IntKind.i64.wrap (u + m) = u + m := by rw [IntKind.wrap_i64]; omega
                  have hw2 : IntKind.i64.wrap (f + y) = f + y := by rw [IntKind.wrap_i64]; omega
                  have hw3 : IntKind.i64.wrap (f - m) = f - m := by rw [IntKind.wrap_i64]; omega
                  clear hu hm hp hy m1 m2 m3 m4 m5 m6 m7 m8 hy0 hf0 hmn hf
                  have HJ := Lib.hid (join_cnt A3 Ay nf c3 ny cy F Y u w7 HF7.out HY7.out HSF.out HSY.out HU.out hc31 hc32 hcy1 hcy2)
                  go_wp2_with fail
                  refine HJ.out.mono ?_; rintro e w8 ⟨r, A8, n8, c8, rfl, hr1, hr2, hr3, hb8⟩
                  have HBZ := Lib.hid hb8
                  have HC := Lib.hid (count_spl A8 n8 c8 r u _ w8 hr1 hr2 hr3 (Nat.le_refl _))
                  clear HJ hr1 hr2 hr3 hb8
                  go_wp2_with fail
                  refine HC.out.mono ?_; rintro e w9 ⟨rfl, hb9⟩
                  replace HBZ := Lib.hid (HBZ.out.trans (hb9.mono HBZ.out.size))
                  have HJ := Lib.hid (both_cnt A3 Ay nf c3 ny cy F Y m w9 ((HF7.out.below HBZ.out).more HBZ.out.size) ((HY7.out.below HBZ.out).more HBZ.out.size) HSF.out HSY.out HME.out)
                  clear hb9 HC
                  go_wp2_with fail
                  refine HJ.out.mono ?_; rintro e w10 ⟨r, A10, n10, c10, rfl, hr1, hr2, hr3, hb8⟩
                  replace HBZ := Lib.hid (HBZ.out.trans (hb8.mono HBZ.out.size))
                  have HC := Lib.hid (count_spl A10 n10 c10 r m _ w10 hr1 hr2 hr3 (Nat.le_refl _))
                  clear HJ hr1 hr2 hr3 hb8
                  go_wp2_with fail
                  refine HC.out.mono ?_; rintro e w11 ⟨rfl, hb9⟩
                  replace HBZ := Lib.hid (HBZ.out.trans (hb9.mono HBZ.out.size))
                  have HC1 := Lib.hid (count_spl A3 nf c3 F f _ w11 HSF.out HCF.out (HF7.out.below HBZ.out) HBZ.out.size)
                  clear hb9 HC
                  go_wp2_with fail
                  refine HC1.out.mono ?_; rintro e w12 ⟨rfl, hb9⟩
                  replace HBZ := Lib.hid (HBZ.out.trans (hb9.mono HBZ.out.size))
                  have HC := Lib.hid (count_spl Ay ny cy Y y _ w12 HSY.out HYC.out (HY7.out.below HBZ.out) HBZ.out.size)
                  clear hb9 HC1
                  go_wp2_with fail
                  refine HC.out.mono ?_; rintro e w13 ⟨rfl, hb9⟩
                  replace HBZ := Lib.hid (HBZ.out.trans (hb9.mono HBZ.out.size))
                  have HJ := Lib.hid (less_cnt A3 Ay nf c3 ny cy F Y p w13 ((HF7.out.below HBZ.out).more HBZ.out.size) ((HY7.out.below HBZ.out).more HBZ.out.size) HSF.out HSY.out HP.out)
                  clear hb9 HC
                  go_wp2_with fail
                  refine HJ.out.mono ?_; rintro e w14 ⟨r, A14, n14, c14, rfl, hr1, hr2, hr3, hb8⟩
                  replace HBZ := Lib.hid (HBZ.out.trans (hb8.mono HBZ.out.size))
                  have HC := Lib.hid (count_spl A14 n14 c14 r p _ w14 hr1 hr2 hr3 (Nat.le_refl _))
                  clear HJ hr1 hr2 hr3 hb8
                  go_wp2_with fail
                  refine HC.out.mono ?_; rintro e w15 ⟨rfl, hb9⟩
                  replace HBZ := Lib.hid (HBZ.out.trans (hb9.mono HBZ.out.size))
                  have HC1 := Lib.hid (count_spl A3 nf c3 F f _ w15 HSF.out HCF.out (HF7.out.below HBZ.out) HBZ.out.size)
                  clear hb9 HC
                  go_wp2_with fail
                  refine HC1.out.mono ?_; rintro e w16 ⟨rfl, hb9⟩
                  replace HBZ := Lib.hid (HBZ.out.trans (hb9.mono HBZ.out.size))
                  have HJ := Lib.hid (both_cnt A3 Ay nf c3 ny cy F Y m w16 ((HF7.out.below HBZ.out).more HBZ.out.size) ((HY7.out.below HBZ.out).more HBZ.out.size) HSF.out HSY.out HME.out)
                  clear hb9 HC1
                  go_wp2_with fail
                  refine HJ.out.mono ?_; rintro e w17 ⟨r, A17, n17, c17, rfl, hr1, hr2, hr3, hb8⟩
                  replace HBZ := Lib.hid (HBZ.out.trans (hb8.mono HBZ.out.size))
                  have HC := Lib.hid (count_spl A17 n17 c17 r m _ w17 hr1 hr2 hr3 (Nat.le_refl _))
                  clear HJ hr1 hr2 hr3 hb8
                  go_wp2_with fail
                  refine HC.out.mono ?_; rintro e w18 ⟨rfl, hb9⟩
                  replace HBZ := Lib.hid (HBZ.out.trans (hb9.mono HBZ.out.size))
                  clear hb9 HC
                  go_wp2_with fail
                  refine (span_runs w18).mono ?_; rintro e w19 ⟨rfl, hb9⟩
                  have HBF := Lib.hid (HB7.out.trans ((HBZ.out.trans (hb9.mono HBZ.out.size)).mono HB7.out.size))
                  clear hb9
                  go_wp2_with fail
                  go_ret
                  exact ⟨rfl, HBF.out⟩
                | succ g =>
                  have htb : t ≤ 200 := by omega
                  have HMT := Lib.hid (HM5.out.below HBT.out)
                  have HFT := Lib.hid ((HF5.out.below HBT.out).more hszt)
                  have HI := Lib.hid (show I64 t by unfold I64; omega)
                  have hlk0 := HMT.out.bmap.look HI.out
                  obtain ⟨b, hb⟩ : ∃ b, decide (t ∈ L) = b := ⟨_, rfl⟩
                  simp only [hb] at hlk0
                  have HHB := Lib.hid ((HHF.out t).trans hb)
                  have HDB := Lib.hid hb
                  clear hb
                  have hlk1 : (Instr.lookup 30 (.map (some bm)) (.int .i64 t) false).run Try.prog wr.drew = .ok (.bool b) wr.drew := by
                    have := (HMT.out.bmap.drewN 1).look HI.out
                    simp only [HDB.out] at this
                    exact this
                  have hbb : (b != b) = false := by simp
                  have HTF := Lib.hid HBT.out.drew
                  go_wp2_with fail
                  go_region_with (go_at_call 9; refine (has_is A3 nf c3 F t b _ _ HSF.out HHB.out (HFT.out.drewN 1) (Nat.le_refl _)).mono ?_; rintro e w6 ⟨rfl, hb6⟩; have HT6 := Lib.hid (HTF.out.trans (hb6.mono HTF.out.size)); have hlk6 : (Instr.lookup 30 (.map (some bm)) (.int .i64 t) false).run Try.prog w6 = .ok (.bool b) w6 := (by have := (HM5.out.below HT6.out).bmap.look HI.out; simp only [HDB.out] at this; exact this); clear hb6)
                  all_goals
                    go_wp2_with fail
                    go_roundg g
                    case measure => omega
                    case rel => exact ⟨t + 1, by omega, by omega, by first | rfl | go_num, HT6.out⟩
            | succ g =>
              have hlt2 : j < k := by omega
              obtain ⟨ad, hjl, rfl, hc⟩ := (HLX.out.below (HBO.out.mono (by omega))).int hlt2
              have hti := HTK.out L[j] (List.getElem_mem _)
              obtain ⟨w4, hrun, hmap4, hg4⟩ := HM.out.put (by omega) (t := L[j]) (by unfold I64; omega)
              rw [set_step L j hjl, many_step HTK.out hjl] at hmap4
              have HM4 := Lib.hid hmap4
              have HB4 := Lib.hid (HBO.out.grown hg4 hszo (fun b hb => by injection hb with hb; subst hb; omega))
              have HRUN := Lib.hid hrun
              clear hmap4 hg4 hrun hti
              generalize L[j] = x at *
              go_wp2_with (at_mapUpdate; refine wpList_put_bmap rfl (.tmp 76) (.tmp 77) (.const (.bool true)) 30 rfl (.map (some bm)) (.int .i64 x) (.bool true) rfl rfl rfl w4 HRUN.out ?_)
              go_wp2_with fail
              go_roundg g
              case measure => omega
              case rel => exact ⟨j + 1, by omega, by first | rfl | go_num, HM4.out, HB4.out⟩
end Go.Proofs.Ytogdollfndpleaa
